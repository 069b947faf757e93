/- Proved: the contract of the program's divideLong: the quotient and what is left. -/
import Derived.Test.YtfcdfielbpdloaaGreatDoorC226
import Derived.Test.YtfcdfielbpdloaaGreatDoorSzGuess
import Derived.Test.YtfcdfielbpdloaaGreatDoorC208
import Derived.ScopeJumps
namespace Go.Proofs.YtfcdfielbpdloaaGreatDoor
open Go.ChangeShapes Go.WideShapes Go.ChangeAt Go.RowKit
open M2
set_option linter.unusedVariables false
set_option linter.unusedSimpArgs false

structure LgI (A v p0 m p L qn : Nat) : Prop where
  long : Long L v p m
  eq : qn * v + L = A
  zero : qn % LB ^ (p + 1) = 0
  qlen : cnt qn ≤ 80
structure LgN (A v p0 m p L qn : Nat) : Prop where
  next : ∀ {p'}, p = p' + 1 → LgI A v p0 m p' L qn
  last : p = 0 → qn = A / v ∧ L = A % v
theorem set_pad {qn p d : Nat} (h : qn % LB ^ (p + 1) = 0) (hd : d < 268435456) (hp : p < 80) (hq : cnt qn ≤ 80) : (pad qn).set p d = pad (qn + LB ^ p * d) := by
  have hl := pad_len hq
  have hz : (pad qn).getD p 0 = 0 := by
    rw [pad_at]
    have h1 : qn / LB ^ p % LB = qn % LB ^ (p + 1) / LB ^ p := by rw [Nat.pow_succ, Nat.mod_mul_right_div_self]
    rw [h1, h, Nat.zero_div]
  have hv := val_set (pad qn) p d (by omega)
  rw [hz, Nat.mul_zero, Nat.add_zero, pad_val] at hv
  rw [← hv]
  exact pad_of ((pad_lim qn).set p d hd) (by rw [List.length_set, hl])
theorem dig_yes {L v p m d : Nat} (h : Long L v p m) (h1 : L / (v * LB ^ p) ≤ d) (h2 : d ≤ L / (v * LB ^ p) + 1) (h3 : 0 ≤ (L : Int) - (d : Int) * ((LB ^ p * v : Nat) : Int)) : d = L / (v * LB ^ p) := by
  have h4 : d * (v * LB ^ p) ≤ L := by
    rw [Nat.mul_comm v]
    have : ((d * (LB ^ p * v) : Nat) : Int) ≤ (L : Int) := by rw [Int.natCast_mul]; omega
    exact Int.ofNat_le.1 this
  have := (Nat.le_div_iff_mul_le h.V0).2 h4
  omega
theorem dig_no {L v p m d : Nat} (h : Long L v p m) (h1 : L / (v * LB ^ p) ≤ d) (h2 : d ≤ L / (v * LB ^ p) + 1) (h3 : ¬ 0 ≤ (L : Int) - (d : Int) * ((LB ^ p * v : Nat) : Int)) : d = L / (v * LB ^ p) + 1 := by
  apply Classical.byContradiction
  intro hn
  have hd : d = L / (v * LB ^ p) := by omega
  apply h3
  have h4 := h.q1
  rw [← hd, Nat.mul_comm v] at h4
  have h5 := Int.ofNat_le.2 h4
  rw [Int.natCast_mul] at h5
  omega
theorem take_yes {L v p m n : Nat} (h : Long L v p m) (hb : L < LB ^ n) : (((L : Int) - ((L / (v * LB ^ p) : Nat) : Int) * ((LB ^ p * v : Nat) : Int)) % ((LB ^ n : Nat) : Int)).toNat = L - L / (v * LB ^ p) * (v * LB ^ p) := by
  have h1 := h.q1
  have e : (L : Int) - ((L / (v * LB ^ p) : Nat) : Int) * ((LB ^ p * v : Nat) : Int) = ((L - L / (v * LB ^ p) * (v * LB ^ p) : Nat) : Int) := by
    rw [Int.ofNat_sub h1, Int.natCast_mul (L / (v * LB ^ p)) (v * LB ^ p), Nat.mul_comm (LB ^ p) v]
  rw [e, Int.emod_eq_of_lt (Int.natCast_nonneg _) (Int.ofNat_lt.2 (by omega)), Int.toNat_natCast]
theorem take_no {L v p m n : Nat} (h : Long L v p m) (hb : L < LB ^ n) (hn : n = p + (m + 2) + 1) : ((((L : Int) - ((L / (v * LB ^ p) + 1 : Nat) : Int) * ((LB ^ p * v : Nat) : Int)) % ((LB ^ n : Nat) : Int)).toNat < LB ^ n) ∧
    (((((((L : Int) - ((L / (v * LB ^ p) + 1 : Nat) : Int) * ((LB ^ p * v : Nat) : Int)) % ((LB ^ n : Nat) : Int)).toNat : Nat) : Int) - (-1) * ((LB ^ p * v : Nat) : Int)) % ((LB ^ n : Nat) : Int)).toNat = L - L / (v * LB ^ p) * (v * LB ^ p) := by
  have hB : 0 < ((LB ^ n : Nat) : Int) := Int.ofNat_lt.2 (pw n)
  have h0 := Int.emod_nonneg ((L : Int) - ((L / (v * LB ^ p) + 1 : Nat) : Int) * ((LB ^ p * v : Nat) : Int)) (Int.ne_of_gt hB)
  have h1 := Int.emod_lt_of_pos ((L : Int) - ((L / (v * LB ^ p) + 1 : Nat) : Int) * ((LB ^ p * v : Nat) : Int)) hB
  refine ⟨?_, ?_⟩
  · have := Int.ofNat_lt.1 (show (((((L : Int) - ((L / (v * LB ^ p) + 1 : Nat) : Int) * ((LB ^ p * v : Nat) : Int)) % ((LB ^ n : Nat) : Int)).toNat : Nat) : Int) < ((LB ^ n : Nat) : Int) by rw [Int.toNat_of_nonneg h0]; exact h1)
    exact this
  · rw [Int.toNat_of_nonneg h0, Int.sub_eq_add_neg, Int.neg_mul, Int.one_mul, Int.neg_neg, Int.emod_add_emod]
    have e : (L : Int) - ((L / (v * LB ^ p) + 1 : Nat) : Int) * ((LB ^ p * v : Nat) : Int) + ((LB ^ p * v : Nat) : Int) = (L : Int) - ((L / (v * LB ^ p) : Nat) : Int) * ((LB ^ p * v : Nat) : Int) := by
      rw [Int.natCast_add, Int.add_mul, Int.natCast_one, Int.one_mul]
      omega
    rw [e]
    exact take_yes h hb
theorem LgI.step {A v p0 m p L qn : Nat} (h : LgI A v p0 m p L qn) (hA : cnt A ≤ 80) : LgN A v p0 m p (L - L / (v * LB ^ p) * (v * LB ^ p)) (qn + LB ^ p * (L / (v * LB ^ p))) := by
  have h1 := h.long.q1
  have e : (qn + LB ^ p * (L / (v * LB ^ p))) * v + (L - L / (v * LB ^ p) * (v * LB ^ p)) = A := by
    have h2 := h.eq
    have h3 : LB ^ p * (L / (v * LB ^ p)) * v = L / (v * LB ^ p) * (v * LB ^ p) := by
      rw [Nat.mul_comm (LB ^ p), Nat.mul_assoc, Nat.mul_comm (LB ^ p)]
    rw [Nat.add_mul, h3]
    omega
  refine ⟨fun {p'} hp => ⟨h.long.next p' hp rfl, e, ?_, ?_⟩, fun hp => ?_⟩
  · subst hp
    have hz := h.zero
    have hd1 : LB ^ (p' + 1) ∣ qn := Nat.dvd_trans (Nat.pow_dvd_pow LB (by omega)) (Nat.dvd_of_mod_eq_zero hz)
    exact Nat.mod_eq_zero_of_dvd ((Nat.dvd_add_right hd1).2 (Nat.dvd_mul_right _ _))
  · refine Nat.le_trans (cnt_mono ?_) hA
    have h4 := Nat.mul_le_mul_left (qn + LB ^ p * (L / (v * LB ^ p))) h.long.pos
    rw [Nat.mul_one] at h4
    omega
  · subst hp
    have hl := h.long.last rfl
    have hv := h.long.pos
    rw [Nat.mul_comm] at e
    have := (Nat.div_mod_unique hv).2 ⟨(Nat.add_comm _ _).trans e, hl⟩
    exact ⟨this.1.symm, this.2.symm⟩
set_option maxRecDepth 100000 in
set_option maxHeartbeats 16000000 in
theorem long_sz (A v p0 m cc : Nat) (w : World) (h : Long A v p0 m) (hc : cnt v = m + 2) (hp : p0 + m + 2 ≤ 79) :
    Calls Tryz.prog 81 #[.agg (szA (pad A) cc), .agg (szV v), .int .i64 (p0 : Int)] w fun e w' => e = .returned (.tuple #[.agg (szV (A / v)), .agg (szV (A % v))]) ∧ Old w w' := by
  have hcA : cnt A ≤ 80 := Nat.le_trans (cnt_le h.big) (by omega)
  have HPA : Hid ((pad A).length = 80) := pad_len' hcA (by omega)
  have HPV : Hid ((pad v).length = 80) := pad_len' (n := v) (k := 80) (by omega) (by omega)
  have HI0 : Hid (LgI A v p0 m p0 A 0) := ⟨h, by omega, by simp, by rw [cnt_zero]; omega⟩
  have HE0 : Hid (pad 0 = ext []) := by show pad 0 = ext []; unfold pad; rw [dig_zero]
  obtain ⟨p1, hp1⟩ : ∃ p1, p1 = p0 + 1 := ⟨_, rfl⟩
  have ep1 : (p0 : Int) + 1 = (p1 : Int) := by omega
  have HP1 : Hid (p1 = p0 + 1) := hp1
  have HC : Hid (cnt v = m + 2) := hc
  have hcv : cnt v ≤ m + 2 ∧ m + 2 ≤ cnt v := by omega
  obtain ⟨hcv1, hcv2⟩ := hcv
  have HLT : Hid (A < v * LB ^ (p0 + 1)) := h.lt
  have HVP : Hid (0 < v) := h.pos
  have hp1b : p1 ≤ 78 := by omega
  clear hp1 h hc
  unfold szV
  go_enter Tryz.func81, Tryz.ntmps81
  go_wp2_with fail
  refine wp_scope_jumps 0 (fun a' w' => ∃ (p L qn : Nat) (u10 u11 u12 u13 u14 u15 u16 u17 u18 u19 u20 u21 u22 u23 u24 u25 u26 u27 u28 u29 u30 u31 u32 u33 u34 u35 u36 u37 u38 u39 u40 u41 : Value), (Hid (LgI A v p0 m p L qn) ∧ p ≤ p0 ∧ Hid (Sz w' w.heap.size (pad L) cc) ∧ Hid (Sz w' (w.heap.size + 1) (pad v) (cnt v)) ∧ Hid (Sz w' (w.heap.size + 1 + 1) (ext []) 0) ∧ Hid (Sz w' (w.heap.size + 1 + 1 + 1) (ext []) 0) ∧ Hid (Sz w' (w.heap.size + 1 + 1 + 1 + 1) (pad qn) 0) ∧ Hid (Old w w')) ∧ a' = { tmps := #[.agg (szA (pad A) cc), .agg (szA (pad v) (cnt v)), .int .i64 (p : Int), .pointer (some ⟨w.heap.size, 0, none⟩), .pointer (some ⟨w.heap.size + 1, 0, none⟩), undef, .pointer (some ⟨w.heap.size + 1 + 1, 0, none⟩), .pointer (some ⟨w.heap.size + 1 + 1 + 1, 0, none⟩), .pointer (some ⟨w.heap.size + 1 + 1 + 1 + 1, 0, none⟩), .int .i64 (p1 : Int), u10, u11, u12, u13, u14, u15, u16, u17, u18, u19, u20, u21, u22, u23, u24, u25, u26, u27, u28, u29, u30, u31, u32, u33, u34, u35, u36, u37, u38, u39, u40, u41], defers := [] }) (fun a' _ => (intOf (a'.tmps.getD 2 undef)).toNat) rfl ?_ ?_
  · go_wp2_with fail
    obtain ⟨w1, hw1⟩ : ∃ W, W = (((((w.alloc (.cells (szA (pad A) cc) 56)).alloc (.cells (szA (pad v) (cnt v)) 56)).alloc (.cells Tryz.zeroCells56 56)).alloc (.cells Tryz.zeroCells56 56)).alloc (.cells Tryz.zeroCells56 56)) := ⟨_, rfl⟩
    have HL1 : Hid (Sz w1 w.heap.size (pad A) cc) := by rw [hw1]; exact ((((Sz.new w _ _ HPA.out).alloc _).alloc _).alloc _).alloc _
    have HV1 : Hid (Sz w1 (w.heap.size + 1) (pad v) (cnt v)) := by rw [hw1]; exact (((Sz.new' _ _ _ _ HPV.out (by simp)).alloc _).alloc _).alloc _
    have HA1 : Hid (Sz w1 (w.heap.size + 1 + 1) (ext []) 0) := by rw [hw1]; exact ((Sz.zero _ _ (by simp)).alloc _).alloc _
    have HB1 : Hid (Sz w1 (w.heap.size + 1 + 1 + 1) (ext []) 0) := by rw [hw1]; exact (Sz.zero _ _ (by simp)).alloc _
    have HQ1 : Hid (Sz w1 (w.heap.size + 1 + 1 + 1 + 1) (pad 0) 0) := by rw [hw1, HE0.out]; exact Sz.zero _ _ (by simp)
    have HO1 : Hid (Old w w1) := by rw [hw1]; exact (((((Old.refl w).alloc _).alloc _).alloc _).alloc _).alloc _
    rw [← hw1]
    clear hw1
    go_step3
    obtain ⟨p, hpe⟩ : ∃ p, p = p0 := ⟨_, rfl⟩
    obtain ⟨L, hLe⟩ : ∃ L, L = A := ⟨_, rfl⟩
    obtain ⟨qn, hqe⟩ : ∃ qn, qn = 0 := ⟨_, rfl⟩
    have HI : Hid (LgI A v p0 m p L qn) := by rw [hpe, hLe, hqe]; exact HI0.out
    have hpp : p ≤ p0 := by omega
    rw [← hLe] at HL1
    have HQ10 := HQ1
    clear HQ1
    have HQ1 : Hid (Sz w1 (w.heap.size + 1 + 1 + 1 + 1) (pad qn) 0) := by rw [hqe]; exact HQ10.out
    clear HQ10
    have epp : (p0 : Int) = (p : Int) := by omega
    rw [epp]
    clear hpe hLe hqe epp ep1
    have hpb : p + m + 2 ≤ 79 := by omega
    go_wp2_with (first | ((with_reducible refine load_sz HL1.out ?_ ?_); exact rfl; simp only [Act.put, List.setIfInBounds_toArray, List.set_cons_succ, List.set_cons_zero]) | ((with_reducible refine load_sz HV1.out ?_ ?_); exact rfl; simp only [Act.put, List.setIfInBounds_toArray, List.set_cons_succ, List.set_cons_zero]))
    refine (guess_sz L v p m cc _ HI.out.long HC.out hpb).mono ?_
    rintro e w4 ⟨d, rfl, hd1, hd2, hd3, g4⟩
    have HL4 : Hid (Sz w4 w.heap.size (pad L) cc) := HL1.out.old g4
    have HV4 : Hid (Sz w4 (w.heap.size + 1) (pad v) (cnt v)) := HV1.out.old g4
    have HA4 : Hid (Sz w4 (w.heap.size + 1 + 1) (ext []) 0) := HA1.out.old g4
    have HB4 : Hid (Sz w4 (w.heap.size + 1 + 1 + 1) (ext []) 0) := HB1.out.old g4
    have HQ4 : Hid (Sz w4 (w.heap.size + 1 + 1 + 1 + 1) (pad qn) 0) := HQ1.out.old g4
    have HO4 : Hid (Old w w4) := Old.trans HO1.out g4
    have HD1 : Hid (L / (v * LB ^ p) ≤ d) := hd1
    have HD2 : Hid (d ≤ L / (v * LB ^ p) + 1) := hd2
    clear g4 HL1 HV1 HA1 HB1 HQ1 HO1 hd1 hd2
    have HLB : Hid (L < LB ^ (p + cnt v + 1)) := by
      have e : p + cnt v + 1 = p + m + 3 := by omega
      rw [e]
      exact HI.out.long.big
    obtain ⟨T, hT⟩ : ∃ T : Int, T = (L : Int) - (d : Int) * ((LB ^ p * v : Nat) : Int) := ⟨_, rfl⟩
    have HT : Hid (T = (L : Int) - (d : Int) * ((LB ^ p * v : Nat) : Int)) := hT
    clear hT
    by_cases hT0 : 0 ≤ T
    · have HDQ : Hid (d = L / (v * LB ^ p)) := dig_yes HI.out.long HD1.out HD2.out (by rw [← HT.out]; exact hT0)
      have HTM : Hid ((T % ((LB ^ (p + cnt v + 1) : Nat) : Int)).toNat = L - L / (v * LB ^ p) * (v * LB ^ p)) := by rw [HT.out, HDQ.out]; exact take_yes HI.out.long HLB.out
      have dT : decide (0 ≤ T) = true := decide_eq_true hT0
      go_wp2_with ((with_reducible refine load_sz HV4.out ?_ ?_); exact rfl; simp only [Act.put, List.setIfInBounds_toArray, List.set_cons_succ, List.set_cons_zero])
      refine (take_sz L v p (w.heap.size) cc (d : Int) T _ HL4.out HLB.out (by omega) (by omega) (by omega) HT.out).mono ?_
      rw [dT, HTM.out]
      rintro e w5 ⟨rfl, z5, b5⟩
      have HL5 : Hid (Sz w5 w.heap.size (pad (L - L / (v * LB ^ p) * (v * LB ^ p))) cc) := z5
      have HV5 : Hid (Sz w5 (w.heap.size + 1) (pad v) (cnt v)) := HV4.out.but b5 (by omega)
      have HA5 : Hid (Sz w5 (w.heap.size + 1 + 1) (ext []) 0) := HA4.out.but b5 (by omega)
      have HB5 : Hid (Sz w5 (w.heap.size + 1 + 1 + 1) (ext []) 0) := HB4.out.but b5 (by omega)
      have HQ5 : Hid (Sz w5 (w.heap.size + 1 + 1 + 1 + 1) (pad qn) 0) := HQ4.out.but b5 (by omega)
      have HO5 : Hid (Old w w5) := b5.old HO4.out (by omega)
      clear z5 b5 HL4 HV4 HA4 HB4 HQ4 HO4
      have HN : Hid (LgN A v p0 m p (L - L / (v * LB ^ p) * (v * LB ^ p)) (qn + LB ^ p * d)) := by rw [HDQ.out]; exact HI.out.step hcA
      have hdl : d < 268435456 := by rw [HDQ.out]; exact HI.out.long.q_lt
      have HSET : Hid ((pad qn).set p d = pad (qn + LB ^ p * d)) := set_pad HI.out.zero hdl (by omega) HI.out.qlen
      clear HI HLB HD1 HD2
      obtain ⟨L', hL'⟩ : ∃ L', L - L / (v * LB ^ p) * (v * LB ^ p) = L' := ⟨_, rfl⟩
      obtain ⟨q', hq'⟩ : ∃ q', qn + LB ^ p * d = q' := ⟨_, rfl⟩
      rw [hL'] at HL5 HN
      rw [hq'] at HN HSET
      clear hL' hq'
      have i1 : (p : Int) < 80 := by omega
      have f1 := HQ5.out.fro p
      have y1 := HQ5.out.at (j := p) (by omega)
      generalize (pad qn).getD p 0 = yy at y1
      have HQ6 : Hid (Sz (w5.setCell ⟨w.heap.size + 1 + 1 + 1 + 1, p, none⟩ (.int .i64 (d : Int))) (w.heap.size + 1 + 1 + 1 + 1) (pad q') 0) := by
        have := HQ5.out.set (j := p) (by omega) d
        rw [HSET.out] at this
        exact this
      have HL6 : Hid (Sz (w5.setCell ⟨w.heap.size + 1 + 1 + 1 + 1, p, none⟩ (.int .i64 (d : Int))) w.heap.size (pad L') cc) := HL5.out.other _ (by first | (simp; done) | (simp; omega)) _
      have HV6 : Hid (Sz (w5.setCell ⟨w.heap.size + 1 + 1 + 1 + 1, p, none⟩ (.int .i64 (d : Int))) (w.heap.size + 1) (pad v) (cnt v)) := HV5.out.other _ (by first | (simp; done) | (simp; omega)) _
      have HA6 : Hid (Sz (w5.setCell ⟨w.heap.size + 1 + 1 + 1 + 1, p, none⟩ (.int .i64 (d : Int))) (w.heap.size + 1 + 1) (ext []) 0) := HA5.out.other _ (by first | (simp; done) | (simp; omega)) _
      have HB6 : Hid (Sz (w5.setCell ⟨w.heap.size + 1 + 1 + 1 + 1, p, none⟩ (.int .i64 (d : Int))) (w.heap.size + 1 + 1 + 1) (ext []) 0) := HB5.out.other _ (by first | (simp; done) | (simp; omega)) _
      have HO6 : Hid (Old w (w5.setCell ⟨w.heap.size + 1 + 1 + 1 + 1, p, none⟩ (.int .i64 (d : Int)))) := HO5.out.own (by simp; omega) _
      clear HL5 HV5 HA5 HB5 HQ5 HO5 HSET
      by_cases hp0 : p = 0
      · subst hp0
        have dp : decide ((0 : Int) < ((0 : Nat) : Int)) = false := by simp
        obtain ⟨hq1, hl1⟩ := HN.out.last rfl
        subst hq1
        subst hl1
        obtain ⟨w6, hw6⟩ : ∃ W, W = w5.setCell ⟨w.heap.size + 1 + 1 + 1 + 1, 0, none⟩ (.int .i64 (d : Int)) := ⟨_, rfl⟩
        rw [← hw6] at HL6 HV6 HA6 HB6 HQ6 HO6
        have HCQ : Hid (cnt (A / v) ≤ p1) := by
          rw [HP1.out]
          exact cnt_le (Nat.div_lt_of_lt_mul HLT.out)
        go_wp2_with fail
        rw [← hw6]
        clear hw6
        refine reg_last A v p1 cc w w6 (by omega) hp1b HCQ HVP HL6 HV6 HA6 HB6 HQ6 HO6 _ _ _ _ _ _ _ _ _ _ _ _ _ _ _ _ _ _ _ _ _ _ _ _ _ _ _ _ _ _ _ _ _ _ _ _ _ _ _ ?_
        intro W u35 u36 u37 u38 u39 u40 u41 hz1 hz2 ho
        go_wp2_with fail
        simp only [Exit.jump]
        exact bodyPost_ret (ret_sz2 Tryz.results81 _ _ rfl rfl hz1 hz2) rfl ⟨rfl, ho⟩
      · obtain ⟨p', rfl⟩ : ∃ p', p = p' + 1 := ⟨p - 1, by omega⟩
        have dp : decide ((0 : Int) < ((p' + 1 : Nat) : Int)) = true := decide_eq_true (by omega)
        have ep : ((p' + 1 : Nat) : Int) - 1 = (p' : Int) := by omega
        have HI2 : Hid (LgI A v p0 m p' L' q') := HN.out.next rfl
        go_wp2_with fail
        go_step3; exact ⟨rfl, p', L', q', _, _, _, _, _, _, _, _, _, _, _, _, _, _, _, _, _, _, _, _, _, _, _, _, _, _, _, _, _, _, _, _, ⟨HI2, by omega, HL6, HV6, HA6, HB6, HQ6, HO6⟩, rfl⟩
    · have HDQ : Hid (d = L / (v * LB ^ p) + 1) := dig_no HI.out.long HD1.out HD2.out (by rw [← HT.out]; exact hT0)
      obtain ⟨M2, hM2⟩ : ∃ M2, (T % ((LB ^ (p + cnt v + 1) : Nat) : Int)).toNat = M2 := ⟨_, rfl⟩
      obtain ⟨hM2b, hM2c⟩ : M2 < LB ^ (p + cnt v + 1) ∧ (((M2 : Int) - (-1) * ((LB ^ p * v : Nat) : Int)) % ((LB ^ (p + cnt v + 1) : Nat) : Int)).toNat = L - L / (v * LB ^ p) * (v * LB ^ p) := by rw [← hM2, HT.out, HDQ.out]; exact take_no HI.out.long HLB.out (by rw [HC.out])
      have HM2b : Hid (M2 < LB ^ (p + cnt v + 1)) := hM2b
      have HM2c : Hid ((((M2 : Int) - (-1) * ((LB ^ p * v : Nat) : Int)) % ((LB ^ (p + cnt v + 1) : Nat) : Int)).toNat = L - L / (v * LB ^ p) * (v * LB ^ p)) := hM2c
      have HM2 : Hid ((T % ((LB ^ (p + cnt v + 1) : Nat) : Int)).toNat = M2) := hM2
      clear hM2 hM2b hM2c
      have dT : decide (0 ≤ T) = false := decide_eq_false hT0
      go_wp2_with ((with_reducible refine load_sz HV4.out ?_ ?_); exact rfl; simp only [Act.put, List.setIfInBounds_toArray, List.set_cons_succ, List.set_cons_zero])
      refine (take_sz L v p (w.heap.size) cc (d : Int) T _ HL4.out HLB.out (by omega) (by omega) (by omega) HT.out).mono ?_
      rw [dT, HM2.out]
      rintro e w6 ⟨rfl, z5, b5⟩
      have HL4b : Hid (Sz w6 w.heap.size (pad M2) cc) := z5
      have HV4b : Hid (Sz w6 (w.heap.size + 1) (pad v) (cnt v)) := HV4.out.but b5 (by omega)
      have HA4b : Hid (Sz w6 (w.heap.size + 1 + 1) (ext []) 0) := HA4.out.but b5 (by omega)
      have HB4b : Hid (Sz w6 (w.heap.size + 1 + 1 + 1) (ext []) 0) := HB4.out.but b5 (by omega)
      have HQ4b : Hid (Sz w6 (w.heap.size + 1 + 1 + 1 + 1) (pad qn) 0) := HQ4.out.but b5 (by omega)
      have HO4b : Hid (Old w w6) := b5.old HO4.out (by omega)
      clear z5 b5 HL4 HV4 HA4 HB4 HQ4 HO4 dT
      obtain ⟨d', hd'⟩ : ∃ d', d = d' + 1 := ⟨L / (v * LB ^ p), HDQ.out⟩
      have ed : (d : Int) - 1 = (d' : Int) := by omega
      have HDQ' : Hid (d' = L / (v * LB ^ p)) := Nat.add_right_cancel (hd'.symm.trans HDQ.out)
      clear hd'
      go_wp2_with (first | ((with_reducible refine load_sz HV4b.out ?_ ?_); exact rfl; simp only [Act.put, List.setIfInBounds_toArray, List.set_cons_succ, List.set_cons_zero]))
      refine (take_sz M2 v p (w.heap.size) cc (-1) ((M2 : Int) - (-1) * ((LB ^ p * v : Nat) : Int)) _ HL4b.out HM2b.out (by omega) (by omega) (by omega) rfl).mono ?_
      rw [HM2c.out]
      rintro e w5 ⟨rfl, z5, b5⟩
      have HL5 : Hid (Sz w5 w.heap.size (pad (L - L / (v * LB ^ p) * (v * LB ^ p))) cc) := z5
      have HV5 : Hid (Sz w5 (w.heap.size + 1) (pad v) (cnt v)) := HV4b.out.but b5 (by omega)
      have HA5 : Hid (Sz w5 (w.heap.size + 1 + 1) (ext []) 0) := HA4b.out.but b5 (by omega)
      have HB5 : Hid (Sz w5 (w.heap.size + 1 + 1 + 1) (ext []) 0) := HB4b.out.but b5 (by omega)
      have HQ5 : Hid (Sz w5 (w.heap.size + 1 + 1 + 1 + 1) (pad qn) 0) := HQ4b.out.but b5 (by omega)
      have HO5 : Hid (Old w w5) := b5.old HO4b.out (by omega)
      clear z5 b5 HL4b HV4b HA4b HB4b HQ4b HO4b
      have HN : Hid (LgN A v p0 m p (L - L / (v * LB ^ p) * (v * LB ^ p)) (qn + LB ^ p * d')) := by rw [HDQ'.out]; exact HI.out.step hcA
      have hdl : d' < 268435456 := by rw [HDQ'.out]; exact HI.out.long.q_lt
      have HSET : Hid ((pad qn).set p d' = pad (qn + LB ^ p * d')) := set_pad HI.out.zero hdl (by omega) HI.out.qlen
      clear HI HLB HD1 HD2
      obtain ⟨L', hL'⟩ : ∃ L', L - L / (v * LB ^ p) * (v * LB ^ p) = L' := ⟨_, rfl⟩
      obtain ⟨q', hq'⟩ : ∃ q', qn + LB ^ p * d' = q' := ⟨_, rfl⟩
      rw [hL'] at HL5 HN
      rw [hq'] at HN HSET
      clear hL' hq'
      have i1 : (p : Int) < 80 := by omega
      have f1 := HQ5.out.fro p
      have y1 := HQ5.out.at (j := p) (by omega)
      generalize (pad qn).getD p 0 = yy at y1
      have HQ6 : Hid (Sz (w5.setCell ⟨w.heap.size + 1 + 1 + 1 + 1, p, none⟩ (.int .i64 (d' : Int))) (w.heap.size + 1 + 1 + 1 + 1) (pad q') 0) := by
        have := HQ5.out.set (j := p) (by omega) d'
        rw [HSET.out] at this
        exact this
      have HL6 : Hid (Sz (w5.setCell ⟨w.heap.size + 1 + 1 + 1 + 1, p, none⟩ (.int .i64 (d' : Int))) w.heap.size (pad L') cc) := HL5.out.other _ (by first | (simp; done) | (simp; omega)) _
      have HV6 : Hid (Sz (w5.setCell ⟨w.heap.size + 1 + 1 + 1 + 1, p, none⟩ (.int .i64 (d' : Int))) (w.heap.size + 1) (pad v) (cnt v)) := HV5.out.other _ (by first | (simp; done) | (simp; omega)) _
      have HA6 : Hid (Sz (w5.setCell ⟨w.heap.size + 1 + 1 + 1 + 1, p, none⟩ (.int .i64 (d' : Int))) (w.heap.size + 1 + 1) (ext []) 0) := HA5.out.other _ (by first | (simp; done) | (simp; omega)) _
      have HB6 : Hid (Sz (w5.setCell ⟨w.heap.size + 1 + 1 + 1 + 1, p, none⟩ (.int .i64 (d' : Int))) (w.heap.size + 1 + 1 + 1) (ext []) 0) := HB5.out.other _ (by first | (simp; done) | (simp; omega)) _
      have HO6 : Hid (Old w (w5.setCell ⟨w.heap.size + 1 + 1 + 1 + 1, p, none⟩ (.int .i64 (d' : Int)))) := HO5.out.own (by simp; omega) _
      clear HL5 HV5 HA5 HB5 HQ5 HO5 HSET
      by_cases hp0 : p = 0
      · subst hp0
        have dp : decide ((0 : Int) < ((0 : Nat) : Int)) = false := by simp
        obtain ⟨hq1, hl1⟩ := HN.out.last rfl
        subst hq1
        subst hl1
        obtain ⟨w6, hw6⟩ : ∃ W, W = w5.setCell ⟨w.heap.size + 1 + 1 + 1 + 1, 0, none⟩ (.int .i64 (d' : Int)) := ⟨_, rfl⟩
        rw [← hw6] at HL6 HV6 HA6 HB6 HQ6 HO6
        have HCQ : Hid (cnt (A / v) ≤ p1) := by
          rw [HP1.out]
          exact cnt_le (Nat.div_lt_of_lt_mul HLT.out)
        go_wp2_with fail
        rw [← hw6]
        clear hw6
        refine reg_last A v p1 cc w w6 (by omega) hp1b HCQ HVP HL6 HV6 HA6 HB6 HQ6 HO6 _ _ _ _ _ _ _ _ _ _ _ _ _ _ _ _ _ _ _ _ _ _ _ _ _ _ _ _ _ _ _ _ _ _ _ _ _ _ _ ?_
        intro W u35 u36 u37 u38 u39 u40 u41 hz1 hz2 ho
        go_wp2_with fail
        simp only [Exit.jump]
        exact bodyPost_ret (ret_sz2 Tryz.results81 _ _ rfl rfl hz1 hz2) rfl ⟨rfl, ho⟩
      · obtain ⟨p', rfl⟩ : ∃ p', p = p' + 1 := ⟨p - 1, by omega⟩
        have dp : decide ((0 : Int) < ((p' + 1 : Nat) : Int)) = true := decide_eq_true (by omega)
        have ep : ((p' + 1 : Nat) : Int) - 1 = (p' : Int) := by omega
        have HI2 : Hid (LgI A v p0 m p' L' q') := HN.out.next rfl
        go_wp2_with fail
        go_step3; exact ⟨rfl, p', L', q', _, _, _, _, _, _, _, _, _, _, _, _, _, _, _, _, _, _, _, _, _, _, _, _, _, _, _, _, _, _, _, _, ⟨HI2, by omega, HL6, HV6, HA6, HB6, HQ6, HO6⟩, rfl⟩
  · rintro a' w1 ⟨p, L, qn, hJ⟩
    obtain ⟨u10, hJ⟩ := hJ
    obtain ⟨u11, hJ⟩ := hJ
    obtain ⟨u12, hJ⟩ := hJ
    obtain ⟨u13, hJ⟩ := hJ
    obtain ⟨u14, hJ⟩ := hJ
    obtain ⟨u15, hJ⟩ := hJ
    obtain ⟨u16, hJ⟩ := hJ
    obtain ⟨u17, hJ⟩ := hJ
    obtain ⟨u18, hJ⟩ := hJ
    obtain ⟨u19, hJ⟩ := hJ
    obtain ⟨u20, hJ⟩ := hJ
    obtain ⟨u21, hJ⟩ := hJ
    obtain ⟨u22, hJ⟩ := hJ
    obtain ⟨u23, hJ⟩ := hJ
    obtain ⟨u24, hJ⟩ := hJ
    obtain ⟨u25, hJ⟩ := hJ
    obtain ⟨u26, hJ⟩ := hJ
    obtain ⟨u27, hJ⟩ := hJ
    obtain ⟨u28, hJ⟩ := hJ
    obtain ⟨u29, hJ⟩ := hJ
    obtain ⟨u30, hJ⟩ := hJ
    obtain ⟨u31, hJ⟩ := hJ
    obtain ⟨u32, hJ⟩ := hJ
    obtain ⟨u33, hJ⟩ := hJ
    obtain ⟨u34, hJ⟩ := hJ
    obtain ⟨u35, hJ⟩ := hJ
    obtain ⟨u36, hJ⟩ := hJ
    obtain ⟨u37, hJ⟩ := hJ
    obtain ⟨u38, hJ⟩ := hJ
    obtain ⟨u39, hJ⟩ := hJ
    obtain ⟨u40, hJ⟩ := hJ
    obtain ⟨u41, hJ⟩ := hJ
    obtain ⟨⟨HI, hpp, HL1, HV1, HA1, HB1, HQ1, HO1⟩, ha⟩ := hJ
    subst ha
    clear ep1
    have hpb : p + m + 2 ≤ 79 := by omega
    go_wp2_with (first | ((with_reducible refine load_sz HL1.out ?_ ?_); exact rfl; simp only [Act.put, List.setIfInBounds_toArray, List.set_cons_succ, List.set_cons_zero]) | ((with_reducible refine load_sz HV1.out ?_ ?_); exact rfl; simp only [Act.put, List.setIfInBounds_toArray, List.set_cons_succ, List.set_cons_zero]))
    refine (guess_sz L v p m cc _ HI.out.long HC.out hpb).mono ?_
    rintro e w4 ⟨d, rfl, hd1, hd2, hd3, g4⟩
    have HL4 : Hid (Sz w4 w.heap.size (pad L) cc) := HL1.out.old g4
    have HV4 : Hid (Sz w4 (w.heap.size + 1) (pad v) (cnt v)) := HV1.out.old g4
    have HA4 : Hid (Sz w4 (w.heap.size + 1 + 1) (ext []) 0) := HA1.out.old g4
    have HB4 : Hid (Sz w4 (w.heap.size + 1 + 1 + 1) (ext []) 0) := HB1.out.old g4
    have HQ4 : Hid (Sz w4 (w.heap.size + 1 + 1 + 1 + 1) (pad qn) 0) := HQ1.out.old g4
    have HO4 : Hid (Old w w4) := Old.trans HO1.out g4
    have HD1 : Hid (L / (v * LB ^ p) ≤ d) := hd1
    have HD2 : Hid (d ≤ L / (v * LB ^ p) + 1) := hd2
    clear g4 HL1 HV1 HA1 HB1 HQ1 HO1 hd1 hd2
    have HLB : Hid (L < LB ^ (p + cnt v + 1)) := by
      have e : p + cnt v + 1 = p + m + 3 := by omega
      rw [e]
      exact HI.out.long.big
    obtain ⟨T, hT⟩ : ∃ T : Int, T = (L : Int) - (d : Int) * ((LB ^ p * v : Nat) : Int) := ⟨_, rfl⟩
    have HT : Hid (T = (L : Int) - (d : Int) * ((LB ^ p * v : Nat) : Int)) := hT
    clear hT
    by_cases hT0 : 0 ≤ T
    · have HDQ : Hid (d = L / (v * LB ^ p)) := dig_yes HI.out.long HD1.out HD2.out (by rw [← HT.out]; exact hT0)
      have HTM : Hid ((T % ((LB ^ (p + cnt v + 1) : Nat) : Int)).toNat = L - L / (v * LB ^ p) * (v * LB ^ p)) := by rw [HT.out, HDQ.out]; exact take_yes HI.out.long HLB.out
      have dT : decide (0 ≤ T) = true := decide_eq_true hT0
      go_wp2_with ((with_reducible refine load_sz HV4.out ?_ ?_); exact rfl; simp only [Act.put, List.setIfInBounds_toArray, List.set_cons_succ, List.set_cons_zero])
      refine (take_sz L v p (w.heap.size) cc (d : Int) T _ HL4.out HLB.out (by omega) (by omega) (by omega) HT.out).mono ?_
      rw [dT, HTM.out]
      rintro e w5 ⟨rfl, z5, b5⟩
      have HL5 : Hid (Sz w5 w.heap.size (pad (L - L / (v * LB ^ p) * (v * LB ^ p))) cc) := z5
      have HV5 : Hid (Sz w5 (w.heap.size + 1) (pad v) (cnt v)) := HV4.out.but b5 (by omega)
      have HA5 : Hid (Sz w5 (w.heap.size + 1 + 1) (ext []) 0) := HA4.out.but b5 (by omega)
      have HB5 : Hid (Sz w5 (w.heap.size + 1 + 1 + 1) (ext []) 0) := HB4.out.but b5 (by omega)
      have HQ5 : Hid (Sz w5 (w.heap.size + 1 + 1 + 1 + 1) (pad qn) 0) := HQ4.out.but b5 (by omega)
      have HO5 : Hid (Old w w5) := b5.old HO4.out (by omega)
      clear z5 b5 HL4 HV4 HA4 HB4 HQ4 HO4
      have HN : Hid (LgN A v p0 m p (L - L / (v * LB ^ p) * (v * LB ^ p)) (qn + LB ^ p * d)) := by rw [HDQ.out]; exact HI.out.step hcA
      have hdl : d < 268435456 := by rw [HDQ.out]; exact HI.out.long.q_lt
      have HSET : Hid ((pad qn).set p d = pad (qn + LB ^ p * d)) := set_pad HI.out.zero hdl (by omega) HI.out.qlen
      clear HI HLB HD1 HD2
      obtain ⟨L', hL'⟩ : ∃ L', L - L / (v * LB ^ p) * (v * LB ^ p) = L' := ⟨_, rfl⟩
      obtain ⟨q', hq'⟩ : ∃ q', qn + LB ^ p * d = q' := ⟨_, rfl⟩
      rw [hL'] at HL5 HN
      rw [hq'] at HN HSET
      clear hL' hq'
      have i1 : (p : Int) < 80 := by omega
      have f1 := HQ5.out.fro p
      have y1 := HQ5.out.at (j := p) (by omega)
      generalize (pad qn).getD p 0 = yy at y1
      have HQ6 : Hid (Sz (w5.setCell ⟨w.heap.size + 1 + 1 + 1 + 1, p, none⟩ (.int .i64 (d : Int))) (w.heap.size + 1 + 1 + 1 + 1) (pad q') 0) := by
        have := HQ5.out.set (j := p) (by omega) d
        rw [HSET.out] at this
        exact this
      have HL6 : Hid (Sz (w5.setCell ⟨w.heap.size + 1 + 1 + 1 + 1, p, none⟩ (.int .i64 (d : Int))) w.heap.size (pad L') cc) := HL5.out.other _ (by first | (simp; done) | (simp; omega)) _
      have HV6 : Hid (Sz (w5.setCell ⟨w.heap.size + 1 + 1 + 1 + 1, p, none⟩ (.int .i64 (d : Int))) (w.heap.size + 1) (pad v) (cnt v)) := HV5.out.other _ (by first | (simp; done) | (simp; omega)) _
      have HA6 : Hid (Sz (w5.setCell ⟨w.heap.size + 1 + 1 + 1 + 1, p, none⟩ (.int .i64 (d : Int))) (w.heap.size + 1 + 1) (ext []) 0) := HA5.out.other _ (by first | (simp; done) | (simp; omega)) _
      have HB6 : Hid (Sz (w5.setCell ⟨w.heap.size + 1 + 1 + 1 + 1, p, none⟩ (.int .i64 (d : Int))) (w.heap.size + 1 + 1 + 1) (ext []) 0) := HB5.out.other _ (by first | (simp; done) | (simp; omega)) _
      have HO6 : Hid (Old w (w5.setCell ⟨w.heap.size + 1 + 1 + 1 + 1, p, none⟩ (.int .i64 (d : Int)))) := HO5.out.own (by simp; omega) _
      clear HL5 HV5 HA5 HB5 HQ5 HO5 HSET
      by_cases hp0 : p = 0
      · subst hp0
        have dp : decide ((0 : Int) < ((0 : Nat) : Int)) = false := by simp
        obtain ⟨hq1, hl1⟩ := HN.out.last rfl
        subst hq1
        subst hl1
        obtain ⟨w6, hw6⟩ : ∃ W, W = w5.setCell ⟨w.heap.size + 1 + 1 + 1 + 1, 0, none⟩ (.int .i64 (d : Int)) := ⟨_, rfl⟩
        rw [← hw6] at HL6 HV6 HA6 HB6 HQ6 HO6
        have HCQ : Hid (cnt (A / v) ≤ p1) := by
          rw [HP1.out]
          exact cnt_le (Nat.div_lt_of_lt_mul HLT.out)
        go_wp2_with fail
        rw [← hw6]
        clear hw6
        refine reg_last A v p1 cc w w6 (by omega) hp1b HCQ HVP HL6 HV6 HA6 HB6 HQ6 HO6 _ _ _ _ _ _ _ _ _ _ _ _ _ _ _ _ _ _ _ _ _ _ _ _ _ _ _ _ _ _ _ _ _ _ _ _ _ _ _ ?_
        intro W u35 u36 u37 u38 u39 u40 u41 hz1 hz2 ho
        go_wp2_with fail
        simp only [Exit.jump]
        exact bodyPost_ret (ret_sz2 Tryz.results81 _ _ rfl rfl hz1 hz2) rfl ⟨rfl, ho⟩
      · obtain ⟨p', rfl⟩ : ∃ p', p = p' + 1 := ⟨p - 1, by omega⟩
        have dp : decide ((0 : Int) < ((p' + 1 : Nat) : Int)) = true := decide_eq_true (by omega)
        have ep : ((p' + 1 : Nat) : Int) - 1 = (p' : Int) := by omega
        have HI2 : Hid (LgI A v p0 m p' L' q') := HN.out.next rfl
        go_wp2_with fail
        go_step3; exact ⟨rfl, ⟨p', L', q', _, _, _, _, _, _, _, _, _, _, _, _, _, _, _, _, _, _, _, _, _, _, _, _, _, _, _, _, _, _, _, _, ⟨HI2, by omega, HL6, HV6, HA6, HB6, HQ6, HO6⟩, rfl⟩, by simp [intOf]⟩
    · have HDQ : Hid (d = L / (v * LB ^ p) + 1) := dig_no HI.out.long HD1.out HD2.out (by rw [← HT.out]; exact hT0)
      obtain ⟨M2, hM2⟩ : ∃ M2, (T % ((LB ^ (p + cnt v + 1) : Nat) : Int)).toNat = M2 := ⟨_, rfl⟩
      obtain ⟨hM2b, hM2c⟩ : M2 < LB ^ (p + cnt v + 1) ∧ (((M2 : Int) - (-1) * ((LB ^ p * v : Nat) : Int)) % ((LB ^ (p + cnt v + 1) : Nat) : Int)).toNat = L - L / (v * LB ^ p) * (v * LB ^ p) := by rw [← hM2, HT.out, HDQ.out]; exact take_no HI.out.long HLB.out (by rw [HC.out])
      have HM2b : Hid (M2 < LB ^ (p + cnt v + 1)) := hM2b
      have HM2c : Hid ((((M2 : Int) - (-1) * ((LB ^ p * v : Nat) : Int)) % ((LB ^ (p + cnt v + 1) : Nat) : Int)).toNat = L - L / (v * LB ^ p) * (v * LB ^ p)) := hM2c
      have HM2 : Hid ((T % ((LB ^ (p + cnt v + 1) : Nat) : Int)).toNat = M2) := hM2
      clear hM2 hM2b hM2c
      have dT : decide (0 ≤ T) = false := decide_eq_false hT0
      go_wp2_with ((with_reducible refine load_sz HV4.out ?_ ?_); exact rfl; simp only [Act.put, List.setIfInBounds_toArray, List.set_cons_succ, List.set_cons_zero])
      refine (take_sz L v p (w.heap.size) cc (d : Int) T _ HL4.out HLB.out (by omega) (by omega) (by omega) HT.out).mono ?_
      rw [dT, HM2.out]
      rintro e w6 ⟨rfl, z5, b5⟩
      have HL4b : Hid (Sz w6 w.heap.size (pad M2) cc) := z5
      have HV4b : Hid (Sz w6 (w.heap.size + 1) (pad v) (cnt v)) := HV4.out.but b5 (by omega)
      have HA4b : Hid (Sz w6 (w.heap.size + 1 + 1) (ext []) 0) := HA4.out.but b5 (by omega)
      have HB4b : Hid (Sz w6 (w.heap.size + 1 + 1 + 1) (ext []) 0) := HB4.out.but b5 (by omega)
      have HQ4b : Hid (Sz w6 (w.heap.size + 1 + 1 + 1 + 1) (pad qn) 0) := HQ4.out.but b5 (by omega)
      have HO4b : Hid (Old w w6) := b5.old HO4.out (by omega)
      clear z5 b5 HL4 HV4 HA4 HB4 HQ4 HO4 dT
      obtain ⟨d', hd'⟩ : ∃ d', d = d' + 1 := ⟨L / (v * LB ^ p), HDQ.out⟩
      have ed : (d : Int) - 1 = (d' : Int) := by omega
      have HDQ' : Hid (d' = L / (v * LB ^ p)) := Nat.add_right_cancel (hd'.symm.trans HDQ.out)
      clear hd'
      go_wp2_with (first | ((with_reducible refine load_sz HV4b.out ?_ ?_); exact rfl; simp only [Act.put, List.setIfInBounds_toArray, List.set_cons_succ, List.set_cons_zero]))
      refine (take_sz M2 v p (w.heap.size) cc (-1) ((M2 : Int) - (-1) * ((LB ^ p * v : Nat) : Int)) _ HL4b.out HM2b.out (by omega) (by omega) (by omega) rfl).mono ?_
      rw [HM2c.out]
      rintro e w5 ⟨rfl, z5, b5⟩
      have HL5 : Hid (Sz w5 w.heap.size (pad (L - L / (v * LB ^ p) * (v * LB ^ p))) cc) := z5
      have HV5 : Hid (Sz w5 (w.heap.size + 1) (pad v) (cnt v)) := HV4b.out.but b5 (by omega)
      have HA5 : Hid (Sz w5 (w.heap.size + 1 + 1) (ext []) 0) := HA4b.out.but b5 (by omega)
      have HB5 : Hid (Sz w5 (w.heap.size + 1 + 1 + 1) (ext []) 0) := HB4b.out.but b5 (by omega)
      have HQ5 : Hid (Sz w5 (w.heap.size + 1 + 1 + 1 + 1) (pad qn) 0) := HQ4b.out.but b5 (by omega)
      have HO5 : Hid (Old w w5) := b5.old HO4b.out (by omega)
      clear z5 b5 HL4b HV4b HA4b HB4b HQ4b HO4b
      have HN : Hid (LgN A v p0 m p (L - L / (v * LB ^ p) * (v * LB ^ p)) (qn + LB ^ p * d')) := by rw [HDQ'.out]; exact HI.out.step hcA
      have hdl : d' < 268435456 := by rw [HDQ'.out]; exact HI.out.long.q_lt
      have HSET : Hid ((pad qn).set p d' = pad (qn + LB ^ p * d')) := set_pad HI.out.zero hdl (by omega) HI.out.qlen
      clear HI HLB HD1 HD2
      obtain ⟨L', hL'⟩ : ∃ L', L - L / (v * LB ^ p) * (v * LB ^ p) = L' := ⟨_, rfl⟩
      obtain ⟨q', hq'⟩ : ∃ q', qn + LB ^ p * d' = q' := ⟨_, rfl⟩
      rw [hL'] at HL5 HN
      rw [hq'] at HN HSET
      clear hL' hq'
      have i1 : (p : Int) < 80 := by omega
      have f1 := HQ5.out.fro p
      have y1 := HQ5.out.at (j := p) (by omega)
      generalize (pad qn).getD p 0 = yy at y1
      have HQ6 : Hid (Sz (w5.setCell ⟨w.heap.size + 1 + 1 + 1 + 1, p, none⟩ (.int .i64 (d' : Int))) (w.heap.size + 1 + 1 + 1 + 1) (pad q') 0) := by
        have := HQ5.out.set (j := p) (by omega) d'
        rw [HSET.out] at this
        exact this
      have HL6 : Hid (Sz (w5.setCell ⟨w.heap.size + 1 + 1 + 1 + 1, p, none⟩ (.int .i64 (d' : Int))) w.heap.size (pad L') cc) := HL5.out.other _ (by first | (simp; done) | (simp; omega)) _
      have HV6 : Hid (Sz (w5.setCell ⟨w.heap.size + 1 + 1 + 1 + 1, p, none⟩ (.int .i64 (d' : Int))) (w.heap.size + 1) (pad v) (cnt v)) := HV5.out.other _ (by first | (simp; done) | (simp; omega)) _
      have HA6 : Hid (Sz (w5.setCell ⟨w.heap.size + 1 + 1 + 1 + 1, p, none⟩ (.int .i64 (d' : Int))) (w.heap.size + 1 + 1) (ext []) 0) := HA5.out.other _ (by first | (simp; done) | (simp; omega)) _
      have HB6 : Hid (Sz (w5.setCell ⟨w.heap.size + 1 + 1 + 1 + 1, p, none⟩ (.int .i64 (d' : Int))) (w.heap.size + 1 + 1 + 1) (ext []) 0) := HB5.out.other _ (by first | (simp; done) | (simp; omega)) _
      have HO6 : Hid (Old w (w5.setCell ⟨w.heap.size + 1 + 1 + 1 + 1, p, none⟩ (.int .i64 (d' : Int)))) := HO5.out.own (by simp; omega) _
      clear HL5 HV5 HA5 HB5 HQ5 HO5 HSET
      by_cases hp0 : p = 0
      · subst hp0
        have dp : decide ((0 : Int) < ((0 : Nat) : Int)) = false := by simp
        obtain ⟨hq1, hl1⟩ := HN.out.last rfl
        subst hq1
        subst hl1
        obtain ⟨w6, hw6⟩ : ∃ W, W = w5.setCell ⟨w.heap.size + 1 + 1 + 1 + 1, 0, none⟩ (.int .i64 (d' : Int)) := ⟨_, rfl⟩
        rw [← hw6] at HL6 HV6 HA6 HB6 HQ6 HO6
        have HCQ : Hid (cnt (A / v) ≤ p1) := by
          rw [HP1.out]
          exact cnt_le (Nat.div_lt_of_lt_mul HLT.out)
        go_wp2_with fail
        rw [← hw6]
        clear hw6
        refine reg_last A v p1 cc w w6 (by omega) hp1b HCQ HVP HL6 HV6 HA6 HB6 HQ6 HO6 _ _ _ _ _ _ _ _ _ _ _ _ _ _ _ _ _ _ _ _ _ _ _ _ _ _ _ _ _ _ _ _ _ _ _ _ _ _ _ ?_
        intro W u35 u36 u37 u38 u39 u40 u41 hz1 hz2 ho
        go_wp2_with fail
        simp only [Exit.jump]
        exact bodyPost_ret (ret_sz2 Tryz.results81 _ _ rfl rfl hz1 hz2) rfl ⟨rfl, ho⟩
      · obtain ⟨p', rfl⟩ : ∃ p', p = p' + 1 := ⟨p - 1, by omega⟩
        have dp : decide ((0 : Int) < ((p' + 1 : Nat) : Int)) = true := decide_eq_true (by omega)
        have ep : ((p' + 1 : Nat) : Int) - 1 = (p' : Int) := by omega
        have HI2 : Hid (LgI A v p0 m p' L' q') := HN.out.next rfl
        go_wp2_with fail
        go_step3; exact ⟨rfl, ⟨p', L', q', _, _, _, _, _, _, _, _, _, _, _, _, _, _, _, _, _, _, _, _, _, _, _, _, _, _, _, _, _, _, _, _, ⟨HI2, by omega, HL6, HV6, HA6, HB6, HQ6, HO6⟩, rfl⟩, by simp [intOf]⟩
end Go.Proofs.YtfcdfielbpdloaaGreatDoor
