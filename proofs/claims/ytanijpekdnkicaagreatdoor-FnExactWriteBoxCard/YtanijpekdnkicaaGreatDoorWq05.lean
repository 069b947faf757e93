/- Proved: several texts in one: what each proves is said ahead of it. -/
import Derived.Test.YtanijpekdnkicaaGreatDoorSzAdd
/- Proved: the contract of the program's scaledSize. -/
namespace Go.Proofs.YtanijpekdnkicaaGreatDoor
open Go.ChangeShapes Go.WideShapes Go.ChangeAt Go.RowKit
open M2
set_option linter.unusedVariables false
set_option linter.unusedSimpArgs false

structure ScI (a f m k : Nat) (cur : List Nat) (c : Nat) : Prop where
  lim : Lim cur
  len : cur.length = 80
  eq : val cur + LB ^ k * c + val ((dig a).take k) = val ((dig a).take k) * f + m + a
  up : ∀ j, k ≤ j → cur.getD j 0 = (dig a).getD j 0
  c1 : c ≤ LB
theorem ScI.start (a f m : Nat) (hm : m ≤ LB) (ha : cnt a ≤ 80) : ScI a f m 0 (pad a) m :=
  ⟨pad_lim a, pad_len ha, by rw [pad_val]; simp [val]; omega, fun j _ => pad_getD a j, hm⟩
theorem ScI.step {a f m k : Nat} {cur : List Nat} {c : Nat} (h : ScI a f m k cur c) (hf : f ≤ LB) (hk : k < 80) :
    ScI a f m (k + 1) (cur.set k ((c + (dig a).getD k 0 * f) % LB)) ((c + (dig a).getD k 0 * f) / LB) := by
  have hl := (dig_lim a).getD k
  have h1 := h.c1
  have hlen := h.len
  refine ⟨h.lim.set _ _ (Nat.mod_lt _ LB_pos), by rw [List.length_set, hlen], ?_, ?_, ?_⟩
  · have e := h.eq
    have hs := val_set cur k ((c + (dig a).getD k 0 * f) % LB) (by omega)
    rw [h.up k (Nat.le_refl _)] at hs
    rw [val_take_succ]
    have h2 := split_pow k (c + (dig a).getD k 0 * f)
    rw [Nat.mul_add (LB ^ k) c] at h2
    rw [Nat.add_mul (val ((dig a).take k)) (LB ^ k * (dig a).getD k 0) f, Nat.mul_assoc]
    omega
  · intro j hj
    rw [← h.up j (by omega)]
    simp [List.getD, show ¬ k = j by omega]
  · have h3 : (dig a).getD k 0 * f ≤ (LB - 1) * LB := Nat.mul_le_mul (by omega) hf
    have h4 : c + (dig a).getD k 0 * f ≤ LB * LB := by
      have : (LB - 1) * LB + LB = LB * LB := by decide
      omega
    exact Nat.div_le_of_le_mul h4
theorem ScI.done {a f m : Nat} {cur : List Nat} {c : Nat} (h : ScI a f m (cnt a) cur c) (ha : cnt a ≤ 79) (hc : c < LB) : cur.set (cnt a) c = pad (a * f + m) ∧ cnt (a * f + m) ≤ cnt a + 1 := by
  have e := h.eq
  rw [take_cnt a _ (Nat.le_refl _), val_dig] at e
  have hs := val_set cur (cnt a) c (by rw [h.len]; omega)
  have hz : cur.getD (cnt a) 0 = 0 := by
    rw [h.up _ (Nat.le_refl _)]
    unfold cnt
    simp [List.getD]
  rw [hz, Nat.mul_zero, Nat.add_zero] at hs
  have hv : val (cur.set (cnt a) c) = a * f + m := by omega
  have hlim := h.lim.set (cnt a) c hc
  refine ⟨by rw [← hv]; exact pad_of hlim (by rw [List.length_set, h.len]), ?_⟩
  rw [← hv]
  have hz2 : ∀ j, cnt a + 1 ≤ j → (cur.set (cnt a) c).getD j 0 = 0 := fun j hj => by
    have h1 : (cur.set (cnt a) c).getD j 0 = cur.getD j 0 := by simp [List.getD, show ¬ cnt a = j by omega]
    rw [h1, h.up j (by omega)]
    simp [List.getD, show (dig a).length ≤ j by unfold cnt at hj; omega]
  have ht := val_top (cnt a + 1) (cur.set (cnt a) c) hz2
  rw [← ht]
  have := val_lt (hlim.take (cnt a + 1))
  rw [List.length_take, List.length_set, h.len, Nat.min_eq_left (by omega)] at this
  exact cnt_le this
theorem ScI.last {a f m : Nat} {cur : List Nat} {c : Nat} (h : ScI a f m (cnt a) cur c) (hf : f ≤ LB) (hm : m < LB) : c < LB := by
  have e := h.eq
  rw [take_cnt a _ (Nat.le_refl _), val_dig] at e
  apply Classical.byContradiction
  intro hn
  have h1 := cnt_lt a
  have h2 : LB ^ cnt a * LB ≤ LB ^ cnt a * c := Nat.mul_le_mul_left _ (by omega)
  have h3 : (a + 1) * LB ≤ LB ^ cnt a * LB := Nat.mul_le_mul_right _ h1
  have h4 : a * f ≤ a * LB := Nat.mul_le_mul_left _ hf
  rw [Nat.add_mul, Nat.one_mul] at h3
  omega
set_option maxHeartbeats 2000000 in
theorem scaled_sz (a f m : Nat) (w : World) (ha : cnt a ≤ 79) (hf : f ≤ 268435456) (hm : m < 268435456) :
    Calls Tryz.prog 112 #[.agg (szV a), .int .i64 (f : Int), .int .i64 (m : Int)] w fun e w' => e = .returned (.agg (szV (a * f + m))) ∧ Old w w' := by
  have HLA := pad_len' ha (by omega)
  have a80 := szA_cnt HLA (cnt a)
  have HPA : Hid ((pad a).length = 80) := HLA
  clear HLA
  unfold szV
  go_enter Tryz.func112, Tryz.ntmps112
  go_wp2_with fail
  clear a80
  go_loopw [7, 12] (fun cy i W => ∃ (k : Nat) (cur : List Nat) (c : Nat), k ≤ cnt a ∧ i = .int .i64 (k : Int) ∧ cy = .int .i64 (c : Int) ∧ c ≤ 268435456 ∧ Hid (ScI a f m k cur c) ∧ Hid (Sz W w.heap.size cur (cnt a)) ∧ Hid (Sz W (w.heap.size + 1) (ext []) 0) ∧ Hid (Old w W)) (fun _ i _ => cnt a - (intOf i).toNat)
  case atStart => exact ⟨0, pad a, m, by omega, rfl, rfl, by omega, ScI.start _ _ _ (by unfold LB; omega) (by omega), (Sz.new w _ _ HPA.out).alloc _, Sz.zero _ _ (by simp), ((Old.refl w).alloc _).alloc _⟩
  case round =>
      obtain ⟨k, cur, c, hk, rfl, rfl, hc, HI, HS, HR, HG⟩ := hrel
      by_cases hlt : k < cnt a
      · have i1 : (k : Int) < 80 := by omega
        have c1 := HS.out.at (j := k) (by omega)
        rw [HI.out.up k (Nat.le_refl _)] at c1
        have f1 := HS.out.fro k
        have l1 := (dig_lim a).getD k
        have HN := HI.out.step hf (by omega)
        have HN' : Hid (ScI a f m (k + 1) (cur.set k ((c + (dig a).getD k 0 * f) % LB)) ((c + (dig a).getD k 0 * f) / LB)) := HN
        have hc1 : (c + (dig a).getD k 0 * f) / LB ≤ 268435456 := HN.c1
        clear HN
        generalize (dig a).getD k 0 = x at *
        have hx : x < 268435456 := l1
        clear l1
        have hp : x * f ≤ 268435455 * 268435456 := Nat.mul_le_mul (by omega) hf
        have b1 : (x : Int) * (f : Int) ≤ 72057593769492480 := by
          have := Int.ofNat_le.2 hp
          rw [Int.natCast_mul] at this
          exact this
        have b0 : 0 ≤ (x : Int) * (f : Int) := Int.mul_nonneg (Int.natCast_nonneg _) (Int.natCast_nonneg _)
        have e0 : (x : Int) * (f : Int) = ((x * f : Nat) : Int) := (Int.natCast_mul _ _).symm
        have E0 : Hid ((x : Int) * (f : Int) = ((x * f : Nat) : Int)) := e0
        clear e0 hp
        have e1 : ((c : Int) + (x : Int) * (f : Int)) % 268435456 = (((c + x * f) % LB : Nat) : Int) := by rw [E0.out]; unfold LB; omega
        have e2 : ((c : Int) + (x : Int) * (f : Int)) / 268435456 = (((c + x * f) / LB : Nat) : Int) := by rw [E0.out]; unfold LB; omega
        generalize (c + x * f) % LB = u at *
        generalize (c + x * f) / LB = c' at *
        go_wp2_with fail
        exact ⟨⟨k + 1, cur.set k u, c', by omega, by go_num, by first | rfl | rw [e2], hc1, HN', HS.out.set (by omega) u, HR.out.other _ (by simp) _, HG.out.own (by simp) _⟩, by simp [intOf]; omega⟩
      · obtain rfl : k = cnt a := by omega
        have i1 : ((cnt a : Nat) : Int) < 80 := by omega
        have f1 := HS.out.fro (cnt a)
        have c1 := HS.out.cnt
        have c3 := HS.out.at (j := cnt a) (by omega)
        have hcl := HI.out.last hf hm
        obtain ⟨HE1, HE2⟩ := HI.out.done ha hcl
        have HE : Hid (cnt (a * f + m) ≤ cnt a + 1) := HE2
        have HPS : Hid ((pad (a * f + m)).length = 80) := pad_len' HE2 (by omega)
        have HD : Hid (Sz (wr.setCell ⟨w.heap.size, cnt a, none⟩ (.int .i64 (c : Int))) w.heap.size (pad (a * f + m)) (cnt a)) := by
          have := HS.out.set (j := cnt a) (by omega) c
          rw [HE1] at this
          exact this
        have c2 := HD.out.cnt
        have HR0 := HR
        clear HR
        have HR : Hid (Sz (wr.setCell ⟨w.heap.size, cnt a, none⟩ (.int .i64 (c : Int))) (w.heap.size + 1) (ext []) 0) := HR0.out.other _ (by simp) _
        have HG0 := HG
        clear HG
        have HG : Hid (Old w (wr.setCell ⟨w.heap.size, cnt a, none⟩ (.int .i64 (c : Int)))) := HG0.out.own (by simp) _
        clear HE1 HE2 HR0 HG0 HI HS
        generalize cur.getD (cnt a) 0 = z at *
        go_wp2_with (first | ((with_reducible refine load_sz HD.out ?_ ?_); exact rfl; simp only [Act.put, List.setIfInBounds_toArray, List.set_cons_succ, List.set_cons_zero]) | (go_at_call 141; refine (trimmed_pad (a * f + m) (cnt a) (cnt a + 1) _ HE.out (by omega)).mono ?_; rintro e w5 ⟨rfl, g5⟩; have HR5 : Hid (Sz w5 (w.heap.size + 1) (ext []) 0) := HR.out.old g5; have HG5 : Hid (Old w w5) := Old.trans HG.out g5) | ((with_reducible refine store_sz HR5.out (pad (a * f + m)) (cnt (a * f + m)) HPS.out ?_ ?_ ?_); exact rfl; exact rfl; simp only [Act.put]) | ((with_reducible refine bodyPost_ret (ret_sz Tryz.results112 _ _ ?_ (HR5.out.row (pad (a * f + m)) (cnt (a * f + m)) HPS.out)) ?_ ?_); exact rfl; exact rfl; exact ⟨rfl, HG5.out.row (by omega) _⟩))
end Go.Proofs.YtanijpekdnkicaaGreatDoor
/- Proved: the contract of the program's sizeOfWord. -/
namespace Go.Proofs.YtanijpekdnkicaaGreatDoor
open Go.ChangeShapes Go.WideShapes Go.ChangeAt Go.RowKit
open M2
set_option linter.unusedVariables false
set_option linter.unusedSimpArgs false

theorem cnt_word {n : Nat} (h : n < 18446744073709551616) : cnt n ≤ 3 := cnt_le (Nat.lt_of_lt_of_le h (by decide))
set_option maxHeartbeats 2000000 in
theorem ofWord_sz (n : Nat) (w : World) (hn : n < 18446744073709551616) :
    Calls Tryz.prog 113 #[.int .u64 (n : Int)] w fun e w' => e = .returned (.agg (szV n)) ∧ Old w w' := by
  have hc3 := cnt_word hn
  unfold szV
  go_enter Tryz.func113, Tryz.ntmps113
  go_wp2_with fail
  go_loopw [0] (fun v W => ∃ (m : Nat) (out : List Nat), v = .int .u64 (m : Int) ∧ m < 18446744073709551616 ∧ out.length + cnt m ≤ 3 ∧ Hid (dig n = out ++ dig m) ∧ Hid (Sz W w.heap.size (ext []) 0) ∧ Hid (Sz W (w.heap.size + 1) (ext out) out.length) ∧ Hid (Old w W)) (fun v _ => (intOf v).toNat)
  case atStart => exact ⟨n, [], rfl, hn, by simpa using hc3, rfl, (Sz.zero _ _ (by simp)).alloc _, Sz.zero _ _ (by simp), ((Old.refl w).alloc _).alloc _⟩
  case round =>
      obtain ⟨m, out, rfl, hm, hl, HD0, HR, HS, HG⟩ := hrel
      rcases Nat.eq_zero_or_pos m with hm0 | hm0
      · subst hm0
        have e1 : out = dig n := by
          have := HD0.out
          rw [dig_zero, List.append_nil] at this
          exact this.symm
        have HPS : Hid ((pad n).length = 80) := pad_len' hc3 (by omega)
        have HD : Hid (Sz wr (w.heap.size + 1) (pad n) (cnt n)) := by
          have := HS.out
          rw [e1] at this
          exact this
        clear e1 HD0 HS
        go_wp2_with (first | ((with_reducible refine load_sz HD.out ?_ ?_); exact rfl; simp only [Act.put, List.setIfInBounds_toArray, List.set_cons_succ, List.set_cons_zero]) | ((with_reducible refine store_sz HR.out (pad n) (cnt n) HPS.out ?_ ?_ ?_); exact rfl; exact rfl; simp only [Act.put]) | ((with_reducible refine bodyPost_ret (ret_sz Tryz.results113 _ _ ?_ (HR.out.row (pad n) (cnt n) HPS.out)) ?_ ?_); exact rfl; exact rfl; exact ⟨rfl, HG.out.row (by omega) _⟩))
      · have hd : decide ((0 : Int) < (m : Int)) = true := by simp; omega
        have hcp := cnt_pos (show m ≠ 0 by omega)
        have c1 := HS.out.cnt
        have f1 := HS.out.fro out.length
        have f2 := HS.out.fro 80
        have c2 := HS.out.at (j := out.length) (by omega)
        have i1 : ((out.length : Nat) : Int) < 80 := by omega
        have hcm : cnt m = 1 + cnt (m / LB) := by unfold cnt; rw [dig_pos m (by omega), List.length_cons, Nat.add_comm]
        have HN : Hid (dig n = (out ++ [m % LB]) ++ dig (m / LB)) := dig_snoc HD0.out (by omega)
        have HX : Hid (ext (out ++ [m % LB]) = (ext out).set out.length (m % LB)) := (ext_set (by omega) _).symm
        have e1 : (m : Int) % 268435456 = ((m % LB : Nat) : Int) := by unfold LB; omega
        have e2 : (m : Int) / 268435456 = ((m / LB : Nat) : Int) := by unfold LB; omega
        have hu : m % LB < 268435456 := Nat.mod_lt _ LB_pos
        have hq : m / LB < m := Nat.div_lt_self (by omega) (by decide)
        have hq2 : m / LB < 18446744073709551616 := by omega
        generalize m % LB = u at *
        generalize hq0 : m / LB = q at *
        clear hq0
        have c4 : (wr.setCell ⟨w.heap.size + 1, out.length, none⟩ (.int .i64 (u : Int))).cell? ⟨w.heap.size + 1, 80, none⟩ = some (.int .i64 (out.length : Int)) := (HS.out.set (j := out.length) (by omega) u).cnt
        generalize (ext out).getD out.length 0 = z at *
        go_wp2_with fail
        refine ⟨⟨q, out ++ [u], by first | rfl | rw [e2], hq2, by simp; omega, HN, (HR.out.other _ (by simp) _).other _ (by simp) _, ?_, (HG.out.own (by simp) _).own (by simp) _⟩, by first | (simp [intOf]; done) | (simp [intOf]; omega)⟩
        have := (HS.out.set (j := out.length) (by omega) u).setc (out.length + 1)
        rw [← HX.out] at this
        show Sz _ _ _ _
        simpa using this
end Go.Proofs.YtanijpekdnkicaaGreatDoor
/- Proved: the contracts of cmp.Compare over int and of the program's compareSizes. -/
namespace Go.Proofs.YtanijpekdnkicaaGreatDoor
open Go.ChangeShapes Go.WideShapes Go.ChangeAt Go.RowKit
open M2
set_option linter.unusedVariables false
set_option linter.unusedSimpArgs false

theorem nan_any (x : Int) (w : World) : Calls Tryz.prog 184 #[.int .i64 x] w fun e w' => e = .returned (.bool false) ∧ w' = w := by
  have d : (x != x) = false := by simp
  go_enter Tryz.func184, Tryz.ntmps184
  go_wp2_with fail
  go_ret
  exact ⟨by first | rfl | simp, rfl⟩
theorem cmpInt_any (x y : Nat) (w : World) : Calls Tryz.prog 180 #[.int .i64 (x : Int), .int .i64 (y : Int)] w fun e w' => e = .returned (.int .i64 (cmpN x y)) ∧ w' = w := by
  have HC : Hid (cmpN x y = if x < y then -1 else if y < x then 1 else 0) := rfl
  generalize cmpN x y = z at *
  rcases Nat.lt_trichotomy x y with h | h | h
  · have d1 : decide (x < y) = true := decide_eq_true h
    have HE : Hid (z = -1) := by rw [HC.out, if_pos h]; rfl
    clear h HC
    go_enter Tryz.func180, Tryz.ntmps180
    go_wp2_with (go_at_call 184; refine (nan_any _ _).mono ?_; rintro e w' ⟨rfl, rfl⟩)
    go_ret
    exact ⟨congrArg (fun z => Ending.returned (.int .i64 z)) HE.out.symm, rfl⟩
  · subst h
    have HE : Hid (z = 0) := by rw [HC.out, if_neg (by omega), if_neg (by omega)]; rfl
    clear HC
    go_enter Tryz.func180, Tryz.ntmps180
    go_wp2_with (go_at_call 184; refine (nan_any _ _).mono ?_; rintro e w' ⟨rfl, rfl⟩)
    go_ret
    exact ⟨congrArg (fun z => Ending.returned (.int .i64 z)) HE.out.symm, rfl⟩
  · have d1 : decide (x < y) = false := decide_eq_false (by omega)
    have d2 : decide (y < x) = true := decide_eq_true h
    have HE : Hid (z = 1) := by rw [HC.out, if_neg (by omega), if_pos h]; rfl
    clear h HC
    go_enter Tryz.func180, Tryz.ntmps180
    go_wp2_with (go_at_call 184; refine (nan_any _ _).mono ?_; rintro e w' ⟨rfl, rfl⟩)
    go_ret
    exact ⟨congrArg (fun z => Ending.returned (.int .i64 z)) HE.out.symm, rfl⟩
theorem cmp_cnt {a b : Nat} (h : cnt a ≠ cnt b) : cmpN (cnt a) (cnt b) = cmpN a b := by
  rcases Nat.lt_or_gt_of_ne h with h1 | h1
  · have := cmp_short (dig_nrm a) (dig_nrm b) h1
    rw [val_dig, val_dig] at this
    unfold cmpN
    rw [if_pos h1, if_pos this]
  · have := cmp_short (dig_nrm b) (dig_nrm a) h1
    rw [val_dig, val_dig] at this
    unfold cmpN
    rw [if_neg (by omega), if_pos h1, if_neg (by omega), if_pos this]
theorem cmp_top {a b m : Nat} (hl : (dig a).length = (dig b).length) (hm : m < cnt a) (hd : (dig a).drop (m + 1) = (dig b).drop (m + 1)) (hne : (dig a).getD m 0 ≠ (dig b).getD m 0) : cmpN ((dig a).getD m 0) ((dig b).getD m 0) = cmpN a b := by
  have h1 := cmp_at (i := m) (dig_lim a) hm hl hd
  have h2 := cmp_at (i := m) (dig_lim b) (by unfold cnt at hm; omega) hl.symm hd.symm
  rw [val_dig, val_dig] at h1 h2
  rcases Nat.lt_or_gt_of_ne hne with h | h
  · have := h1 h
    unfold cmpN
    rw [if_pos h, if_pos this]
  · have := h2 h
    unfold cmpN
    rw [if_neg (by omega), if_pos h, if_neg (by omega), if_pos this]
set_option maxHeartbeats 2000000 in
theorem cmp_sz (a b : Nat) (w : World) (ha : cnt a ≤ 80) (hb : cnt b ≤ 80) :
    Calls Tryz.prog 162 #[.agg (szV a), .agg (szV b)] w fun e w' => e = .returned (.int .i64 (cmpN a b)) ∧ Old w w' := by
  have HLA := pad_len' ha (by omega)
  have HLB := pad_len' hb (by omega)
  have a80 := szA_cnt HLA (cnt a)
  have b80 := szA_cnt HLB (cnt b)
  have HPA : Hid ((pad a).length = 80) := HLA
  have HPB : Hid ((pad b).length = 80) := HLB
  clear HLA HLB
  unfold szV
  by_cases hlen : cnt a = cnt b
  · have d1 : ((cnt a : Int) != (cnt b : Int)) = false := by simp; omega
    have HL : Hid ((dig a).length = (dig b).length) := hlen
    clear hlen
    go_enter Tryz.func162, Tryz.ntmps162
    go_wp2_with fail
    clear a80 b80 d1
    go_loopw [5] (fun i W => ∃ k : Nat, k ≤ cnt a ∧ i = .int .i64 ((k : Int) - 1) ∧ Hid ((dig a).drop k = (dig b).drop k) ∧ Hid (Sz W w.heap.size (pad a) (cnt a)) ∧ Hid (Sz W (w.heap.size + 1) (pad b) (cnt b)) ∧ Hid (Old w W)) (fun i _ => (intOf i + 1).toNat)
    case atStart => exact ⟨cnt a, Nat.le_refl _, rfl, (by show (dig a).drop (dig a).length = (dig b).drop (dig a).length; rw [List.drop_length, HL.out, List.drop_length]), (Sz.new w _ _ HPA.out).alloc _, Sz.new' _ _ _ _ HPB.out (by simp), ((Old.refl w).alloc _).alloc _⟩
    case round =>
      obtain ⟨k, hk, rfl, HD, HSA, HSB, HG⟩ := hrel
      rcases Nat.eq_zero_or_pos k with hk0 | hk0
      · subst hk0
        have HE : Hid (cmpN a b = 0) := by
          have h1 : dig a = dig b := by simpa using HD.out
          have h2 : a = b := by rw [← val_dig a, h1, val_dig]
          rw [h2]
          show cmpN b b = 0
          unfold cmpN
          rw [if_neg (by omega), if_neg (by omega)]
        go_wp2_with fail
        go_ret
        exact ⟨congrArg (fun z => Ending.returned (.int .i64 z)) HE.out.symm, HG.out⟩
      · obtain ⟨m, rfl⟩ : ∃ m, k = m + 1 := ⟨k - 1, by omega⟩
        have c1 := HSA.out.at (j := m) (by omega)
        have c2 := HSB.out.at (j := m) (by omega)
        rw [pad_getD] at c1 c2
        have i1 : (m : Int) < 80 := by omega
        have d0 : decide ((0 : Int) ≤ (m : Int)) = true := by simp
        have em : ((m + 1 : Nat) : Int) - 1 = (m : Int) := by omega
        rw [em]
        clear em
        have HT : Hid ((dig a).getD m 0 ≠ (dig b).getD m 0 → cmpN ((dig a).getD m 0) ((dig b).getD m 0) = cmpN a b) := fun h => cmp_top HL.out (by omega) HD.out h
        have HE : Hid ((dig a).getD m 0 = (dig b).getD m 0 → (dig a).drop m = (dig b).drop m) := fun h => drop_step (by unfold cnt at hk; omega) HL.out HD.out h
        clear HD
        generalize (dig a).getD m 0 = x at *
        generalize (dig b).getD m 0 = y at *
        by_cases hxy : x = y
        · have HE3 : Hid ((dig a).drop m = (dig b).drop m) := HE.out hxy
          have d1 : ((x : Int) != (y : Int)) = false := by simp; omega
          clear HE HT hxy
          go_wp2_with fail
          go_quiet (fail)
          go_wp2_with fail
          exact ⟨⟨m, by omega, rfl, HE3, HSA.out.drew _, HSB.out.drew _, HG.out.drewN _⟩, by first | (simp [intOf]; done) | (simp [intOf]; omega)⟩
        · have HT2 : Hid (cmpN x y = cmpN a b) := HT.out hxy
          have d1 : ((x : Int) != (y : Int)) = true := by simp; omega
          clear HE HT hxy
          go_wp2_with fail
          go_quiet (fail)
          have c1' : (wr.drewN nq).cell? ⟨w.heap.size, m, none⟩ = some (.int .i64 (x : Int)) := c1
          have c2' : (wr.drewN nq).cell? ⟨w.heap.size + 1, m, none⟩ = some (.int .i64 (y : Int)) := c2
          have HG2 : Hid (Old w (wr.drewN nq)) := HG.out.drewN nq
          clear c1 c2 HG HSA HSB
          generalize wr.drewN nq = w2 at c1' c2' HG2 ⊢
          go_wp2_with fail
          go_quiet ((go_at_call 180; exact Calls.quiet_of_same (cmpInt_any _ _ _)))
          go_wp2_with fail
          go_ret
          exact ⟨congrArg (fun z => Ending.returned (.int .i64 z)) HT2.out, HG2.out.drewN _⟩
  · have d1 : ((cnt a : Int) != (cnt b : Int)) = true := by simp; omega
    have HE := cmp_cnt hlen
    have HE' : Hid (cmpN (cnt a) (cnt b) = cmpN a b) := HE
    clear HE hlen
    go_enter Tryz.func162, Tryz.ntmps162
    go_wp2_with (go_at_call 180; refine (cmpInt_any _ _ _).mono ?_; rintro e w' ⟨rfl, rfl⟩)
    go_ret
    exact ⟨congrArg (fun z => Ending.returned (.int .i64 z)) HE'.out, ((Old.refl w).alloc _).alloc _⟩
end Go.Proofs.YtanijpekdnkicaaGreatDoor
