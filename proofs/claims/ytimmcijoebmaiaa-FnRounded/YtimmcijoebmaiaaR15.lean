/- Proved: several texts in one: what each proves is said ahead of it. -/
import Derived.Test.YtimmcijoebmaiaaR14
import Derived.Test.YtimmcijoebmaiaaR10
import Derived.Test.YtimmcijoebmaiaaSzGuess
import Derived.ScopeJumps
/- Proved: the contract of the program's divideSizes where the number is below its divisor, and where the divisor is a word. -/
namespace Go.Proofs.Ytimmcijoebmaiaa
open Go.ChangeShapes Go.WideShapes Go.ChangeAt Go.RowKit
open M2
set_option linter.unusedVariables false
set_option linter.unusedSimpArgs false
set_option maxRecDepth 100000 in
set_option maxHeartbeats 8000000 in
theorem div_lt (a b : Nat) (w : World) (ha : cnt a ≤ 40) (hb : cnt b ≤ 40) (hlt : a < b) :
    Calls Try.prog 46 #[.agg (szV a), .agg (szV b)] w fun e w' => e = .returned (.tuple #[.agg (szV (a / b)), .agg (szV (a % b))]) ∧ Old w w' := by
  rw [Nat.div_eq_of_lt hlt, Nat.mod_eq_of_lt hlt]
  have HPA : Hid ((pad a).length = 80) := pad_len' ha (by omega)
  have HPB : Hid ((pad b).length = 80) := pad_len' hb (by omega)
  have HA0 : Hid (Sz ((((w.alloc (.cells (szA (pad a) (cnt a)) 45)).alloc (.cells (szA (pad b) (cnt b)) 45)).alloc (.cells Try.zeroCells45 45)).alloc (.cells Try.zeroCells45 45)) w.heap.size (pad a) (cnt a)) := (((Sz.new w _ _ HPA.out).alloc _).alloc _).alloc _
  have HB0 : Hid (Sz ((((w.alloc (.cells (szA (pad a) (cnt a)) 45)).alloc (.cells (szA (pad b) (cnt b)) 45)).alloc (.cells Try.zeroCells45 45)).alloc (.cells Try.zeroCells45 45)) (w.heap.size + 1) (pad b) (cnt b)) := ((Sz.new' _ _ _ _ HPB.out (by simp)).alloc _).alloc _
  have HX0 : Hid (Sz ((((w.alloc (.cells (szA (pad a) (cnt a)) 45)).alloc (.cells (szA (pad b) (cnt b)) 45)).alloc (.cells Try.zeroCells45 45)).alloc (.cells Try.zeroCells45 45)) (w.heap.size + 1 + 1) (ext []) 0) := (Sz.zero _ _ (by simp)).alloc _
  have HY0 : Hid (Sz ((((w.alloc (.cells (szA (pad a) (cnt a)) 45)).alloc (.cells (szA (pad b) (cnt b)) 45)).alloc (.cells Try.zeroCells45 45)).alloc (.cells Try.zeroCells45 45)) (w.heap.size + 1 + 1 + 1) (ext []) 0) := Sz.zero _ _ (by simp)
  have HO0 : Hid (Old w ((((w.alloc (.cells (szA (pad a) (cnt a)) 45)).alloc (.cells (szA (pad b) (cnt b)) 45)).alloc (.cells Try.zeroCells45 45)).alloc (.cells Try.zeroCells45 45))) := ((((Old.refl w).alloc _).alloc _).alloc _).alloc _
  have cc := fun W => cmp_sz a b W (by omega) (by omega)
  have hz : cmpN a b = -1 := by unfold cmpN; rw [if_pos hlt]
  rw [hz] at cc
  have HE0 : Hid (szV 0 = szA (ext []) 0) := by
    show _ = _
    unfold szV pad
    rw [dig_zero, cnt_zero]
  rw [HE0.out]
  clear hz hlt
  unfold szV at *
  go_enter Try.func46, Try.ntmps46
  go_wp2_with (first | ((with_reducible refine load_sz HA0.out ?_ ?_); exact rfl; simp only [Act.put, List.setIfInBounds_toArray, List.set_cons_succ, List.set_cons_zero]) | ((with_reducible refine load_sz HB0.out ?_ ?_); exact rfl; simp only [Act.put, List.setIfInBounds_toArray, List.set_cons_succ, List.set_cons_zero]))
  refine (cc _).mono ?_
  rintro e w2 ⟨rfl, g2⟩
  have HA2 : Hid (Sz w2 w.heap.size (pad a) (cnt a)) := HA0.out.old g2
  have HB2 : Hid (Sz w2 (w.heap.size + 1) (pad b) (cnt b)) := HB0.out.old g2
  have HX2 : Hid (Sz w2 (w.heap.size + 1 + 1) (ext []) 0) := HX0.out.old g2
  have HY2 : Hid (Sz w2 (w.heap.size + 1 + 1 + 1) (ext []) 0) := HY0.out.old g2
  have HO2 : Hid (Old w w2) := Old.trans HO0.out g2
  have hs2 : w.heap.size + 1 + 1 + 1 < w2.heap.size := HY2.out.lt
  clear g2 HA0 HB0 HX0 HY0 HO0 cc
  go_wp2_with fail
  refine reg_d2n a w w2 HA2 HX2 HY2 HO2 _ _ _ _ _ _ _ _ _ _ _ _ _ _ _ _ _ _ _ _ _ _ _ _ _ _ _ _ _ _ _ _ _ _ _ _ _ _ _ _ _ _ _ _ _ _ _ _ _ _ _ _ _ _ _ _ _ _ _ _ _ _ _ _ _ _ _ ?_
  intro W u17 u18 hz1 hz2 ho
  go_wp2_with fail
  exact bodyPost_ret (ret_sz2 Try.results46 _ _ rfl rfl hz1 hz2) rfl ⟨rfl, ho⟩
theorem pad_low {b : Nat} (h : cnt b = 1) : (pad b).getD 0 0 = b ∧ 0 < b ∧ b < 268435456 := by
  have h1 := cnt_lt b
  rw [h, Nat.pow_one] at h1
  have h2 : b ≠ 0 := fun e => by rw [e, cnt_zero] at h; omega
  refine ⟨?_, by omega, h1⟩
  rw [pad_at, Nat.pow_zero, Nat.div_one, Nat.mod_eq_of_lt h1]
set_option maxRecDepth 100000 in
set_option maxHeartbeats 8000000 in
theorem div_one (a b : Nat) (w : World) (ha : cnt a ≤ 40) (hb1 : cnt b = 1) (hge : b ≤ a) :
    Calls Try.prog 46 #[.agg (szV a), .agg (szV b)] w fun e w' => e = .returned (.tuple #[.agg (szV (a / b)), .agg (szV (a % b))]) ∧ Old w w' := by
  have hb : cnt b ≤ 40 := by omega
  have HPA : Hid ((pad a).length = 80) := pad_len' ha (by omega)
  have HPB : Hid ((pad b).length = 80) := pad_len' hb (by omega)
  have HA0 : Hid (Sz ((((w.alloc (.cells (szA (pad a) (cnt a)) 45)).alloc (.cells (szA (pad b) (cnt b)) 45)).alloc (.cells Try.zeroCells45 45)).alloc (.cells Try.zeroCells45 45)) w.heap.size (pad a) (cnt a)) := (((Sz.new w _ _ HPA.out).alloc _).alloc _).alloc _
  have HB0 : Hid (Sz ((((w.alloc (.cells (szA (pad a) (cnt a)) 45)).alloc (.cells (szA (pad b) (cnt b)) 45)).alloc (.cells Try.zeroCells45 45)).alloc (.cells Try.zeroCells45 45)) (w.heap.size + 1) (pad b) (cnt b)) := ((Sz.new' _ _ _ _ HPB.out (by simp)).alloc _).alloc _
  have HX0 : Hid (Sz ((((w.alloc (.cells (szA (pad a) (cnt a)) 45)).alloc (.cells (szA (pad b) (cnt b)) 45)).alloc (.cells Try.zeroCells45 45)).alloc (.cells Try.zeroCells45 45)) (w.heap.size + 1 + 1) (ext []) 0) := (Sz.zero _ _ (by simp)).alloc _
  have HY0 : Hid (Sz ((((w.alloc (.cells (szA (pad a) (cnt a)) 45)).alloc (.cells (szA (pad b) (cnt b)) 45)).alloc (.cells Try.zeroCells45 45)).alloc (.cells Try.zeroCells45 45)) (w.heap.size + 1 + 1 + 1) (ext []) 0) := Sz.zero _ _ (by simp)
  have HO0 : Hid (Old w ((((w.alloc (.cells (szA (pad a) (cnt a)) 45)).alloc (.cells (szA (pad b) (cnt b)) 45)).alloc (.cells Try.zeroCells45 45)).alloc (.cells Try.zeroCells45 45))) := ((((Old.refl w).alloc _).alloc _).alloc _).alloc _
  have cc := fun W => cmp_sz a b W (by omega) (by omega)
  have hz : ¬ cmpN a b < 0 := by unfold cmpN; rw [if_neg (by omega)]; split <;> omega
  obtain ⟨b1, b2, b3⟩ := pad_low hb1
  obtain ⟨z, hze⟩ : ∃ z, cmpN a b = z := ⟨_, rfl⟩
  rw [hze] at cc hz
  have dz : decide (z < 0) = false := decide_eq_false hz
  have cw := fun W => word_sz a b W (by omega) b2 (by omega)
  have hrl : a % b < 268435456 := Nat.lt_trans (Nat.mod_lt _ b2) b3
  have HPQ : Hid ((pad (a / b)).length = 80) := pad_len' (Nat.le_trans (cnt_mono (Nat.div_le_self _ _)) ha) (by omega)
  have HB1 : Hid ((pad b).getD 0 0 = b) := b1
  have HCB : Hid (cnt b = 1) := hb1
  generalize a % b = r at *
  generalize a / b = q at *
  clear hz hze b1 hge hb1
  unfold szV at *
  go_enter Try.func46, Try.ntmps46
  go_wp2_with (first | ((with_reducible refine load_sz HA0.out ?_ ?_); exact rfl; simp only [Act.put, List.setIfInBounds_toArray, List.set_cons_succ, List.set_cons_zero]) | ((with_reducible refine load_sz HB0.out ?_ ?_); exact rfl; simp only [Act.put, List.setIfInBounds_toArray, List.set_cons_succ, List.set_cons_zero]))
  refine (cc _).mono ?_
  rintro e w2 ⟨rfl, g2⟩
  have HA2 : Hid (Sz w2 w.heap.size (pad a) (cnt a)) := HA0.out.old g2
  have HB2 : Hid (Sz w2 (w.heap.size + 1) (pad b) (cnt b)) := HB0.out.old g2
  have HX2 : Hid (Sz w2 (w.heap.size + 1 + 1) (ext []) 0) := HX0.out.old g2
  have HY2 : Hid (Sz w2 (w.heap.size + 1 + 1 + 1) (ext []) 0) := HY0.out.old g2
  have HO2 : Hid (Old w w2) := Old.trans HO0.out g2
  have hs2 : w.heap.size + 1 + 1 + 1 < w2.heap.size := HY2.out.lt
  clear g2 HA0 HB0 HX0 HY0 HO0 cc
  have c1 : w2.cell? ⟨w.heap.size + 1, 80, none⟩ = some (.int .i64 1) := by rw [HB2.out.cnt, HCB.out]; rfl
  have c2 : w2.cell? ⟨w.heap.size + 1, 0, none⟩ = some (.int .i64 (b : Int)) := by rw [HB2.out.at (j := 0) (by omega), HB1.out]
  go_wp2_with (first | ((with_reducible refine load_sz HA2.out ?_ ?_); exact rfl; simp only [Act.put, List.setIfInBounds_toArray, List.set_cons_succ, List.set_cons_zero]) | (go_at_call 61; refine (cw _).mono ?_; rintro e w3 ⟨rfl, g3⟩; have HX3 : Hid (Sz (w3.alloc (.cells Try.zeroCells45 45)) (w.heap.size + 1 + 1) (ext []) 0) := (HX2.out.old g3).alloc _; have HY3 : Hid (Sz (w3.alloc (.cells Try.zeroCells45 45)) (w.heap.size + 1 + 1 + 1) (ext []) 0) := (HY2.out.old g3).alloc _; have HO3 : Hid (Old w (w3.alloc (.cells Try.zeroCells45 45))) := (Old.trans HO2.out g3).alloc _; have HZ3 : Hid (Sz (w3.alloc (.cells Try.zeroCells45 45)) w3.heap.size (ext []) 0) := Sz.zero w3 _ rfl; have hs3 : w.heap.size + 1 + 1 + 1 < w3.heap.size := (by have := g3.size; omega); clear g3) | ((with_reducible refine store_sz HZ3.out (pad q) (cnt q) HPQ.out ?_ ?_ ?_); exact rfl; exact rfl; simp only [Act.put]))
  have HQ4 : Hid (Sz ((w3.alloc (.cells Try.zeroCells45 45)).setRow w3.heap.size (szA (pad q) (cnt q))) w3.heap.size (pad q) (cnt q)) := HZ3.out.row (pad q) (cnt q) HPQ.out
  refine reg_d5 q r w3.heap.size w _ hrl hs3 HQ4 (HX3.out.otherRow (by omega) _) (HY3.out.otherRow (by omega) _) (HO3.out.row (by omega) _) _ _ _ _ _ _ _ _ _ _ _ _ _ _ _ _ _ _ _ _ _ _ _ _ _ _ _ _ _ _ _ _ _ _ _ _ _ _ _ _ _ _ _ _ _ _ _ _ _ _ _ _ _ _ _ _ _ _ _ _ _ _ _ _ _ ?_
  intro W u30 u31 u32 u33 hz1 hz2 ho
  go_wp2_with fail
  exact bodyPost_ret (ret_sz2 Try.results46 _ _ rfl rfl hz1 hz2) rfl ⟨rfl, ho⟩
end Go.Proofs.Ytimmcijoebmaiaa
/- Proved: the drawn region of divideSizes in which the long quotient and what is left are handed out. -/
namespace Go.Proofs.Ytimmcijoebmaiaa
open Go.ChangeShapes Go.WideShapes Go.ChangeAt Go.RowKit
open M2
set_option linter.unusedVariables false
set_option linter.unusedSimpArgs false
set_option maxRecDepth 1000000 in
set_option maxHeartbeats 16000000 in
theorem reg_d9 (lq lr : List Nat) (nq nr p9 p11 : Nat) (w w6 : World) (hp9 : w.heap.size + 1 + 1 + 1 < p9) (hp11 : w.heap.size + 1 + 1 + 1 < p11)
    (HQ6 : Hid (Sz w6 p9 lq nq)) (HR6 : Hid (Sz w6 p11 lr nr)) (HX6 : Hid (Sz w6 (w.heap.size + 1 + 1) (ext []) 0)) (HY6 : Hid (Sz w6 (w.heap.size + 1 + 1 + 1) (ext []) 0)) (HO6 : Hid (Old w w6))
    (R : Ending → World → Prop) (K : Act → World → Prop) (s0 s1 s6 s7 s8 s10 s12 s13 s14 s15 s16 s17 s18 s19 s20 s21 s22 s23 s24 s25 s26 s27 s28 s29 s30 s31 s32 s33 s34 s35 s36 s37 s38 s39 s40 s41 s42 s43 s44 s45 s46 s47 s48 s49 s50 s51 s52 s53 s54 s55 s56 s57 s58 s59 s60 s61 s62 s63 s64 s65 s66 s67 : Value)
    (HK : Hid (∀ (W : World) (u66 u67 : Value), Sz W (w.heap.size + 1 + 1) lq nq → Sz W (w.heap.size + 1 + 1 + 1) lr nr → Old w W → K ⟨#[s0, s1, .pointer (some ⟨w.heap.size, 0, none⟩), .pointer (some ⟨w.heap.size + 1, 0, none⟩), .pointer (some ⟨w.heap.size + 1 + 1, 0, none⟩), .pointer (some ⟨w.heap.size + 1 + 1 + 1, 0, none⟩), s6, s7, s8, .pointer (some ⟨p9, 0, none⟩), s10, .pointer (some ⟨p11, 0, none⟩), s12, s13, s14, s15, s16, s17, s18, s19, s20, s21, s22, s23, s24, s25, s26, s27, s28, s29, s30, s31, s32, s33, s34, s35, s36, s37, s38, s39, s40, s41, s42, s43, s44, s45, s46, s47, s48, s49, s50, s51, s52, s53, s54, s55, s56, s57, s58, s59, s60, s61, s62, s63, s64, s65, u66, u67], []⟩ W)) :
    Code.wp Try.prog ((Try.f46.body.bind (regionAtLong 9)).getD .skip) (Exit.then K (bodyPost Try.prog Try.f46 R)) ⟨#[s0, s1, .pointer (some ⟨w.heap.size, 0, none⟩), .pointer (some ⟨w.heap.size + 1, 0, none⟩), .pointer (some ⟨w.heap.size + 1 + 1, 0, none⟩), .pointer (some ⟨w.heap.size + 1 + 1 + 1, 0, none⟩), s6, s7, s8, .pointer (some ⟨p9, 0, none⟩), s10, .pointer (some ⟨p11, 0, none⟩), s12, s13, s14, s15, s16, s17, s18, s19, s20, s21, s22, s23, s24, s25, s26, s27, s28, s29, s30, s31, s32, s33, s34, s35, s36, s37, s38, s39, s40, s41, s42, s43, s44, s45, s46, s47, s48, s49, s50, s51, s52, s53, s54, s55, s56, s57, s58, s59, s60, s61, s62, s63, s64, s65, s66, s67], []⟩ w6 := by
  conv => arg 2; whnf
  obtain ⟨N, hN, HN9⟩ : ∃ N, (∀ W, Sem.run Try.prog (Go.sizeOf 45) W = .ok N W) ∧ Hid (N = 81) := ⟨81, Try.sizeOf45, rfl⟩
  have HPQ : Hid (lq.length = 80) := HQ6.out.len
  have HPR : Hid (lr.length = 80) := HR6.out.len
  have hzq : (szA lq nq).size = N := by rw [HN9.out]; exact szA_size HPQ.out _
  have hzr : (szA lr nr).size = N := by rw [HN9.out]; exact szA_size HPR.out _
  have hR1 : ∀ W : World, W.heap[p9]? = some (.cells (szA lq nq) 45 (0, 0)) → Sem.run Try.prog (loadCellsFrom ⟨p9, 0, none⟩ 0 N #[]) W = .ok (szA lq nq) W := fun W h => by rw [HN9.out]; exact run_loadCells_sz h (szA_size HPQ.out _)
  have hR2 : ∀ W : World, W.heap[p11]? = some (.cells (szA lr nr) 45 (0, 0)) → Sem.run Try.prog (loadCellsFrom ⟨p11, 0, none⟩ 0 N #[]) W = .ok (szA lr nr) W := fun W h => by rw [HN9.out]; exact run_loadCells_sz h (szA_size HPR.out _)
  have HAS : Hid (∀ W' : World, Old w6 W' → (W'.heap[p9]? = some (.cells (szA lq nq) 45 (0, 0)) ∧ W'.heap[p11]? = some (.cells (szA lr nr) 45 (0, 0)))) := fun W' g => ⟨(HQ6.out.old g).blk, (HR6.out.old g).blk⟩
  have HKS : Hid (∀ (W' : World) (k : Nat) (cs : Array Value), k = w.heap.size + 1 + 1 ∨ k = w.heap.size + 1 + 1 + 1 → (W'.heap[p9]? = some (.cells (szA lq nq) 45 (0, 0)) ∧ W'.heap[p11]? = some (.cells (szA lr nr) 45 (0, 0))) → ((fun W' : World => W'.heap[p9]? = some (.cells (szA lq nq) 45 (0, 0)) ∧ W'.heap[p11]? = some (.cells (szA lr nr) 45 (0, 0))) (W'.setRow k cs))) := fun W' k cs hk h => ⟨(setRow_other _ _ _ _ (by omega)).trans h.1, (setRow_other _ _ _ _ (by omega)).trans h.2⟩
  have HXD : Hid (Sz w6.drew (w.heap.size + 1 + 1) (ext []) 0) := HX6.out.drw
  have HYD : Hid (Sz w6.drew (w.heap.size + 1 + 1 + 1) (ext []) 0) := HY6.out.drw
  have tok3 : True := trivial
  go_region_held3 (fun W' => W'.heap[p9]? = some (.cells (szA lq nq) 45 (0, 0)) ∧ W'.heap[p11]? = some (.cells (szA lr nr) 45 (0, 0))) (first | exact HKS.out _ _ _ (Or.inr rfl) (HKS.out _ _ _ (Or.inl rfl) (HAS.out _ (Below.drew (Old.refl w6)))) | exact HKS.out _ _ _ (Or.inl rfl) (HAS.out _ (Below.drew (Old.refl w6))) | exact HAS.out _ (Below.drew (Old.refl w6)) | exact HAS.out _ (Old.refl w6) | fail) (first
    | (have _t := tok3; refine upon_sa HXD.out lq nq HPQ.out ?_; clear tok3; go_simp)
    | (refine upon_sa (HYD.out.otherRow (by omega) _) lr nr HPR.out ?_; go_simp)
    | fail)
  all_goals
    go_wp2_with fail
    exact HK.out _ _ _ ((HXD.out.row lq nq HPQ.out).otherRow (by omega) _) ((HYD.out.otherRow (by omega) _).row lr nr HPR.out) (((Old.drw HO6.out).row (by omega) _).row (by omega) _)
end Go.Proofs.Ytimmcijoebmaiaa
/- Proved: the contract of the program's divideLong: the quotient and what is left. -/
namespace Go.Proofs.Ytimmcijoebmaiaa
open Go.ChangeShapes Go.WideShapes Go.ChangeAt Go.RowKit
open M2
set_option linter.unusedVariables false
set_option linter.unusedSimpArgs false

structure LgI (A v p0 m p L qn : Nat) : Prop where
  long : Long L v p m
  eq : qn * v + L = A
  zero : qn % LB ^ (p + 1) = 0
  qlen : cnt qn ≤ 80
structure LgN (A v p0 m p L qn : Nat) : Prop where
  next : ∀ {p'}, p = p' + 1 → LgI A v p0 m p' L qn
  last : p = 0 → qn = A / v ∧ L = A % v
theorem set_pad {qn p d : Nat} (h : qn % LB ^ (p + 1) = 0) (hd : d < 268435456) (hp : p < 80) (hq : cnt qn ≤ 80) : (pad qn).set p d = pad (qn + LB ^ p * d) := by
  have hl := pad_len hq
  have hz : (pad qn).getD p 0 = 0 := by
    rw [pad_at]
    have h1 : qn / LB ^ p % LB = qn % LB ^ (p + 1) / LB ^ p := by rw [Nat.pow_succ, Nat.mod_mul_right_div_self]
    rw [h1, h, Nat.zero_div]
  have hv := val_set (pad qn) p d (by omega)
  rw [hz, Nat.mul_zero, Nat.add_zero, pad_val] at hv
  rw [← hv]
  exact pad_of ((pad_lim qn).set p d hd) (by rw [List.length_set, hl])
theorem dig_yes {L v p m d : Nat} (h : Long L v p m) (h1 : L / (v * LB ^ p) ≤ d) (h2 : d ≤ L / (v * LB ^ p) + 1) (h3 : 0 ≤ (L : Int) - (d : Int) * ((LB ^ p * v : Nat) : Int)) : d = L / (v * LB ^ p) := by
  have h4 : d * (v * LB ^ p) ≤ L := by
    rw [Nat.mul_comm v]
    have : ((d * (LB ^ p * v) : Nat) : Int) ≤ (L : Int) := by rw [Int.natCast_mul]; omega
    exact Int.ofNat_le.1 this
  have := (Nat.le_div_iff_mul_le h.V0).2 h4
  omega
theorem dig_no {L v p m d : Nat} (h : Long L v p m) (h1 : L / (v * LB ^ p) ≤ d) (h2 : d ≤ L / (v * LB ^ p) + 1) (h3 : ¬ 0 ≤ (L : Int) - (d : Int) * ((LB ^ p * v : Nat) : Int)) : d = L / (v * LB ^ p) + 1 := by
  apply Classical.byContradiction
  intro hn
  have hd : d = L / (v * LB ^ p) := by omega
  apply h3
  have h4 := h.q1
  rw [← hd, Nat.mul_comm v] at h4
  have h5 := Int.ofNat_le.2 h4
  rw [Int.natCast_mul] at h5
  omega
theorem take_yes {L v p m n : Nat} (h : Long L v p m) (hb : L < LB ^ n) : (((L : Int) - ((L / (v * LB ^ p) : Nat) : Int) * ((LB ^ p * v : Nat) : Int)) % ((LB ^ n : Nat) : Int)).toNat = L - L / (v * LB ^ p) * (v * LB ^ p) := by
  have h1 := h.q1
  have e : (L : Int) - ((L / (v * LB ^ p) : Nat) : Int) * ((LB ^ p * v : Nat) : Int) = ((L - L / (v * LB ^ p) * (v * LB ^ p) : Nat) : Int) := by
    rw [Int.ofNat_sub h1, Int.natCast_mul (L / (v * LB ^ p)) (v * LB ^ p), Nat.mul_comm (LB ^ p) v]
  rw [e, Int.emod_eq_of_lt (Int.natCast_nonneg _) (Int.ofNat_lt.2 (by omega)), Int.toNat_natCast]
theorem take_no {L v p m n : Nat} (h : Long L v p m) (hb : L < LB ^ n) (hn : n = p + (m + 2) + 1) : ((((L : Int) - ((L / (v * LB ^ p) + 1 : Nat) : Int) * ((LB ^ p * v : Nat) : Int)) % ((LB ^ n : Nat) : Int)).toNat < LB ^ n) ∧
    (((((((L : Int) - ((L / (v * LB ^ p) + 1 : Nat) : Int) * ((LB ^ p * v : Nat) : Int)) % ((LB ^ n : Nat) : Int)).toNat : Nat) : Int) - (-1) * ((LB ^ p * v : Nat) : Int)) % ((LB ^ n : Nat) : Int)).toNat = L - L / (v * LB ^ p) * (v * LB ^ p) := by
  have hB : 0 < ((LB ^ n : Nat) : Int) := Int.ofNat_lt.2 (pw n)
  have h0 := Int.emod_nonneg ((L : Int) - ((L / (v * LB ^ p) + 1 : Nat) : Int) * ((LB ^ p * v : Nat) : Int)) (Int.ne_of_gt hB)
  have h1 := Int.emod_lt_of_pos ((L : Int) - ((L / (v * LB ^ p) + 1 : Nat) : Int) * ((LB ^ p * v : Nat) : Int)) hB
  refine ⟨?_, ?_⟩
  · have := Int.ofNat_lt.1 (show (((((L : Int) - ((L / (v * LB ^ p) + 1 : Nat) : Int) * ((LB ^ p * v : Nat) : Int)) % ((LB ^ n : Nat) : Int)).toNat : Nat) : Int) < ((LB ^ n : Nat) : Int) by rw [Int.toNat_of_nonneg h0]; exact h1)
    exact this
  · rw [Int.toNat_of_nonneg h0, Int.sub_eq_add_neg, Int.neg_mul, Int.one_mul, Int.neg_neg, Int.emod_add_emod]
    have e : (L : Int) - ((L / (v * LB ^ p) + 1 : Nat) : Int) * ((LB ^ p * v : Nat) : Int) + ((LB ^ p * v : Nat) : Int) = (L : Int) - ((L / (v * LB ^ p) : Nat) : Int) * ((LB ^ p * v : Nat) : Int) := by
      rw [Int.natCast_add, Int.add_mul, Int.natCast_one, Int.one_mul]
      omega
    rw [e]
    exact take_yes h hb
theorem LgI.step {A v p0 m p L qn : Nat} (h : LgI A v p0 m p L qn) (hA : cnt A ≤ 80) : LgN A v p0 m p (L - L / (v * LB ^ p) * (v * LB ^ p)) (qn + LB ^ p * (L / (v * LB ^ p))) := by
  have h1 := h.long.q1
  have e : (qn + LB ^ p * (L / (v * LB ^ p))) * v + (L - L / (v * LB ^ p) * (v * LB ^ p)) = A := by
    have h2 := h.eq
    have h3 : LB ^ p * (L / (v * LB ^ p)) * v = L / (v * LB ^ p) * (v * LB ^ p) := by
      rw [Nat.mul_comm (LB ^ p), Nat.mul_assoc, Nat.mul_comm (LB ^ p)]
    rw [Nat.add_mul, h3]
    omega
  refine ⟨fun {p'} hp => ⟨h.long.next p' hp rfl, e, ?_, ?_⟩, fun hp => ?_⟩
  · subst hp
    have hz := h.zero
    have hd1 : LB ^ (p' + 1) ∣ qn := Nat.dvd_trans (Nat.pow_dvd_pow LB (by omega)) (Nat.dvd_of_mod_eq_zero hz)
    exact Nat.mod_eq_zero_of_dvd ((Nat.dvd_add_right hd1).2 (Nat.dvd_mul_right _ _))
  · refine Nat.le_trans (cnt_mono ?_) hA
    have h4 := Nat.mul_le_mul_left (qn + LB ^ p * (L / (v * LB ^ p))) h.long.pos
    rw [Nat.mul_one] at h4
    omega
  · subst hp
    have hl := h.long.last rfl
    have hv := h.long.pos
    rw [Nat.mul_comm] at e
    have := (Nat.div_mod_unique hv).2 ⟨(Nat.add_comm _ _).trans e, hl⟩
    exact ⟨this.1.symm, this.2.symm⟩
set_option maxRecDepth 100000 in
set_option maxHeartbeats 16000000 in
theorem long_sz (A v p0 m cc : Nat) (w : World) (h : Long A v p0 m) (hc : cnt v = m + 2) (hp : p0 + m + 2 ≤ 79) :
    Calls Try.prog 63 #[.agg (szA (pad A) cc), .agg (szV v), .int .i64 (p0 : Int)] w fun e w' => e = .returned (.tuple #[.agg (szV (A / v)), .agg (szV (A % v))]) ∧ Old w w' := by
  have hcA : cnt A ≤ 80 := Nat.le_trans (cnt_le h.big) (by omega)
  have HPA : Hid ((pad A).length = 80) := pad_len' hcA (by omega)
  have HPV : Hid ((pad v).length = 80) := pad_len' (n := v) (k := 80) (by omega) (by omega)
  have HI0 : Hid (LgI A v p0 m p0 A 0) := ⟨h, by omega, by simp, by rw [cnt_zero]; omega⟩
  have HE0 : Hid (pad 0 = ext []) := by show pad 0 = ext []; unfold pad; rw [dig_zero]
  obtain ⟨p1, hp1⟩ : ∃ p1, p1 = p0 + 1 := ⟨_, rfl⟩
  have ep1 : (p0 : Int) + 1 = (p1 : Int) := by omega
  have HP1 : Hid (p1 = p0 + 1) := hp1
  have HC : Hid (cnt v = m + 2) := hc
  have hcv : cnt v ≤ m + 2 ∧ m + 2 ≤ cnt v := by omega
  obtain ⟨hcv1, hcv2⟩ := hcv
  have HLT : Hid (A < v * LB ^ (p0 + 1)) := h.lt
  have HVP : Hid (0 < v) := h.pos
  have hp1b : p1 ≤ 78 := by omega
  clear hp1 h hc
  unfold szV
  go_enter Try.func63, Try.ntmps63
  go_wp2_with fail
  refine wp_scope_jumps 0 (fun a' w' => ∃ (p L qn : Nat) (u10 u11 u12 u13 u14 u15 u16 u17 u18 u19 u20 u21 u22 u23 u24 u25 u26 u27 u28 u29 u30 u31 u32 u33 u34 u35 u36 u37 u38 u39 u40 u41 : Value), (Hid (LgI A v p0 m p L qn) ∧ p ≤ p0 ∧ Hid (Sz w' w.heap.size (pad L) cc) ∧ Hid (Sz w' (w.heap.size + 1) (pad v) (cnt v)) ∧ Hid (Sz w' (w.heap.size + 1 + 1) (ext []) 0) ∧ Hid (Sz w' (w.heap.size + 1 + 1 + 1) (ext []) 0) ∧ Hid (Sz w' (w.heap.size + 1 + 1 + 1 + 1) (pad qn) 0) ∧ Hid (Old w w')) ∧ a' = { tmps := #[.agg (szA (pad A) cc), .agg (szA (pad v) (cnt v)), .int .i64 (p : Int), .pointer (some ⟨w.heap.size, 0, none⟩), .pointer (some ⟨w.heap.size + 1, 0, none⟩), undef, .pointer (some ⟨w.heap.size + 1 + 1, 0, none⟩), .pointer (some ⟨w.heap.size + 1 + 1 + 1, 0, none⟩), .pointer (some ⟨w.heap.size + 1 + 1 + 1 + 1, 0, none⟩), .int .i64 (p1 : Int), u10, u11, u12, u13, u14, u15, u16, u17, u18, u19, u20, u21, u22, u23, u24, u25, u26, u27, u28, u29, u30, u31, u32, u33, u34, u35, u36, u37, u38, u39, u40, u41], defers := [] }) (fun a' _ => (intOf (a'.tmps.getD 2 undef)).toNat) rfl ?_ ?_
  · go_wp2_with fail
    obtain ⟨w1, hw1⟩ : ∃ W, W = (((((w.alloc (.cells (szA (pad A) cc) 45)).alloc (.cells (szA (pad v) (cnt v)) 45)).alloc (.cells Try.zeroCells45 45)).alloc (.cells Try.zeroCells45 45)).alloc (.cells Try.zeroCells45 45)) := ⟨_, rfl⟩
    have HL1 : Hid (Sz w1 w.heap.size (pad A) cc) := by rw [hw1]; exact ((((Sz.new w _ _ HPA.out).alloc _).alloc _).alloc _).alloc _
    have HV1 : Hid (Sz w1 (w.heap.size + 1) (pad v) (cnt v)) := by rw [hw1]; exact (((Sz.new' _ _ _ _ HPV.out (by simp)).alloc _).alloc _).alloc _
    have HA1 : Hid (Sz w1 (w.heap.size + 1 + 1) (ext []) 0) := by rw [hw1]; exact ((Sz.zero _ _ (by simp)).alloc _).alloc _
    have HB1 : Hid (Sz w1 (w.heap.size + 1 + 1 + 1) (ext []) 0) := by rw [hw1]; exact (Sz.zero _ _ (by simp)).alloc _
    have HQ1 : Hid (Sz w1 (w.heap.size + 1 + 1 + 1 + 1) (pad 0) 0) := by rw [hw1, HE0.out]; exact Sz.zero _ _ (by simp)
    have HO1 : Hid (Old w w1) := by rw [hw1]; exact (((((Old.refl w).alloc _).alloc _).alloc _).alloc _).alloc _
    rw [← hw1]
    clear hw1
    go_step3
    obtain ⟨p, hpe⟩ : ∃ p, p = p0 := ⟨_, rfl⟩
    obtain ⟨L, hLe⟩ : ∃ L, L = A := ⟨_, rfl⟩
    obtain ⟨qn, hqe⟩ : ∃ qn, qn = 0 := ⟨_, rfl⟩
    have HI : Hid (LgI A v p0 m p L qn) := by rw [hpe, hLe, hqe]; exact HI0.out
    have hpp : p ≤ p0 := by omega
    rw [← hLe] at HL1
    have HQ10 := HQ1
    clear HQ1
    have HQ1 : Hid (Sz w1 (w.heap.size + 1 + 1 + 1 + 1) (pad qn) 0) := by rw [hqe]; exact HQ10.out
    clear HQ10
    have epp : (p0 : Int) = (p : Int) := by omega
    rw [epp]
    clear hpe hLe hqe epp ep1
    have hpb : p + m + 2 ≤ 79 := by omega
    go_wp2_with (first | ((with_reducible refine load_sz HL1.out ?_ ?_); exact rfl; simp only [Act.put, List.setIfInBounds_toArray, List.set_cons_succ, List.set_cons_zero]) | ((with_reducible refine load_sz HV1.out ?_ ?_); exact rfl; simp only [Act.put, List.setIfInBounds_toArray, List.set_cons_succ, List.set_cons_zero]))
    refine (guess_sz L v p m cc _ HI.out.long HC.out hpb).mono ?_
    rintro e w4 ⟨d, rfl, hd1, hd2, hd3, g4⟩
    have HL4 : Hid (Sz w4 w.heap.size (pad L) cc) := HL1.out.old g4
    have HV4 : Hid (Sz w4 (w.heap.size + 1) (pad v) (cnt v)) := HV1.out.old g4
    have HA4 : Hid (Sz w4 (w.heap.size + 1 + 1) (ext []) 0) := HA1.out.old g4
    have HB4 : Hid (Sz w4 (w.heap.size + 1 + 1 + 1) (ext []) 0) := HB1.out.old g4
    have HQ4 : Hid (Sz w4 (w.heap.size + 1 + 1 + 1 + 1) (pad qn) 0) := HQ1.out.old g4
    have HO4 : Hid (Old w w4) := Old.trans HO1.out g4
    have HD1 : Hid (L / (v * LB ^ p) ≤ d) := hd1
    have HD2 : Hid (d ≤ L / (v * LB ^ p) + 1) := hd2
    clear g4 HL1 HV1 HA1 HB1 HQ1 HO1 hd1 hd2
    have HLB : Hid (L < LB ^ (p + cnt v + 1)) := by
      have e : p + cnt v + 1 = p + m + 3 := by omega
      rw [e]
      exact HI.out.long.big
    obtain ⟨T, hT⟩ : ∃ T : Int, T = (L : Int) - (d : Int) * ((LB ^ p * v : Nat) : Int) := ⟨_, rfl⟩
    have HT : Hid (T = (L : Int) - (d : Int) * ((LB ^ p * v : Nat) : Int)) := hT
    clear hT
    by_cases hT0 : 0 ≤ T
    · have HDQ : Hid (d = L / (v * LB ^ p)) := dig_yes HI.out.long HD1.out HD2.out (by rw [← HT.out]; exact hT0)
      have HTM : Hid ((T % ((LB ^ (p + cnt v + 1) : Nat) : Int)).toNat = L - L / (v * LB ^ p) * (v * LB ^ p)) := by rw [HT.out, HDQ.out]; exact take_yes HI.out.long HLB.out
      have dT : decide (0 ≤ T) = true := decide_eq_true hT0
      go_wp2_with ((with_reducible refine load_sz HV4.out ?_ ?_); exact rfl; simp only [Act.put, List.setIfInBounds_toArray, List.set_cons_succ, List.set_cons_zero])
      refine (take_sz L v p (w.heap.size) cc (d : Int) T _ HL4.out HLB.out (by omega) (by omega) (by omega) HT.out).mono ?_
      rw [dT, HTM.out]
      rintro e w5 ⟨rfl, z5, b5⟩
      have HL5 : Hid (Sz w5 w.heap.size (pad (L - L / (v * LB ^ p) * (v * LB ^ p))) cc) := z5
      have HV5 : Hid (Sz w5 (w.heap.size + 1) (pad v) (cnt v)) := HV4.out.but b5 (by omega)
      have HA5 : Hid (Sz w5 (w.heap.size + 1 + 1) (ext []) 0) := HA4.out.but b5 (by omega)
      have HB5 : Hid (Sz w5 (w.heap.size + 1 + 1 + 1) (ext []) 0) := HB4.out.but b5 (by omega)
      have HQ5 : Hid (Sz w5 (w.heap.size + 1 + 1 + 1 + 1) (pad qn) 0) := HQ4.out.but b5 (by omega)
      have HO5 : Hid (Old w w5) := b5.old HO4.out (by omega)
      clear z5 b5 HL4 HV4 HA4 HB4 HQ4 HO4
      have HN : Hid (LgN A v p0 m p (L - L / (v * LB ^ p) * (v * LB ^ p)) (qn + LB ^ p * d)) := by rw [HDQ.out]; exact HI.out.step hcA
      have hdl : d < 268435456 := by rw [HDQ.out]; exact HI.out.long.q_lt
      have HSET : Hid ((pad qn).set p d = pad (qn + LB ^ p * d)) := set_pad HI.out.zero hdl (by omega) HI.out.qlen
      clear HI HLB HD1 HD2
      obtain ⟨L', hL'⟩ : ∃ L', L - L / (v * LB ^ p) * (v * LB ^ p) = L' := ⟨_, rfl⟩
      obtain ⟨q', hq'⟩ : ∃ q', qn + LB ^ p * d = q' := ⟨_, rfl⟩
      rw [hL'] at HL5 HN
      rw [hq'] at HN HSET
      clear hL' hq'
      have i1 : (p : Int) < 80 := by omega
      have f1 := HQ5.out.fro p
      have y1 := HQ5.out.at (j := p) (by omega)
      generalize (pad qn).getD p 0 = yy at y1
      have HQ6 : Hid (Sz (w5.setCell ⟨w.heap.size + 1 + 1 + 1 + 1, p, none⟩ (.int .i64 (d : Int))) (w.heap.size + 1 + 1 + 1 + 1) (pad q') 0) := by
        have := HQ5.out.set (j := p) (by omega) d
        rw [HSET.out] at this
        exact this
      have HL6 : Hid (Sz (w5.setCell ⟨w.heap.size + 1 + 1 + 1 + 1, p, none⟩ (.int .i64 (d : Int))) w.heap.size (pad L') cc) := HL5.out.other _ (by first | (simp; done) | (simp; omega)) _
      have HV6 : Hid (Sz (w5.setCell ⟨w.heap.size + 1 + 1 + 1 + 1, p, none⟩ (.int .i64 (d : Int))) (w.heap.size + 1) (pad v) (cnt v)) := HV5.out.other _ (by first | (simp; done) | (simp; omega)) _
      have HA6 : Hid (Sz (w5.setCell ⟨w.heap.size + 1 + 1 + 1 + 1, p, none⟩ (.int .i64 (d : Int))) (w.heap.size + 1 + 1) (ext []) 0) := HA5.out.other _ (by first | (simp; done) | (simp; omega)) _
      have HB6 : Hid (Sz (w5.setCell ⟨w.heap.size + 1 + 1 + 1 + 1, p, none⟩ (.int .i64 (d : Int))) (w.heap.size + 1 + 1 + 1) (ext []) 0) := HB5.out.other _ (by first | (simp; done) | (simp; omega)) _
      have HO6 : Hid (Old w (w5.setCell ⟨w.heap.size + 1 + 1 + 1 + 1, p, none⟩ (.int .i64 (d : Int)))) := HO5.out.own (by simp; omega) _
      clear HL5 HV5 HA5 HB5 HQ5 HO5 HSET
      by_cases hp0 : p = 0
      · subst hp0
        have dp : decide ((0 : Int) < ((0 : Nat) : Int)) = false := by simp
        obtain ⟨hq1, hl1⟩ := HN.out.last rfl
        subst hq1
        subst hl1
        obtain ⟨w6, hw6⟩ : ∃ W, W = w5.setCell ⟨w.heap.size + 1 + 1 + 1 + 1, 0, none⟩ (.int .i64 (d : Int)) := ⟨_, rfl⟩
        rw [← hw6] at HL6 HV6 HA6 HB6 HQ6 HO6
        have HCQ : Hid (cnt (A / v) ≤ p1) := by
          rw [HP1.out]
          exact cnt_le (Nat.div_lt_of_lt_mul HLT.out)
        go_wp2_with fail
        rw [← hw6]
        clear hw6
        refine reg_last A v p1 cc w w6 (by omega) hp1b HCQ HVP HL6 HV6 HA6 HB6 HQ6 HO6 _ _ _ _ _ _ _ _ _ _ _ _ _ _ _ _ _ _ _ _ _ _ _ _ _ _ _ _ _ _ _ _ _ _ _ _ _ _ _ ?_
        intro W u35 u36 u37 u38 u39 u40 u41 hz1 hz2 ho
        go_wp2_with fail
        simp only [Exit.jump]
        exact bodyPost_ret (ret_sz2 Try.results63 _ _ rfl rfl hz1 hz2) rfl ⟨rfl, ho⟩
      · obtain ⟨p', rfl⟩ : ∃ p', p = p' + 1 := ⟨p - 1, by omega⟩
        have dp : decide ((0 : Int) < ((p' + 1 : Nat) : Int)) = true := decide_eq_true (by omega)
        have ep : ((p' + 1 : Nat) : Int) - 1 = (p' : Int) := by omega
        have HI2 : Hid (LgI A v p0 m p' L' q') := HN.out.next rfl
        go_wp2_with fail
        go_step3; exact ⟨rfl, p', L', q', _, _, _, _, _, _, _, _, _, _, _, _, _, _, _, _, _, _, _, _, _, _, _, _, _, _, _, _, _, _, _, _, ⟨HI2, by omega, HL6, HV6, HA6, HB6, HQ6, HO6⟩, rfl⟩
    · have HDQ : Hid (d = L / (v * LB ^ p) + 1) := dig_no HI.out.long HD1.out HD2.out (by rw [← HT.out]; exact hT0)
      obtain ⟨M2, hM2⟩ : ∃ M2, (T % ((LB ^ (p + cnt v + 1) : Nat) : Int)).toNat = M2 := ⟨_, rfl⟩
      obtain ⟨hM2b, hM2c⟩ : M2 < LB ^ (p + cnt v + 1) ∧ (((M2 : Int) - (-1) * ((LB ^ p * v : Nat) : Int)) % ((LB ^ (p + cnt v + 1) : Nat) : Int)).toNat = L - L / (v * LB ^ p) * (v * LB ^ p) := by rw [← hM2, HT.out, HDQ.out]; exact take_no HI.out.long HLB.out (by rw [HC.out])
      have HM2b : Hid (M2 < LB ^ (p + cnt v + 1)) := hM2b
      have HM2c : Hid ((((M2 : Int) - (-1) * ((LB ^ p * v : Nat) : Int)) % ((LB ^ (p + cnt v + 1) : Nat) : Int)).toNat = L - L / (v * LB ^ p) * (v * LB ^ p)) := hM2c
      have HM2 : Hid ((T % ((LB ^ (p + cnt v + 1) : Nat) : Int)).toNat = M2) := hM2
      clear hM2 hM2b hM2c
      have dT : decide (0 ≤ T) = false := decide_eq_false hT0
      go_wp2_with ((with_reducible refine load_sz HV4.out ?_ ?_); exact rfl; simp only [Act.put, List.setIfInBounds_toArray, List.set_cons_succ, List.set_cons_zero])
      refine (take_sz L v p (w.heap.size) cc (d : Int) T _ HL4.out HLB.out (by omega) (by omega) (by omega) HT.out).mono ?_
      rw [dT, HM2.out]
      rintro e w6 ⟨rfl, z5, b5⟩
      have HL4b : Hid (Sz w6 w.heap.size (pad M2) cc) := z5
      have HV4b : Hid (Sz w6 (w.heap.size + 1) (pad v) (cnt v)) := HV4.out.but b5 (by omega)
      have HA4b : Hid (Sz w6 (w.heap.size + 1 + 1) (ext []) 0) := HA4.out.but b5 (by omega)
      have HB4b : Hid (Sz w6 (w.heap.size + 1 + 1 + 1) (ext []) 0) := HB4.out.but b5 (by omega)
      have HQ4b : Hid (Sz w6 (w.heap.size + 1 + 1 + 1 + 1) (pad qn) 0) := HQ4.out.but b5 (by omega)
      have HO4b : Hid (Old w w6) := b5.old HO4.out (by omega)
      clear z5 b5 HL4 HV4 HA4 HB4 HQ4 HO4 dT
      obtain ⟨d', hd'⟩ : ∃ d', d = d' + 1 := ⟨L / (v * LB ^ p), HDQ.out⟩
      have ed : (d : Int) - 1 = (d' : Int) := by omega
      have HDQ' : Hid (d' = L / (v * LB ^ p)) := Nat.add_right_cancel (hd'.symm.trans HDQ.out)
      clear hd'
      go_wp2_with (first | ((with_reducible refine load_sz HV4b.out ?_ ?_); exact rfl; simp only [Act.put, List.setIfInBounds_toArray, List.set_cons_succ, List.set_cons_zero]))
      refine (take_sz M2 v p (w.heap.size) cc (-1) ((M2 : Int) - (-1) * ((LB ^ p * v : Nat) : Int)) _ HL4b.out HM2b.out (by omega) (by omega) (by omega) rfl).mono ?_
      rw [HM2c.out]
      rintro e w5 ⟨rfl, z5, b5⟩
      have HL5 : Hid (Sz w5 w.heap.size (pad (L - L / (v * LB ^ p) * (v * LB ^ p))) cc) := z5
      have HV5 : Hid (Sz w5 (w.heap.size + 1) (pad v) (cnt v)) := HV4b.out.but b5 (by omega)
      have HA5 : Hid (Sz w5 (w.heap.size + 1 + 1) (ext []) 0) := HA4b.out.but b5 (by omega)
      have HB5 : Hid (Sz w5 (w.heap.size + 1 + 1 + 1) (ext []) 0) := HB4b.out.but b5 (by omega)
      have HQ5 : Hid (Sz w5 (w.heap.size + 1 + 1 + 1 + 1) (pad qn) 0) := HQ4b.out.but b5 (by omega)
      have HO5 : Hid (Old w w5) := b5.old HO4b.out (by omega)
      clear z5 b5 HL4b HV4b HA4b HB4b HQ4b HO4b
      have HN : Hid (LgN A v p0 m p (L - L / (v * LB ^ p) * (v * LB ^ p)) (qn + LB ^ p * d')) := by rw [HDQ'.out]; exact HI.out.step hcA
      have hdl : d' < 268435456 := by rw [HDQ'.out]; exact HI.out.long.q_lt
      have HSET : Hid ((pad qn).set p d' = pad (qn + LB ^ p * d')) := set_pad HI.out.zero hdl (by omega) HI.out.qlen
      clear HI HLB HD1 HD2
      obtain ⟨L', hL'⟩ : ∃ L', L - L / (v * LB ^ p) * (v * LB ^ p) = L' := ⟨_, rfl⟩
      obtain ⟨q', hq'⟩ : ∃ q', qn + LB ^ p * d' = q' := ⟨_, rfl⟩
      rw [hL'] at HL5 HN
      rw [hq'] at HN HSET
      clear hL' hq'
      have i1 : (p : Int) < 80 := by omega
      have f1 := HQ5.out.fro p
      have y1 := HQ5.out.at (j := p) (by omega)
      generalize (pad qn).getD p 0 = yy at y1
      have HQ6 : Hid (Sz (w5.setCell ⟨w.heap.size + 1 + 1 + 1 + 1, p, none⟩ (.int .i64 (d' : Int))) (w.heap.size + 1 + 1 + 1 + 1) (pad q') 0) := by
        have := HQ5.out.set (j := p) (by omega) d'
        rw [HSET.out] at this
        exact this
      have HL6 : Hid (Sz (w5.setCell ⟨w.heap.size + 1 + 1 + 1 + 1, p, none⟩ (.int .i64 (d' : Int))) w.heap.size (pad L') cc) := HL5.out.other _ (by first | (simp; done) | (simp; omega)) _
      have HV6 : Hid (Sz (w5.setCell ⟨w.heap.size + 1 + 1 + 1 + 1, p, none⟩ (.int .i64 (d' : Int))) (w.heap.size + 1) (pad v) (cnt v)) := HV5.out.other _ (by first | (simp; done) | (simp; omega)) _
      have HA6 : Hid (Sz (w5.setCell ⟨w.heap.size + 1 + 1 + 1 + 1, p, none⟩ (.int .i64 (d' : Int))) (w.heap.size + 1 + 1) (ext []) 0) := HA5.out.other _ (by first | (simp; done) | (simp; omega)) _
      have HB6 : Hid (Sz (w5.setCell ⟨w.heap.size + 1 + 1 + 1 + 1, p, none⟩ (.int .i64 (d' : Int))) (w.heap.size + 1 + 1 + 1) (ext []) 0) := HB5.out.other _ (by first | (simp; done) | (simp; omega)) _
      have HO6 : Hid (Old w (w5.setCell ⟨w.heap.size + 1 + 1 + 1 + 1, p, none⟩ (.int .i64 (d' : Int)))) := HO5.out.own (by simp; omega) _
      clear HL5 HV5 HA5 HB5 HQ5 HO5 HSET
      by_cases hp0 : p = 0
      · subst hp0
        have dp : decide ((0 : Int) < ((0 : Nat) : Int)) = false := by simp
        obtain ⟨hq1, hl1⟩ := HN.out.last rfl
        subst hq1
        subst hl1
        obtain ⟨w6, hw6⟩ : ∃ W, W = w5.setCell ⟨w.heap.size + 1 + 1 + 1 + 1, 0, none⟩ (.int .i64 (d' : Int)) := ⟨_, rfl⟩
        rw [← hw6] at HL6 HV6 HA6 HB6 HQ6 HO6
        have HCQ : Hid (cnt (A / v) ≤ p1) := by
          rw [HP1.out]
          exact cnt_le (Nat.div_lt_of_lt_mul HLT.out)
        go_wp2_with fail
        rw [← hw6]
        clear hw6
        refine reg_last A v p1 cc w w6 (by omega) hp1b HCQ HVP HL6 HV6 HA6 HB6 HQ6 HO6 _ _ _ _ _ _ _ _ _ _ _ _ _ _ _ _ _ _ _ _ _ _ _ _ _ _ _ _ _ _ _ _ _ _ _ _ _ _ _ ?_
        intro W u35 u36 u37 u38 u39 u40 u41 hz1 hz2 ho
        go_wp2_with fail
        simp only [Exit.jump]
        exact bodyPost_ret (ret_sz2 Try.results63 _ _ rfl rfl hz1 hz2) rfl ⟨rfl, ho⟩
      · obtain ⟨p', rfl⟩ : ∃ p', p = p' + 1 := ⟨p - 1, by omega⟩
        have dp : decide ((0 : Int) < ((p' + 1 : Nat) : Int)) = true := decide_eq_true (by omega)
        have ep : ((p' + 1 : Nat) : Int) - 1 = (p' : Int) := by omega
        have HI2 : Hid (LgI A v p0 m p' L' q') := HN.out.next rfl
        go_wp2_with fail
        go_step3; exact ⟨rfl, p', L', q', _, _, _, _, _, _, _, _, _, _, _, _, _, _, _, _, _, _, _, _, _, _, _, _, _, _, _, _, _, _, _, _, ⟨HI2, by omega, HL6, HV6, HA6, HB6, HQ6, HO6⟩, rfl⟩
  · rintro a' w1 ⟨p, L, qn, hJ⟩
    obtain ⟨u10, hJ⟩ := hJ
    obtain ⟨u11, hJ⟩ := hJ
    obtain ⟨u12, hJ⟩ := hJ
    obtain ⟨u13, hJ⟩ := hJ
    obtain ⟨u14, hJ⟩ := hJ
    obtain ⟨u15, hJ⟩ := hJ
    obtain ⟨u16, hJ⟩ := hJ
    obtain ⟨u17, hJ⟩ := hJ
    obtain ⟨u18, hJ⟩ := hJ
    obtain ⟨u19, hJ⟩ := hJ
    obtain ⟨u20, hJ⟩ := hJ
    obtain ⟨u21, hJ⟩ := hJ
    obtain ⟨u22, hJ⟩ := hJ
    obtain ⟨u23, hJ⟩ := hJ
    obtain ⟨u24, hJ⟩ := hJ
    obtain ⟨u25, hJ⟩ := hJ
    obtain ⟨u26, hJ⟩ := hJ
    obtain ⟨u27, hJ⟩ := hJ
    obtain ⟨u28, hJ⟩ := hJ
    obtain ⟨u29, hJ⟩ := hJ
    obtain ⟨u30, hJ⟩ := hJ
    obtain ⟨u31, hJ⟩ := hJ
    obtain ⟨u32, hJ⟩ := hJ
    obtain ⟨u33, hJ⟩ := hJ
    obtain ⟨u34, hJ⟩ := hJ
    obtain ⟨u35, hJ⟩ := hJ
    obtain ⟨u36, hJ⟩ := hJ
    obtain ⟨u37, hJ⟩ := hJ
    obtain ⟨u38, hJ⟩ := hJ
    obtain ⟨u39, hJ⟩ := hJ
    obtain ⟨u40, hJ⟩ := hJ
    obtain ⟨u41, hJ⟩ := hJ
    obtain ⟨⟨HI, hpp, HL1, HV1, HA1, HB1, HQ1, HO1⟩, ha⟩ := hJ
    subst ha
    clear ep1
    have hpb : p + m + 2 ≤ 79 := by omega
    go_wp2_with (first | ((with_reducible refine load_sz HL1.out ?_ ?_); exact rfl; simp only [Act.put, List.setIfInBounds_toArray, List.set_cons_succ, List.set_cons_zero]) | ((with_reducible refine load_sz HV1.out ?_ ?_); exact rfl; simp only [Act.put, List.setIfInBounds_toArray, List.set_cons_succ, List.set_cons_zero]))
    refine (guess_sz L v p m cc _ HI.out.long HC.out hpb).mono ?_
    rintro e w4 ⟨d, rfl, hd1, hd2, hd3, g4⟩
    have HL4 : Hid (Sz w4 w.heap.size (pad L) cc) := HL1.out.old g4
    have HV4 : Hid (Sz w4 (w.heap.size + 1) (pad v) (cnt v)) := HV1.out.old g4
    have HA4 : Hid (Sz w4 (w.heap.size + 1 + 1) (ext []) 0) := HA1.out.old g4
    have HB4 : Hid (Sz w4 (w.heap.size + 1 + 1 + 1) (ext []) 0) := HB1.out.old g4
    have HQ4 : Hid (Sz w4 (w.heap.size + 1 + 1 + 1 + 1) (pad qn) 0) := HQ1.out.old g4
    have HO4 : Hid (Old w w4) := Old.trans HO1.out g4
    have HD1 : Hid (L / (v * LB ^ p) ≤ d) := hd1
    have HD2 : Hid (d ≤ L / (v * LB ^ p) + 1) := hd2
    clear g4 HL1 HV1 HA1 HB1 HQ1 HO1 hd1 hd2
    have HLB : Hid (L < LB ^ (p + cnt v + 1)) := by
      have e : p + cnt v + 1 = p + m + 3 := by omega
      rw [e]
      exact HI.out.long.big
    obtain ⟨T, hT⟩ : ∃ T : Int, T = (L : Int) - (d : Int) * ((LB ^ p * v : Nat) : Int) := ⟨_, rfl⟩
    have HT : Hid (T = (L : Int) - (d : Int) * ((LB ^ p * v : Nat) : Int)) := hT
    clear hT
    by_cases hT0 : 0 ≤ T
    · have HDQ : Hid (d = L / (v * LB ^ p)) := dig_yes HI.out.long HD1.out HD2.out (by rw [← HT.out]; exact hT0)
      have HTM : Hid ((T % ((LB ^ (p + cnt v + 1) : Nat) : Int)).toNat = L - L / (v * LB ^ p) * (v * LB ^ p)) := by rw [HT.out, HDQ.out]; exact take_yes HI.out.long HLB.out
      have dT : decide (0 ≤ T) = true := decide_eq_true hT0
      go_wp2_with ((with_reducible refine load_sz HV4.out ?_ ?_); exact rfl; simp only [Act.put, List.setIfInBounds_toArray, List.set_cons_succ, List.set_cons_zero])
      refine (take_sz L v p (w.heap.size) cc (d : Int) T _ HL4.out HLB.out (by omega) (by omega) (by omega) HT.out).mono ?_
      rw [dT, HTM.out]
      rintro e w5 ⟨rfl, z5, b5⟩
      have HL5 : Hid (Sz w5 w.heap.size (pad (L - L / (v * LB ^ p) * (v * LB ^ p))) cc) := z5
      have HV5 : Hid (Sz w5 (w.heap.size + 1) (pad v) (cnt v)) := HV4.out.but b5 (by omega)
      have HA5 : Hid (Sz w5 (w.heap.size + 1 + 1) (ext []) 0) := HA4.out.but b5 (by omega)
      have HB5 : Hid (Sz w5 (w.heap.size + 1 + 1 + 1) (ext []) 0) := HB4.out.but b5 (by omega)
      have HQ5 : Hid (Sz w5 (w.heap.size + 1 + 1 + 1 + 1) (pad qn) 0) := HQ4.out.but b5 (by omega)
      have HO5 : Hid (Old w w5) := b5.old HO4.out (by omega)
      clear z5 b5 HL4 HV4 HA4 HB4 HQ4 HO4
      have HN : Hid (LgN A v p0 m p (L - L / (v * LB ^ p) * (v * LB ^ p)) (qn + LB ^ p * d)) := by rw [HDQ.out]; exact HI.out.step hcA
      have hdl : d < 268435456 := by rw [HDQ.out]; exact HI.out.long.q_lt
      have HSET : Hid ((pad qn).set p d = pad (qn + LB ^ p * d)) := set_pad HI.out.zero hdl (by omega) HI.out.qlen
      clear HI HLB HD1 HD2
      obtain ⟨L', hL'⟩ : ∃ L', L - L / (v * LB ^ p) * (v * LB ^ p) = L' := ⟨_, rfl⟩
      obtain ⟨q', hq'⟩ : ∃ q', qn + LB ^ p * d = q' := ⟨_, rfl⟩
      rw [hL'] at HL5 HN
      rw [hq'] at HN HSET
      clear hL' hq'
      have i1 : (p : Int) < 80 := by omega
      have f1 := HQ5.out.fro p
      have y1 := HQ5.out.at (j := p) (by omega)
      generalize (pad qn).getD p 0 = yy at y1
      have HQ6 : Hid (Sz (w5.setCell ⟨w.heap.size + 1 + 1 + 1 + 1, p, none⟩ (.int .i64 (d : Int))) (w.heap.size + 1 + 1 + 1 + 1) (pad q') 0) := by
        have := HQ5.out.set (j := p) (by omega) d
        rw [HSET.out] at this
        exact this
      have HL6 : Hid (Sz (w5.setCell ⟨w.heap.size + 1 + 1 + 1 + 1, p, none⟩ (.int .i64 (d : Int))) w.heap.size (pad L') cc) := HL5.out.other _ (by first | (simp; done) | (simp; omega)) _
      have HV6 : Hid (Sz (w5.setCell ⟨w.heap.size + 1 + 1 + 1 + 1, p, none⟩ (.int .i64 (d : Int))) (w.heap.size + 1) (pad v) (cnt v)) := HV5.out.other _ (by first | (simp; done) | (simp; omega)) _
      have HA6 : Hid (Sz (w5.setCell ⟨w.heap.size + 1 + 1 + 1 + 1, p, none⟩ (.int .i64 (d : Int))) (w.heap.size + 1 + 1) (ext []) 0) := HA5.out.other _ (by first | (simp; done) | (simp; omega)) _
      have HB6 : Hid (Sz (w5.setCell ⟨w.heap.size + 1 + 1 + 1 + 1, p, none⟩ (.int .i64 (d : Int))) (w.heap.size + 1 + 1 + 1) (ext []) 0) := HB5.out.other _ (by first | (simp; done) | (simp; omega)) _
      have HO6 : Hid (Old w (w5.setCell ⟨w.heap.size + 1 + 1 + 1 + 1, p, none⟩ (.int .i64 (d : Int)))) := HO5.out.own (by simp; omega) _
      clear HL5 HV5 HA5 HB5 HQ5 HO5 HSET
      by_cases hp0 : p = 0
      · subst hp0
        have dp : decide ((0 : Int) < ((0 : Nat) : Int)) = false := by simp
        obtain ⟨hq1, hl1⟩ := HN.out.last rfl
        subst hq1
        subst hl1
        obtain ⟨w6, hw6⟩ : ∃ W, W = w5.setCell ⟨w.heap.size + 1 + 1 + 1 + 1, 0, none⟩ (.int .i64 (d : Int)) := ⟨_, rfl⟩
        rw [← hw6] at HL6 HV6 HA6 HB6 HQ6 HO6
        have HCQ : Hid (cnt (A / v) ≤ p1) := by
          rw [HP1.out]
          exact cnt_le (Nat.div_lt_of_lt_mul HLT.out)
        go_wp2_with fail
        rw [← hw6]
        clear hw6
        refine reg_last A v p1 cc w w6 (by omega) hp1b HCQ HVP HL6 HV6 HA6 HB6 HQ6 HO6 _ _ _ _ _ _ _ _ _ _ _ _ _ _ _ _ _ _ _ _ _ _ _ _ _ _ _ _ _ _ _ _ _ _ _ _ _ _ _ ?_
        intro W u35 u36 u37 u38 u39 u40 u41 hz1 hz2 ho
        go_wp2_with fail
        simp only [Exit.jump]
        exact bodyPost_ret (ret_sz2 Try.results63 _ _ rfl rfl hz1 hz2) rfl ⟨rfl, ho⟩
      · obtain ⟨p', rfl⟩ : ∃ p', p = p' + 1 := ⟨p - 1, by omega⟩
        have dp : decide ((0 : Int) < ((p' + 1 : Nat) : Int)) = true := decide_eq_true (by omega)
        have ep : ((p' + 1 : Nat) : Int) - 1 = (p' : Int) := by omega
        have HI2 : Hid (LgI A v p0 m p' L' q') := HN.out.next rfl
        go_wp2_with fail
        go_step3; exact ⟨rfl, ⟨p', L', q', _, _, _, _, _, _, _, _, _, _, _, _, _, _, _, _, _, _, _, _, _, _, _, _, _, _, _, _, _, _, _, _, ⟨HI2, by omega, HL6, HV6, HA6, HB6, HQ6, HO6⟩, rfl⟩, by simp [intOf]⟩
    · have HDQ : Hid (d = L / (v * LB ^ p) + 1) := dig_no HI.out.long HD1.out HD2.out (by rw [← HT.out]; exact hT0)
      obtain ⟨M2, hM2⟩ : ∃ M2, (T % ((LB ^ (p + cnt v + 1) : Nat) : Int)).toNat = M2 := ⟨_, rfl⟩
      obtain ⟨hM2b, hM2c⟩ : M2 < LB ^ (p + cnt v + 1) ∧ (((M2 : Int) - (-1) * ((LB ^ p * v : Nat) : Int)) % ((LB ^ (p + cnt v + 1) : Nat) : Int)).toNat = L - L / (v * LB ^ p) * (v * LB ^ p) := by rw [← hM2, HT.out, HDQ.out]; exact take_no HI.out.long HLB.out (by rw [HC.out])
      have HM2b : Hid (M2 < LB ^ (p + cnt v + 1)) := hM2b
      have HM2c : Hid ((((M2 : Int) - (-1) * ((LB ^ p * v : Nat) : Int)) % ((LB ^ (p + cnt v + 1) : Nat) : Int)).toNat = L - L / (v * LB ^ p) * (v * LB ^ p)) := hM2c
      have HM2 : Hid ((T % ((LB ^ (p + cnt v + 1) : Nat) : Int)).toNat = M2) := hM2
      clear hM2 hM2b hM2c
      have dT : decide (0 ≤ T) = false := decide_eq_false hT0
      go_wp2_with ((with_reducible refine load_sz HV4.out ?_ ?_); exact rfl; simp only [Act.put, List.setIfInBounds_toArray, List.set_cons_succ, List.set_cons_zero])
      refine (take_sz L v p (w.heap.size) cc (d : Int) T _ HL4.out HLB.out (by omega) (by omega) (by omega) HT.out).mono ?_
      rw [dT, HM2.out]
      rintro e w6 ⟨rfl, z5, b5⟩
      have HL4b : Hid (Sz w6 w.heap.size (pad M2) cc) := z5
      have HV4b : Hid (Sz w6 (w.heap.size + 1) (pad v) (cnt v)) := HV4.out.but b5 (by omega)
      have HA4b : Hid (Sz w6 (w.heap.size + 1 + 1) (ext []) 0) := HA4.out.but b5 (by omega)
      have HB4b : Hid (Sz w6 (w.heap.size + 1 + 1 + 1) (ext []) 0) := HB4.out.but b5 (by omega)
      have HQ4b : Hid (Sz w6 (w.heap.size + 1 + 1 + 1 + 1) (pad qn) 0) := HQ4.out.but b5 (by omega)
      have HO4b : Hid (Old w w6) := b5.old HO4.out (by omega)
      clear z5 b5 HL4 HV4 HA4 HB4 HQ4 HO4 dT
      obtain ⟨d', hd'⟩ : ∃ d', d = d' + 1 := ⟨L / (v * LB ^ p), HDQ.out⟩
      have ed : (d : Int) - 1 = (d' : Int) := by omega
      have HDQ' : Hid (d' = L / (v * LB ^ p)) := Nat.add_right_cancel (hd'.symm.trans HDQ.out)
      clear hd'
      go_wp2_with (first | ((with_reducible refine load_sz HV4b.out ?_ ?_); exact rfl; simp only [Act.put, List.setIfInBounds_toArray, List.set_cons_succ, List.set_cons_zero]))
      refine (take_sz M2 v p (w.heap.size) cc (-1) ((M2 : Int) - (-1) * ((LB ^ p * v : Nat) : Int)) _ HL4b.out HM2b.out (by omega) (by omega) (by omega) rfl).mono ?_
      rw [HM2c.out]
      rintro e w5 ⟨rfl, z5, b5⟩
      have HL5 : Hid (Sz w5 w.heap.size (pad (L - L / (v * LB ^ p) * (v * LB ^ p))) cc) := z5
      have HV5 : Hid (Sz w5 (w.heap.size + 1) (pad v) (cnt v)) := HV4b.out.but b5 (by omega)
      have HA5 : Hid (Sz w5 (w.heap.size + 1 + 1) (ext []) 0) := HA4b.out.but b5 (by omega)
      have HB5 : Hid (Sz w5 (w.heap.size + 1 + 1 + 1) (ext []) 0) := HB4b.out.but b5 (by omega)
      have HQ5 : Hid (Sz w5 (w.heap.size + 1 + 1 + 1 + 1) (pad qn) 0) := HQ4b.out.but b5 (by omega)
      have HO5 : Hid (Old w w5) := b5.old HO4b.out (by omega)
      clear z5 b5 HL4b HV4b HA4b HB4b HQ4b HO4b
      have HN : Hid (LgN A v p0 m p (L - L / (v * LB ^ p) * (v * LB ^ p)) (qn + LB ^ p * d')) := by rw [HDQ'.out]; exact HI.out.step hcA
      have hdl : d' < 268435456 := by rw [HDQ'.out]; exact HI.out.long.q_lt
      have HSET : Hid ((pad qn).set p d' = pad (qn + LB ^ p * d')) := set_pad HI.out.zero hdl (by omega) HI.out.qlen
      clear HI HLB HD1 HD2
      obtain ⟨L', hL'⟩ : ∃ L', L - L / (v * LB ^ p) * (v * LB ^ p) = L' := ⟨_, rfl⟩
      obtain ⟨q', hq'⟩ : ∃ q', qn + LB ^ p * d' = q' := ⟨_, rfl⟩
      rw [hL'] at HL5 HN
      rw [hq'] at HN HSET
      clear hL' hq'
      have i1 : (p : Int) < 80 := by omega
      have f1 := HQ5.out.fro p
      have y1 := HQ5.out.at (j := p) (by omega)
      generalize (pad qn).getD p 0 = yy at y1
      have HQ6 : Hid (Sz (w5.setCell ⟨w.heap.size + 1 + 1 + 1 + 1, p, none⟩ (.int .i64 (d' : Int))) (w.heap.size + 1 + 1 + 1 + 1) (pad q') 0) := by
        have := HQ5.out.set (j := p) (by omega) d'
        rw [HSET.out] at this
        exact this
      have HL6 : Hid (Sz (w5.setCell ⟨w.heap.size + 1 + 1 + 1 + 1, p, none⟩ (.int .i64 (d' : Int))) w.heap.size (pad L') cc) := HL5.out.other _ (by first | (simp; done) | (simp; omega)) _
      have HV6 : Hid (Sz (w5.setCell ⟨w.heap.size + 1 + 1 + 1 + 1, p, none⟩ (.int .i64 (d' : Int))) (w.heap.size + 1) (pad v) (cnt v)) := HV5.out.other _ (by first | (simp; done) | (simp; omega)) _
      have HA6 : Hid (Sz (w5.setCell ⟨w.heap.size + 1 + 1 + 1 + 1, p, none⟩ (.int .i64 (d' : Int))) (w.heap.size + 1 + 1) (ext []) 0) := HA5.out.other _ (by first | (simp; done) | (simp; omega)) _
      have HB6 : Hid (Sz (w5.setCell ⟨w.heap.size + 1 + 1 + 1 + 1, p, none⟩ (.int .i64 (d' : Int))) (w.heap.size + 1 + 1 + 1) (ext []) 0) := HB5.out.other _ (by first | (simp; done) | (simp; omega)) _
      have HO6 : Hid (Old w (w5.setCell ⟨w.heap.size + 1 + 1 + 1 + 1, p, none⟩ (.int .i64 (d' : Int)))) := HO5.out.own (by simp; omega) _
      clear HL5 HV5 HA5 HB5 HQ5 HO5 HSET
      by_cases hp0 : p = 0
      · subst hp0
        have dp : decide ((0 : Int) < ((0 : Nat) : Int)) = false := by simp
        obtain ⟨hq1, hl1⟩ := HN.out.last rfl
        subst hq1
        subst hl1
        obtain ⟨w6, hw6⟩ : ∃ W, W = w5.setCell ⟨w.heap.size + 1 + 1 + 1 + 1, 0, none⟩ (.int .i64 (d' : Int)) := ⟨_, rfl⟩
        rw [← hw6] at HL6 HV6 HA6 HB6 HQ6 HO6
        have HCQ : Hid (cnt (A / v) ≤ p1) := by
          rw [HP1.out]
          exact cnt_le (Nat.div_lt_of_lt_mul HLT.out)
        go_wp2_with fail
        rw [← hw6]
        clear hw6
        refine reg_last A v p1 cc w w6 (by omega) hp1b HCQ HVP HL6 HV6 HA6 HB6 HQ6 HO6 _ _ _ _ _ _ _ _ _ _ _ _ _ _ _ _ _ _ _ _ _ _ _ _ _ _ _ _ _ _ _ _ _ _ _ _ _ _ _ ?_
        intro W u35 u36 u37 u38 u39 u40 u41 hz1 hz2 ho
        go_wp2_with fail
        simp only [Exit.jump]
        exact bodyPost_ret (ret_sz2 Try.results63 _ _ rfl rfl hz1 hz2) rfl ⟨rfl, ho⟩
      · obtain ⟨p', rfl⟩ : ∃ p', p = p' + 1 := ⟨p - 1, by omega⟩
        have dp : decide ((0 : Int) < ((p' + 1 : Nat) : Int)) = true := decide_eq_true (by omega)
        have ep : ((p' + 1 : Nat) : Int) - 1 = (p' : Int) := by omega
        have HI2 : Hid (LgI A v p0 m p' L' q') := HN.out.next rfl
        go_wp2_with fail
        go_step3; exact ⟨rfl, ⟨p', L', q', _, _, _, _, _, _, _, _, _, _, _, _, _, _, _, _, _, _, _, _, _, _, _, _, _, _, _, _, _, _, _, _, ⟨HI2, by omega, HL6, HV6, HA6, HB6, HQ6, HO6⟩, rfl⟩, by simp [intOf]⟩
end Go.Proofs.Ytimmcijoebmaiaa
/- Proved: RoundWholes of the program, by what it calls. -/
namespace Go.Proofs.Ytimmcijoebmaiaa
open Go.ChangeShapes Go.WideShapes Go.ChangeAt Go.RowKit
open M2
set_option linter.unusedVariables false
set_option linter.unusedSimpArgs false
theorem cell_otherR (W : World) (p : Addr) (v : Value) (q : Addr) (h : q.block ≠ p.block) : (W.setCell p v).cell? q = W.cell? q := World.cell?_of_block (heap_setCell_other W p q.block v h)
set_option maxRecDepth 100000 in
set_option maxHeartbeats 8000000 in
theorem impl_round_near (n m bq : Bool) (xs ys zq zr : List Int) (c0 c1 : Option Addr) (cap0 cap1 : Nat) (la lb lc : List Nat) (na nb nc : Nat) (w : World) (hv : Row w (.slice c0 xs.length cap0) xs) (hu : Row w (.slice c1 ys.length cap1) ys) (cd : ∀ W, Row W (.slice c0 xs.length cap0) xs → Row W (.slice c1 ys.length cap1) ys → Calls Try.prog 19 #[.agg #[.bool n, .slice c0 xs.length cap0], .agg #[.bool m, .slice c1 ys.length cap1]] W fun e w' => ∃ v1 v2, e = .returned (.tuple #[.agg #[.bool bq, v1], .agg #[.bool false, v2], .bool true]) ∧ Old W w' ∧ Own w' W.heap.size v1 zq ∧ Own w' W.heap.size v2 zr)
    (HLB : Hid (lb.length = 80))
    (csr : ∀ a k W, Row W (.slice a zr.length k) zr → Calls Try.prog 21 #[.agg #[.bool false, .slice a zr.length k]] W fun e w' => e = .returned (.agg (szA la na)) ∧ Old W w')
    (csc : ∀ W, Calls Try.prog 20 #[.agg (szA la na), .int .i64 2, .int .i64 0] W fun e w' => e = .returned (.agg (szA lb nb)) ∧ Old W w')
    (csy : ∀ W, Row W (.slice c1 ys.length cap1) ys → Calls Try.prog 21 #[.agg #[.bool m, .slice c1 ys.length cap1]] W fun e w' => e = .returned (.agg (szA lc nc)) ∧ Old W w')
    (z : Int) (ccm : ∀ W, Calls Try.prog 22 #[.agg (szA lb nb), .agg (szA lc nc)] W fun e w' => e = .returned (.int .i64 z) ∧ Old W w') (hz : z < 0)
    : Calls Try.prog 6 #[.agg #[.bool n, .slice c0 xs.length cap0], .agg #[.bool m, .slice c1 ys.length cap1]] w fun e w' => ∃ v', e = .returned (.tuple #[.agg #[.bool bq, v'], .bool true]) ∧ Old w w' ∧ Own w' w.heap.size v' zq := by
  have HV : Hid (Row w (.slice c0 xs.length cap0) xs) := hv
  have HU : Hid (Row w (.slice c1 ys.length cap1) ys) := hu
  have HG0 : Hid (Old w (((w.alloc (.cells #[.bool n, .slice c0 xs.length cap0] 25)).alloc (.cells #[.bool m, .slice c1 ys.length cap1] 25)).alloc (.cells #[.bool false, .slice none 0 0] 25))) := (((Old.refl w).alloc _).alloc _).alloc _
  have SB0 : Hid (StW (((w.alloc (.cells #[.bool n, .slice c0 xs.length cap0] 25)).alloc (.cells #[.bool m, .slice c1 ys.length cap1] 25)).alloc (.cells #[.bool false, .slice none 0 0] 25)) (w.heap.size + 1) (.bool m) (.slice c1 ys.length cap1) 25) := (StW.at2 w _ _ _ _ _ _).old ((Old.refl _).alloc _)
  have SC0 : Hid (StW (((w.alloc (.cells #[.bool n, .slice c0 xs.length cap0] 25)).alloc (.cells #[.bool m, .slice c1 ys.length cap1] 25)).alloc (.cells #[.bool false, .slice none 0 0] 25)) (w.heap.size + 1 + 1) (.bool false) (.slice none 0 0) 25) := by
    have h := StW.new ((w.alloc (.cells #[.bool n, .slice c0 xs.length cap0] 25)).alloc (.cells #[.bool m, .slice c1 ys.length cap1] 25)) (.bool false) (.slice none 0 0) 25
    rw [show ((w.alloc (.cells #[.bool n, .slice c0 xs.length cap0] 25)).alloc (.cells #[.bool m, .slice c1 ys.length cap1] 25)).heap.size = w.heap.size + 1 + 1 by simp] at h
    exact h
  clear hv hu
  go_enter Try.func6, Try.ntmps6
  go_wp2_with fail
  refine (cd _ (HV.out.old HG0.out) (HU.out.old HG0.out)).mono ?_
  rintro e w1 ⟨v1, v2, rfl, g1, o1, o2⟩
  obtain ⟨a1, k1, rfl⟩ := (Own.row o1).slice
  obtain ⟨a2, k2, rfl⟩ := (Own.row o2).slice
  have SB1 : Hid (StW w1 (w.heap.size + 1) (.bool m) (.slice c1 ys.length cap1) 25) := SB0.out.old g1
  have SC1 : Hid (StW w1 (w.heap.size + 1 + 1) (.bool false) (.slice none 0 0) 25) := SC0.out.old g1
  have HG1 : Hid (Old w w1) := Old.trans HG0.out g1
  have hs1 : w.heap.size + 1 + 1 < w1.heap.size := SC1.out.lt
  have O1 : Hid (Own w1 (w.heap.size + 1 + 1 + 1) (.slice a1 zq.length k1) zq) := by
    have h := o1
    simp only [World.alloc, Array.size_push] at h
    exact h
  have R2 : Hid (Row w1 (.slice a2 zr.length k2) zr) := Own.row o2
  clear g1 o1 o2 SB0 SC0 HG0 cd
  have X2 : Hid (Old w1 ((w1.alloc (.cells #[.bool bq, .slice a1 zq.length k1] 25)).alloc (.cells #[.bool false, .slice a2 zr.length k2] 25))) := ((Old.refl w1).alloc _).alloc _
  have SQ2 : Hid (StW ((w1.alloc (.cells #[.bool bq, .slice a1 zq.length k1] 25)).alloc (.cells #[.bool false, .slice a2 zr.length k2] 25)) w1.heap.size (.bool bq) (.slice a1 zq.length k1) 25) := StW.at1 w1 _ _ _ _ _ _
  go_wp2_with fail
  refine (csr a2 k2 _ (R2.out.old X2.out)).mono ?_
  rintro e w2 ⟨rfl, g2⟩
  have G2 : Hid (Old w1 w2) := Old.trans X2.out g2
  have SQ3 : Hid (StW w2 w1.heap.size (.bool bq) (.slice a1 zq.length k1) 25) := SQ2.out.old g2
  clear g2 X2 SQ2
  go_wp2_with fail
  refine (csc _).mono ?_
  rintro e w3 ⟨rfl, g3⟩
  have G3 : Hid (Old w1 w3) := Old.trans G2.out g3
  have SQ4 : Hid (StW w3 w1.heap.size (.bool bq) (.slice a1 zq.length k1) 25) := SQ3.out.old g3
  clear g3 G2 SQ3
  have HZ : Hid (Sz (w3.alloc (.cells Try.zeroCells45 45)) w3.heap.size (ext []) 0) := Sz.zero _ _ rfl
  have g4 : Old w3 ((w3.alloc (.cells Try.zeroCells45 45)).setRow w3.heap.size (szA lb nb)) := ((Old.refl w3).alloc _).row (Nat.le_refl _) _
  have HB4 : Hid (Sz ((w3.alloc (.cells Try.zeroCells45 45)).setRow w3.heap.size (szA lb nb)) w3.heap.size lb nb) := HZ.out.row lb nb HLB.out
  have h4 : ∃ w4, w4 = ((w3.alloc (.cells Try.zeroCells45 45)).setRow w3.heap.size (szA lb nb)) := ⟨_, rfl⟩
  obtain ⟨w4, e4⟩ := h4
  rw [← e4] at g4 HB4
  have E4 : Hid (w4 = ((w3.alloc (.cells Try.zeroCells45 45)).setRow w3.heap.size (szA lb nb))) := e4
  have G4 : Hid (Old w1 w4) := Old.trans G3.out g4
  have SQ5 : Hid (StW w4 w1.heap.size (.bool bq) (.slice a1 zq.length k1) 25) := SQ4.out.old g4
  clear e4 g4 SQ4
  go_wp2_with ((with_reducible refine store_sz HZ.out lb nb HLB.out ?_ ?_ ?_); exact rfl; exact rfl; simp only [Act.put])
  rw [← E4.out]
  clear E4 HZ G3
  have SB4 : Hid (StW w4 (w.heap.size + 1) (.bool m) (.slice c1 ys.length cap1) 25) := SB1.out.old G4.out
  have HAS : Hid (∀ W' : World, Old w4 W' → (W'.heap[w3.heap.size]? = some (.cells (szA lb nb) 45 (0, 0)) ∧ W'.cell? ⟨w.heap.size + 1, 0, none⟩ = some (.bool m) ∧ W'.cell? ⟨w.heap.size + 1, 1, none⟩ = some (.slice c1 ys.length cap1))) := fun W' g => ⟨(HB4.out.old g).blk, (SB4.out.old g).c0, (SB4.out.old g).c1⟩
  obtain ⟨N, hN, HN⟩ : ∃ N, (∀ W, Sem.run Try.prog (Go.sizeOf 45) W = .ok N W) ∧ Hid (N = 81) := ⟨81, Try.sizeOf45, rfl⟩
  have hR1 : ∀ W : World, W.heap[w3.heap.size]? = some (.cells (szA lb nb) 45 (0, 0)) → Sem.run Try.prog (loadCellsFrom ⟨w3.heap.size, 0, none⟩ 0 N #[]) W = .ok (szA lb nb) W := fun W h => by rw [HN.out]; exact run_loadCells_sz h (szA_size HLB.out _)
  have hzl : decide (z < 0) = true := decide_eq_true hz
  go_region_held3 (fun W' => W'.heap[w3.heap.size]? = some (.cells (szA lb nb) 45 (0, 0)) ∧ W'.cell? ⟨w.heap.size + 1, 0, none⟩ = some (.bool m) ∧ W'.cell? ⟨w.heap.size + 1, 1, none⟩ = some (.slice c1 ys.length cap1)) (first | with_reducible exact HAS.out _ G6.out | with_reducible exact HAS.out _ G5.out | with_reducible exact HAS.out _ (Below.drew (Old.refl w4)) | with_reducible exact HAS.out _ (Old.refl w4)) (first
    | (go_at_call 21; refine (csy _ (HU.out.old (Old.trans HG1.out (Old.trans G4.out (Below.drew (Old.refl w4)))))).mono ?_; rintro e w5 ⟨rfl, g5⟩; have G5 : Hid (Old w4 w5) := Old.trans (Below.drew (Old.refl w4)) g5; clear g5)
    | (go_at_call 22; refine (ccm _).mono ?_; rintro e w6 ⟨rfl, g6⟩; have G6 : Hid (Old w4 w6) := Old.trans G5.out g6; clear g6)
    | fail)
  have HG6 : Hid (Old w w6) := Old.trans HG1.out (Old.trans G4.out G6.out)
  have SQ6 : Hid (StW w6 w1.heap.size (.bool bq) (.slice a1 zq.length k1) 25) := SQ5.out.old G6.out
  have SC6 : Hid (StW w6 (w.heap.size + 1 + 1) (.bool false) (.slice none 0 0) 25) := SC1.out.old (Old.trans G4.out G6.out)
  have O6 : Hid (Own w6 (w.heap.size + 1 + 1 + 1) (.slice a1 zq.length k1) zq) := O1.out.old (Old.trans G4.out G6.out)
  clear hR1 hN HN HAS SB4 G4 SQ5 G5 G6 HB4
  have q0 := SQ6.out.c0
  have q1 := SQ6.out.c1
  have t0 := SC6.out.c0
  have t1 := SC6.out.c1
  have f0 := SC6.out.f0
  have f1 := SC6.out.f1
  go_wp2_with fail
  refine bodyPost_ret (v := .tuple #[.agg #[.bool bq, .slice a1 zq.length k1], .bool true]) (by simp [results, Try.results6, go_sem, t0, t1]) rfl ⟨_, rfl, ?_, ?_⟩
  · exact (HG6.out.own (p := ⟨w.heap.size + 1 + 1, 0, none⟩) (by simp; omega) _).own (p := ⟨w.heap.size + 1 + 1, 1, none⟩) (by simp; omega) _
  · exact Own.low (own_set2 O6.out (by omega) _ _) (by omega)
set_option maxRecDepth 100000 in
set_option maxHeartbeats 8000000 in
theorem impl_round_up (n m bq : Bool) (xs ys zq zr : List Int) (c0 c1 : Option Addr) (cap0 cap1 : Nat) (la lb lc : List Nat) (na nb nc : Nat) (w : World) (hv : Row w (.slice c0 xs.length cap0) xs) (hu : Row w (.slice c1 ys.length cap1) ys) (cd : ∀ W, Row W (.slice c0 xs.length cap0) xs → Row W (.slice c1 ys.length cap1) ys → Calls Try.prog 19 #[.agg #[.bool n, .slice c0 xs.length cap0], .agg #[.bool m, .slice c1 ys.length cap1]] W fun e w' => ∃ v1 v2, e = .returned (.tuple #[.agg #[.bool bq, v1], .agg #[.bool false, v2], .bool true]) ∧ Old W w' ∧ Own w' W.heap.size v1 zq ∧ Own w' W.heap.size v2 zr)
    (HLB : Hid (lb.length = 80))
    (csr : ∀ a k W, Row W (.slice a zr.length k) zr → Calls Try.prog 21 #[.agg #[.bool false, .slice a zr.length k]] W fun e w' => e = .returned (.agg (szA la na)) ∧ Old W w')
    (csc : ∀ W, Calls Try.prog 20 #[.agg (szA la na), .int .i64 2, .int .i64 0] W fun e w' => e = .returned (.agg (szA lb nb)) ∧ Old W w')
    (csy : ∀ W, Row W (.slice c1 ys.length cap1) ys → Calls Try.prog 21 #[.agg #[.bool m, .slice c1 ys.length cap1]] W fun e w' => e = .returned (.agg (szA lc nc)) ∧ Old W w')
    (z : Int) (ccm : ∀ W, Calls Try.prog 22 #[.agg (szA lb nb), .agg (szA lc nc)] W fun e w' => e = .returned (.int .i64 z) ∧ Old W w')
    (hz : ¬ z < 0) (zo zs : List Int) (rb ro : Bool) (cwo : ∀ W, Calls Try.prog 24 #[.int .i64 1] W fun e w' => ∃ v, e = .returned (.agg #[.bool false, v]) ∧ Old W w' ∧ Own w' W.heap.size v zo)
    (cad : ∀ v u W, Row W v zq → Row W u zo → Calls Try.prog 23 #[.agg #[.bool bq, v], .agg #[.bool false, u]] W fun e w' => ∃ v', e = .returned (.tuple #[.agg #[.bool rb, v'], .bool ro]) ∧ Old W w' ∧ Own w' W.heap.size v' zs)
    : Calls Try.prog 6 #[.agg #[.bool n, .slice c0 xs.length cap0], .agg #[.bool m, .slice c1 ys.length cap1]] w fun e w' => ∃ v', e = .returned (.tuple #[.agg #[.bool rb, v'], .bool ro]) ∧ Old w w' ∧ Own w' w.heap.size v' zs := by
  have HV : Hid (Row w (.slice c0 xs.length cap0) xs) := hv
  have HU : Hid (Row w (.slice c1 ys.length cap1) ys) := hu
  have HG0 : Hid (Old w (((w.alloc (.cells #[.bool n, .slice c0 xs.length cap0] 25)).alloc (.cells #[.bool m, .slice c1 ys.length cap1] 25)).alloc (.cells #[.bool false, .slice none 0 0] 25))) := (((Old.refl w).alloc _).alloc _).alloc _
  have SB0 : Hid (StW (((w.alloc (.cells #[.bool n, .slice c0 xs.length cap0] 25)).alloc (.cells #[.bool m, .slice c1 ys.length cap1] 25)).alloc (.cells #[.bool false, .slice none 0 0] 25)) (w.heap.size + 1) (.bool m) (.slice c1 ys.length cap1) 25) := (StW.at2 w _ _ _ _ _ _).old ((Old.refl _).alloc _)
  have SC0 : Hid (StW (((w.alloc (.cells #[.bool n, .slice c0 xs.length cap0] 25)).alloc (.cells #[.bool m, .slice c1 ys.length cap1] 25)).alloc (.cells #[.bool false, .slice none 0 0] 25)) (w.heap.size + 1 + 1) (.bool false) (.slice none 0 0) 25) := by
    have h := StW.new ((w.alloc (.cells #[.bool n, .slice c0 xs.length cap0] 25)).alloc (.cells #[.bool m, .slice c1 ys.length cap1] 25)) (.bool false) (.slice none 0 0) 25
    rw [show ((w.alloc (.cells #[.bool n, .slice c0 xs.length cap0] 25)).alloc (.cells #[.bool m, .slice c1 ys.length cap1] 25)).heap.size = w.heap.size + 1 + 1 by simp] at h
    exact h
  clear hv hu
  go_enter Try.func6, Try.ntmps6
  go_wp2_with fail
  refine (cd _ (HV.out.old HG0.out) (HU.out.old HG0.out)).mono ?_
  rintro e w1 ⟨v1, v2, rfl, g1, o1, o2⟩
  obtain ⟨a1, k1, rfl⟩ := (Own.row o1).slice
  obtain ⟨a2, k2, rfl⟩ := (Own.row o2).slice
  have SB1 : Hid (StW w1 (w.heap.size + 1) (.bool m) (.slice c1 ys.length cap1) 25) := SB0.out.old g1
  have SC1 : Hid (StW w1 (w.heap.size + 1 + 1) (.bool false) (.slice none 0 0) 25) := SC0.out.old g1
  have HG1 : Hid (Old w w1) := Old.trans HG0.out g1
  have hs1 : w.heap.size + 1 + 1 < w1.heap.size := SC1.out.lt
  have O1 : Hid (Own w1 (w.heap.size + 1 + 1 + 1) (.slice a1 zq.length k1) zq) := by
    have h := o1
    simp only [World.alloc, Array.size_push] at h
    exact h
  have R2 : Hid (Row w1 (.slice a2 zr.length k2) zr) := Own.row o2
  clear g1 o1 o2 SB0 SC0 HG0 cd
  have X2 : Hid (Old w1 ((w1.alloc (.cells #[.bool bq, .slice a1 zq.length k1] 25)).alloc (.cells #[.bool false, .slice a2 zr.length k2] 25))) := ((Old.refl w1).alloc _).alloc _
  have SQ2 : Hid (StW ((w1.alloc (.cells #[.bool bq, .slice a1 zq.length k1] 25)).alloc (.cells #[.bool false, .slice a2 zr.length k2] 25)) w1.heap.size (.bool bq) (.slice a1 zq.length k1) 25) := StW.at1 w1 _ _ _ _ _ _
  go_wp2_with fail
  refine (csr a2 k2 _ (R2.out.old X2.out)).mono ?_
  rintro e w2 ⟨rfl, g2⟩
  have G2 : Hid (Old w1 w2) := Old.trans X2.out g2
  have SQ3 : Hid (StW w2 w1.heap.size (.bool bq) (.slice a1 zq.length k1) 25) := SQ2.out.old g2
  clear g2 X2 SQ2
  go_wp2_with fail
  refine (csc _).mono ?_
  rintro e w3 ⟨rfl, g3⟩
  have G3 : Hid (Old w1 w3) := Old.trans G2.out g3
  have SQ4 : Hid (StW w3 w1.heap.size (.bool bq) (.slice a1 zq.length k1) 25) := SQ3.out.old g3
  clear g3 G2 SQ3
  have HZ : Hid (Sz (w3.alloc (.cells Try.zeroCells45 45)) w3.heap.size (ext []) 0) := Sz.zero _ _ rfl
  have g4 : Old w3 ((w3.alloc (.cells Try.zeroCells45 45)).setRow w3.heap.size (szA lb nb)) := ((Old.refl w3).alloc _).row (Nat.le_refl _) _
  have HB4 : Hid (Sz ((w3.alloc (.cells Try.zeroCells45 45)).setRow w3.heap.size (szA lb nb)) w3.heap.size lb nb) := HZ.out.row lb nb HLB.out
  have h4 : ∃ w4, w4 = ((w3.alloc (.cells Try.zeroCells45 45)).setRow w3.heap.size (szA lb nb)) := ⟨_, rfl⟩
  obtain ⟨w4, e4⟩ := h4
  rw [← e4] at g4 HB4
  have E4 : Hid (w4 = ((w3.alloc (.cells Try.zeroCells45 45)).setRow w3.heap.size (szA lb nb))) := e4
  have G4 : Hid (Old w1 w4) := Old.trans G3.out g4
  have SQ5 : Hid (StW w4 w1.heap.size (.bool bq) (.slice a1 zq.length k1) 25) := SQ4.out.old g4
  clear e4 g4 SQ4
  go_wp2_with ((with_reducible refine store_sz HZ.out lb nb HLB.out ?_ ?_ ?_); exact rfl; exact rfl; simp only [Act.put])
  rw [← E4.out]
  clear E4 HZ G3
  have SB4 : Hid (StW w4 (w.heap.size + 1) (.bool m) (.slice c1 ys.length cap1) 25) := SB1.out.old G4.out
  have HAS : Hid (∀ W' : World, Old w4 W' → (W'.heap[w3.heap.size]? = some (.cells (szA lb nb) 45 (0, 0)) ∧ W'.cell? ⟨w.heap.size + 1, 0, none⟩ = some (.bool m) ∧ W'.cell? ⟨w.heap.size + 1, 1, none⟩ = some (.slice c1 ys.length cap1))) := fun W' g => ⟨(HB4.out.old g).blk, (SB4.out.old g).c0, (SB4.out.old g).c1⟩
  obtain ⟨N, hN, HN⟩ : ∃ N, (∀ W, Sem.run Try.prog (Go.sizeOf 45) W = .ok N W) ∧ Hid (N = 81) := ⟨81, Try.sizeOf45, rfl⟩
  have hR1 : ∀ W : World, W.heap[w3.heap.size]? = some (.cells (szA lb nb) 45 (0, 0)) → Sem.run Try.prog (loadCellsFrom ⟨w3.heap.size, 0, none⟩ 0 N #[]) W = .ok (szA lb nb) W := fun W h => by rw [HN.out]; exact run_loadCells_sz h (szA_size HLB.out _)
  have hzl : decide (z < 0) = false := decide_eq_false (by omega)
  go_region_held3 (fun W' => W'.heap[w3.heap.size]? = some (.cells (szA lb nb) 45 (0, 0)) ∧ W'.cell? ⟨w.heap.size + 1, 0, none⟩ = some (.bool m) ∧ W'.cell? ⟨w.heap.size + 1, 1, none⟩ = some (.slice c1 ys.length cap1)) (first | with_reducible exact HAS.out _ G6.out | with_reducible exact HAS.out _ G5.out | with_reducible exact HAS.out _ (Below.drew (Old.refl w4)) | with_reducible exact HAS.out _ (Old.refl w4)) (first
    | (go_at_call 21; refine (csy _ (HU.out.old (Old.trans HG1.out (Old.trans G4.out (Below.drew (Old.refl w4)))))).mono ?_; rintro e w5 ⟨rfl, g5⟩; have G5 : Hid (Old w4 w5) := Old.trans (Below.drew (Old.refl w4)) g5; clear g5)
    | (go_at_call 22; refine (ccm _).mono ?_; rintro e w6 ⟨rfl, g6⟩; have G6 : Hid (Old w4 w6) := Old.trans G5.out g6; clear g6)
    | fail)
  have HG6 : Hid (Old w w6) := Old.trans HG1.out (Old.trans G4.out G6.out)
  have SQ6 : Hid (StW w6 w1.heap.size (.bool bq) (.slice a1 zq.length k1) 25) := SQ5.out.old G6.out
  have SC6 : Hid (StW w6 (w.heap.size + 1 + 1) (.bool false) (.slice none 0 0) 25) := SC1.out.old (Old.trans G4.out G6.out)
  have O6 : Hid (Own w6 (w.heap.size + 1 + 1 + 1) (.slice a1 zq.length k1) zq) := O1.out.old (Old.trans G4.out G6.out)
  clear hR1 hN HN HAS SB4 G4 SQ5 G5 G6 HB4
  have HAS : Hid (∀ W' : World, Old w6 W' → (W'.cell? ⟨w1.heap.size, 0, none⟩ = some (.bool bq) ∧ W'.cell? ⟨w1.heap.size, 1, none⟩ = some (.slice a1 zq.length k1))) := fun W' g => ⟨(SQ6.out.old g).c0, (SQ6.out.old g).c1⟩
  have HKS : Hid (∀ (W' : World) (v0 v1 : Value), (W'.cell? ⟨w1.heap.size, 0, none⟩ = some (.bool bq) ∧ W'.cell? ⟨w1.heap.size, 1, none⟩ = some (.slice a1 zq.length k1)) → ((fun W' : World => W'.cell? ⟨w1.heap.size, 0, none⟩ = some (.bool bq) ∧ W'.cell? ⟨w1.heap.size, 1, none⟩ = some (.slice a1 zq.length k1)) ((W'.setCell ⟨w.heap.size + 1 + 1, 0, none⟩ v0).setCell ⟨w.heap.size + 1 + 1, 1, none⟩ v1))) := fun W' v0 v1 h => by
    exact ⟨(cell_otherR _ _ _ _ (by simp; omega)).trans ((cell_otherR _ _ _ _ (by simp; omega)).trans h.1), (cell_otherR _ _ _ _ (by simp; omega)).trans ((cell_otherR _ _ _ _ (by simp; omega)).trans h.2)⟩
  go_wp2_with fail
  go_region_held3 (fun W' => W'.cell? ⟨w1.heap.size, 0, none⟩ = some (.bool bq) ∧ W'.cell? ⟨w1.heap.size, 1, none⟩ = some (.slice a1 zq.length k1)) (first | with_reducible exact HKS.out _ _ _ (HAS.out _ G8.out) | with_reducible exact HAS.out _ G8.out | with_reducible exact HAS.out _ G7.out | with_reducible exact HAS.out _ (Below.drew (Old.refl w6)) | with_reducible exact HAS.out _ (Old.refl w6)) (first
    | (go_at_call 24; refine (cwo _).mono ?_; rintro e w7 ⟨v7, rfl, g7, o7⟩; obtain ⟨a7, k7, rfl⟩ := (Own.row o7).slice; have G7 : Hid (Old w6 w7) := Old.trans (Below.drew (Old.refl w6)) g7; have R7 : Hid (Row w7 (.slice a7 zo.length k7) zo) := Own.row o7; clear g7 o7)
    | (go_at_call 23; refine (cad _ _ _ ((Own.row O6.out).old G7.out) R7.out).mono ?_; rintro e w8 ⟨v8, rfl, g8, o8⟩; obtain ⟨a8, k8, rfl⟩ := (Own.row o8).slice; have G8 : Hid (Old w6 w8) := Old.trans G7.out g8; have O8 : Hid (Own w8 (w.heap.size + 1 + 1 + 1) (.slice a8 zs.length k8) zs) := Own.low o8 (by have := (SC6.out.old G7.out).lt; omega); have SC8 : Hid (StW w8 (w.heap.size + 1 + 1) (.bool false) (.slice none 0 0) 25) := SC6.out.old G8.out; have t0 := SC8.out.c0; have t1 := SC8.out.c1; have f0 := SC8.out.f0; have f1 := SC8.out.f1; clear g8 o8)
    | fail)
  all_goals
    go_wp2_with fail
    refine bodyPost_ret (v := .tuple #[.agg #[.bool rb, .slice a8 zs.length k8], .bool ro]) (by simp [results, Try.results6, go_sem, t0, t1]) rfl ⟨_, rfl, ?_, ?_⟩
    · exact ((Old.trans HG6.out G8.out).own (p := ⟨w.heap.size + 1 + 1, 0, none⟩) (by simp; omega) _).own (p := ⟨w.heap.size + 1 + 1, 1, none⟩) (by simp; omega) _
    · exact Own.low (own_set2 O8.out (by omega) _ _) (by omega)
set_option maxRecDepth 100000 in
set_option maxHeartbeats 8000000 in
theorem impl_round_no (n m bq : Bool) (xs ys zq zr : List Int) (c0 c1 : Option Addr) (cap0 cap1 : Nat) (la lb lc : List Nat) (na nb nc : Nat) (w : World) (hv : Row w (.slice c0 xs.length cap0) xs) (hu : Row w (.slice c1 ys.length cap1) ys) (cd : ∀ W, Row W (.slice c0 xs.length cap0) xs → Row W (.slice c1 ys.length cap1) ys → Calls Try.prog 19 #[.agg #[.bool n, .slice c0 xs.length cap0], .agg #[.bool m, .slice c1 ys.length cap1]] W fun e w' => ∃ v1 v2, e = .returned (.tuple #[.agg #[.bool bq, v1], .agg #[.bool false, v2], .bool false]) ∧ Old W w' ∧ Own w' W.heap.size v1 zq ∧ Own w' W.heap.size v2 zr)
    : Calls Try.prog 6 #[.agg #[.bool n, .slice c0 xs.length cap0], .agg #[.bool m, .slice c1 ys.length cap1]] w fun e w' => ∃ v', e = .returned (.tuple #[.agg #[.bool false, v'], .bool false]) ∧ Old w w' ∧ Own w' w.heap.size v' [] := by
  have HV : Hid (Row w (.slice c0 xs.length cap0) xs) := hv
  have HU : Hid (Row w (.slice c1 ys.length cap1) ys) := hu
  have HG0 : Hid (Old w (((w.alloc (.cells #[.bool n, .slice c0 xs.length cap0] 25)).alloc (.cells #[.bool m, .slice c1 ys.length cap1] 25)).alloc (.cells #[.bool false, .slice none 0 0] 25))) := (((Old.refl w).alloc _).alloc _).alloc _
  have SB0 : Hid (StW (((w.alloc (.cells #[.bool n, .slice c0 xs.length cap0] 25)).alloc (.cells #[.bool m, .slice c1 ys.length cap1] 25)).alloc (.cells #[.bool false, .slice none 0 0] 25)) (w.heap.size + 1) (.bool m) (.slice c1 ys.length cap1) 25) := (StW.at2 w _ _ _ _ _ _).old ((Old.refl _).alloc _)
  have SC0 : Hid (StW (((w.alloc (.cells #[.bool n, .slice c0 xs.length cap0] 25)).alloc (.cells #[.bool m, .slice c1 ys.length cap1] 25)).alloc (.cells #[.bool false, .slice none 0 0] 25)) (w.heap.size + 1 + 1) (.bool false) (.slice none 0 0) 25) := by
    have h := StW.new ((w.alloc (.cells #[.bool n, .slice c0 xs.length cap0] 25)).alloc (.cells #[.bool m, .slice c1 ys.length cap1] 25)) (.bool false) (.slice none 0 0) 25
    rw [show ((w.alloc (.cells #[.bool n, .slice c0 xs.length cap0] 25)).alloc (.cells #[.bool m, .slice c1 ys.length cap1] 25)).heap.size = w.heap.size + 1 + 1 by simp] at h
    exact h
  clear hv hu
  go_enter Try.func6, Try.ntmps6
  go_wp2_with fail
  refine (cd _ (HV.out.old HG0.out) (HU.out.old HG0.out)).mono ?_
  rintro e w1 ⟨v1, v2, rfl, g1, o1, o2⟩
  obtain ⟨a1, k1, rfl⟩ := (Own.row o1).slice
  obtain ⟨a2, k2, rfl⟩ := (Own.row o2).slice
  have SB1 : Hid (StW w1 (w.heap.size + 1) (.bool m) (.slice c1 ys.length cap1) 25) := SB0.out.old g1
  have SC1 : Hid (StW w1 (w.heap.size + 1 + 1) (.bool false) (.slice none 0 0) 25) := SC0.out.old g1
  have HG1 : Hid (Old w w1) := Old.trans HG0.out g1
  have hs1 : w.heap.size + 1 + 1 < w1.heap.size := SC1.out.lt
  have O1 : Hid (Own w1 (w.heap.size + 1 + 1 + 1) (.slice a1 zq.length k1) zq) := by
    have h := o1
    simp only [World.alloc, Array.size_push] at h
    exact h
  have R2 : Hid (Row w1 (.slice a2 zr.length k2) zr) := Own.row o2
  clear g1 o1 o2 SB0 SC0 HG0 cd
  have X2 : Hid (Old w1 ((w1.alloc (.cells #[.bool bq, .slice a1 zq.length k1] 25)).alloc (.cells #[.bool false, .slice a2 zr.length k2] 25))) := ((Old.refl w1).alloc _).alloc _
  have SC2 : Hid (StW ((w1.alloc (.cells #[.bool bq, .slice a1 zq.length k1] 25)).alloc (.cells #[.bool false, .slice a2 zr.length k2] 25)) (w.heap.size + 1 + 1) (.bool false) (.slice none 0 0) 25) := SC1.out.old X2.out
  have t0 := SC2.out.c0
  have t1 := SC2.out.c1
  have f0 := SC2.out.f0
  have f1 := SC2.out.f1
  go_wp2_with fail
  refine bodyPost_ret (v := .tuple #[.agg #[.bool false, .slice none 0 0], .bool false]) (by simp [results, Try.results6, go_sem, t0, t1]) rfl ⟨_, rfl, ?_, rfl, Or.inl ⟨rfl, rfl⟩⟩
  exact ((Old.trans HG1.out X2.out).own (p := ⟨w.heap.size + 1 + 1, 0, none⟩) (by simp; omega) _).own (p := ⟨w.heap.size + 1 + 1, 1, none⟩) (by simp; omega) _
end Go.Proofs.Ytimmcijoebmaiaa
