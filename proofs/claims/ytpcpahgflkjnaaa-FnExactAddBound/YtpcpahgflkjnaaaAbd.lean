/- Proved: AddBound of the program and of its model tell the same, as a function of the numbers. -/
import Derived.Test.YtpcpahgflkjnaaaBk
import Derived.Test.YtpcpahgflkjnaaaExpA
import Derived.Test.YtpcpahgflkjnaaaImpAdd
import Derived.Test.YtpcpahgflkjnaaaGoodI
import Derived.Test.YtpcpahgflkjnaaaRegTwo
namespace Go.Proofs.Ytpcpahgflkjnaaa
open Go.ChangeShapes Go.WideShapes Go.ChangeAt Go.RowKit
open M2
set_option linter.unusedVariables false
set_option linter.unusedSimpArgs false
theorem own_farAb {W W' : World} {base : Nat} {v : Value} {xs : List Int} (h : Own W base v xs) (hf : ∀ b, v.ownBlock = some b → W'.heap[b]? = W.heap[b]?) : Own W' base v xs := by
  refine ⟨h.1, ?_⟩
  rcases h.2 with hn | ⟨p, cap, cur, rfl, hb, hgg, rest⟩
  · exact .inl hn
  · exact .inr ⟨p, cap, cur, rfl, hb, (hf p rfl).trans hgg, rest⟩
theorem nil_ownAb (w : World) (base : Nat) : Own w base (.slice none 0 0) (toI []) := ⟨rfl, Or.inl ⟨rfl, rfl⟩⟩
theorem bk_putAb {w : World} {k : Nat} {x0 x1 : Value} {t : TypeId} (h : Bk w k #[x0, x1] t) (y0 y1 : Value) : Bk ((w.setCell ⟨k, 0, none⟩ y0).setCell ⟨k, 1, none⟩ y1) k #[y0, y1] t := by
  have h0 : Bk (w.setCell ⟨k, 0, none⟩ y0) k #[y0, x1] t := (heap_setCell_same w k 0 _ _ y0 h).trans rfl
  exact (heap_setCell_same (w.setCell ⟨k, 0, none⟩ y0) k 1 _ _ y1 h0).trans rfl
/-- what is told of two bounds that are added -/
def abW (n m : Bool) (xs ys : List Int) : Bool × List Nat × Bool := if n = false ∧ m = false then addW n m xs ys else nought
theorem len_ab (n m : Bool) (xs ys : List Int) : (abW n m xs ys).2.1.length ≤ 1000 := by
  unfold abW
  split
  · exact len_add n m xs ys
  · exact Nat.zero_le _
theorem abW_no {n m : Bool} {xs ys : List Int} (h : ((decide (Good n xs) && !n) && (decide (Good m ys) && !m)) = false) : abW n m xs ys = nought := by
  unfold abW addW
  split
  · rename_i h1
    rw [if_neg]
    rintro ⟨h2, h3⟩
    rw [decide_eq_true h2, decide_eq_true h3, h1.1, h1.2] at h
    cases h
  · rfl
theorem abW_yes {n m : Bool} {xs ys : List Int} (h : ((decide (Good n xs) && !n) && (decide (Good m ys) && !m)) = true) : n = false ∧ m = false ∧ Good n xs ∧ Good m ys ∧ abW n m xs ys = addW n m xs ys := by
  simp only [Bool.and_eq_true, decide_eq_true_eq, Bool.not_eq_true'] at h
  refine ⟨h.1.2, h.2.2, h.1.1, h.2.1, ?_⟩
  unfold abW
  rw [if_pos ⟨h.1.2, h.2.2⟩]
set_option maxRecDepth 100000 in
set_option maxHeartbeats 4000000 in
theorem isFrom_ab (n G : Bool) (a : Option Addr) (l c : Nat) (w : World) (KG : ∀ W, Old w W → Calls Try.prog 23 #[.agg #[.bool n, .slice a l c]] W fun e w' => e = .returned (.bool G) ∧ Old W w') :
    Calls Try.prog 16 #[.agg #[.bool n, .slice a l c]] w fun e w' => e = .returned (.bool (G && !n)) ∧ Old w w' := by
  have HA : Hid (Old w (w.alloc (.cells #[.bool n, .slice a l c] 26))) := (Old.refl w).alloc _
  have BX : Hid (Bk (w.alloc (.cells #[.bool n, .slice a l c] 26)) w.heap.size #[.bool n, .slice a l c] 26) := Bk.new' w _ _ rfl
  have y0 := BX.out.c (i := 0) rfl
  have y1 := BX.out.c (i := 1) rfl
  cases G
  all_goals
    go_enter Try.func16, Try.ntmps16
    go_wp2_with fail
    refine (KG _ HA.out).mono ?_
    rintro e w1 ⟨rfl, g1⟩
    have HG : Hid (Old w w1) := Old.trans HA.out g1
    have B1 : Hid (Bk w1 w.heap.size #[.bool n, .slice a l c] 26) := BX.out.old g1
    have z0 := B1.out.c (i := 0) rfl
    clear g1 y0 y1
    go_wp2_with fail
    go_ret
    exact ⟨by cases n <;> rfl, HG.out⟩
set_option maxRecDepth 100000 in
set_option maxHeartbeats 4000000 in
theorem impl_ab (n m : Bool) (xs ys : List Int) (v u : Value) (w : World) (hv : Row w v xs) (hu : Row w u ys) (la : xs.length ≤ 1048576) (lb : ys.length ≤ 1048576) :
    Calls Try.prog 7 #[.agg #[.bool n, v], .agg #[.bool m, u]] w fun e w' => ∃ v', e = .returned (.tuple #[.agg #[.bool (abW n m xs ys).1, v'], .bool (abW n m xs ys).2.2]) ∧ Old w w' ∧ Own w' w.heap.size v' (toI (abW n m xs ys).2.1) := by
  have HV : Hid (Row w v xs) := hv
  have HU : Hid (Row w u ys) := hu
  obtain ⟨a1, c1, rfl⟩ := hv.slice
  obtain ⟨a2, c2, rfl⟩ := hu.slice
  clear hv hu
  have HA : Hid (Old w (((w.alloc (.cells #[.bool n, .slice a1 xs.length c1] 26)).alloc (.cells #[.bool m, .slice a2 ys.length c2] 26)).alloc (.cells #[.bool false, .slice none 0 0] 26))) := (((Old.refl w).alloc _).alloc _).alloc _
  have BA : Hid (Bk (((w.alloc (.cells #[.bool n, .slice a1 xs.length c1] 26)).alloc (.cells #[.bool m, .slice a2 ys.length c2] 26)).alloc (.cells #[.bool false, .slice none 0 0] 26)) w.heap.size #[.bool n, .slice a1 xs.length c1] 26) := ((Bk.new' w _ _ rfl).alloc _).alloc _
  have BB : Hid (Bk (((w.alloc (.cells #[.bool n, .slice a1 xs.length c1] 26)).alloc (.cells #[.bool m, .slice a2 ys.length c2] 26)).alloc (.cells #[.bool false, .slice none 0 0] 26)) (w.heap.size + 1) #[.bool m, .slice a2 ys.length c2] 26) := (Bk.new' _ _ _ (by simp)).alloc _
  have BR : Hid (Bk (((w.alloc (.cells #[.bool n, .slice a1 xs.length c1] 26)).alloc (.cells #[.bool m, .slice a2 ys.length c2] 26)).alloc (.cells #[.bool false, .slice none 0 0] 26)) (w.heap.size + 1 + 1) #[.bool false, .slice none 0 0] 26) := Bk.new' _ _ _ (by simp)
  generalize hwA : (((w.alloc (.cells #[.bool n, .slice a1 xs.length c1] 26)).alloc (.cells #[.bool m, .slice a2 ys.length c2] 26)).alloc (.cells #[.bool false, .slice none 0 0] 26)) = wA at HA BA BB BR
  have cA := fun W (q : Old w W) => isFrom_ab n (decide (Good n xs)) a1 xs.length c1 W (fun W' g => good_impl n xs _ W' (HV.out.old (Old.trans q g)) la)
  have cB := fun W (q : Old w W) => isFrom_ab m (decide (Good m ys)) a2 ys.length c2 W (fun W' g => good_impl m ys _ W' (HU.out.old (Old.trans q g)) lb)
  have cS := fun W (q : Old w W) => impl_add n m xs ys _ _ W (HV.out.old q) (HU.out.old q) la lb
  cases hA : (decide (Good n xs) && !n)
  · have HB : Hid (abW n m xs ys = nought) := abW_no (by rw [hA]; rfl)
    rw [hA] at cA
    clear cS cB hA
    have u0 := BA.out.c (i := 0) rfl
    have u1 := BA.out.c (i := 1) rfl
    go_enter Try.func7, Try.ntmps7
    go_wp2_with fail
    refine (cA _ HA.out).mono ?_
    rintro e w1 ⟨rfl, g1⟩
    have HO1 : Hid (Old w w1) := Old.trans HA.out g1
    have A1 : Hid (Bk w1 (w.heap.size) #[.bool n, .slice a1 xs.length c1] 26) := BA.out.old g1
    have B1 : Hid (Bk w1 (w.heap.size + 1) #[.bool m, .slice a2 ys.length c2] 26) := BB.out.old g1
    have R1 : Hid (Bk w1 (w.heap.size + 1 + 1) #[.bool false, .slice none 0 0] 26) := BR.out.old g1
    clear g1 u0 u1 hwA
    have y0 := R1.out.c (i := 0) rfl
    have y1 := R1.out.c (i := 1) rfl
    have f0 := frozen_of_row _ _ 0 _ _ R1.out
    have f1 := frozen_of_row _ _ 1 _ _ R1.out
    go_wp2_with fail
    have HF := bk_putAb R1.out (.bool false) (.slice none 0 0)
    have q0 := HF.c (i := 0) rfl
    have q1 := HF.c (i := 1) rfl
    refine bodyPost_ret (v := .tuple #[.agg #[.bool false, .slice none 0 0], .bool false]) (by simp [results, Try.results7, go_sem, q0, q1]) rfl ?_
    rw [HB.out]
    exact ⟨_, rfl, (HO1.out.own (p := ⟨w.heap.size + 1 + 1, 0, none⟩) (by simp; try omega) _).own (p := ⟨w.heap.size + 1 + 1, 1, none⟩) (by simp; try omega) _, nil_ownAb _ _⟩
  cases hB : (decide (Good m ys) && !m)
  · have HB : Hid (abW n m xs ys = nought) := abW_no (by rw [hA, hB]; rfl)
    rw [hA] at cA
    rw [hB] at cB
    clear cS hA hB
    have u0 := BA.out.c (i := 0) rfl
    have u1 := BA.out.c (i := 1) rfl
    go_enter Try.func7, Try.ntmps7
    go_wp2_with fail
    refine (cA _ HA.out).mono ?_
    rintro e w1 ⟨rfl, g1⟩
    have HO1 : Hid (Old w w1) := Old.trans HA.out g1
    have A1 : Hid (Bk w1 (w.heap.size) #[.bool n, .slice a1 xs.length c1] 26) := BA.out.old g1
    have B1 : Hid (Bk w1 (w.heap.size + 1) #[.bool m, .slice a2 ys.length c2] 26) := BB.out.old g1
    have R1 : Hid (Bk w1 (w.heap.size + 1 + 1) #[.bool false, .slice none 0 0] 26) := BR.out.old g1
    clear g1 u0 u1 hwA
    have u0 := B1.out.c (i := 0) rfl
    have u1 := B1.out.c (i := 1) rfl
    go_wp2_with fail
    refine (cB _ HO1.out).mono ?_
    rintro e w2 ⟨rfl, g2⟩
    have HO2 : Hid (Old w w2) := Old.trans HO1.out g2
    have A2 : Hid (Bk w2 (w.heap.size) #[.bool n, .slice a1 xs.length c1] 26) := A1.out.old g2
    have B2 : Hid (Bk w2 (w.heap.size + 1) #[.bool m, .slice a2 ys.length c2] 26) := B1.out.old g2
    have R2 : Hid (Bk w2 (w.heap.size + 1 + 1) #[.bool false, .slice none 0 0] 26) := R1.out.old g2
    clear g2 u0 u1
    have y0 := R2.out.c (i := 0) rfl
    have y1 := R2.out.c (i := 1) rfl
    have f0 := frozen_of_row _ _ 0 _ _ R2.out
    have f1 := frozen_of_row _ _ 1 _ _ R2.out
    go_wp2_with fail
    have HF := bk_putAb R2.out (.bool false) (.slice none 0 0)
    have q0 := HF.c (i := 0) rfl
    have q1 := HF.c (i := 1) rfl
    refine bodyPost_ret (v := .tuple #[.agg #[.bool false, .slice none 0 0], .bool false]) (by simp [results, Try.results7, go_sem, q0, q1]) rfl ?_
    rw [HB.out]
    exact ⟨_, rfl, (HO2.out.own (p := ⟨w.heap.size + 1 + 1, 0, none⟩) (by simp; try omega) _).own (p := ⟨w.heap.size + 1 + 1, 1, none⟩) (by simp; try omega) _, nil_ownAb _ _⟩
  have eW := (abW_yes (show ((decide (Good n xs) && !n) && (decide (Good m ys) && !m)) = true by rw [hA, hB]; rfl)).2.2.2.2
  rw [hA] at cA
  rw [hB] at cB
  rw [eW]
  generalize addW n m xs ys = RR at *
  obtain ⟨r1, r2, r3⟩ := RR
  clear hA hB eW
  have u0 := BA.out.c (i := 0) rfl
  have u1 := BA.out.c (i := 1) rfl
  go_enter Try.func7, Try.ntmps7
  go_wp2_with fail
  refine (cA _ HA.out).mono ?_
  rintro e w1 ⟨rfl, g1⟩
  have HO1 : Hid (Old w w1) := Old.trans HA.out g1
  have A1 : Hid (Bk w1 (w.heap.size) #[.bool n, .slice a1 xs.length c1] 26) := BA.out.old g1
  have B1 : Hid (Bk w1 (w.heap.size + 1) #[.bool m, .slice a2 ys.length c2] 26) := BB.out.old g1
  have R1 : Hid (Bk w1 (w.heap.size + 1 + 1) #[.bool false, .slice none 0 0] 26) := BR.out.old g1
  clear g1 u0 u1 hwA
  have u0 := B1.out.c (i := 0) rfl
  have u1 := B1.out.c (i := 1) rfl
  go_wp2_with fail
  refine (cB _ HO1.out).mono ?_
  rintro e w2 ⟨rfl, g2⟩
  have HO2 : Hid (Old w w2) := Old.trans HO1.out g2
  have A2 : Hid (Bk w2 (w.heap.size) #[.bool n, .slice a1 xs.length c1] 26) := A1.out.old g2
  have B2 : Hid (Bk w2 (w.heap.size + 1) #[.bool m, .slice a2 ys.length c2] 26) := B1.out.old g2
  have R2 : Hid (Bk w2 (w.heap.size + 1 + 1) #[.bool false, .slice none 0 0] 26) := R1.out.old g2
  clear g2 u0 u1
  have u0 := A2.out.c (i := 0) rfl
  have u1 := A2.out.c (i := 1) rfl
  have z0 := B2.out.c (i := 0) rfl
  have z1 := B2.out.c (i := 1) rfl
  go_wp2_with fail
  refine (cS _ HO2.out).mono ?_
  rintro e w3 ⟨v3, rfl, g3, o3⟩
  have HO3 : Hid (Old w w3) := Old.trans HO2.out g3
  have A3 : Hid (Bk w3 (w.heap.size) #[.bool n, .slice a1 xs.length c1] 26) := A2.out.old g3
  have B3 : Hid (Bk w3 (w.heap.size + 1) #[.bool m, .slice a2 ys.length c2] 26) := B2.out.old g3
  have R3 : Hid (Bk w3 (w.heap.size + 1 + 1) #[.bool false, .slice none 0 0] 26) := R2.out.old g3
  have hz3 : w.heap.size + 1 + 1 < w2.heap.size := R2.out.lt
  have O3 : Hid (Own w3 w2.heap.size v3 (toI r2)) := o3
  obtain ⟨x3, m3, rfl⟩ := (Own.row o3).slice
  clear g3 o3 u0 u1 z0 z1 cA cB cS
  have y0 := R3.out.c (i := 0) rfl
  have y1 := R3.out.c (i := 1) rfl
  have f0 := frozen_of_row _ _ 0 _ _ R3.out
  have f1 := frozen_of_row _ _ 1 _ _ R3.out
  go_wp2_with fail
  have HF := bk_putAb R3.out (.bool r1) (.slice x3 (toI r2).length m3)
  have q0 := HF.c (i := 0) rfl
  have q1 := HF.c (i := 1) rfl
  refine bodyPost_ret (v := .tuple #[.agg #[.bool r1, .slice x3 (toI r2).length m3], .bool r3]) (by simp [results, Try.results7, go_sem, q0, q1]) rfl ?_
  refine ⟨_, rfl, (HO3.out.own (p := ⟨w.heap.size + 1 + 1, 0, none⟩) (by simp; try omega) _).own (p := ⟨w.heap.size + 1 + 1, 1, none⟩) (by simp; try omega) _, ?_⟩
  refine own_farAb (Own.low O3.out (by omega)) (fun b hb => ?_)
  have hlt := (O3.out.lt b hb).1
  exact (heap_setCell_other _ ⟨w.heap.size + 1 + 1, 1, none⟩ b _ (by show b ≠ w.heap.size + 1 + 1; omega)).trans (heap_setCell_other _ ⟨w.heap.size + 1 + 1, 0, none⟩ b _ (by show b ≠ w.heap.size + 1 + 1; omega))
set_option maxRecDepth 100000 in
set_option maxHeartbeats 4000000 in
theorem spec_ab (n m : Bool) (xs ys : List Int) (v u : Value) (w : World) (hv : Row w v xs) (hu : Row w u ys) (la : xs.length ≤ 1048576) (lb : ys.length ≤ 1048576) :
    Calls Try.prog 5 #[.agg #[.bool n, v], .agg #[.bool m, u]] w fun e w' => ∃ v', e = .returned (.tuple #[.agg #[.bool (abW n m xs ys).1, v'], .bool (abW n m xs ys).2.2]) ∧ Old w w' ∧ Own w' w.heap.size v' (toI (abW n m xs ys).2.1) := by
  have HV : Hid (Row w v xs) := hv
  have HU : Hid (Row w u ys) := hu
  obtain ⟨a1, c1, rfl⟩ := hv.slice
  obtain ⟨a2, c2, rfl⟩ := hu.slice
  clear hv hu
  have HA : Hid (Old w (((w.alloc (.cells #[.bool n, .slice a1 xs.length c1] 26)).alloc (.cells #[.bool m, .slice a2 ys.length c2] 26)).alloc (.cells #[.bool false, .slice none 0 0] 26))) := (((Old.refl w).alloc _).alloc _).alloc _
  have BA : Hid (Bk (((w.alloc (.cells #[.bool n, .slice a1 xs.length c1] 26)).alloc (.cells #[.bool m, .slice a2 ys.length c2] 26)).alloc (.cells #[.bool false, .slice none 0 0] 26)) w.heap.size #[.bool n, .slice a1 xs.length c1] 26) := ((Bk.new' w _ _ rfl).alloc _).alloc _
  have BB : Hid (Bk (((w.alloc (.cells #[.bool n, .slice a1 xs.length c1] 26)).alloc (.cells #[.bool m, .slice a2 ys.length c2] 26)).alloc (.cells #[.bool false, .slice none 0 0] 26)) (w.heap.size + 1) #[.bool m, .slice a2 ys.length c2] 26) := (Bk.new' _ _ _ (by simp)).alloc _
  have BR : Hid (Bk (((w.alloc (.cells #[.bool n, .slice a1 xs.length c1] 26)).alloc (.cells #[.bool m, .slice a2 ys.length c2] 26)).alloc (.cells #[.bool false, .slice none 0 0] 26)) (w.heap.size + 1 + 1) #[.bool false, .slice none 0 0] 26) := Bk.new' _ _ _ (by simp)
  generalize hwA : (((w.alloc (.cells #[.bool n, .slice a1 xs.length c1] 26)).alloc (.cells #[.bool m, .slice a2 ys.length c2] 26)).alloc (.cells #[.bool false, .slice none 0 0] 26)) = wA at HA BA BB BR
  have cA := fun W (q : Old w W) => good_any n xs _ W (HV.out.old q) la
  have cB := fun W (q : Old w W) => good_any m ys _ W (HU.out.old q) lb
  cases hA : decide (Good n xs)
  · have HB : Hid (abW n m xs ys = nought) := abW_no (by rw [hA]; rfl)
    rw [hA] at cA
    clear cB hA
    have u0 := BA.out.c (i := 0) rfl
    have u1 := BA.out.c (i := 1) rfl
    go_enter Try.func5, Try.ntmps5
    go_wp2_with fail
    refine (cA _ HA.out).mono ?_
    rintro e w1 ⟨rfl, g1⟩
    have HO1 : Hid (Old w w1) := Old.trans HA.out g1
    have A1 : Hid (Bk w1 (w.heap.size) #[.bool n, .slice a1 xs.length c1] 26) := BA.out.old g1
    have B1 : Hid (Bk w1 (w.heap.size + 1) #[.bool m, .slice a2 ys.length c2] 26) := BB.out.old g1
    have R1 : Hid (Bk w1 (w.heap.size + 1 + 1) #[.bool false, .slice none 0 0] 26) := BR.out.old g1
    clear g1 u0 u1 hwA
    have y0 := R1.out.c (i := 0) rfl
    have y1 := R1.out.c (i := 1) rfl
    have f0 := frozen_of_row _ _ 0 _ _ R1.out
    have f1 := frozen_of_row _ _ 1 _ _ R1.out
    go_wp2_with fail
    have HF := bk_putAb R1.out (.bool false) (.slice none 0 0)
    have q0 := HF.c (i := 0) rfl
    have q1 := HF.c (i := 1) rfl
    refine bodyPost_ret (v := .tuple #[.agg #[.bool false, .slice none 0 0], .bool false]) (by simp [results, Try.results5, go_sem, q0, q1]) rfl ?_
    rw [HB.out]
    exact ⟨_, rfl, (HO1.out.own (p := ⟨w.heap.size + 1 + 1, 0, none⟩) (by simp; try omega) _).own (p := ⟨w.heap.size + 1 + 1, 1, none⟩) (by simp; try omega) _, nil_ownAb _ _⟩
  cases hB : decide (Good m ys)
  · have HB : Hid (abW n m xs ys = nought) := abW_no (by rw [hA, hB]; cases n <;> rfl)
    rw [hA] at cA
    rw [hB] at cB
    clear hA hB
    have u0 := BA.out.c (i := 0) rfl
    have u1 := BA.out.c (i := 1) rfl
    go_enter Try.func5, Try.ntmps5
    go_wp2_with fail
    refine (cA _ HA.out).mono ?_
    rintro e w1 ⟨rfl, g1⟩
    have HO1 : Hid (Old w w1) := Old.trans HA.out g1
    have A1 : Hid (Bk w1 (w.heap.size) #[.bool n, .slice a1 xs.length c1] 26) := BA.out.old g1
    have B1 : Hid (Bk w1 (w.heap.size + 1) #[.bool m, .slice a2 ys.length c2] 26) := BB.out.old g1
    have R1 : Hid (Bk w1 (w.heap.size + 1 + 1) #[.bool false, .slice none 0 0] 26) := BR.out.old g1
    clear g1 u0 u1 hwA
    have u0 := B1.out.c (i := 0) rfl
    have u1 := B1.out.c (i := 1) rfl
    go_wp2_with fail
    refine (cB _ HO1.out).mono ?_
    rintro e w2 ⟨rfl, g2⟩
    have HO2 : Hid (Old w w2) := Old.trans HO1.out g2
    have A2 : Hid (Bk w2 (w.heap.size) #[.bool n, .slice a1 xs.length c1] 26) := A1.out.old g2
    have B2 : Hid (Bk w2 (w.heap.size + 1) #[.bool m, .slice a2 ys.length c2] 26) := B1.out.old g2
    have R2 : Hid (Bk w2 (w.heap.size + 1 + 1) #[.bool false, .slice none 0 0] 26) := R1.out.old g2
    clear g2 u0 u1
    have y0 := R2.out.c (i := 0) rfl
    have y1 := R2.out.c (i := 1) rfl
    have f0 := frozen_of_row _ _ 0 _ _ R2.out
    have f1 := frozen_of_row _ _ 1 _ _ R2.out
    go_wp2_with fail
    have HF := bk_putAb R2.out (.bool false) (.slice none 0 0)
    have q0 := HF.c (i := 0) rfl
    have q1 := HF.c (i := 1) rfl
    refine bodyPost_ret (v := .tuple #[.agg #[.bool false, .slice none 0 0], .bool false]) (by simp [results, Try.results5, go_sem, q0, q1]) rfl ?_
    rw [HB.out]
    exact ⟨_, rfl, (HO2.out.own (p := ⟨w.heap.size + 1 + 1, 0, none⟩) (by simp; try omega) _).own (p := ⟨w.heap.size + 1 + 1, 1, none⟩) (by simp; try omega) _, nil_ownAb _ _⟩
  cases n
  rotate_left
  · have HB : Hid (abW true m xs ys = nought) := abW_no (by simp)
    rw [hA] at cA
    rw [hB] at cB
    clear hA hB
    have u0 := BA.out.c (i := 0) rfl
    have u1 := BA.out.c (i := 1) rfl
    go_enter Try.func5, Try.ntmps5
    go_wp2_with fail
    refine (cA _ HA.out).mono ?_
    rintro e w1 ⟨rfl, g1⟩
    have HO1 : Hid (Old w w1) := Old.trans HA.out g1
    have A1 : Hid (Bk w1 (w.heap.size) #[.bool true, .slice a1 xs.length c1] 26) := BA.out.old g1
    have B1 : Hid (Bk w1 (w.heap.size + 1) #[.bool m, .slice a2 ys.length c2] 26) := BB.out.old g1
    have R1 : Hid (Bk w1 (w.heap.size + 1 + 1) #[.bool false, .slice none 0 0] 26) := BR.out.old g1
    clear g1 u0 u1 hwA
    have u0 := B1.out.c (i := 0) rfl
    have u1 := B1.out.c (i := 1) rfl
    go_wp2_with fail
    refine (cB _ HO1.out).mono ?_
    rintro e w2 ⟨rfl, g2⟩
    have HO2 : Hid (Old w w2) := Old.trans HO1.out g2
    have A2 : Hid (Bk w2 (w.heap.size) #[.bool true, .slice a1 xs.length c1] 26) := A1.out.old g2
    have B2 : Hid (Bk w2 (w.heap.size + 1) #[.bool m, .slice a2 ys.length c2] 26) := B1.out.old g2
    have R2 : Hid (Bk w2 (w.heap.size + 1 + 1) #[.bool false, .slice none 0 0] 26) := R1.out.old g2
    clear g2 u0 u1
    have u0 := A2.out.c (i := 0) rfl
    have u1 := A2.out.c (i := 1) rfl
    have y0 := R2.out.c (i := 0) rfl
    have y1 := R2.out.c (i := 1) rfl
    have f0 := frozen_of_row _ _ 0 _ _ R2.out
    have f1 := frozen_of_row _ _ 1 _ _ R2.out
    go_wp2_with fail
    have HF := bk_putAb R2.out (.bool false) (.slice none 0 0)
    have q0 := HF.c (i := 0) rfl
    have q1 := HF.c (i := 1) rfl
    refine bodyPost_ret (v := .tuple #[.agg #[.bool false, .slice none 0 0], .bool false]) (by simp [results, Try.results5, go_sem, q0, q1]) rfl ?_
    rw [HB.out]
    exact ⟨_, rfl, (HO2.out.own (p := ⟨w.heap.size + 1 + 1, 0, none⟩) (by simp; try omega) _).own (p := ⟨w.heap.size + 1 + 1, 1, none⟩) (by simp; try omega) _, nil_ownAb _ _⟩
  cases m
  rotate_left
  · have HB : Hid (abW false true xs ys = nought) := abW_no (by simp)
    rw [hA] at cA
    rw [hB] at cB
    clear hA hB
    have u0 := BA.out.c (i := 0) rfl
    have u1 := BA.out.c (i := 1) rfl
    go_enter Try.func5, Try.ntmps5
    go_wp2_with fail
    refine (cA _ HA.out).mono ?_
    rintro e w1 ⟨rfl, g1⟩
    have HO1 : Hid (Old w w1) := Old.trans HA.out g1
    have A1 : Hid (Bk w1 (w.heap.size) #[.bool false, .slice a1 xs.length c1] 26) := BA.out.old g1
    have B1 : Hid (Bk w1 (w.heap.size + 1) #[.bool true, .slice a2 ys.length c2] 26) := BB.out.old g1
    have R1 : Hid (Bk w1 (w.heap.size + 1 + 1) #[.bool false, .slice none 0 0] 26) := BR.out.old g1
    clear g1 u0 u1 hwA
    have u0 := B1.out.c (i := 0) rfl
    have u1 := B1.out.c (i := 1) rfl
    go_wp2_with fail
    refine (cB _ HO1.out).mono ?_
    rintro e w2 ⟨rfl, g2⟩
    have HO2 : Hid (Old w w2) := Old.trans HO1.out g2
    have A2 : Hid (Bk w2 (w.heap.size) #[.bool false, .slice a1 xs.length c1] 26) := A1.out.old g2
    have B2 : Hid (Bk w2 (w.heap.size + 1) #[.bool true, .slice a2 ys.length c2] 26) := B1.out.old g2
    have R2 : Hid (Bk w2 (w.heap.size + 1 + 1) #[.bool false, .slice none 0 0] 26) := R1.out.old g2
    clear g2 u0 u1
    have u0 := A2.out.c (i := 0) rfl
    have u1 := A2.out.c (i := 1) rfl
    have z0 := B2.out.c (i := 0) rfl
    have z1 := B2.out.c (i := 1) rfl
    have y0 := R2.out.c (i := 0) rfl
    have y1 := R2.out.c (i := 1) rfl
    have f0 := frozen_of_row _ _ 0 _ _ R2.out
    have f1 := frozen_of_row _ _ 1 _ _ R2.out
    go_wp2_with fail
    have HF := bk_putAb R2.out (.bool false) (.slice none 0 0)
    have q0 := HF.c (i := 0) rfl
    have q1 := HF.c (i := 1) rfl
    refine bodyPost_ret (v := .tuple #[.agg #[.bool false, .slice none 0 0], .bool false]) (by simp [results, Try.results5, go_sem, q0, q1]) rfl ?_
    rw [HB.out]
    exact ⟨_, rfl, (HO2.out.own (p := ⟨w.heap.size + 1 + 1, 0, none⟩) (by simp; try omega) _).own (p := ⟨w.heap.size + 1 + 1, 1, none⟩) (by simp; try omega) _, nil_ownAb _ _⟩
  obtain ⟨ex, gx, lx⟩ := good_gw (of_decide_eq_true hA)
  obtain ⟨ey, gy, ly⟩ := good_gw (of_decide_eq_true hB)
  have eW : abW false false xs ys = told (sv false (nat xs) + sv false (nat ys)) := by
    unfold abW addW
    rw [if_pos ⟨rfl, rfl⟩, if_pos ⟨of_decide_eq_true hA, of_decide_eq_true hB⟩]
  have hz : sv false (nat xs) + sv false (nat ys) = ((val (nat xs) + val (nat ys) : Nat) : Int) := by
    simp [sv]
  have cS := fun W (q : Old w W) => add_any (nat xs) (nat ys) _ _ W (by rw [ex]; exact HV.out.old q) (by rw [ey]; exact HU.out.old q) gx.1.1 gy.1.1 (by omega) (by omega)
  have hln : (dig (val (nat xs) + val (nat ys))).length ≤ 1000 := by
    have h := len_sum (n := false) (m := false) lx ly gx.1.1 gy.1.1
    rw [hz] at h
    exact h
  rw [hz] at eW
  have eT : told ((val (nat xs) + val (nat ys) : Nat) : Int) = (if (dig (val (nat xs) + val (nat ys))).length ≤ 40 then (false, dig (val (nat xs) + val (nat ys)), true) else (false, [], false)) := by
    unfold told
    have e1 : dg ((val (nat xs) + val (nat ys) : Nat) : Int) = dig (val (nat xs) + val (nat ys)) := rfl
    have e2 : ng ((val (nat xs) + val (nat ys) : Nat) : Int) = false := by
      unfold ng
      exact decide_eq_false (by omega)
    rw [e1, e2]
  rw [eT] at eW
  rw [hA] at cA
  rw [hB] at cB
  clear hA hB hz eT ex ey gx gy lx ly
  generalize dig (val (nat xs) + val (nat ys)) = DD at *
  have HE : Hid (abW false false xs ys = if DD.length ≤ 40 then (false, DD, true) else (false, [], false)) := eW
  clear eW
  have u0 := BA.out.c (i := 0) rfl
  have u1 := BA.out.c (i := 1) rfl
  go_enter Try.func5, Try.ntmps5
  go_wp2_with fail
  refine (cA _ HA.out).mono ?_
  rintro e w1 ⟨rfl, g1⟩
  have HO1 : Hid (Old w w1) := Old.trans HA.out g1
  have A1 : Hid (Bk w1 (w.heap.size) #[.bool false, .slice a1 xs.length c1] 26) := BA.out.old g1
  have B1 : Hid (Bk w1 (w.heap.size + 1) #[.bool false, .slice a2 ys.length c2] 26) := BB.out.old g1
  have R1 : Hid (Bk w1 (w.heap.size + 1 + 1) #[.bool false, .slice none 0 0] 26) := BR.out.old g1
  clear g1 u0 u1 hwA
  have u0 := B1.out.c (i := 0) rfl
  have u1 := B1.out.c (i := 1) rfl
  go_wp2_with fail
  refine (cB _ HO1.out).mono ?_
  rintro e w2 ⟨rfl, g2⟩
  have HO2 : Hid (Old w w2) := Old.trans HO1.out g2
  have A2 : Hid (Bk w2 (w.heap.size) #[.bool false, .slice a1 xs.length c1] 26) := A1.out.old g2
  have B2 : Hid (Bk w2 (w.heap.size + 1) #[.bool false, .slice a2 ys.length c2] 26) := B1.out.old g2
  have R2 : Hid (Bk w2 (w.heap.size + 1 + 1) #[.bool false, .slice none 0 0] 26) := R1.out.old g2
  clear g2 u0 u1
  have u0 := A2.out.c (i := 0) rfl
  have u1 := A2.out.c (i := 1) rfl
  have z0 := B2.out.c (i := 0) rfl
  have z1 := B2.out.c (i := 1) rfl
  go_wp2_with fail
  refine (cS _ HO2.out).mono ?_
  rintro e w3 ⟨v3, rfl, g3, o3⟩
  have HO3 : Hid (Old w w3) := Old.trans HO2.out g3
  have A3 : Hid (Bk w3 (w.heap.size) #[.bool false, .slice a1 xs.length c1] 26) := A2.out.old g3
  have B3 : Hid (Bk w3 (w.heap.size + 1) #[.bool false, .slice a2 ys.length c2] 26) := B2.out.old g3
  have R3 : Hid (Bk w3 (w.heap.size + 1 + 1) #[.bool false, .slice none 0 0] 26) := R2.out.old g3
  have HR3 : Hid (Row w3 v3 (toI DD)) := Own.row o3
  obtain ⟨x3, m3, rfl⟩ := (Own.row o3).sliceN
  clear g3 o3 u0 u1 z0 z1 cA cB cS
  by_cases h40 : DD.length ≤ 40
  · have HB : Hid (abW false false xs ys = (false, DD, true)) := by
      have := HE.out
      rw [if_pos h40] at this
      exact this
    have cO := out_any false DD _ w3 HR3.out h40
    clear HE h40
    go_wp2_with fail
    refine cO.mono ?_
    rintro e w4 ⟨v4, rfl, g4, o4⟩
    have HO4 : Hid (Old w w4) := Old.trans HO3.out g4
    have A4 : Hid (Bk w4 (w.heap.size) #[.bool false, .slice a1 xs.length c1] 26) := A3.out.old g4
    have B4 : Hid (Bk w4 (w.heap.size + 1) #[.bool false, .slice a2 ys.length c2] 26) := B3.out.old g4
    have R4 : Hid (Bk w4 (w.heap.size + 1 + 1) #[.bool false, .slice none 0 0] 26) := R3.out.old g4
    have hz4 : w.heap.size + 1 + 1 < w3.heap.size := R3.out.lt
    have O4 : Hid (Own w4 w3.heap.size v4 (toI DD)) := o4
    obtain ⟨x4, m4, rfl⟩ := (Own.row o4).slice
    clear g4 o4 cO
    have y0 := R4.out.c (i := 0) rfl
    have y1 := R4.out.c (i := 1) rfl
    have f0 := frozen_of_row _ _ 0 _ _ R4.out
    have f1 := frozen_of_row _ _ 1 _ _ R4.out
    go_wp2_with fail
    have HF := bk_putAb R4.out (.bool false) (.slice x4 (toI DD).length m4)
    have q0 := HF.c (i := 0) rfl
    have q1 := HF.c (i := 1) rfl
    refine bodyPost_ret (v := .tuple #[.agg #[.bool false, .slice x4 (toI DD).length m4], .bool true]) (by simp [results, Try.results5, go_sem, q0, q1]) rfl ?_
    rw [HB.out]
    refine ⟨_, rfl, (HO4.out.own (p := ⟨w.heap.size + 1 + 1, 0, none⟩) (by simp; try omega) _).own (p := ⟨w.heap.size + 1 + 1, 1, none⟩) (by simp; try omega) _, ?_⟩
    refine own_farAb (Own.low O4.out (by omega)) (fun b hb => ?_)
    have hlt := (O4.out.lt b hb).1
    exact (heap_setCell_other _ ⟨w.heap.size + 1 + 1, 1, none⟩ b _ (by show b ≠ w.heap.size + 1 + 1; omega)).trans (heap_setCell_other _ ⟨w.heap.size + 1 + 1, 0, none⟩ b _ (by show b ≠ w.heap.size + 1 + 1; omega))
  · have HB : Hid (abW false false xs ys = nought) := by
      have := HE.out
      rw [if_neg h40] at this
      exact this
    have cO := out_no false x3 DD.length m3 w3 (by omega) (by omega)
    clear HE h40
    go_wp2_with fail
    refine cO.mono ?_
    rintro e w4 ⟨rfl, g4⟩
    have HO4 : Hid (Old w w4) := Old.trans HO3.out g4
    have A4 : Hid (Bk w4 (w.heap.size) #[.bool false, .slice a1 xs.length c1] 26) := A3.out.old g4
    have B4 : Hid (Bk w4 (w.heap.size + 1) #[.bool false, .slice a2 ys.length c2] 26) := B3.out.old g4
    have R4 : Hid (Bk w4 (w.heap.size + 1 + 1) #[.bool false, .slice none 0 0] 26) := R3.out.old g4
    clear g4 cO
    have y0 := R4.out.c (i := 0) rfl
    have y1 := R4.out.c (i := 1) rfl
    have f0 := frozen_of_row _ _ 0 _ _ R4.out
    have f1 := frozen_of_row _ _ 1 _ _ R4.out
    go_wp2_with fail
    have HF := bk_putAb R4.out (.bool false) (.slice none 0 0)
    have q0 := HF.c (i := 0) rfl
    have q1 := HF.c (i := 1) rfl
    refine bodyPost_ret (v := .tuple #[.agg #[.bool false, .slice none 0 0], .bool false]) (by simp [results, Try.results5, go_sem, q0, q1]) rfl ?_
    rw [HB.out]
    exact ⟨_, rfl, (HO4.out.own (p := ⟨w.heap.size + 1 + 1, 0, none⟩) (by simp; try omega) _).own (p := ⟨w.heap.size + 1 + 1, 1, none⟩) (by simp; try omega) _, nil_ownAb _ _⟩
end Go.Proofs.Ytpcpahgflkjnaaa
