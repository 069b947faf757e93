/- Proved: several texts in one: what each proves is said ahead of it. -/
import Derived.Test.YtjedpceiimceoaaDoorT00
import Derived.Deep.RegionWith
import Derived.Test.YtjedpceiimceoaaDoorT14
/- Proved: the walk of the statement on GoodWhole, under the contract of the program's own function. -/
namespace Go.Proofs.YtjedpceiimceoaaDoor
open Go.ChangeShapes Go.WideShapes Go.ChangeAt Go.RowKit
open M2
set_option linter.unusedVariables false
set_option linter.unusedSimpArgs false
abbrev StW (w : World) (k : Nat) (x y : Value) (t : TypeId) : Prop := w.heap[k]? = some (.cells #[x, y] t (0, 0))
theorem StW.c0 {w : World} {k : Nat} {x y : Value} {t : TypeId} (h : StW w k x y t) : w.cell? ⟨k, 0, none⟩ = some x := cell_of_row w k 0 _ t (0, 0) h
theorem StW.c1 {w : World} {k : Nat} {x y : Value} {t : TypeId} (h : StW w k x y t) : w.cell? ⟨k, 1, none⟩ = some y := cell_of_row w k 1 _ t (0, 0) h
theorem StW.f0 {w : World} {k : Nat} {x y : Value} {t : TypeId} (h : StW w k x y t) : w.frozen? ⟨k, 0, none⟩ = false := frozen_of_row w k 0 _ t h
theorem StW.f1 {w : World} {k : Nat} {x y : Value} {t : TypeId} (h : StW w k x y t) : w.frozen? ⟨k, 1, none⟩ = false := frozen_of_row w k 1 _ t h
theorem StW.lt {w : World} {k : Nat} {x y : Value} {t : TypeId} (h : StW w k x y t) : k < w.heap.size := (Array.getElem?_eq_some_iff.1 h).1
theorem StW.old {w w' : World} {k : Nat} {x y : Value} {t : TypeId} (h : StW w k x y t) (g : Old w w') : StW w' k x y t := (g.block k h.lt).trans h
theorem StW.new (w : World) (x y : Value) (t : TypeId) : StW (w.alloc (.cells #[x, y] t)) w.heap.size x y t := heap_alloc_new w _
end Go.Proofs.YtjedpceiimceoaaDoor
/- Proved: the walk of the statement FnExactWholeText, under the contracts of the model's and of the program's function. -/
namespace Go.Proofs.YtjedpceiimceoaaDoor
open Go.ChangeShapes Go.WideShapes Go.ChangeAt Go.RowKit
open M2
set_option linter.unusedVariables false
set_option linter.unusedSimpArgs false
set_option maxRecDepth 100000 in
set_option maxHeartbeats 4000000 in
theorem law_text (n : Bool) (xs : List Int) (T : ByteArray) (v : Value) (w : World) (hv : Row w v xs) (hl : xs.length ≤ 9223372036854775807)
    (hspec : xs.length ≤ 1048576 → ∀ v W, Row W v xs → Calls Tryd.prog 14 #[.agg #[.bool n, v]] W fun e w' => e = .returned (.string T) ∧ Old W w')
    (himpl : xs.length ≤ 1048576 → ∀ v W, Row W v xs → Old w W → Calls Tryd.prog 13 #[.agg #[.bool n, v]] W fun e w' => e = .returned (.string T) ∧ Old W w') :
    Calls Tryd.prog 4 #[.agg #[.bool n, v]] w fun e w' => e = .returned (.bool true) ∧ Old w w' := by
  have HV : Hid (Row w v xs) := hv
  have HI : Hid (xs.length ≤ 1048576 → ∀ v W, Row W v xs → Old w W → Calls Tryd.prog 13 #[.agg #[.bool n, v]] W fun e w' => e = .returned (.string T) ∧ Old W w') := himpl
  have HP : Hid (xs.length ≤ 1048576 → ∀ v W, Row W v xs → Calls Tryd.prog 14 #[.agg #[.bool n, v]] W fun e w' => e = .returned (.string T) ∧ Old W w') := hspec
  obtain ⟨c0, cap0, rfl⟩ := hv.slice
  clear hv himpl hspec
  by_cases hbig : (1048576 : Int) < (xs.length : Int)
  · go_enter Tryd.func4, Tryd.ntmps4
    go_wp2_with fail
    refine (szWhole_no n c0 xs.length cap0 1048576 _ hl (by omega) (by omega) hbig).mono ?_
    rintro e w1 ⟨rfl, g1⟩
    have HG1 : Hid (Old w w1) := Old.trans ((Old.refl w).alloc _) g1
    clear g1
    go_wp2_with fail
    go_ret
    exact ⟨rfl, HG1.out⟩
  · have hl2 : xs.length ≤ 1048576 := by omega
    have dl : decide ((1048576 : Int) - (xs.length : Int) < 0) = false := decide_eq_false (by omega)
    go_enter Tryd.func4, Tryd.ntmps4
    go_wp2_with fail
    refine (szWhole_yes n c0 xs.length cap0 1048576 _ hl (by omega) (by omega) (by omega)).mono ?_
    rintro e w1 ⟨rfl, g1⟩
    have s1 := (StW.new w (.bool n) (.slice c0 xs.length cap0) 38).old g1
    have a0 := s1.c0
    have a1 := s1.c1
    have HG1 : Hid (Old w w1) := Old.trans ((Old.refl w).alloc _) g1
    have HS1 : Hid (StW w1 w.heap.size (.bool n) (.slice c0 xs.length cap0) 38) := s1
    clear g1 s1 hbig
    go_wp2_with fail
    refine (toWhole_any n xs _ _ (HV.out.old HG1.out) hl2).mono ?_
    rintro e w2 ⟨v2, rfl, g2, o2⟩
    obtain ⟨c2, cap2, rfl⟩ := (Own.row o2).slice
    have HG2 : Hid (Old w w2) := Old.trans HG1.out g2
    have HS2 : Hid (StW w2 w.heap.size (.bool n) (.slice c0 xs.length cap0) 38) := HS1.out.old g2
    have HR2 : Hid (Row w2 (.slice c2 xs.length cap2) xs) := Own.row o2
    clear g2 o2 HG1 HS1 a0 a1
    go_wp2_with fail
    refine (HP.out hl2 _ _ HR2.out).mono ?_
    rintro e w3 ⟨rfl, g3⟩
    have HG3 : Hid (Old w w3) := Old.trans HG2.out g3
    have HS3 : Hid (StW w3 w.heap.size (.bool n) (.slice c0 xs.length cap0) 38) := HS2.out.old g3
    have a0 := HS3.out.c0
    have a1 := HS3.out.c1
    clear g3 HG2 HS2 HR2
    go_wp2_with fail
    refine (toWhole_any n xs _ _ (HV.out.old HG3.out) hl2).mono ?_
    rintro e w4 ⟨v4, rfl, g4, o4⟩
    obtain ⟨c4, cap4, rfl⟩ := (Own.row o4).slice
    have HG4 : Hid (Old w w4) := Old.trans HG3.out g4
    have HS4 : Hid (StW w4 w.heap.size (.bool n) (.slice c0 xs.length cap0) 38) := HS3.out.old g4
    have HR4 : Hid (Row w4 (.slice c4 xs.length cap4) xs) := Own.row o4
    clear g4 o4 HG3 HS3 a0 a1
    go_wp2_with fail
    refine (HI.out hl2 _ _ (HR4.out.old ((Old.refl _).alloc _)) (HG4.out.alloc _)).mono ?_
    rintro e w5 ⟨rfl, g5⟩
    have HG5 : Hid (Old w w5) := Old.trans (HG4.out.alloc _) g5
    have HS5 : Hid (StW w5 w.heap.size (.bool n) (.slice c0 xs.length cap0) 38) := (HS4.out.old ((Old.refl _).alloc _)).old g5
    have HX5 : Hid (StW w5 w4.heap.size (.bool n) (.slice c4 xs.length cap4) 25) := (StW.new w4 _ _ _).old g5
    have HR5 : Hid (Row w5 (.slice c4 xs.length cap4) xs) := (HR4.out.old ((Old.refl _).alloc _)).old g5
    have a0 := HS5.out.c0
    have a1 := HS5.out.c1
    have x0 := HX5.out.c0
    have x1 := HX5.out.c1
    clear g5 HG4 HS4 HR4
    go_wp2_with fail
    go_region_with (first
      | (go_at_call 17; refine (toWhole_any n xs _ _ (HV.out.old (HG5.out.drewN 1)) hl2).mono ?_; rintro e w6 ⟨v6, rfl, g6, o6⟩; obtain ⟨c6, cap6, rfl⟩ := (Own.row o6).slice; have HG6 : Hid (Old w w6) := Old.trans (HG5.out.drewN 1) g6; have HX6 : Hid (StW w6 w4.heap.size (.bool n) (.slice c4 xs.length cap4) 25) := (HX5.out.old ((Old.refl _).drewN 1)).old g6; have HR6 : Hid (Row w6 (.slice c4 xs.length cap4) xs) := (HR5.out.old ((Old.refl _).drewN 1)).old g6; have HT6 : Hid (Row w6 (.slice c6 xs.length cap6) xs) := Own.row o6; have x0' := HX6.out.c0; have x1' := HX6.out.c1; clear g6 o6)
      | (go_at_call 18; refine (eqWhole_yes n xs _ _ _ HR6.out HT6.out (by omega)).mono ?_; rintro e w7 ⟨rfl, g7⟩; have HG7 : Hid (Old w w7) := Old.trans HG6.out g7; clear g7))
    all_goals
      go_wp2_with fail
      go_ret
      exact ⟨rfl, HG7.out⟩
end Go.Proofs.YtjedpceiimceoaaDoor
/- Proved: contracts of the model's functions on whole numbers of any length. -/
namespace Go.Proofs.YtjedpceiimceoaaDoor
open Go.ChangeShapes Go.WideShapes Go.ChangeAt Go.RowKit
open M2
set_option linter.unusedVariables false
set_option linter.unusedSimpArgs false
def Gw (neg : Bool) (xs : List Nat) : Prop := Nrm xs ∧ (neg = true → xs ≠ [])
theorem Gw.pos {neg : Bool} {xs : List Nat} (h : Gw neg xs) (hn : neg = true) : 0 < val xs := by
  rcases Nat.eq_zero_or_pos (val xs) with h0 | h0
  · exact absurd (val_zero_of h.1 h0) (h.2 hn)
  · exact h0
end Go.Proofs.YtjedpceiimceoaaDoor
/- Proved: contracts of the model's sums, products and quotients of whole numbers, by what the numbers are worth. -/
namespace Go.Proofs.YtjedpceiimceoaaDoor
open Go.ChangeShapes Go.WideShapes Go.ChangeAt Go.RowKit
open M2
set_option linter.unusedVariables false
set_option linter.unusedSimpArgs false
theorem div_any (xs ys : List Nat) (v u : Value) (w : World) (hv : Row w v (toI xs)) (hu : Row w u (toI ys)) (ha : Lim xs) (hb : Nrm ys) (hl : ys ≠ []) (la : xs.length ≤ 1048576) (lb : ys.length ≤ 1048000) :
    Calls Tryd.prog 39 #[v, u] w fun e w' => ∃ v1 v2, e = .returned (.tuple #[v1, v2]) ∧ Old w w' ∧ Own w' w.heap.size v1 (toI (dig (val xs / val ys))) ∧ Own w' w.heap.size v2 (toI (dig (val xs % val ys))) := by
  by_cases h1 : ys.length = 1
  · obtain ⟨d, rfl⟩ := List.length_eq_one_iff.1 h1
    have hd : d ≠ 0 := by have := hb.2 (by simp); simpa using this
    have hd2 := hb.1.head
    have e : val [d] = d := by simp [val]
    rw [e]
    exact div1_any xs d v u w hv hu ha (by omega) hd2 la
  · have h0 : ys.length ≠ 0 := fun h => hl (List.length_eq_zero_iff.1 h)
    exact div2_any xs ys v u w hv hu ha hb (by omega) la lb
end Go.Proofs.YtjedpceiimceoaaDoor
