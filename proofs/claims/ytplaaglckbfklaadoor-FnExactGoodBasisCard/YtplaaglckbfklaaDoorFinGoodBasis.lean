/- Proved: the statement on GoodBasis at every list, in a world in which the two tables are laid. -/
import Derived.Test.YtplaaglckbfklaaDoorGbS
namespace Go.Proofs.YtplaaglckbfklaaDoor
open Go.ChangeShapes Go.WideShapes Go.ChangeAt Go.RowKit
set_option linter.unusedVariables false
set_option linter.unusedSimpArgs false
set_option maxRecDepth 100000 in
set_option maxHeartbeats 4000000 in
theorem GoodBasis_any (xs : List Int) (v : Value) (w : World) (hv : Row w v xs) (hl : xs.length ≤ 9223372036854775807) (hx : ∀ x ∈ xs, -9223372036854775808 ≤ x ∧ x ≤ 9223372036854775807) (hP : PrsW w) (hT : TabW w) :
    Calls Tryd.prog 10 #[v] w fun e w' => e = .returned (.bool true) ∧ Old w w' := by
  have HP : Hid (PrsW w) := hP
  have HT : Hid (TabW w) := hT
  have RV : Hid (Row w v xs) := hv
  have HX : Hid (∀ x ∈ xs, -9223372036854775808 ≤ x ∧ x ≤ 9223372036854775807) := hx
  obtain ⟨cv, capv, rfl⟩ := hv.slice
  clear hT hP hv hx
  by_cases bigv : (1048576 : Int) < (xs.length : Int)
  · have dv : decide ((1048576 : Int) < (xs.length : Int)) = true := decide_eq_true bigv
    go_enter Tryd.func10, Tryd.ntmps10
    go_wp2_with fail
    go_ret
    exact ⟨rfl, Old.refl _⟩
  have dv : decide ((1048576 : Int) < (xs.length : Int)) = false := decide_eq_false bigv
  have lv : xs.length ≤ 1048576 := by omega
  have SP : Hid (∀ v W, Row W v xs → Fit v → Calls Tryd.prog 49 #[v] W fun e w' => e = .returned (.bool (basB xs)) ∧ Old W w') := fun v W h f => spec_goodBasis xs v W h f hl HX.out
  have IM : Hid (∀ v W, PrsW W → TabW W → Row W v xs → Fit v → Calls Tryd.prog 50 #[v] W fun e w' => e = .returned (.bool (basB xs)) ∧ Old W w') := fun v W h1 h2 h f => impl_goodBasis xs v W h1 h2 h f hl
  generalize basB xs = B at *
  have dok : (B != B) = false := by simp
  clear bigv
  go_enter Tryd.func10, Tryd.ntmps10
  go_wp2_with fail
  refine (toInts_any xs _ _ RV.out lv).mono ?_
  rintro e w1 ⟨rfl, g, o⟩
  have HG_1 : Hid (Old w w1) := g
  have A_1 : Hid (Row w1 (.slice (some ⟨w.heap.size, 0, none⟩) xs.length xs.length) xs) := Own.row o
  clear g o
  go_wp2_with fail
  refine (SP.out _ _ A_1.out (Nat.le_refl _)).mono ?_
  rintro e w2 ⟨rfl, g⟩
  have HG_2 : Hid (Old w w2) := Old.trans HG_1.out g
  clear g A_1 HG_1
  go_wp2_with fail
  refine (toInts_any xs _ _ (RV.out.old HG_2.out) lv).mono ?_
  rintro e w3 ⟨rfl, g, o⟩
  have HG_3 : Hid (Old w w3) := Old.trans HG_2.out g
  have X_3 : Hid (Row w3 (.slice (some ⟨w2.heap.size, 0, none⟩) xs.length xs.length) xs) := Own.row o
  clear g o HG_2
  go_wp2_with fail
  refine (IM.out _ _ (HP.out.old HG_3.out) (HT.out.old HG_3.out) X_3.out (Nat.le_refl _)).mono ?_
  rintro e w4 ⟨rfl, g⟩
  have HG_4 : Hid (Old w w4) := Old.trans HG_3.out g
  have X_4 : Hid (Row w4 (.slice (some ⟨w2.heap.size, 0, none⟩) xs.length xs.length) xs) := X_3.out.old g
  clear g X_3 HG_3
  go_wp2_with fail
  refine (toInts_any xs _ _ (RV.out.old HG_4.out) lv).mono ?_
  rintro e w5 ⟨rfl, g, o⟩
  have HG_5 : Hid (Old w w5) := Old.trans HG_4.out g
  have X_5 : Hid (Row w5 (.slice (some ⟨w2.heap.size, 0, none⟩) xs.length xs.length) xs) := X_4.out.old g
  have B_5 : Hid (Row w5 (.slice (some ⟨w4.heap.size, 0, none⟩) xs.length xs.length) xs) := Own.row o
  clear g o HG_4 X_4
  go_wp2_with fail
  refine (eqInts_yes xs _ _ _ X_5.out B_5.out (by omega)).mono ?_
  rintro e w6 ⟨rfl, g⟩
  have HG_6 : Hid (Old w w6) := Old.trans HG_5.out g
  clear g
  go_wp2_with fail
  go_ret
  exact ⟨rfl, HG_6.out⟩
end Go.Proofs.YtplaaglckbfklaaDoor
