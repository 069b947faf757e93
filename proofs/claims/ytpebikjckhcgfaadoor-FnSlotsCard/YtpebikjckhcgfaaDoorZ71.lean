/- Proved: several texts in one: what each proves is said ahead of it. -/
import Derived.Test.YtpebikjckhcgfaaDoorZ12
/- Proved: the walk of the statement on TurnOfRows, under the contracts of the model's and of the program's function. -/
namespace Go.Proofs.YtpebikjckhcgfaaDoor
open Go.ChangeShapes Go.WideShapes Go.ChangeAt Go.RowKit
open M1
set_option linter.unusedVariables false
set_option linter.unusedSimpArgs false
set_option maxRecDepth 100000 in
set_option maxHeartbeats 8000000 in
theorem law_TurnOfRows (t s : Int) (w : World) (hT : TabW w) (ok : Bool) (z : Int)
    (hspec : ∀ W, Calls Tryd.prog 33 #[.int .i64 t, .int .i64 s] W fun e w' => e = .returned (.tuple #[.int .i64 z, .bool ok]) ∧ Old W w')
    (himpl : ∀ W, TabW W → Calls Tryd.prog 34 #[.int .i64 t, .int .i64 s] W fun e w' => e = .returned (.tuple #[.int .i64 z, .bool ok]) ∧ Old W w') :
    Calls Tryd.prog 8 #[.int .i64 t, .int .i64 s] w fun e w' => e = .returned (.bool true) ∧ Old w w' := by
  have HT : Hid (TabW w) := hT
  clear hT 
  have SP : Hid (∀ W, Calls Tryd.prog 33 #[.int .i64 t, .int .i64 s] W fun e w' => e = .returned (.tuple #[.int .i64 z, .bool ok]) ∧ Old W w') := hspec 
  have IM : Hid (∀ W, TabW W → Calls Tryd.prog 34 #[.int .i64 t, .int .i64 s] W fun e w' => e = .returned (.tuple #[.int .i64 z, .bool ok]) ∧ Old W w') := himpl 
  have dok : (ok != ok) = false := by simp
  have dzz : (z != z) = false := by simp
  clear hspec himpl 
  go_enter Tryd.func8, Tryd.ntmps8
  have HG_0 : Hid (Old w w) := Old.refl w
  go_wp2_with fail
  refine (SP.out _ ).mono ?_
  rintro e w1 ⟨rfl, g⟩
  have hsw1 : w.heap.size ≤ w1.heap.size := g.size
  have HG_1 : Hid (Old w w1) := Old.trans HG_0.out g
  clear HG_0
  clear g
  go_wp2_with fail
  refine (IM.out _ (HT.out.old HG_1.out) ).mono ?_
  rintro e w2 ⟨rfl, g⟩
  have hsw2 : w1.heap.size ≤ w2.heap.size := g.size
  have HG_2 : Hid (Old w w2) := Old.trans HG_1.out g
  clear HG_1
  clear g
  go_wp2_with fail
  go_ret
  exact ⟨rfl, HG_2.out⟩
end Go.Proofs.YtpebikjckhcgfaaDoor
/- Proved: the walk of the statement on TurnOfSwap, under the contracts of the model's and of the program's function. -/
namespace Go.Proofs.YtpebikjckhcgfaaDoor
open Go.ChangeShapes Go.WideShapes Go.ChangeAt Go.RowKit
open M1
set_option linter.unusedVariables false
set_option linter.unusedSimpArgs false
set_option maxRecDepth 100000 in
set_option maxHeartbeats 8000000 in
theorem law_TurnOfSwap (t : Int) (w : World) (hT : TabW w) (ok : Bool) (z : Int)
    (hspec : ∀ W, Calls Tryd.prog 35 #[.int .i64 t] W fun e w' => e = .returned (.tuple #[.int .i64 z, .bool ok]) ∧ Old W w')
    (himpl : ∀ W, TabW W → Calls Tryd.prog 36 #[.int .i64 t] W fun e w' => e = .returned (.tuple #[.int .i64 z, .bool ok]) ∧ Old W w') :
    Calls Tryd.prog 9 #[.int .i64 t] w fun e w' => e = .returned (.bool true) ∧ Old w w' := by
  have HT : Hid (TabW w) := hT
  clear hT 
  have SP : Hid (∀ W, Calls Tryd.prog 35 #[.int .i64 t] W fun e w' => e = .returned (.tuple #[.int .i64 z, .bool ok]) ∧ Old W w') := hspec 
  have IM : Hid (∀ W, TabW W → Calls Tryd.prog 36 #[.int .i64 t] W fun e w' => e = .returned (.tuple #[.int .i64 z, .bool ok]) ∧ Old W w') := himpl 
  have dok : (ok != ok) = false := by simp
  have dzz : (z != z) = false := by simp
  clear hspec himpl 
  go_enter Tryd.func9, Tryd.ntmps9
  have HG_0 : Hid (Old w w) := Old.refl w
  go_wp2_with fail
  refine (SP.out _ ).mono ?_
  rintro e w1 ⟨rfl, g⟩
  have hsw1 : w.heap.size ≤ w1.heap.size := g.size
  have HG_1 : Hid (Old w w1) := Old.trans HG_0.out g
  clear HG_0
  clear g
  go_wp2_with fail
  refine (IM.out _ (HT.out.old HG_1.out) ).mono ?_
  rintro e w2 ⟨rfl, g⟩
  have hsw2 : w1.heap.size ≤ w2.heap.size := g.size
  have HG_2 : Hid (Old w w2) := Old.trans HG_1.out g
  clear HG_1
  clear g
  go_wp2_with fail
  go_ret
  exact ⟨rfl, HG_2.out⟩
end Go.Proofs.YtpebikjckhcgfaaDoor
