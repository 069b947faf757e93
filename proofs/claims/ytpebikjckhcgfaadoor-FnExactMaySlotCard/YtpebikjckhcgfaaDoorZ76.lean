/- Proved: several texts in one: what each proves is said ahead of it. -/
import Derived.Test.YtpebikjckhcgfaaDoorZ12
/- Proved: the walk of the statement on MaySlot, under the contracts of the model's and of the program's function. -/
namespace Go.Proofs.YtpebikjckhcgfaaDoor
open Go.ChangeShapes Go.WideShapes Go.ChangeAt Go.RowKit
set_option linter.unusedVariables false
set_option linter.unusedSimpArgs false
theorem law_MaySlot (t s : Int) (w : World) (hP : PrsW w) (hT : TabW w) (ok : Bool)
    (hspec : ∀ W, Calls Tryd.prog 24 #[.int .i64 t, .int .i64 s] W fun e w' => e = .returned (.bool ok) ∧ Old W w')
    (himpl : ∀ W, PrsW W → TabW W → Calls Tryd.prog 25 #[.int .i64 t, .int .i64 s] W fun e w' => e = .returned (.bool ok) ∧ Old W w') :
    Calls Tryd.prog 4 #[.int .i64 t, .int .i64 s] w fun e w' => e = .returned (.bool true) ∧ Old w w' := by
  have HP : Hid (PrsW w) := hP
  have HT : Hid (TabW w) := hT
  have dok : (ok != ok) = false := by simp
  clear hP hT
  go_enter Tryd.func4, Tryd.ntmps4
  go_wp2_with fail
  refine (hspec _).mono ?_
  rintro e w1 ⟨rfl, g1⟩
  have HG1 : Hid (Old w w1) := g1
  clear g1
  go_wp2_with fail
  refine (himpl _ (HP.out.old HG1.out) (HT.out.old HG1.out)).mono ?_
  rintro e w2 ⟨rfl, g2⟩
  have HG2 : Hid (Old w w2) := Old.trans HG1.out g2
  clear g2
  go_wp2_with fail
  go_ret
  exact ⟨rfl, HG2.out⟩
end Go.Proofs.YtpebikjckhcgfaaDoor
