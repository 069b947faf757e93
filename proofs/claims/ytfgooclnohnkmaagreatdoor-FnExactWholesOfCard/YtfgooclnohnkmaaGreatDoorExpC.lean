/- Proved: what the model answers, as functions of the numbers: comparing, what is left by a word, the whole number of a word. -/
import Derived.Test.YtfgooclnohnkmaaGreatDoorExpA
import Derived.Test.YtfgooclnohnkmaaGreatDoorLawB
import Derived.Deep.RegionHeld3
namespace Go.Proofs.YtfgooclnohnkmaaGreatDoor
open Go.ChangeShapes Go.WideShapes Go.ChangeAt Go.RowKit
open M2
set_option linter.unusedVariables false
set_option linter.unusedSimpArgs false
/-- what CmpWholes answers -/
def cmpW (n m : Bool) (xs ys : List Int) : Int := if Good n xs ∧ Good m ys then cmpI (sv n (nat xs)) (sv m (nat ys)) else 0
theorem spec_isMod (p : Int) (w : World) :
    Calls Tryz.prog 135 #[.int .i64 p] w fun e w' => e = .returned (.bool (decide (2 ≤ p ∧ p ≤ 268435456))) ∧ w' = w := by
  go_enter Tryz.func135, Tryz.ntmps135
  go_wp2_with fail
  refine (specIn p 2 268435456 _).mono ?_
  rintro e w' ⟨rfl, rfl⟩
  go_wp2_with fail
  go_ret
  exact ⟨by simp [Bool.decide_and], rfl⟩
/-- what ModWord answers -/
def modW (n : Bool) (xs : List Int) (k : Int) : Int := if Good n xs ∧ (2 ≤ k ∧ k ≤ 268435456) then sv n (nat xs) % k else 0
end Go.Proofs.YtfgooclnohnkmaaGreatDoor
