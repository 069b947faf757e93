/- Proved: several texts in one: what each proves is said ahead of it. -/
import Derived.Test.YtpebikjckhcgfaaDoorZ24
import Derived.Test.YtpebikjckhcgfaaDoorZ04
import Derived.Deep.RegionWith
/- Proved: the model's AddRows. -/
namespace Go.Proofs.YtpebikjckhcgfaaDoor
open Go.ChangeShapes Go.WideShapes Go.ChangeAt Go.RowKit
open M1
set_option linter.unusedVariables false
set_option linter.unusedSimpArgs false
/-- rows that are answered, and whether -/
def Rs (w : World) (n : Bool) (zss : List (List Int)) (ok : Bool) (e : Ending) (w' : World) : Prop := ∃ r0, e = .returned (.tuple #[.agg r0, .bool ok]) ∧ Old w w' ∧ XR n zss w' w.heap.size w'.heap.size r0
theorem st_put2 {w : World} {k : Nat} {x y : Value} {t : TypeId} (h : StW w k x y t) (x' y' : Value) : StW ((w.setCell ⟨k, 0, none⟩ x').setCell ⟨k, 1, none⟩ y') k x' y' t := by
  have h1 := heap_setCell_same w k 0 _ _ x' h
  have h2 := heap_setCell_same _ k 1 _ _ y' h1
  exact h2
theorem XR.nil (n : Bool) (W : World) (lo hi : Nat) (h : hi ≤ W.heap.size) : XR n [] W lo hi #[.bool n, .slice none 0 0] := ⟨none, 0, rfl, h, Or.inl ⟨rfl, rfl⟩⟩
end Go.Proofs.YtpebikjckhcgfaaDoor
