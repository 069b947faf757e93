/- Proved: what the model answers, as functions of the numbers: whether there is a quotient, and the nearest one. -/
import Derived.Test.YtpebikjckhcgfaaDoorQ21
import Derived.Test.YtpebikjckhcgfaaDoorQ02
import Derived.Deep.RegionHeld3
namespace Go.Proofs.YtpebikjckhcgfaaDoor
open Go.ChangeShapes Go.WideShapes Go.ChangeAt Go.RowKit
open M2
set_option linter.unusedVariables false
set_option linter.unusedSimpArgs false
theorem StW.at31 (w : World) (x y x' y' x'' y'' : Value) (t t' t'' : TypeId) : StW (((w.alloc (.cells #[x, y] t)).alloc (.cells #[x', y'] t')).alloc (.cells #[x'', y''] t'')) w.heap.size x y t :=
  (heap_alloc_old _ _ (by simp; omega)).trans (StW.at1 w x y x' y' t t')
theorem StW.at32 (w : World) (x y x' y' x'' y'' : Value) (t t' t'' : TypeId) : StW (((w.alloc (.cells #[x, y] t)).alloc (.cells #[x', y'] t')).alloc (.cells #[x'', y''] t'')) (w.heap.size + 1) x' y' t' :=
  (heap_alloc_old _ _ (by simp)).trans (StW.at2 w x y x' y' t t')
theorem StW.at33 (w : World) (x y x' y' x'' y'' : Value) (t t' t'' : TypeId) : StW (((w.alloc (.cells #[x, y] t)).alloc (.cells #[x', y'] t')).alloc (.cells #[x'', y''] t'')) (w.heap.size + 1 + 1) x'' y'' t'' := by
  have h := heap_alloc_new ((w.alloc (.cells #[x, y] t)).alloc (.cells #[x', y'] t')) (.cells #[x'', y''] t'')
  have e : ((w.alloc (.cells #[x, y] t)).alloc (.cells #[x', y'] t')).heap.size = w.heap.size + 1 + 1 := by simp
  rw [e] at h
  exact h
end Go.Proofs.YtpebikjckhcgfaaDoor
