/- Proved: the model's l5Ahead where it transforms. -/
import Derived.Test.YtfgooclnohnkmaaGreatDoorRga
import Derived.Test.YtfgooclnohnkmaaGreatDoorLrg
namespace Go.Proofs.YtfgooclnohnkmaaGreatDoor
open Go.ChangeShapes Go.WideShapes Go.ChangeAt Go.RowKit
open M1
set_option linter.unusedVariables false
set_option linter.unusedSimpArgs false
theorem heap_newL5at (w : World) (o : Obj) : (w.alloc o).heap[w.heap.size]? = some o := by
  unfold World.alloc
  simp
theorem own_none0L5at (w : World) (base : Nat) (h : base ≤ w.heap.size) : Own (w.alloc (.cells #[] 3)) base (.slice (some ⟨w.heap.size, 0, none⟩) 0 0) [] := by
  refine ⟨rfl, .inr ⟨w.heap.size, 0, #[], rfl, h, ?_, Nat.le_refl _, ?_, ?_, ?_⟩⟩
  · exact heap_newL5at w _
  all_goals simp
theorem own_app0L5at {w : World} {base : Nat} {v : Value} {zs : List Int} (h : w.ownsRow base 3 1 v (0 + zs.length) ([] ++ zs.map (Value.int .i64))) : Own w base v zs := by
  rw [Nat.zero_add, List.nil_append] at h
  exact h
end Go.Proofs.YtfgooclnohnkmaaGreatDoor
