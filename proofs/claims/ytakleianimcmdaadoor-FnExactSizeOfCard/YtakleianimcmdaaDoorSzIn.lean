/- Proved: the contract of the program's sizeOf: the size of a whole number's limbs. -/
import Derived.Test.YtakleianimcmdaaDoorSzAdd
import Derived.Laws.CopyOwn
import Derived.Deep.RegionLaw
namespace Go.Proofs.YtakleianimcmdaaDoor
open Go.ChangeShapes Go.WideShapes Go.ChangeAt Go.RowKit
open M2
set_option linter.unusedVariables false
set_option linter.unusedSimpArgs false

theorem infoIntSizeW : (Tryd.prog.info? 3).map (·.size) = some 1 := by kernel_rfl
theorem one_ints (xs : List Nat) : ∀ v ∈ xs.map (fun n : Nat => Value.int .i64 (n : Int)), v.oneCell' = true := by
  intro v hv
  obtain ⟨n, _, rfl⟩ := List.mem_map.1 hv
  rfl
end Go.Proofs.YtakleianimcmdaaDoor
