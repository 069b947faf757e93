/- Proved: the program's AddRows. -/
import Derived.Test.YtfgooclnohnkmaaGreatDoorEapy
import Derived.Test.YtfgooclnohnkmaaGreatDoorPls
namespace Go.Proofs.YtfgooclnohnkmaaGreatDoor
open Go.ChangeShapes Go.WideShapes Go.ChangeAt Go.RowKit
open M1
set_option linter.unusedVariables false
set_option linter.unusedSimpArgs false
theorem two_of {N : Int} {ps : List Int} {a b : Bool} {xss yss : List (List Int)} : twoB N ps a b xss yss = true ↔ (grB N ps xss = true ∧ grB N ps yss = true ∧ a = b) := by
  unfold twoB grB
  cases spB N ps <;> cases rwB N ps xss <;> cases rwB N ps yss <;> cases a <;> cases b <;> simp
theorem OwS.ats {xss : List (List Int)} {W : World} {lo hi : Nat} {v : Value} (ps : List Int) (h : OwS xss W lo hi v) : ∃ us cs, 0 < xss.length → RowsAt W v ps xss us cs := by
  rcases Nat.eq_zero_or_pos xss.length with h0 | h0
  · exact ⟨fun _ => none, fun _ => 0, fun h => by omega⟩
  · obtain ⟨us, cs, h⟩ := h.at ps h0
    exact ⟨us, cs, fun _ => h⟩
end Go.Proofs.YtfgooclnohnkmaaGreatDoor
