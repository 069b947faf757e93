/- Proved: whether rows are as they should be, as the model tells it. -/
import Derived.Test.YtfgooclnohnkmaaDoorNB
import Derived.Test.YtfgooclnohnkmaaDoorKE
import Derived.Test.YtfgooclnohnkmaaDoorNG
namespace Go.Proofs.YtfgooclnohnkmaaDoor
open Go.ChangeShapes Go.WideShapes Go.ChangeAt Go.RowKit
open M1
set_option linter.unusedVariables false
set_option linter.unusedSimpArgs false
/-- from place k on each row is a polynomial of its ring -/
def rwA (N : Int) (ps : List Int) (xss : List (List Int)) (k : Nat) : Bool := decide (∀ i, i < ps.length → k ≤ i → polyB (ps.getD i 0) N (xss.getD i []) = true)
theorem rwA_end {N : Int} {ps : List Int} {xss : List (List Int)} {k : Nat} (h : ps.length ≤ k) : rwA N ps xss k = true := decide_eq_true (fun i h1 h2 => by omega)
theorem rwA_no {N : Int} {ps : List Int} {xss : List (List Int)} {k : Nat} (h : k < ps.length) (hk : polyB (ps.getD k 0) N (xss.getD k []) = false) : rwA N ps xss k = false :=
  decide_eq_false (fun f => by rw [f k h (Nat.le_refl _)] at hk; cases hk)
theorem rwA_yes {N : Int} {ps : List Int} {xss : List (List Int)} {k : Nat} (hk : polyB (ps.getD k 0) N (xss.getD k []) = true) : rwA N ps xss k = rwA N ps xss (k + 1) := by
  unfold rwA
  apply decide_eq_decide.2
  constructor
  · exact fun f i h1 h2 => f i h1 (by omega)
  · intro f i h1 h2
    rcases Nat.eq_or_lt_of_le h2 with e | e
    · subst e
      exact hk
    · exact f i h1 e
/-- rows are as they should be beside a good space -/
def rwB (N : Int) (ps : List Int) (xss : List (List Int)) : Bool := decide (xss.length = ps.length) && rwA N ps xss 0
def grB (N : Int) (ps : List Int) (xss : List (List Int)) : Bool := spB N ps && rwB N ps xss
end Go.Proofs.YtfgooclnohnkmaaDoor
