/- Proved: contracts of the program's areGoodWholes, leftBy and RowsOf. -/
import Derived.Test.YtfgooclnohnkmaaGreatDoorNG
import Derived.Test.YtfgooclnohnkmaaGreatDoorMks
import Derived.Test.YtfgooclnohnkmaaGreatDoorResI
import Derived.Test.YtfgooclnohnkmaaGreatDoorNB
import Derived.Test.YtfgooclnohnkmaaGreatDoorAdn
namespace Go.Proofs.YtfgooclnohnkmaaGreatDoor
open Go.ChangeShapes Go.WideShapes Go.ChangeAt Go.RowKit
open M2
set_option linter.unusedVariables false
set_option linter.unusedSimpArgs false
/-- what is left of each number by p -/
def lbZ (bs : List Bool) (xss : List (List Int)) (p : Int) : List Int := (List.range xss.length).map fun j => sv (bs.getD j false) (nat (xss.getD j [])) % p
theorem lbZ_len (bs : List Bool) (xss : List (List Int)) (p : Int) : (lbZ bs xss p).length = xss.length := by simp [lbZ]
theorem lbZ_get (bs : List Bool) (xss : List (List Int)) (p : Int) (j : Nat) (h : j < xss.length) : (lbZ bs xss p).getD j 0 = sv (bs.getD j false) (nat (xss.getD j [])) % p := by simp [lbZ, List.getD, h]
/-- a row for each prime -/
def rofX (bs : List Bool) (xss : List (List Int)) (ps : List Int) : List (List Int) := ps.map (lbZ bs xss)
theorem rofX_len (bs : List Bool) (xss : List (List Int)) (ps : List Int) : (rofX bs xss ps).length = ps.length := by simp [rofX]
theorem rofX_get (bs : List Bool) (xss : List (List Int)) (ps : List Int) (k : Nat) (h : k < ps.length) : (rofX bs xss ps).getD k [] = lbZ bs xss (ps.getD k 0) := by simp [rofX, List.getD, h]
/-- all are good from k on -/
def allG (bs : List Bool) (xss : List (List Int)) (k : Nat) : Bool := decide (∀ i, i < xss.length → k ≤ i → Good (bs.getD i false) (xss.getD i []))
theorem allG_end {bs : List Bool} {xss : List (List Int)} {k : Nat} (h : xss.length ≤ k) : allG bs xss k = true := decide_eq_true (fun i h1 h2 => by omega)
theorem allG_no {bs : List Bool} {xss : List (List Int)} {k : Nat} (h : k < xss.length) (hk : ¬ Good (bs.getD k false) (xss.getD k [])) : allG bs xss k = false := decide_eq_false (fun hh => hk (hh k h (Nat.le_refl _)))
theorem allG_yes {bs : List Bool} {xss : List (List Int)} {k : Nat} (hk : Good (bs.getD k false) (xss.getD k [])) : allG bs xss k = allG bs xss (k + 1) := by
  unfold allG
  congr 1
  apply propext
  constructor
  · intro h i h1 h2
    exact h i h1 (by omega)
  · intro h i h1 h2
    rcases Nat.lt_or_ge k i with h3 | h3
    · exact h i h1 (by omega)
    · obtain rfl : i = k := by omega
      exact hk
/-- whether rows are told -/
def roB (N : Int) (ps : List Int) (bs : List Bool) (xss : List (List Int)) : Bool := spB N ps && (decide ((xss.length : Int) = N) && allG bs xss 0)
theorem st_bk {w : World} {k : Nat} {x y : Value} {t : TypeId} (h : StW w k x y t) : Bk w k #[x, y] t := h
theorem bk_st {w : World} {k : Nat} {x y : Value} {t : TypeId} (h : Bk w k #[x, y] t) : StW w k x y t := h
end Go.Proofs.YtfgooclnohnkmaaGreatDoor
