/- Proved: the contract of the program's divideSizes: the quotient and what is left. -/
import Derived.Test.YtfgooclnohnkmaaGreatDoorDza
import Derived.Test.YtfgooclnohnkmaaGreatDoorDzb
namespace Go.Proofs.YtfgooclnohnkmaaGreatDoor
open M2
theorem divide_sz (a b : Nat) (w : World) (ha : cnt a ≤ 40) (hb : cnt b ≤ 40) (hpos : 0 < b) :
    Calls Tryz.prog 77 #[.agg (szV a), .agg (szV b)] w fun e w' => e = .returned (.tuple #[.agg (szV (a / b)), .agg (szV (a % b))]) ∧ Old w w' := by
  by_cases h : a < b
  · exact div_lt a b w ha hb h
  · have h1 := cnt_pos (show b ≠ 0 by omega)
    by_cases h2 : cnt b = 1
    · exact div_one a b w ha h2 (by omega)
    · have h3 : cnt b ≤ cnt a := cnt_mono (by omega)
      exact div_long a b (cnt b - 2) (cnt a - cnt b) w ha (by omega) (by omega) (by omega)
end Go.Proofs.YtfgooclnohnkmaaGreatDoor
