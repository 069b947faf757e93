/- Proved: the contract of the program's addSizes. -/
import Derived.Test.YtanijpekdnkicaaGreatDoorWq04
namespace Go.Proofs.YtanijpekdnkicaaGreatDoor
open Go.ChangeShapes Go.WideShapes Go.ChangeAt Go.RowKit
open M2
set_option linter.unusedVariables false
set_option linter.unusedSimpArgs false

theorem trimmed_pad (n c most : Nat) (w : World) (hn : cnt n ≤ most) (hm : most ≤ 80) :
    Calls Tryz.prog 141 #[.agg (szA (pad n) c), .int .i64 (most : Int)] w fun e w' => e = .returned (.agg (szV n)) ∧ Old w w' := by
  have := trimmed_any (pad n) c most w (pad_len (by unfold cnt at hn; omega)) (pad_lim n) hm (by rw [pad_val]; unfold pad; rw [ext_take most hn hm, val_dig])
  rw [pad_val] at this
  exact this
theorem pad_len' {n k : Nat} (h : cnt n ≤ k) (hk : k ≤ 80) : (pad n).length = 80 := pad_len (by unfold cnt at h; omega)
theorem take_cnt (n k : Nat) (h : cnt n ≤ k) : (dig n).take k = dig n := List.take_of_length_le h
end Go.Proofs.YtanijpekdnkicaaGreatDoor
