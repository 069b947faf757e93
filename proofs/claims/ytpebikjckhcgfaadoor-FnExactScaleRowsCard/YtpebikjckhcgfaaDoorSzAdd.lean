/- Proved: the contract of the program's addSizes. -/
import Derived.Test.YtpebikjckhcgfaaDoorZ65
namespace Go.Proofs.YtpebikjckhcgfaaDoor
open Go.ChangeShapes Go.WideShapes Go.ChangeAt Go.RowKit
open M2
set_option linter.unusedVariables false
set_option linter.unusedSimpArgs false

/-- trimmed, of the eighty limbs of a number -/
theorem trimmed_pad (n c most : Nat) (w : World) (hn : cnt n ≤ most) (hm : most ≤ 80) :
    Calls Tryd.prog 170 #[.agg (szA (pad n) c), .int .i64 (most : Int)] w fun e w' => e = .returned (.agg (szV n)) ∧ Old w w' := by
  have := trimmed_any (pad n) c most w (pad_len (by unfold cnt at hn; omega)) (pad_lim n) hm (by rw [pad_val]; unfold pad; rw [ext_take most hn hm, val_dig])
  rw [pad_val] at this
  exact this
theorem pad_len' {n k : Nat} (h : cnt n ≤ k) (hk : k ≤ 80) : (pad n).length = 80 := pad_len (by unfold cnt at h; omega)
theorem take_cnt (n k : Nat) (h : cnt n ≤ k) : (dig n).take k = dig n := List.take_of_length_le h
theorem take_pad (n k : Nat) (h : cnt n ≤ k) (hk : k ≤ 80) : val ((pad n).take k) = n := by unfold pad; rw [ext_take k h hk, val_dig]
theorem add_done {a b k : Nat} {out : List Nat} {c : Nat} (h : AddI (dig a) (dig b) k out c) (ha : cnt a ≤ k) (hb : cnt b ≤ k) (hk : k ≤ 79) : ext (out ++ [c]) = pad (a + b) ∧ cnt (a + b) ≤ k + 1 := by
  have e := h.eq
  rw [take_cnt a k ha, take_cnt b k hb, val_dig, val_dig] at e
  have hl : Lim (out ++ [c]) := h.lim.append (Lim.cons (by have := h.c1; have : LB = 268435456 := rfl; omega) Lim.nil)
  have hv : val (out ++ [c]) = a + b := by rw [val_snoc, h.len, e]
  have hlen : (out ++ [c]).length = k + 1 := by simp [h.len]
  refine ⟨?_, ?_⟩
  · rw [pad_of (ext_lim hl) (ext_len (by rw [hlen]; omega)), ext_val, hv]
  · have := val_lt hl
    rw [hv, hlen] at this
    exact cnt_le this
end Go.Proofs.YtpebikjckhcgfaaDoor
