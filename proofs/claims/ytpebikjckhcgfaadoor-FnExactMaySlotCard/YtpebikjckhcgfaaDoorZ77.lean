/- Proved: several texts in one: what each proves is said ahead of it. -/
import Derived.Test.YtpebikjckhcgfaaDoorZ76
import Derived.Test.YtpebikjckhcgfaaDoorZ72
/- Proved: the statement on MaySlot at every size and modulus, in a world in which the two tables are laid. -/
namespace Go.Proofs.YtpebikjckhcgfaaDoor
open Go.ChangeShapes Go.WideShapes Go.ChangeAt Go.RowKit
open M1
set_option linter.unusedVariables false
theorem MaySlot_any (n p : Int) (hp : -9223372036854775808 ≤ p ∧ p ≤ 9223372036854775807) (w : World) (hP : PrsW w) (hT : TabW w) :
    Calls Tryd.prog 4 #[.int .i64 n, .int .i64 p] w fun e w' => e = .returned (.bool true) ∧ Old w w' := by
  by_cases h : RingOk p n
  · obtain ⟨P, rfl⟩ := Int.eq_ofNat_of_zero_le (show 0 ≤ p by have := modB_yes h.md; omega)
    obtain ⟨N, rfl⟩ := Int.eq_ofNat_of_zero_le (show 0 ≤ n by have := h.sz; omega)
    obtain ⟨R, _, _, c, _⟩ := Ring_both P N h
    exact law_MaySlot _ _ w hP hT true (fun W => spec_MaySlot_yes N P W h) (fun W a b => impl_MaySlot_of _ _ W a b _ _ _ true c)
  · exact law_MaySlot _ _ w hP hT false (fun W => spec_MaySlot_no n p W hp h) (fun W a b => impl_MaySlot_of _ _ W a b 0 0 0 false (fun W a b => impl_RingOf_no p n W a b h))
end Go.Proofs.YtpebikjckhcgfaaDoor
