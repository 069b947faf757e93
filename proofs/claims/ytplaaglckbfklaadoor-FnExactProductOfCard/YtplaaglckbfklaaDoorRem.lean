/- Proved: contracts of the library functions Div64 and Rem64 where the high word is 0, and of the product by remainder for small factors. -/
import Derived.Test.YtplaaglckbfklaaDoorRows
import Derived.WalkKit
import Derived.ProofKit
import Derived.OpenShut
import Derived.Deep.Draws
import Derived.Test.YtplaaglckbfklaaDoorMul64
namespace Go.Proofs.YtplaaglckbfklaaDoor
open Go.ChangeShapes Go.WideShapes Go.ChangeAt Go.RowKit
open M1
theorem ret_two {k l : IntKind} {a b c d : Int} (h : a = b) (g : c = d) : Ending.returned (.tuple #[.int k a, .int l c]) = .returned (.tuple #[.int k b, .int l d]) := by rw [h, g]
set_option maxHeartbeats 1000000 in
theorem bits_Div64_zero (lo y : Nat) (hl : lo < 18446744073709551616) (hy : 0 < y) (hy' : y < 18446744073709551616) (w : World) :
    Calls Tryd.prog 228 #[.int .u64 0, .int .u64 lo, .int .u64 y] w fun e w' => e = .returned (.tuple #[.int .u64 ((lo / y : Nat) : Int), .int .u64 ((lo % y : Nat) : Int)]) ∧ ∃ n, w' = w.drewN n := by
  have hq : lo / y ≤ lo := Nat.div_le_self lo y
  have h0 : ((y : Int) == 0) = false := by simp; omega
  go_enter Tryd.func228, Tryd.ntmps228
  go_wp2
  go_region
  all_goals go_wp2
  all_goals go_ret2
  all_goals exact ⟨ret_two (by rw [← Int.natCast_ediv]; exact Mul64.wrapN _ (by omega)) (Int.natCast_emod _ _).symm, 1, rfl⟩
theorem bits_Rem64_small (lo y : Nat) (hl : lo < 18446744073709551616) (hy : 0 < y) (hy' : y < 18446744073709551616) (w : World) :
    Calls Tryd.prog 223 #[.int .u64 0, .int .u64 lo, .int .u64 y] w fun e w' => e = .returned (.int .u64 ((lo % y : Nat) : Int)) ∧ ∃ n, w' = w.drewN n := by
  go_enter Tryd.func223, Tryd.ntmps223
  go_wp2_with (first | (go_at_call 228; refine (bits_Div64_zero lo y hl hy hy' _).mono ?_; rintro e w' ⟨rfl, n, rfl⟩))
  go_ret
  exact ⟨rfl, _, rfl⟩
theorem product_small (p x y : Nat) (hp : 0 < p) (hp' : p < 18446744073709551616) (h : x * y < 18446744073709551616) (hx : x < 18446744073709551616) (hy : y < 18446744073709551616) (w : World) :
    Calls Tryd.prog 215 #[.int .u64 p, .int .u64 x, .int .u64 y] w fun e w' => e = .returned (.int .u64 ((x * y % p : Nat) : Int)) ∧ ∃ n, w' = w.drewN n := by
  have c := bits_Mul64 x y hx hy
  rw [Nat.div_eq_of_lt h, Nat.mod_eq_of_lt h] at c
  generalize x * y = z at *
  go_enter Tryd.func215, Tryd.ntmps215
  go_wp2_with fail
  refine (c _).mono ?_
  rintro e w' ⟨rfl, rfl⟩
  go_wp2_with fail

  refine (bits_Rem64_small z p h hp hp' _).mono ?_
  rintro e w' ⟨rfl, n, rfl⟩
  go_wp2_with fail
  go_ret
  exact ⟨rfl, _, rfl⟩
end Go.Proofs.YtplaaglckbfklaaDoor
