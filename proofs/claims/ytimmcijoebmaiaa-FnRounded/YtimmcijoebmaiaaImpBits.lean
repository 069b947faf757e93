/- Proved: the contract of the program's BitsOf (and of the library's bits.Len below 2 to the 32). -/
import Derived.Test.YtimmcijoebmaiaaR17
import Derived.Test.YtimmcijoebmaiaaR07
import Derived.Test.YtimmcijoebmaiaaR00
import Derived.Test.YtimmcijoebmaiaaLenW
namespace Go.Proofs.Ytimmcijoebmaiaa
open Go.ChangeShapes Go.WideShapes Go.ChangeAt Go.RowKit
open M2
set_option linter.unusedVariables false
set_option linter.unusedSimpArgs false
theorem bits_Len_small (x : Nat) (w : World) (h1 : x < 268435456) :
    Calls Try.prog 62 #[.int .u64 (x : Int)] w fun e w' => e = .returned (.int .i64 (Lib.bitLen x)) ∧ w' = w := by
  have c := bits_Len64_small (x : Int) w (by omega) (by omega)
  rw [Int.toNat_natCast] at c
  have HC : Hid (Calls Try.prog 70 #[.int .u64 (x : Int)] w fun e w' => e = .returned (.int .i64 (Lib.bitLen x)) ∧ w' = w) := c
  clear c
  go_enter Try.func62, Try.ntmps62
  go_wp2_with (go_at_call 70; refine HC.out.mono ?_; rintro e w' ⟨rfl, rfl⟩)
  go_ret
  exact ⟨rfl, rfl⟩
end Go.Proofs.Ytimmcijoebmaiaa
