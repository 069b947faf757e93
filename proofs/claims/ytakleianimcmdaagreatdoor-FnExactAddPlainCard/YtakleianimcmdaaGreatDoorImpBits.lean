/- Proved: the contract of the program's BitsOf (and of the library's bits.Len below 2 to the 32). -/
import Derived.Test.YtakleianimcmdaaGreatDoorP38
import Derived.Test.YtakleianimcmdaaGreatDoorExpA
import Derived.Test.YtakleianimcmdaaGreatDoorP00
import Derived.Test.YtakleianimcmdaaGreatDoorLenW
namespace Go.Proofs.YtakleianimcmdaaGreatDoor
open Go.ChangeShapes Go.WideShapes Go.ChangeAt Go.RowKit
open M2
set_option linter.unusedVariables false
set_option linter.unusedSimpArgs false
theorem bits_Len_small (x : Nat) (w : World) (h1 : x < 268435456) :
    Calls Tryz.prog 185 #[.int .u64 (x : Int)] w fun e w' => e = .returned (.int .i64 (Lib.bitLen x)) ∧ w' = w := by
  have c := bits_Len64_small (x : Int) w (by omega) (by omega)
  rw [Int.toNat_natCast] at c
  have HC : Hid (Calls Tryz.prog 202 #[.int .u64 (x : Int)] w fun e w' => e = .returned (.int .i64 (Lib.bitLen x)) ∧ w' = w) := c
  clear c
  go_enter Tryz.func185, Tryz.ntmps185
  go_wp2_with (go_at_call 202; refine HC.out.mono ?_; rintro e w' ⟨rfl, rfl⟩)
  go_ret
  exact ⟨rfl, rfl⟩
end Go.Proofs.YtakleianimcmdaaGreatDoor
