/- Proved: the program's bounds by numbers. -/
import Derived.Test.YtpcpahgflkjnaaaGreatDoorB13
import Derived.Test.YtpcpahgflkjnaaaGreatDoorB05
import Derived.Test.YtpcpahgflkjnaaaGreatDoorMlr
import Derived.Test.YtpcpahgflkjnaaaGreatDoorB07
import Derived.KernelRfl
import Derived.Test.YtpcpahgflkjnaaaGreatDoorB08
import Derived.Test.YtpcpahgflkjnaaaGreatDoorImpMod
import Derived.Test.YtpcpahgflkjnaaaGreatDoorB24
import Derived.Test.YtpcpahgflkjnaaaGreatDoorSzAdd
import Derived.Test.YtpcpahgflkjnaaaGreatDoorB32
import Derived.Test.YtpcpahgflkjnaaaGreatDoorB00
import Derived.Test.YtpcpahgflkjnaaaGreatDoorNi
import Derived.Test.YtpcpahgflkjnaaaGreatDoorB14
import Derived.Test.YtpcpahgflkjnaaaGreatDoorNfq3
namespace Go.Proofs.YtpcpahgflkjnaaaGreatDoor
open Go.ChangeShapes Go.WideShapes Go.ChangeAt Go.RowKit
open M2
set_option linter.unusedVariables false
set_option linter.unusedSimpArgs false
theorem times_n (Nn Tn En : Nat) (a3 : Option Addr) (l3 c3 : Nat) (a4 : Option Addr) (l4 c4 : Nat) (a6 : Option Addr) (l6 c6 : Nat) (q n : Nat) (w : World) (hq : cnt q ≤ 7) (hr : Row w (.slice a6 l6 c6) (toI (dig q))) (hN : 2 ≤ Nn ∧ Nn ≤ 16) (hT : 2 ≤ Tn ∧ Tn ≤ 65536) (hn : cnt n ≤ 40) : Calls Tryz.prog 91 #[.agg #[.int .i64 (Nn : Int), .int .i64 (Tn : Int), .int .i64 (En : Int), .slice a3 l3 c3, .slice a4 l4 c4, .bool false, .slice a6 l6 c6], .agg (szV n)] w fun e w' => e = .returned (.agg (szV (cutN q (n * (Nn * (Tn / 2)))))) ∧ Old w w' := by
  have h1 : Nn * (Tn / 2) ≤ 16 * 32768 := Nat.mul_le_mul hN.2 (by omega)
  have e1 : (Nn : Int) * ((Tn : Int) / 2) = ((Nn * (Tn / 2) : Nat) : Int) := by
    rw [Int.natCast_mul]
    rfl
  have hc : cnt (n * (Nn * (Tn / 2))) ≤ 43 := Nat.le_trans (cnt_mul _ _) (by have := cnt_w (n := Nn * (Tn / 2)) (by omega); omega)
  refine timesPlain_of Nn Tn En a3 l3 c3 a4 l4 c4 a6 l6 c6 (szV n) (szV (n * (Nn * (Tn / 2)))) (szV (cutN q (n * (Nn * (Tn / 2))))) w (by omega) (Int.tdiv_eq_ediv_of_nonneg (by omega)) (by rw [e1]; omega) (sq_v (by omega)) (sq_v (Nat.le_trans (cnt_mono cutN_le) (by omega))) (fun W g => ?_) (fun W g => cut_n Nn Tn En a3 l3 c3 a4 l4 c4 a6 l6 c6 q _ W hq (hr.old g) (by omega))
  rw [e1]
  exact scaled_sz n (Nn * (Tn / 2)) 0 W (by omega) (by omega) (by omega)
end Go.Proofs.YtpcpahgflkjnaaaGreatDoor
