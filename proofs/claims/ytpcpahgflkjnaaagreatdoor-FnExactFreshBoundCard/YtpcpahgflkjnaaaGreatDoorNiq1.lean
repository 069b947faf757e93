/- Proved: the program's bounds by numbers. -/
import Derived.Test.YtpcpahgflkjnaaaGreatDoorB13
import Derived.Test.YtpcpahgflkjnaaaGreatDoorB05
import Derived.Test.YtpcpahgflkjnaaaGreatDoorMlr
import Derived.Test.YtpcpahgflkjnaaaGreatDoorB07
import Derived.KernelRfl
import Derived.Test.YtpcpahgflkjnaaaGreatDoorB08
import Derived.Test.YtpcpahgflkjnaaaGreatDoorImpMod
import Derived.Test.YtpcpahgflkjnaaaGreatDoorB24
import Derived.Test.YtpcpahgflkjnaaaGreatDoorSzAdd
import Derived.Test.YtpcpahgflkjnaaaGreatDoorB32
import Derived.Test.YtpcpahgflkjnaaaGreatDoorB00
import Derived.Test.YtpcpahgflkjnaaaGreatDoorNi
import Derived.Test.YtpcpahgflkjnaaaGreatDoorB09
import Derived.Test.YtpcpahgflkjnaaaGreatDoorNfq1
namespace Go.Proofs.YtpcpahgflkjnaaaGreatDoor
open Go.ChangeShapes Go.WideShapes Go.ChangeAt Go.RowKit
open M2
set_option linter.unusedVariables false
set_option linter.unusedSimpArgs false
def freshN (q N T E : Nat) : Nat := cutN q (plN q T + T * E * (2 * N + 1))
theorem tE_bd {T E N : Nat} (hN : 2 ≤ N ∧ N ≤ 16) (hT : 2 ≤ T ∧ T ≤ 65536) (hE : 1 ≤ E ∧ E ≤ 16) : T * E ≤ 1048576 ∧ T * E * (2 * N + 1) ≤ 34603008 := by
  have h1 : T * E ≤ 65536 * 16 := Nat.mul_le_mul hT.2 hE.2
  have h2 : T * E * (2 * N + 1) ≤ 65536 * 16 * 33 := Nat.mul_le_mul h1 (by omega)
  omega
theorem fresh_n (Nn Tn En : Nat) (a3 : Option Addr) (l3 c3 : Nat) (a4 : Option Addr) (l4 c4 : Nat) (a6 : Option Addr) (l6 c6 : Nat) (q : Nat) (w : World) (hq : cnt q ≤ 7) (hr : Row w (.slice a6 l6 c6) (toI (dig q))) (hN : 2 ≤ Nn ∧ Nn ≤ 16) (hT : 2 ≤ Tn ∧ Tn ≤ 65536) (hE : 1 ≤ En ∧ En ≤ 16) : Calls Tryz.prog 83 #[.agg #[.int .i64 (Nn : Int), .int .i64 (Tn : Int), .int .i64 (En : Int), .slice a3 l3 c3, .slice a4 l4 c4, .bool false, .slice a6 l6 c6]] w fun e w' => e = .returned (.agg (szV (freshN q Nn Tn En))) ∧ Old w w' := by
  have hb := tE_bd hN hT hE
  have hp := plN_bd (q := q) hT
  have e1 : (Tn : Int) * (En : Int) = ((Tn * En : Nat) : Int) := by rw [Int.natCast_mul]
  have e2 : (Tn : Int) * (En : Int) * (2 * (Nn : Int) + 1) = ((Tn * En * (2 * Nn + 1) : Nat) : Int) := by
    rw [Int.natCast_mul, Int.natCast_mul, Int.natCast_add, Int.natCast_mul]
    rfl
  refine fresh_of Nn Tn En a3 l3 c3 a4 l4 c4 a6 l6 c6 (szV (plN q Tn)) (szV (freshN q Nn Tn En)) ((plN q Tn : Nat) : Int) w (by omega) (by omega) (by rw [e1]; omega) (by rw [e2]; omega) (sq_v ?_) (fun W g => plainNoise_n Nn Tn En a3 l3 c3 a4 l4 c4 a6 l6 c6 q W hq (hr.old g) hT) (fun W g => ofWord_sz _ W (by omega)) (fun W g => ?_)
  · unfold freshN
    exact Nat.le_trans (cnt_mono cutN_le) (by omega)
  · rw [e2]
    exact raised_n Nn Tn En a3 l3 c3 a4 l4 c4 a6 l6 c6 q (plN q Tn) (Tn * En * (2 * Nn + 1)) W hq (hr.old g) (Nat.le_trans (cnt_w (by omega)) (by omega)) (by omega)
end Go.Proofs.YtpcpahgflkjnaaaGreatDoor
