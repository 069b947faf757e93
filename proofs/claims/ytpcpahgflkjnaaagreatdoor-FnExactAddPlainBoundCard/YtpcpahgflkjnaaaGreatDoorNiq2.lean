/- Proved: the program's bounds by numbers. -/
import Derived.Test.YtpcpahgflkjnaaaGreatDoorB13
import Derived.Test.YtpcpahgflkjnaaaGreatDoorB05
import Derived.Test.YtpcpahgflkjnaaaGreatDoorMlr
import Derived.Test.YtpcpahgflkjnaaaGreatDoorB07
import Derived.KernelRfl
import Derived.Test.YtpcpahgflkjnaaaGreatDoorB08
import Derived.Test.YtpcpahgflkjnaaaGreatDoorImpMod
import Derived.Test.YtpcpahgflkjnaaaGreatDoorB24
import Derived.Test.YtpcpahgflkjnaaaGreatDoorSzAdd
import Derived.Test.YtpcpahgflkjnaaaGreatDoorB32
import Derived.Test.YtpcpahgflkjnaaaGreatDoorB00
import Derived.Test.YtpcpahgflkjnaaaGreatDoorNi
import Derived.Test.YtpcpahgflkjnaaaGreatDoorB15
import Derived.Test.YtpcpahgflkjnaaaGreatDoorNfq2
namespace Go.Proofs.YtpcpahgflkjnaaaGreatDoor
open Go.ChangeShapes Go.WideShapes Go.ChangeAt Go.RowKit
open M2
set_option linter.unusedVariables false
set_option linter.unusedSimpArgs false
theorem plus_n (Nn Tn En : Nat) (a3 : Option Addr) (l3 c3 : Nat) (a4 : Option Addr) (l4 c4 : Nat) (a6 : Option Addr) (l6 c6 : Nat) (q n : Nat) (w : World) (hq : cnt q ≤ 7) (hr : Row w (.slice a6 l6 c6) (toI (dig q))) (hT : 2 ≤ Tn ∧ Tn ≤ 65536) (hn : cnt n ≤ 40) : Calls Tryz.prog 89 #[.agg #[.int .i64 (Nn : Int), .int .i64 (Tn : Int), .int .i64 (En : Int), .slice a3 l3 c3, .slice a4 l4 c4, .bool false, .slice a6 l6 c6], .agg (szV n)] w fun e w' => e = .returned (.agg (szV (cutN q (n + plN q Tn)))) ∧ Old w w' := by
  have hp := plN_bd (q := q) hT
  exact plusPlain_of Nn Tn En a3 l3 c3 a4 l4 c4 a6 l6 c6 (szV n) (szV (cutN q (n + plN q Tn))) ((plN q Tn : Nat) : Int) w (sq_v (by omega)) (sq_v (Nat.le_trans (cnt_mono cutN_le) (by omega))) (fun W g => plainNoise_n Nn Tn En a3 l3 c3 a4 l4 c4 a6 l6 c6 q W hq (hr.old g) hT) (fun W g => raised_n Nn Tn En a3 l3 c3 a4 l4 c4 a6 l6 c6 q n (plN q Tn) W hq (hr.old g) (by omega) (by omega))
end Go.Proofs.YtpcpahgflkjnaaaGreatDoor
