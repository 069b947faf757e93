/- Proved: the program's bounds by numbers. -/
import Derived.Test.YtpcpahgflkjnaaaGreatDoorB13
import Derived.Test.YtpcpahgflkjnaaaGreatDoorB05
import Derived.Test.YtpcpahgflkjnaaaGreatDoorMlr
import Derived.Test.YtpcpahgflkjnaaaGreatDoorB07
import Derived.KernelRfl
import Derived.Test.YtpcpahgflkjnaaaGreatDoorB08
import Derived.Test.YtpcpahgflkjnaaaGreatDoorImpMod
import Derived.Test.YtpcpahgflkjnaaaGreatDoorB24
import Derived.Test.YtpcpahgflkjnaaaGreatDoorSzAdd
import Derived.Test.YtpcpahgflkjnaaaGreatDoorB32
import Derived.Test.YtpcpahgflkjnaaaGreatDoorB00
import Derived.Test.YtpcpahgflkjnaaaGreatDoorNi
import Derived.Test.YtpcpahgflkjnaaaGreatDoorNhq4
namespace Go.Proofs.YtpcpahgflkjnaaaGreatDoor
open Go.ChangeShapes Go.WideShapes Go.ChangeAt Go.RowKit
open M2
set_option linter.unusedVariables false
set_option linter.unusedSimpArgs false
def swtN (q N T E ds a : Nat) : Nat := cutN q (a + T * N * E * ds)
theorem switched_n (Nn Tn En : Nat) (a3 : Option Addr) (c3 : Nat) (a4 : Option Addr) (l4 c4 : Nat) (a6 : Option Addr) (l6 c6 : Nat) (xs : List Int) (q n : Nat) (w : World) (hq : cnt q ≤ 7) (hr : Row w (.slice a6 l6 c6) (toI (dig q))) (hx : Row w (.slice a3 xs.length c3) xs) (hl : 1 ≤ xs.length ∧ xs.length ≤ 6) (hp : ∀ k, k < xs.length → 2 ≤ xs.getD k 0 ∧ xs.getD k 0 ≤ 268435456) (hN : 2 ≤ Nn ∧ Nn ≤ 16) (hT : 2 ≤ Tn ∧ Tn ≤ 65536) (hE : 1 ≤ En ∧ En ≤ 16) (hn : cnt n ≤ 40) : Calls Tryz.prog 96 #[.agg #[.int .i64 (Nn : Int), .int .i64 (Tn : Int), .int .i64 (En : Int), .slice a3 xs.length c3, .slice a4 l4 c4, .bool false, .slice a6 l6 c6], .agg (szV n)] w fun e w' => e = .returned (.agg (szV (swtN q Nn Tn En (dgS xs xs.length).toNat n))) ∧ Old w w' := by
  have hd := dgS_bd xs hp xs.length (Nat.le_refl _)
  obtain ⟨ds, hds⟩ : ∃ ds : Nat, dgS xs xs.length = (ds : Int) := ⟨(dgS xs xs.length).toNat, by omega⟩
  rw [hds] at hd
  have hdb : ds ≤ 1610612736 := by omega
  have h1 : Tn * Nn ≤ 65536 * 16 := Nat.mul_le_mul hT.2 hN.2
  have h2 : Tn * Nn * En ≤ 65536 * 16 * 16 := Nat.mul_le_mul h1 hE.2
  have h3 : Tn * Nn * En * ds ≤ 65536 * 16 * 16 * 1610612736 := Nat.mul_le_mul h2 hdb
  have e1 : (Tn : Int) * (Nn : Int) = ((Tn * Nn : Nat) : Int) := by rw [Int.natCast_mul]
  have e2 : ((Tn * Nn : Nat) : Int) * (En : Int) = ((Tn * Nn * En : Nat) : Int) := by rw [Int.natCast_mul (Tn * Nn)]
  have e3 : ((Tn * Nn * En : Nat) : Int) * (ds : Int) = ((Tn * Nn * En * ds : Nat) : Int) := by rw [Int.natCast_mul (Tn * Nn * En)]
  rw [show (dgS xs xs.length).toNat = ds by rw [hds]; rfl]
  exact switched_of Nn Tn En a3 c3 a4 l4 c4 a6 l6 c6 xs (szV n) (szV (swtN q Nn Tn En ds n)) ((Tn * Nn : Nat) : Int) ((Tn * Nn * En : Nat) : Int) ((Tn * Nn * En * ds : Nat) : Int) w hx hl hp (sq_v (by omega)) (sq_v (Nat.le_trans (cnt_mono cutN_le) (by omega))) (by rw [e1, IntKind.wrap_i64]; omega) (by rw [e2, IntKind.wrap_i64]; omega) (by rw [hds, e3, IntKind.wrap_i64]; omega) (fun W g => raised_n Nn Tn En a3 xs.length c3 a4 l4 c4 a6 l6 c6 q n (Tn * Nn * En * ds) W hq (hr.old g) (by omega) (by omega))
end Go.Proofs.YtpcpahgflkjnaaaGreatDoor
