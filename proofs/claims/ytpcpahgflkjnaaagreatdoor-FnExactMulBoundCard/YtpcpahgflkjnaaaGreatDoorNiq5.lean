/- Proved: the program's bounds by numbers. -/
import Derived.Test.YtpcpahgflkjnaaaGreatDoorB13
import Derived.Test.YtpcpahgflkjnaaaGreatDoorB05
import Derived.Test.YtpcpahgflkjnaaaGreatDoorMlr
import Derived.Test.YtpcpahgflkjnaaaGreatDoorB07
import Derived.KernelRfl
import Derived.Test.YtpcpahgflkjnaaaGreatDoorB08
import Derived.Test.YtpcpahgflkjnaaaGreatDoorImpMod
import Derived.Test.YtpcpahgflkjnaaaGreatDoorB24
import Derived.Test.YtpcpahgflkjnaaaGreatDoorSzAdd
import Derived.Test.YtpcpahgflkjnaaaGreatDoorB32
import Derived.Test.YtpcpahgflkjnaaaGreatDoorB00
import Derived.Test.YtpcpahgflkjnaaaGreatDoorNi
import Derived.Test.YtpcpahgflkjnaaaGreatDoorB10
import Derived.Test.YtpcpahgflkjnaaaGreatDoorNhq5
namespace Go.Proofs.YtpcpahgflkjnaaaGreatDoor
open Go.ChangeShapes Go.WideShapes Go.ChangeAt Go.RowKit
open M2
set_option linter.unusedVariables false
set_option linter.unusedSimpArgs false
def oftN (N T : Nat) : Nat := T * (1 + N) / 2 + 1
def rndN (N T : Nat) : Nat := T * (1 + N + N * N) / 2 + 1
def prdN (q N T a b : Nat) : Nat := cutN q ((a + b) * (N * oftN N T) + a * b * N / q + (1 + rndN N T))
theorem oft_bd {N T : Nat} (hN : 2 ≤ N ∧ N ≤ 16) (hT : 2 ≤ T ∧ T ≤ 65536) : T * (1 + N) ≤ 1114112 ∧ N * oftN N T ≤ 16777216 ∧ N * N ≤ 256 ∧ T * (1 + N + N * N) ≤ 17891328 ∧ rndN N T ≤ 8945665 := by
  have h1 : T * (1 + N) ≤ 65536 * 17 := Nat.mul_le_mul hT.2 (by omega)
  have h2 : N * oftN N T ≤ 16 * 557057 := Nat.mul_le_mul hN.2 (by unfold oftN; omega)
  have h3 : N * N ≤ 16 * 16 := Nat.mul_le_mul hN.2 hN.2
  have h4 : T * (1 + N + N * N) ≤ 65536 * 273 := Nat.mul_le_mul hT.2 (by omega)
  refine ⟨by omega, by omega, by omega, by omega, ?_⟩
  unfold rndN
  omega
theorem product_n (Nn Tn En : Nat) (a3 : Option Addr) (l3 c3 : Nat) (a4 : Option Addr) (l4 c4 : Nat) (a6 : Option Addr) (l6 c6 : Nat) (q a b : Nat) (w : World) (hq : cnt q ≤ 7) (hr : Row w (.slice a6 l6 c6) (toI (dig q))) (h0 : 0 < q) (hN : 2 ≤ Nn ∧ Nn ≤ 16) (hT : 2 ≤ Tn ∧ Tn ≤ 65536) (ha : cnt a ≤ 14) (hb : cnt b ≤ 14) : Calls Tryz.prog 94 #[.agg #[.int .i64 (Nn : Int), .int .i64 (Tn : Int), .int .i64 (En : Int), .slice a3 l3 c3, .slice a4 l4 c4, .bool false, .slice a6 l6 c6], .agg (szV a), .agg (szV b)] w fun e w' => e = .returned (.agg (szV (prdN q Nn Tn a b))) ∧ Old w w' := by
  obtain ⟨b1, b2, b3, b4, b5⟩ := oft_bd hN hT
  have k1 : cnt (a + b) ≤ 15 := cnt_addL ha hb
  have k2 : cnt ((a + b) * (Nn * oftN Nn Tn)) ≤ 18 := Nat.le_trans (cnt_mul _ _) (by have := cnt_w (n := Nn * oftN Nn Tn) (by omega); omega)
  have k3 : cnt (a * b) ≤ 28 := Nat.le_trans (cnt_mul _ _) (by omega)
  have k4 : cnt (a * b * Nn) ≤ 31 := Nat.le_trans (cnt_mul _ _) (by have := cnt_w (n := Nn) (by omega); omega)
  have k5 : cnt (a * b * Nn / q) ≤ 31 := Nat.le_trans (cnt_mono (Nat.div_le_self _ _)) k4
  have k6 : cnt (a * b * Nn % q) ≤ 31 := Nat.le_trans (cnt_mono (Nat.mod_le _ _)) k4
  have k7 : cnt ((a + b) * (Nn * oftN Nn Tn) + a * b * Nn / q) ≤ 32 := cnt_addL (by omega) k5
  have e1 : (Tn : Int) * (1 + (Nn : Int)) = ((Tn * (1 + Nn) : Nat) : Int) := by rw [Int.natCast_mul, Int.natCast_add]; rfl
  have e2 : (Nn : Int) * (Nn : Int) = ((Nn * Nn : Nat) : Int) := by rw [Int.natCast_mul]
  have e3 : (Tn : Int) * (1 + (Nn : Int) + ((Nn * Nn : Nat) : Int)) = ((Tn * (1 + Nn + Nn * Nn) : Nat) : Int) := by first | (push_cast; rfl) | push_cast
  have e4 : (Nn : Int) * ((oftN Nn Tn : Nat) : Int) = ((Nn * oftN Nn Tn : Nat) : Int) := by rw [Int.natCast_mul]
  have e5 : (1 : Int) + ((rndN Nn Tn : Nat) : Int) = ((1 + rndN Nn Tn : Nat) : Int) := by rw [Int.natCast_add]; rfl
  refine product_of Nn Tn En a3 l3 c3 a4 l4 c4 a6 l6 c6 (szV a) (szV b) (szV (a + b)) (szV ((a + b) * (Nn * oftN Nn Tn))) (szV (a * b)) (szV (a * b * Nn)) (szV q) (szV (a * b * Nn / q)) (szV (a * b * Nn % q)) (szV ((a + b) * (Nn * oftN Nn Tn) + a * b * Nn / q)) (szV (prdN q Nn Tn a b)) ((oftN Nn Tn : Nat) : Int) ((Tn * (1 + Nn) : Nat) : Int) ((Tn * (1 + Nn) / 2 : Nat) : Int) ((Nn * Nn : Nat) : Int) (1 + (Nn : Int) + ((Nn * Nn : Nat) : Int)) ((Tn * (1 + Nn + Nn * Nn) : Nat) : Int) ((Tn * (1 + Nn + Nn * Nn) / 2 : Nat) : Int) ((rndN Nn Tn : Nat) : Int) w (sq_v (by omega)) (sq_v (by omega)) (sq_v (by omega)) (sq_v (by omega)) (sq_v (by omega)) (sq_v ?_)
    (by rw [IntKind.wrap_i64]; omega) (by rw [e1, IntKind.wrap_i64]; omega) (by rw [Int.tdiv_eq_ediv_of_nonneg (by omega)]; rfl) (by rw [IntKind.wrap_i64]; omega) (by rw [IntKind.wrap_i64]; unfold oftN; omega)
    (by rw [e2, IntKind.wrap_i64]; omega) (by rw [IntKind.wrap_i64]; omega) (by rw [e3, IntKind.wrap_i64]; omega) (by rw [Int.tdiv_eq_ediv_of_nonneg (by omega)]; rfl) (by rw [IntKind.wrap_i64]; omega) (by rw [IntKind.wrap_i64]; unfold rndN; omega)
    (by rw [e4]; omega) (by omega) (fun W g => add_sz a b W (by omega) (by omega)) (fun W g => ?_) (fun W g => mul_sz a b W (by omega)) (fun W g => scaled_sz (a * b) Nn 0 W (by omega) (by omega) (by omega)) (fun W g => sizeQ_n q a6 l6 c6 W hq (hr.old g)) (fun W g => divide_sz _ _ W (by omega) (by omega) h0) (fun W g => add_sz _ _ W (by omega) (by omega)) (fun W g => ?_)
  · unfold prdN
    exact Nat.le_trans (cnt_mono cutN_le) (by omega)
  · rw [e4]
    exact scaled_sz (a + b) (Nn * oftN Nn Tn) 0 W (by omega) (by omega) (by omega)
  · rw [e5]
    exact raised_n Nn Tn En a3 l3 c3 a4 l4 c4 a6 l6 c6 q _ (1 + rndN Nn Tn) W hq (hr.old g) (by omega) (by omega)
end Go.Proofs.YtpcpahgflkjnaaaGreatDoor
