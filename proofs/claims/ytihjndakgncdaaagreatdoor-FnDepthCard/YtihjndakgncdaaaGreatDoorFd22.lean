/- Proved: several texts in one: what each proves is said ahead of it. -/
import Derived.Test.YtihjndakgncdaaaGreatDoorFd07
import Derived.Test.YtihjndakgncdaaaGreatDoorFd10
import Derived.Test.YtihjndakgncdaaaGreatDoorFd09
import Derived.Test.YtihjndakgncdaaaGreatDoorSzAdd
import Derived.Test.YtihjndakgncdaaaGreatDoorFd13
import Derived.Test.YtihjndakgncdaaaGreatDoorFd00
import Derived.Test.YtihjndakgncdaaaGreatDoorFd21
import Derived.Test.YtihjndakgncdaaaGreatDoorFd04
import Derived.Test.YtihjndakgncdaaaGreatDoorFd19
import Derived.Test.YtihjndakgncdaaaGreatDoorFd05
import Derived.Deep.RegionLawGrows
import Derived.Test.YtihjndakgncdaaaGreatDoorFd08
import Derived.Test.YtihjndakgncdaaaGreatDoorFd20
import Derived.Test.YtihjndakgncdaaaGreatDoorFd17
import Derived.Test.YtihjndakgncdaaaGreatDoorFd12
/- Proved: the program's bounds by numbers. -/
namespace Go.Proofs.YtihjndakgncdaaaGreatDoor
open Go.ChangeShapes Go.WideShapes Go.ChangeAt Go.RowKit
open M2
set_option linter.unusedVariables false
set_option linter.unusedSimpArgs false
theorem nat_toI11 (xs : List Nat) : nat (toI xs) = xs := by
  apply List.ext_getElem
  · simp [nat, toI]
  · intro i h1 h2
    simp [nat, toI]
theorem dig_good11 {n : Nat} (hl : cnt n ≤ 40) : Good false (toI (dig n)) := by
  have hn := dig_nrm n
  refine ⟨by rw [toI_len]; exact hl, (fun h => by cases h.2), ?_⟩
  intro j hj
  rw [toI_len] at hj
  have hm : (dig n).getD j 0 ∈ dig n := by simp [List.getD, hj]
  have hb := hn.1 _ hm
  unfold LB at hb
  refine ⟨?_, ?_⟩
  · rw [toI_get]
    omega
  · rw [toI_get, toI_len]
    rintro ⟨h0, h1⟩
    have hne : dig n ≠ [] := by intro e; rw [e] at hj; simp at hj
    apply hn.2 hne
    rw [List.getLast_eq_getElem]
    have h2 : (dig n).getD j 0 = 0 := by omega
    have e : (dig n).length - 1 = j := by omega
    simp only [e]
    rw [← h2]
    simp [List.getD, hj]
theorem modW_n {q T : Nat} (hc : cnt q ≤ 40) (hT : 2 ≤ T ∧ T ≤ 268435456) : modW false (toI (dig q)) (T : Int) = ((q % T : Nat) : Int) := by
  unfold modW
  rw [if_pos ⟨dig_good11 hc, by omega⟩, nat_toI11]
  simp [sv, val_dig]
theorem cnt_addL {a b k : Nat} (ha : cnt a ≤ k) (hb : cnt b ≤ k) : cnt (a + b) ≤ k + 1 := by
  have h1 : a < LB ^ k := Nat.lt_of_lt_of_le (cnt_lt a) (Nat.pow_le_pow_right (by decide) ha)
  have h2 : b < LB ^ k := Nat.lt_of_lt_of_le (cnt_lt b) (Nat.pow_le_pow_right (by decide) hb)
  refine cnt_le ?_
  rw [Nat.pow_succ]
  generalize LB ^ k = M at *
  unfold LB
  omega
theorem cnt_w {n : Nat} (h : n < 18446744073709551616) : cnt n ≤ 3 := cnt_word h
def cutN (q n : Nat) : Nat := if q < n then q else n
theorem cutN_cnt {q n k : Nat} (h : cnt n ≤ k) : cnt (cutN q n) ≤ k := by
  unfold cutN
  split
  · exact Nat.le_trans (cnt_mono (by omega)) h
  · exact h
theorem cutN_le {q n : Nat} : cutN q n ≤ q := by
  unfold cutN
  split <;> omega
theorem cmp_pos {a b : Nat} : 0 < cmpN a b ↔ b < a := by
  unfold cmpN
  split
  · omega
  · split <;> omega
theorem cmp_le {a b : Nat} : cmpN a b ≤ 0 ↔ a ≤ b := by
  unfold cmpN
  split
  · omega
  · split <;> omega
def plN (q T : Nat) : Nat := q % T * (T - 1)
theorem plN_bd {q T : Nat} (hT : 2 ≤ T ∧ T ≤ 65536) : plN q T ≤ 4294967296 := by
  unfold plN
  have h1 : q % T < T := Nat.mod_lt _ (by omega)
  have h2 : q % T * (T - 1) ≤ 65536 * 65536 := Nat.mul_le_mul (by omega) (by omega)
  omega
theorem plN_int {q T : Nat} (hT : 2 ≤ T) : ((q % T : Nat) : Int) * ((T : Int) - 1) = ((plN q T : Nat) : Int) := by
  unfold plN
  rw [Int.natCast_mul, Int.natCast_sub (by omega)]
  rfl
theorem sizeQ_n (q : Nat) (a6 : Option Addr) (l6 c6 : Nat) (w : World) (hq : cnt q ≤ 7) (hr : Row w (.slice a6 l6 c6) (toI (dig q))) : Calls Tryz.prog 35 #[.agg #[.bool false, .slice a6 l6 c6]] w fun e w' => e = .returned (.agg (szV q)) ∧ Old w w' := by
  have := sizeOf_sz false (dig q) _ w hr (dig_nrm q) (by unfold cnt at hq; omega)
  rwa [val_dig] at this
theorem spare_n (Nn Tn En : Nat) (a3 : Option Addr) (l3 c3 : Nat) (a4 : Option Addr) (l4 c4 : Nat) (a6 : Option Addr) (l6 c6 : Nat) (q : Nat) (w : World) (hq : cnt q ≤ 7) (hr : Row w (.slice a6 l6 c6) (toI (dig q))) (hT : 2 ≤ Tn ∧ Tn ≤ 65536) : Calls Tryz.prog 40 #[.agg #[.int .i64 (Nn : Int), .int .i64 (Tn : Int), .int .i64 (En : Int), .slice a3 l3 c3, .slice a4 l4 c4, .bool false, .slice a6 l6 c6]] w fun e w' => e = .returned (.int .i64 ((q % Tn : Nat) : Int)) ∧ Old w w' :=
  spare_of Nn Tn En a3 l3 c3 a4 l4 c4 a6 l6 c6 _ w (fun W g => by
    have h1 := impl_mod false (toI (dig q)) Tn _ W (hr.old g) (by rw [toI_len]; unfold cnt at hq; omega)
    rwa [modW_n (by omega) (by omega)] at h1)
theorem cut_n (Nn Tn En : Nat) (a3 : Option Addr) (l3 c3 : Nat) (a4 : Option Addr) (l4 c4 : Nat) (a6 : Option Addr) (l6 c6 : Nat) (q n : Nat) (w : World) (hq : cnt q ≤ 7) (hr : Row w (.slice a6 l6 c6) (toI (dig q))) (hn : cnt n ≤ 79) : Calls Tryz.prog 80 #[.agg #[.int .i64 (Nn : Int), .int .i64 (Tn : Int), .int .i64 (En : Int), .slice a3 l3 c3, .slice a4 l4 c4, .bool false, .slice a6 l6 c6], .agg (szV n)] w fun e w' => e = .returned (.agg (szV (cutN q n))) ∧ Old w w' := by
  refine cut_of Nn Tn En a3 l3 c3 a4 l4 c4 a6 l6 c6 (szV n) (szV q) (szV (cutN q n)) (cmpN n q) w (sq_v (by omega)) (sq_v (by omega)) (fun W g => sizeQ_n q a6 l6 c6 W hq (hr.old g)) (fun W => cmp_sz n q W (by omega) (by omega)) (fun h => ?_) (fun h => ?_)
  · rw [cmp_pos] at h
    unfold cutN
    rw [if_pos h]
  · rw [cmp_pos] at h
    unfold cutN
    rw [if_neg h]
theorem raised_n (Nn Tn En : Nat) (a3 : Option Addr) (l3 c3 : Nat) (a4 : Option Addr) (l4 c4 : Nat) (a6 : Option Addr) (l6 c6 : Nat) (q n k : Nat) (w : World) (hq : cnt q ≤ 7) (hr : Row w (.slice a6 l6 c6) (toI (dig q))) (hn : cnt n ≤ 77) (hk : k ≤ 4611686018427387904) : Calls Tryz.prog 56 #[.agg #[.int .i64 (Nn : Int), .int .i64 (Tn : Int), .int .i64 (En : Int), .slice a3 l3 c3, .slice a4 l4 c4, .bool false, .slice a6 l6 c6], .agg (szV n), .int .i64 (k : Int)] w fun e w' => e = .returned (.agg (szV (cutN q (n + k)))) ∧ Old w w' := by
  have hk3 : cnt k ≤ 3 := cnt_w (by omega)
  have hs : cnt (n + k) ≤ 78 := cnt_addL (k := 77) hn (by omega)
  exact raised_of Nn Tn En a3 l3 c3 a4 l4 c4 a6 l6 c6 (szV n) (szV k) (szV (n + k)) (szV (cutN q (n + k))) k w (by omega) (sq_v (by omega)) (sq_v (Nat.le_trans (cutN_cnt hs) (by omega))) (fun W g => ofWord_sz k W (by omega)) (fun W g => add_sz n k W (by omega) (by omega)) (fun W g => cut_n Nn Tn En a3 l3 c3 a4 l4 c4 a6 l6 c6 q (n + k) W hq (hr.old g) (by omega))
theorem plainNoise_n (Nn Tn En : Nat) (a3 : Option Addr) (l3 c3 : Nat) (a4 : Option Addr) (l4 c4 : Nat) (a6 : Option Addr) (l6 c6 : Nat) (q : Nat) (w : World) (hq : cnt q ≤ 7) (hr : Row w (.slice a6 l6 c6) (toI (dig q))) (hT : 2 ≤ Tn ∧ Tn ≤ 65536) : Calls Tryz.prog 57 #[.agg #[.int .i64 (Nn : Int), .int .i64 (Tn : Int), .int .i64 (En : Int), .slice a3 l3 c3, .slice a4 l4 c4, .bool false, .slice a6 l6 c6]] w fun e w' => e = .returned (.int .i64 ((plN q Tn : Nat) : Int)) ∧ Old w w' := by
  have h1 : q % Tn < Tn := Nat.mod_lt _ (by omega)
  have h2 := plN_bd (q := q) hT
  have := plainNoise_of Nn Tn En a3 l3 c3 a4 l4 c4 a6 l6 c6 ((q % Tn : Nat) : Int) w (by omega) (by omega) (by rw [plN_int hT.1]; omega) (fun W g => spare_n Nn Tn En a3 l3 c3 a4 l4 c4 a6 l6 c6 q W hq (hr.old g) hT)
  rwa [plN_int hT.1] at this
def freshN (q N T E : Nat) : Nat := cutN q (plN q T + T * E * (2 * N + 1))
theorem tE_bd {T E N : Nat} (hN : 2 ≤ N ∧ N ≤ 16) (hT : 2 ≤ T ∧ T ≤ 65536) (hE : 1 ≤ E ∧ E ≤ 16) : T * E ≤ 1048576 ∧ T * E * (2 * N + 1) ≤ 34603008 := by
  have h1 : T * E ≤ 65536 * 16 := Nat.mul_le_mul hT.2 hE.2
  have h2 : T * E * (2 * N + 1) ≤ 65536 * 16 * 33 := Nat.mul_le_mul h1 (by omega)
  omega
theorem fresh_n (Nn Tn En : Nat) (a3 : Option Addr) (l3 c3 : Nat) (a4 : Option Addr) (l4 c4 : Nat) (a6 : Option Addr) (l6 c6 : Nat) (q : Nat) (w : World) (hq : cnt q ≤ 7) (hr : Row w (.slice a6 l6 c6) (toI (dig q))) (hN : 2 ≤ Nn ∧ Nn ≤ 16) (hT : 2 ≤ Tn ∧ Tn ≤ 65536) (hE : 1 ≤ En ∧ En ≤ 16) : Calls Tryz.prog 28 #[.agg #[.int .i64 (Nn : Int), .int .i64 (Tn : Int), .int .i64 (En : Int), .slice a3 l3 c3, .slice a4 l4 c4, .bool false, .slice a6 l6 c6]] w fun e w' => e = .returned (.agg (szV (freshN q Nn Tn En))) ∧ Old w w' := by
  have hb := tE_bd hN hT hE
  have hp := plN_bd (q := q) hT
  have e1 : (Tn : Int) * (En : Int) = ((Tn * En : Nat) : Int) := by rw [Int.natCast_mul]
  have e2 : (Tn : Int) * (En : Int) * (2 * (Nn : Int) + 1) = ((Tn * En * (2 * Nn + 1) : Nat) : Int) := by
    rw [Int.natCast_mul, Int.natCast_mul, Int.natCast_add, Int.natCast_mul]
    rfl
  refine fresh_of Nn Tn En a3 l3 c3 a4 l4 c4 a6 l6 c6 (szV (plN q Tn)) (szV (freshN q Nn Tn En)) ((plN q Tn : Nat) : Int) w (by omega) (by omega) (by rw [e1]; omega) (by rw [e2]; omega) (sq_v ?_) (fun W g => plainNoise_n Nn Tn En a3 l3 c3 a4 l4 c4 a6 l6 c6 q W hq (hr.old g) hT) (fun W g => ofWord_sz _ W (by omega)) (fun W g => ?_)
  · unfold freshN
    exact Nat.le_trans (cnt_mono cutN_le) (by omega)
  · rw [e2]
    exact raised_n Nn Tn En a3 l3 c3 a4 l4 c4 a6 l6 c6 q (plN q Tn) (Tn * En * (2 * Nn + 1)) W hq (hr.old g) (Nat.le_trans (cnt_w (by omega)) (by omega)) (by omega)
def limN (q T : Nat) : Nat := if q < T * (q % T) then 0 else (q - T * (q % T)) / 2
theorem szV_zero : szV 0 = Tryz.zeroCells53 := by
  rw [szZero]
  rfl
theorem limit_n (Nn Tn En : Nat) (a3 : Option Addr) (l3 c3 : Nat) (a4 : Option Addr) (l4 c4 : Nat) (a6 : Option Addr) (l6 c6 : Nat) (q : Nat) (w : World) (hq : cnt q ≤ 7) (hr : Row w (.slice a6 l6 c6) (toI (dig q))) (hT : 2 ≤ Tn ∧ Tn ≤ 65536) : Calls Tryz.prog 18 #[.agg #[.int .i64 (Nn : Int), .int .i64 (Tn : Int), .int .i64 (En : Int), .slice a3 l3 c3, .slice a4 l4 c4, .bool false, .slice a6 l6 c6]] w fun e w' => e = .returned (.agg (szV (limN q Tn))) ∧ Old w w' := by
  have h1 : q % Tn < Tn := Nat.mod_lt _ (by omega)
  have h2 : Tn * (q % Tn) ≤ 65536 * 65536 := Nat.mul_le_mul hT.2 (by omega)
  have e1 : (Tn : Int) * ((q % Tn : Nat) : Int) = ((Tn * (q % Tn) : Nat) : Int) := by rw [Int.natCast_mul]
  have c1 : cnt (q - Tn * (q % Tn)) ≤ 7 := Nat.le_trans (cnt_mono (Nat.sub_le _ _)) hq
  have c2 : cnt ((q - Tn * (q % Tn)) / 2) ≤ 7 := Nat.le_trans (cnt_mono (Nat.div_le_self _ _)) c1
  refine limit_of Nn Tn En a3 l3 c3 a4 l4 c4 a6 l6 c6 (szV q) (szV (Tn * (q % Tn))) (szV (q - Tn * (q % Tn))) (szV ((q - Tn * (q % Tn)) / 2)) (szV (limN q Tn)) ((q % Tn : Nat) : Int) (cmpN (Tn * (q % Tn)) q) (((q - Tn * (q % Tn)) % 2 : Nat) : Int) w (by rw [e1]; omega) (sq_v (by omega)) (sq_v (Nat.le_trans (cnt_w (by omega)) (by omega))) (sq_v (by omega)) (fun W g => sizeQ_n q a6 l6 c6 W hq (hr.old g)) (fun W g => spare_n Nn Tn En a3 l3 c3 a4 l4 c4 a6 l6 c6 q W hq (hr.old g) hT) (fun W g => ?_) (fun W => cmp_sz _ _ W (Nat.le_trans (cnt_w (by omega)) (by omega)) (by omega)) (fun h W => ?_) (fun h W => word_sz _ 2 W (by omega) (by omega) (by omega)) (fun h => ?_) (fun h => ?_)
  · rw [e1]
    exact ofWord_sz _ W (by omega)
  · rw [cmp_pos] at h
    exact less_sz q _ W (by omega) (by omega)
  · rw [cmp_pos] at h
    unfold limN
    rw [if_pos h, szV_zero]
  · rw [cmp_pos] at h
    unfold limN
    rw [if_neg h]
def oftN (N T : Nat) : Nat := T * (1 + N) / 2 + 1
def rndN (N T : Nat) : Nat := T * (1 + N + N * N) / 2 + 1
def prdN (q N T a b : Nat) : Nat := cutN q ((a + b) * (N * oftN N T) + a * b * N / q + (1 + rndN N T))
theorem oft_bd {N T : Nat} (hN : 2 ≤ N ∧ N ≤ 16) (hT : 2 ≤ T ∧ T ≤ 65536) : T * (1 + N) ≤ 1114112 ∧ N * oftN N T ≤ 16777216 ∧ N * N ≤ 256 ∧ T * (1 + N + N * N) ≤ 17891328 ∧ rndN N T ≤ 8945665 := by
  have h1 : T * (1 + N) ≤ 65536 * 17 := Nat.mul_le_mul hT.2 (by omega)
  have h2 : N * oftN N T ≤ 16 * 557057 := Nat.mul_le_mul hN.2 (by unfold oftN; omega)
  have h3 : N * N ≤ 16 * 16 := Nat.mul_le_mul hN.2 hN.2
  have h4 : T * (1 + N + N * N) ≤ 65536 * 273 := Nat.mul_le_mul hT.2 (by omega)
  refine ⟨by omega, by omega, by omega, by omega, ?_⟩
  unfold rndN
  omega
theorem product_n (Nn Tn En : Nat) (a3 : Option Addr) (l3 c3 : Nat) (a4 : Option Addr) (l4 c4 : Nat) (a6 : Option Addr) (l6 c6 : Nat) (q a b : Nat) (w : World) (hq : cnt q ≤ 7) (hr : Row w (.slice a6 l6 c6) (toI (dig q))) (h0 : 0 < q) (hN : 2 ≤ Nn ∧ Nn ≤ 16) (hT : 2 ≤ Tn ∧ Tn ≤ 65536) (ha : cnt a ≤ 14) (hb : cnt b ≤ 14) : Calls Tryz.prog 31 #[.agg #[.int .i64 (Nn : Int), .int .i64 (Tn : Int), .int .i64 (En : Int), .slice a3 l3 c3, .slice a4 l4 c4, .bool false, .slice a6 l6 c6], .agg (szV a), .agg (szV b)] w fun e w' => e = .returned (.agg (szV (prdN q Nn Tn a b))) ∧ Old w w' := by
  obtain ⟨b1, b2, b3, b4, b5⟩ := oft_bd hN hT
  have k1 : cnt (a + b) ≤ 15 := cnt_addL ha hb
  have k2 : cnt ((a + b) * (Nn * oftN Nn Tn)) ≤ 18 := Nat.le_trans (cnt_mul _ _) (by have := cnt_w (n := Nn * oftN Nn Tn) (by omega); omega)
  have k3 : cnt (a * b) ≤ 28 := Nat.le_trans (cnt_mul _ _) (by omega)
  have k4 : cnt (a * b * Nn) ≤ 31 := Nat.le_trans (cnt_mul _ _) (by have := cnt_w (n := Nn) (by omega); omega)
  have k5 : cnt (a * b * Nn / q) ≤ 31 := Nat.le_trans (cnt_mono (Nat.div_le_self _ _)) k4
  have k6 : cnt (a * b * Nn % q) ≤ 31 := Nat.le_trans (cnt_mono (Nat.mod_le _ _)) k4
  have k7 : cnt ((a + b) * (Nn * oftN Nn Tn) + a * b * Nn / q) ≤ 32 := cnt_addL (by omega) k5
  have e1 : (Tn : Int) * (1 + (Nn : Int)) = ((Tn * (1 + Nn) : Nat) : Int) := by rw [Int.natCast_mul, Int.natCast_add]; rfl
  have e2 : (Nn : Int) * (Nn : Int) = ((Nn * Nn : Nat) : Int) := by rw [Int.natCast_mul]
  have e3 : (Tn : Int) * (1 + (Nn : Int) + ((Nn * Nn : Nat) : Int)) = ((Tn * (1 + Nn + Nn * Nn) : Nat) : Int) := by first | (push_cast; rfl) | push_cast
  have e4 : (Nn : Int) * ((oftN Nn Tn : Nat) : Int) = ((Nn * oftN Nn Tn : Nat) : Int) := by rw [Int.natCast_mul]
  have e5 : (1 : Int) + ((rndN Nn Tn : Nat) : Int) = ((1 + rndN Nn Tn : Nat) : Int) := by rw [Int.natCast_add]; rfl
  refine product_of Nn Tn En a3 l3 c3 a4 l4 c4 a6 l6 c6 (szV a) (szV b) (szV (a + b)) (szV ((a + b) * (Nn * oftN Nn Tn))) (szV (a * b)) (szV (a * b * Nn)) (szV q) (szV (a * b * Nn / q)) (szV (a * b * Nn % q)) (szV ((a + b) * (Nn * oftN Nn Tn) + a * b * Nn / q)) (szV (prdN q Nn Tn a b)) ((oftN Nn Tn : Nat) : Int) ((Tn * (1 + Nn) : Nat) : Int) ((Tn * (1 + Nn) / 2 : Nat) : Int) ((Nn * Nn : Nat) : Int) (1 + (Nn : Int) + ((Nn * Nn : Nat) : Int)) ((Tn * (1 + Nn + Nn * Nn) : Nat) : Int) ((Tn * (1 + Nn + Nn * Nn) / 2 : Nat) : Int) ((rndN Nn Tn : Nat) : Int) w (sq_v (by omega)) (sq_v (by omega)) (sq_v (by omega)) (sq_v (by omega)) (sq_v (by omega)) (sq_v ?_)
    (by rw [IntKind.wrap_i64]; omega) (by rw [e1, IntKind.wrap_i64]; omega) (by rw [Int.tdiv_eq_ediv_of_nonneg (by omega)]; rfl) (by rw [IntKind.wrap_i64]; omega) (by rw [IntKind.wrap_i64]; unfold oftN; omega)
    (by rw [e2, IntKind.wrap_i64]; omega) (by rw [IntKind.wrap_i64]; omega) (by rw [e3, IntKind.wrap_i64]; omega) (by rw [Int.tdiv_eq_ediv_of_nonneg (by omega)]; rfl) (by rw [IntKind.wrap_i64]; omega) (by rw [IntKind.wrap_i64]; unfold rndN; omega)
    (by rw [e4]; omega) (by omega) (fun W g => add_sz a b W (by omega) (by omega)) (fun W g => ?_) (fun W g => mul_sz a b W (by omega)) (fun W g => scaled_sz (a * b) Nn 0 W (by omega) (by omega) (by omega)) (fun W g => sizeQ_n q a6 l6 c6 W hq (hr.old g)) (fun W g => divide_sz _ _ W (by omega) (by omega) h0) (fun W g => add_sz _ _ W (by omega) (by omega)) (fun W g => ?_)
  · unfold prdN
    exact Nat.le_trans (cnt_mono cutN_le) (by omega)
  · rw [e4]
    exact scaled_sz (a + b) (Nn * oftN Nn Tn) 0 W (by omega) (by omega) (by omega)
  · rw [e5]
    exact raised_n Nn Tn En a3 l3 c3 a4 l4 c4 a6 l6 c6 q _ (1 + rndN Nn Tn) W hq (hr.old g) (by omega) (by omega)
def swtN (q N T E ds a : Nat) : Nat := cutN q (a + T * N * E * ds)
theorem switched_n (Nn Tn En : Nat) (a3 : Option Addr) (c3 : Nat) (a4 : Option Addr) (l4 c4 : Nat) (a6 : Option Addr) (l6 c6 : Nat) (xs : List Int) (q n : Nat) (w : World) (hq : cnt q ≤ 7) (hr : Row w (.slice a6 l6 c6) (toI (dig q))) (hx : Row w (.slice a3 xs.length c3) xs) (hl : 1 ≤ xs.length ∧ xs.length ≤ 6) (hp : ∀ k, k < xs.length → 2 ≤ xs.getD k 0 ∧ xs.getD k 0 ≤ 268435456) (hN : 2 ≤ Nn ∧ Nn ≤ 16) (hT : 2 ≤ Tn ∧ Tn ≤ 65536) (hE : 1 ≤ En ∧ En ≤ 16) (hn : cnt n ≤ 40) : Calls Tryz.prog 33 #[.agg #[.int .i64 (Nn : Int), .int .i64 (Tn : Int), .int .i64 (En : Int), .slice a3 xs.length c3, .slice a4 l4 c4, .bool false, .slice a6 l6 c6], .agg (szV n)] w fun e w' => e = .returned (.agg (szV (swtN q Nn Tn En (dgS xs xs.length).toNat n))) ∧ Old w w' := by
  have hd := dgS_bd xs hp xs.length (Nat.le_refl _)
  obtain ⟨ds, hds⟩ : ∃ ds : Nat, dgS xs xs.length = (ds : Int) := ⟨(dgS xs xs.length).toNat, by omega⟩
  rw [hds] at hd
  have hdb : ds ≤ 1610612736 := by omega
  have h1 : Tn * Nn ≤ 65536 * 16 := Nat.mul_le_mul hT.2 hN.2
  have h2 : Tn * Nn * En ≤ 65536 * 16 * 16 := Nat.mul_le_mul h1 hE.2
  have h3 : Tn * Nn * En * ds ≤ 65536 * 16 * 16 * 1610612736 := Nat.mul_le_mul h2 hdb
  have e1 : (Tn : Int) * (Nn : Int) = ((Tn * Nn : Nat) : Int) := by rw [Int.natCast_mul]
  have e2 : ((Tn * Nn : Nat) : Int) * (En : Int) = ((Tn * Nn * En : Nat) : Int) := by rw [Int.natCast_mul (Tn * Nn)]
  have e3 : ((Tn * Nn * En : Nat) : Int) * (ds : Int) = ((Tn * Nn * En * ds : Nat) : Int) := by rw [Int.natCast_mul (Tn * Nn * En)]
  rw [show (dgS xs xs.length).toNat = ds by rw [hds]; rfl]
  exact switched_of Nn Tn En a3 c3 a4 l4 c4 a6 l6 c6 xs (szV n) (szV (swtN q Nn Tn En ds n)) ((Tn * Nn : Nat) : Int) ((Tn * Nn * En : Nat) : Int) ((Tn * Nn * En * ds : Nat) : Int) w hx hl hp (sq_v (by omega)) (sq_v (Nat.le_trans (cnt_mono cutN_le) (by omega))) (by rw [e1, IntKind.wrap_i64]; omega) (by rw [e2, IntKind.wrap_i64]; omega) (by rw [hds, e3, IntKind.wrap_i64]; omega) (fun W g => raised_n Nn Tn En a3 xs.length c3 a4 l4 c4 a6 l6 c6 q n (Tn * Nn * En * ds) W hq (hr.old g) (by omega) (by omega))
end Go.Proofs.YtihjndakgncdaaaGreatDoor
/- Proved: the program's readBound by numbers; boundBy. -/
namespace Go.Proofs.YtihjndakgncdaaaGreatDoor
open Go.ChangeShapes Go.WideShapes Go.ChangeAt Go.RowKit
open M2
set_option linter.unusedVariables false
set_option linter.unusedSimpArgs false
theorem toZ_bk11 (ps : List Nat) : (toZ ps).map Int.toNat = ps := by
  rw [toZ, List.map_map]
  refine (List.map_congr_left fun x hx => ?_).trans (List.map_id ps)
  simp
theorem sq_sizA (xs : List Int) : Sq (sizA xs) := by
  have h80 : (ext ([] : List Nat)).length = 80 := ext_len (by simp)
  have h1 : ∀ v ∈ (szA (ext []) 0).toList, v.oneCell' = true := fun v hv => by
    rw [szA_list] at hv
    simp at hv
    rcases hv with ⟨m, _, rfl⟩ | rfl <;> rfl
  have h2 : ∀ v ∈ (xs.take 80).map (Value.int .i64), v.oneCell' = true := fun v hv => by
    obtain ⟨n, _, rfl⟩ := List.mem_map.1 hv
    rfl
  have h3 : (splice (szA (ext []) 0).toList 0 ((xs.take 80).map (Value.int .i64))).length = 81 := by
    rw [splice_sz (by rw [szA_list]; simp [h80]; omega), szA_list]
    simp [h80]
  unfold sizA
  refine ⟨by rw [Array.size_setIfInBounds]; exact h3, ?_⟩
  rw [Array.all_eq_true']
  intro v hv
  rcases Array.mem_or_eq_of_mem_setIfInBounds hv with h | h
  · exact one_splice h1 h2 v (by simpa using h)
  · rw [h]; rfl
def bdB (q : Nat) (nb : Bool) (xs : List Int) : Bool := (decide (Good nb xs) && !nb) && decide (val (nat xs) ≤ q * q)
theorem bdB_yes {q : Nat} {nb : Bool} {xs : List Int} (h : bdB q nb xs = true) : Good nb xs ∧ nb = false ∧ val (nat xs) ≤ q * q := by
  unfold bdB at h
  simp only [Bool.and_eq_true, decide_eq_true_eq, Bool.not_eq_true'] at h
  exact ⟨h.1.1, h.1.2, h.2⟩
theorem readB_n (N T E : Int) (a3 : Option Addr) (l3 c3 : Nat) (a4 : Option Addr) (l4 c4 : Nat) (a6 : Option Addr) (l6 c6 : Nat) (q : Nat) (nb : Bool) (xs : List Int) (a1 : Option Addr) (c1 : Nat) (hq : cnt q ≤ 7) (hl : xs.length ≤ 1048576) : ∃ SA, Sq SA ∧ ((decide (Good nb xs) && !nb) = true → SA = szV (val (nat xs))) ∧ ∀ w, Row w (.slice a6 l6 c6) (toI (dig q)) → Row w (.slice a1 xs.length c1) xs → Calls Tryz.prog 29 #[.agg #[.int .i64 N, .int .i64 T, .int .i64 E, .slice a3 l3 c3, .slice a4 l4 c4, .bool false, .slice a6 l6 c6], .agg #[.bool nb, .slice a1 xs.length c1]] w fun e w' => e = .returned (.tuple #[.agg SA, .bool (bdB q nb xs)]) ∧ Old w w' := by
  cases hG : (decide (Good nb xs) && !nb)
  · refine ⟨sizA xs, sq_sizA xs, (fun h => by cases h), fun w hr hu => ?_⟩
    refine readBound_of N T E a3 l3 c3 a4 l4 c4 a6 l6 c6 nb a1 xs.length c1 (sizA xs) (szV q) (szV (q * q)) false 0 (bdB q nb xs) w (sq_sizA xs) (sq_v (by omega)) (fun W g => (sizeOf_any nb xs _ W (hu.old g) (by omega)).mono fun e w' h => ⟨h.1, h.2.2⟩) (fun W g => sizeQ_n q a6 l6 c6 W hq (hr.old g)) (fun W g => ?_) (fun h => by cases h) (fun h => by cases h) (by unfold bdB; rw [hG]; rfl)
    rw [← hG]
    exact isFrom_of nb (decide (Good nb xs)) a1 xs.length c1 W (fun W' g' => good_impl nb xs _ W' (hu.old (Old.trans g g')) hl)
  · have hg : Good nb xs := by
      rw [Bool.and_eq_true] at hG
      exact of_decide_eq_true hG.1
    obtain ⟨e1, e2, e3⟩ := good_gw hg
    have e4 : (nat xs).length = xs.length := nat_len xs
    have hc : cnt (val (nat xs)) ≤ 40 := by rw [cnt_nrm e2.1]; exact e3
    have hc2 : cnt (q * q) ≤ 14 := Nat.le_trans (cnt_mul _ _) (by omega)
    refine ⟨szV (val (nat xs)), sq_v (by omega), (fun _ => rfl), fun w hr hu => ?_⟩
    refine readBound_of N T E a3 l3 c3 a4 l4 c4 a6 l6 c6 nb a1 xs.length c1 (szV (val (nat xs))) (szV q) (szV (q * q)) true (cmpN (val (nat xs)) (q * q)) (bdB q nb xs) w (sq_v (by omega)) (sq_v (by omega)) (fun W g => sizeOf_sz nb (nat xs) _ W (by rw [e1]; exact hu.old g) e2.1 (by omega)) (fun W g => sizeQ_n q a6 l6 c6 W hq (hr.old g)) (fun W g => ?_) (fun _ W => mul_sz q q W (by omega)) (fun _ W => cmp_sz _ _ W (by omega) (by omega)) (by unfold bdB; rw [hG]; congr 1; exact decide_eq_decide.2 cmp_le.symm)
    rw [← hG]
    exact isFrom_of nb (decide (Good nb xs)) a1 xs.length c1 W (fun W' g' => good_impl nb xs _ W' (hu.old (Old.trans g g')) hl)
def WhA (D : List Nat) (ok : Bool) (w : World) (e : Ending) (w' : World) : Prop := ∃ v', e = .returned (.tuple #[.agg #[.bool false, v'], .bool ok]) ∧ Old w w' ∧ Own w' w.heap.size v' (toI D)
theorem bk_putW {w : World} {k : Nat} {x0 x1 : Value} {t : TypeId} (h : Bk w k #[x0, x1] t) (y0 y1 : Value) : Bk ((w.setCell ⟨k, 0, none⟩ y0).setCell ⟨k, 1, none⟩ y1) k #[y0, y1] t := by
  have h0 : Bk (w.setCell ⟨k, 0, none⟩ y0) k #[y0, x1] t := (heap_setCell_same w k 0 _ _ y0 h).trans rfl
  exact (heap_setCell_same (w.setCell ⟨k, 0, none⟩ y0) k 1 _ _ y1 h0).trans rfl
set_option maxRecDepth 100000 in
set_option maxHeartbeats 4000000 in
theorem boundBy_switched (N T E : Int) (ps : List Int) (v : Value) (nb : Bool) (ys : List Int) (u : Value) (V : Nat → Nat) (w : World) (hP : PrsW w) (hT : TabW w) (hv : Row w v ps) (hf : Fit v) (hlp : ps.length ≤ 9223372036854775807) (hu : Row w u ys) (hly : ys.length ≤ 1048576) (hV : prB N T E ps = true → ∀ n, cnt (V n) ≤ 7)
    (KC : prB N T E ps = true → ∀ W g a l c n, Old w W → Row W (.slice a l c) (toI (dig (prodN (ps.map Int.toNat)))) → cnt n ≤ 14 → Calls Tryz.prog 33 #[.agg #[.int .i64 N, .int .i64 T, .int .i64 E, v, .slice (some ⟨g, 0, none⟩) ps.length ps.length, .bool false, .slice a l c], .agg (szV n)] W fun e w' => e = .returned (.agg (szV (V n))) ∧ Old W w')
    (D : List Nat) (ok : Bool) (hy : (prB N T E ps && bdB (prodN (ps.map Int.toNat)) nb ys) = true → D = dig (V (val (nat ys))) ∧ ok = true) (hn : (prB N T E ps && bdB (prodN (ps.map Int.toNat)) nb ys) = false → D = [] ∧ ok = false) :
    Calls Tryz.prog 32 #[.agg #[.int .i64 N, .int .i64 T, .int .i64 E, v], .agg #[.bool nb, u], .func (.func 33) #[] #[]] w (WhA D ok w) := by
  have HY : Hid ((prB N T E ps && bdB (prodN (ps.map Int.toNat)) nb ys) = true → D = dig (V (val (nat ys))) ∧ ok = true) := hy
  have HNN : Hid ((prB N T E ps && bdB (prodN (ps.map Int.toNat)) nb ys) = false → D = [] ∧ ok = false) := hn
  clear hy hn
  obtain ⟨Rf, hRf⟩ := Rings_roots N ps
  have K1 := fun W (g : Old w W) => impl_reckonerOf N T E ps Rf v W (hP.old g) (hT.old g) (hv.old g) hf hlp hRf
  obtain ⟨a0, c0, ev⟩ := hv.slice
  obtain ⟨a1, c1, eu⟩ := hu.slice
  subst ev eu
  have HA : Hid (Old w (((w.alloc (.cells #[.int .i64 N, .int .i64 T, .int .i64 E, .slice a0 ps.length c0] 25)).alloc (.cells #[.bool nb, .slice a1 ys.length c1] 30)).alloc (.cells #[.bool false, .slice none 0 0] 30))) := (((Old.refl w).alloc _).alloc _).alloc _
  have BW : Hid (Bk (((w.alloc (.cells #[.int .i64 N, .int .i64 T, .int .i64 E, .slice a0 ps.length c0] 25)).alloc (.cells #[.bool nb, .slice a1 ys.length c1] 30)).alloc (.cells #[.bool false, .slice none 0 0] 30)) (w.heap.size + 1) #[.bool nb, .slice a1 ys.length c1] 30) := (Bk.new' _ _ _ (by simp)).alloc _
  have BR : Hid (Bk (((w.alloc (.cells #[.int .i64 N, .int .i64 T, .int .i64 E, .slice a0 ps.length c0] 25)).alloc (.cells #[.bool nb, .slice a1 ys.length c1] 30)).alloc (.cells #[.bool false, .slice none 0 0] 30)) (w.heap.size + 1 + 1) #[.bool false, .slice none 0 0] 30) := Bk.new' _ _ _ (by simp)
  have HU : Hid (Row w (.slice a1 ys.length c1) ys) := hu
  have HKC : Hid (prB N T E ps = true → ∀ W g a l c n, Old w W → Row W (.slice a l c) (toI (dig (prodN (ps.map Int.toNat)))) → cnt n ≤ 14 → Calls Tryz.prog 33 #[.agg #[.int .i64 N, .int .i64 T, .int .i64 E, .slice a0 ps.length c0, .slice (some ⟨g, 0, none⟩) ps.length ps.length, .bool false, .slice a l c], .agg (szV n)] W fun e w' => e = .returned (.agg (szV (V n))) ∧ Old W w') := KC
  have HV : Hid (prB N T E ps = true → ∀ n, cnt (V n) ≤ 7) := hV
  clear hv hf hu hP hT hRf KC hV
  go_enter Tryz.func32, Tryz.ntmps32
  go_wp2_with fail
  refine (K1 _ HA.out).mono ?_
  rintro e w1 ⟨g1, h⟩
  have HG1 : Hid (Old w w1) := Old.trans HA.out g1
  have B1 : Hid (Bk w1 (w.heap.size + 1) #[.bool nb, .slice a1 ys.length c1] 30) := BW.out.old g1
  have R1 : Hid (Bk w1 (w.heap.size + 1 + 1) #[.bool false, .slice none 0 0] 30) := BR.out.old g1
  clear g1 K1 BW BR HA
  rcases h with ⟨hB, rfl⟩ | ⟨hB, g, a, l, c, hg, rfl, hrg, P, hPz, hbas, hl, ho⟩
  · have HB : Hid (D = [] ∧ ok = false) := HNN.out (by rw [hB]; rfl)
    obtain ⟨SA, hSA', _, RB'⟩ := readB_n 0 0 0 none 0 0 none 0 0 none 0 0 0 nb ys a1 c1 (by decide) hly
    have hSA : Hid (Sq SA) := hSA'
    have RB := fun W (q : Old w W) => RB' W (by rw [dig_zero]; exact .inl ⟨_, _, rfl, rfl⟩) (HU.out.old q)
    clear hB hSA' RB' HKC
    have HG2 : Hid (Old w (w1.alloc (.cells rk0 48))) := HG1.out.alloc _
    have R2 : Hid (Bk (w1.alloc (.cells rk0 48)) (w.heap.size + 1 + 1) #[.bool false, .slice none 0 0] 30) := R1.out.alloc _
    have BX : Hid (Bk (w1.alloc (.cells rk0 48)) w1.heap.size rk0 48) := Bk.new' w1 _ _ rfl
    have BW2 : Hid (Bk (w1.alloc (.cells rk0 48)) (w.heap.size + 1) #[.bool nb, .slice a1 ys.length c1] 30) := B1.out.alloc _
    have z0 := BX.out.c (i := 0) rfl
    have z1 := BX.out.c (i := 1) rfl
    have z2 := BX.out.c (i := 2) rfl
    have z3 := BX.out.c (i := 3) rfl
    have z4 := BX.out.c (i := 4) rfl
    have z5 := BX.out.c (i := 5) rfl
    have z6 := BX.out.c (i := 6) rfl
    have u0 := BW2.out.c (i := 0) rfl
    have u1 := BW2.out.c (i := 1) rfl
    go_wp2_with (first | (go_at_call 29; refine (RB _ HG2.out).mono ?_; rintro e w2 ⟨rfl, g2⟩; have hz2 : w.heap.size + 1 + 1 < w2.heap.size := Nat.lt_of_lt_of_le R2.out.lt g2.size; have HN : Hid (Sg (w2.alloc (.cells Tryz.zeroCells53 53)) w2.heap.size Tryz.zeroCells53) := Sg.zero _ _ rfl; have HN2 : Hid (Sg ((w2.alloc (.cells Tryz.zeroCells53 53)).setRow w2.heap.size SA) w2.heap.size SA) := HN.out.row SA hSA.out; have R3 : Hid (Bk ((w2.alloc (.cells Tryz.zeroCells53 53)).setRow w2.heap.size SA) (w.heap.size + 1 + 1) #[.bool false, .slice none 0 0] 30) := ((R2.out.old g2).alloc _).otherRow (by omega) _; have HO2 : Hid (Old w ((w2.alloc (.cells Tryz.zeroCells53 53)).setRow w2.heap.size SA)) := Old.row ((Old.trans HG2.out g2).alloc _) (by omega) _; have y0 := R3.out.c (i := 0) rfl; have y1 := R3.out.c (i := 1) rfl; have f0 := frozen_of_row _ _ 0 _ _ R3.out; have f1 := frozen_of_row _ _ 1 _ _ R3.out; clear g2) | ((with_reducible refine store_sg HN.out (SA) hSA.out ?_ ?_ ?_); exact rfl; exact rfl; simp only [Act.put]))
    have HF := bk_putW R3.out (.bool false) (.slice none 0 0)
    have q0 := HF.c (i := 0) rfl
    have q1 := HF.c (i := 1) rfl
    refine bodyPost_ret (v := .tuple #[.agg #[.bool false, .slice none 0 0], .bool false]) (by simp [results, Tryz.results32, go_sem, q0, q1]) rfl ?_
    rw [HB.out.1, HB.out.2]
    exact ⟨_, rfl, (HO2.out.own (p := ⟨w.heap.size + 1 + 1, 0, none⟩) (by simp; omega) _).own (p := ⟨w.heap.size + 1 + 1, 1, none⟩) (by simp; omega) _, nil_own _ _⟩
  · have hPn : ps.map Int.toNat = P := by rw [hPz]; exact toZ_bk11 P
    have hcq : cnt (prodN (ps.map Int.toNat)) ≤ 7 := by rw [hPn]; exact hbas.cnt
    have HQR : Hid (Row w1 (.slice a l c) (toI (dig (prodN (ps.map Int.toNat))))) := by rw [hPn]; exact Own.row ho
    obtain ⟨SA, hSA', hSV, RB'⟩ := readB_n N T E a0 ps.length c0 (some ⟨g, 0, none⟩) ps.length ps.length a l c (prodN (ps.map Int.toNat)) nb ys a1 c1 hcq hly
    have hSA : Hid (Sq SA) := hSA'
    have RB : ∀ W, Old (w1.alloc (.cells #[.int .i64 N, .int .i64 T, .int .i64 E, .slice a0 ps.length c0, .slice (some ⟨g, 0, none⟩) ps.length ps.length, .bool false, .slice a l c] 48)) W → Calls Tryz.prog 29 #[.agg #[.int .i64 N, .int .i64 T, .int .i64 E, .slice a0 ps.length c0, .slice (some ⟨g, 0, none⟩) ps.length ps.length, .bool false, .slice a l c], .agg #[.bool nb, .slice a1 ys.length c1]] W fun e w' => e = .returned (.tuple #[.agg SA, .bool (bdB (prodN (ps.map Int.toNat)) nb ys)]) ∧ Old W w' := fun W q => RB' W (HQR.out.old (Old.trans ((Old.refl w1).alloc _) q)) (HU.out.old (Old.trans (HG1.out.alloc _) q))
    have HGR : Hid (Old (w1.alloc (.cells #[.int .i64 N, .int .i64 T, .int .i64 E, .slice a0 ps.length c0, .slice (some ⟨g, 0, none⟩) ps.length ps.length, .bool false, .slice a l c] 48)) (w1.alloc (.cells #[.int .i64 N, .int .i64 T, .int .i64 E, .slice a0 ps.length c0, .slice (some ⟨g, 0, none⟩) ps.length ps.length, .bool false, .slice a l c] 48))) := Old.refl _
    cases hb : bdB (prodN (ps.map Int.toNat)) nb ys
    · have HB : Hid (D = [] ∧ ok = false) := HNN.out (by rw [hB, hb]; rfl)
      rw [hb] at RB
      clear hB hSA' RB' HKC hSV hb hPn hcq hPz hbas ho hrg hg hl
      have HG2 : Hid (Old w (w1.alloc (.cells #[.int .i64 N, .int .i64 T, .int .i64 E, .slice a0 ps.length c0, .slice (some ⟨g, 0, none⟩) ps.length ps.length, .bool false, .slice a l c] 48))) := HG1.out.alloc _
      have R2 : Hid (Bk (w1.alloc (.cells #[.int .i64 N, .int .i64 T, .int .i64 E, .slice a0 ps.length c0, .slice (some ⟨g, 0, none⟩) ps.length ps.length, .bool false, .slice a l c] 48)) (w.heap.size + 1 + 1) #[.bool false, .slice none 0 0] 30) := R1.out.alloc _
      have BX : Hid (Bk (w1.alloc (.cells #[.int .i64 N, .int .i64 T, .int .i64 E, .slice a0 ps.length c0, .slice (some ⟨g, 0, none⟩) ps.length ps.length, .bool false, .slice a l c] 48)) w1.heap.size #[.int .i64 N, .int .i64 T, .int .i64 E, .slice a0 ps.length c0, .slice (some ⟨g, 0, none⟩) ps.length ps.length, .bool false, .slice a l c] 48) := Bk.new' w1 _ _ rfl
      have BW2 : Hid (Bk (w1.alloc (.cells #[.int .i64 N, .int .i64 T, .int .i64 E, .slice a0 ps.length c0, .slice (some ⟨g, 0, none⟩) ps.length ps.length, .bool false, .slice a l c] 48)) (w.heap.size + 1) #[.bool nb, .slice a1 ys.length c1] 30) := B1.out.alloc _
      have z0 := BX.out.c (i := 0) rfl
      have z1 := BX.out.c (i := 1) rfl
      have z2 := BX.out.c (i := 2) rfl
      have z3 := BX.out.c (i := 3) rfl
      have z4 := BX.out.c (i := 4) rfl
      have z5 := BX.out.c (i := 5) rfl
      have z6 := BX.out.c (i := 6) rfl
      have u0 := BW2.out.c (i := 0) rfl
      have u1 := BW2.out.c (i := 1) rfl
      go_wp2_with (first | (go_at_call 29; refine (RB _ HGR.out).mono ?_; rintro e w2 ⟨rfl, g2⟩; have hz2 : w.heap.size + 1 + 1 < w2.heap.size := Nat.lt_of_lt_of_le R2.out.lt g2.size; have HN : Hid (Sg (w2.alloc (.cells Tryz.zeroCells53 53)) w2.heap.size Tryz.zeroCells53) := Sg.zero _ _ rfl; have HN2 : Hid (Sg ((w2.alloc (.cells Tryz.zeroCells53 53)).setRow w2.heap.size SA) w2.heap.size SA) := HN.out.row SA hSA.out; have R3 : Hid (Bk ((w2.alloc (.cells Tryz.zeroCells53 53)).setRow w2.heap.size SA) (w.heap.size + 1 + 1) #[.bool false, .slice none 0 0] 30) := ((R2.out.old g2).alloc _).otherRow (by omega) _; have HO2 : Hid (Old w ((w2.alloc (.cells Tryz.zeroCells53 53)).setRow w2.heap.size SA)) := Old.row ((Old.trans HG2.out g2).alloc _) (by omega) _; have y0 := R3.out.c (i := 0) rfl; have y1 := R3.out.c (i := 1) rfl; have f0 := frozen_of_row _ _ 0 _ _ R3.out; have f1 := frozen_of_row _ _ 1 _ _ R3.out; clear g2) | ((with_reducible refine store_sg HN.out (SA) hSA.out ?_ ?_ ?_); exact rfl; exact rfl; simp only [Act.put]))
      have HF := bk_putW R3.out (.bool false) (.slice none 0 0)
      have q0 := HF.c (i := 0) rfl
      have q1 := HF.c (i := 1) rfl
      refine bodyPost_ret (v := .tuple #[.agg #[.bool false, .slice none 0 0], .bool false]) (by simp [results, Tryz.results32, go_sem, q0, q1]) rfl ?_
      rw [HB.out.1, HB.out.2]
      exact ⟨_, rfl, (HO2.out.own (p := ⟨w.heap.size + 1 + 1, 0, none⟩) (by simp; omega) _).own (p := ⟨w.heap.size + 1 + 1, 1, none⟩) (by simp; omega) _, nil_own _ _⟩
    · obtain ⟨k1, k2, k3⟩ := bdB_yes hb
      have hcn : cnt (val (nat ys)) ≤ 14 := Nat.le_trans (cnt_mono k3) (Nat.le_trans (cnt_mul _ _) (by omega))
      have HB : Hid (D = dig (V (val (nat ys))) ∧ ok = true) := HY.out (by rw [hB, hb]; rfl)
      have eS := hSV (by rw [k2, decide_eq_true (k2 ▸ k1)]; rfl)
      rw [hb] at RB
      have CH : ∀ W, Old w1 W → Calls Tryz.prog 33 #[.agg #[.int .i64 N, .int .i64 T, .int .i64 E, .slice a0 ps.length c0, .slice (some ⟨g, 0, none⟩) ps.length ps.length, .bool false, .slice a l c], .agg SA] W fun e w' => e = .returned (.agg (szV (V (val (nat ys))))) ∧ Old W w' := fun W q => by
        rw [eS]
        exact HKC.out hB W g a l c _ (Old.trans HG1.out q) (HQR.out.old q) hcn
      have CW := fun W => wholeF_any2 (V (val (nat ys))) W (Nat.le_trans (HV.out hB _) (by omega))
      clear hB hSA' RB' HKC hSV hb hPn hcq hPz hbas ho hrg hg hl k1 k2 k3 hcn eS HQR
      generalize szV (V (val (nat ys))) = SV at *
      generalize dig (V (val (nat ys))) = DV at *
      have HG2 : Hid (Old w (w1.alloc (.cells #[.int .i64 N, .int .i64 T, .int .i64 E, .slice a0 ps.length c0, .slice (some ⟨g, 0, none⟩) ps.length ps.length, .bool false, .slice a l c] 48))) := HG1.out.alloc _
      have R2 : Hid (Bk (w1.alloc (.cells #[.int .i64 N, .int .i64 T, .int .i64 E, .slice a0 ps.length c0, .slice (some ⟨g, 0, none⟩) ps.length ps.length, .bool false, .slice a l c] 48)) (w.heap.size + 1 + 1) #[.bool false, .slice none 0 0] 30) := R1.out.alloc _
      have BX : Hid (Bk (w1.alloc (.cells #[.int .i64 N, .int .i64 T, .int .i64 E, .slice a0 ps.length c0, .slice (some ⟨g, 0, none⟩) ps.length ps.length, .bool false, .slice a l c] 48)) w1.heap.size #[.int .i64 N, .int .i64 T, .int .i64 E, .slice a0 ps.length c0, .slice (some ⟨g, 0, none⟩) ps.length ps.length, .bool false, .slice a l c] 48) := Bk.new' w1 _ _ rfl
      have BW2 : Hid (Bk (w1.alloc (.cells #[.int .i64 N, .int .i64 T, .int .i64 E, .slice a0 ps.length c0, .slice (some ⟨g, 0, none⟩) ps.length ps.length, .bool false, .slice a l c] 48)) (w.heap.size + 1) #[.bool nb, .slice a1 ys.length c1] 30) := B1.out.alloc _
      have z0 := BX.out.c (i := 0) rfl
      have z1 := BX.out.c (i := 1) rfl
      have z2 := BX.out.c (i := 2) rfl
      have z3 := BX.out.c (i := 3) rfl
      have z4 := BX.out.c (i := 4) rfl
      have z5 := BX.out.c (i := 5) rfl
      have z6 := BX.out.c (i := 6) rfl
      have u0 := BW2.out.c (i := 0) rfl
      have u1 := BW2.out.c (i := 1) rfl
      have HO1 : Hid (Old w1 (w1.alloc (.cells #[.int .i64 N, .int .i64 T, .int .i64 E, .slice a0 ps.length c0, .slice (some ⟨g, 0, none⟩) ps.length ps.length, .bool false, .slice a l c] 48))) := (Old.refl w1).alloc _
      go_wp2_with (first | (go_at_call 29; refine (RB _ HGR.out).mono ?_; rintro e w2 ⟨rfl, g2⟩; have hz2 : w.heap.size + 1 + 1 < w2.heap.size := Nat.lt_of_lt_of_le R2.out.lt g2.size; have HN : Hid (Sg (w2.alloc (.cells Tryz.zeroCells53 53)) w2.heap.size Tryz.zeroCells53) := Sg.zero _ _ rfl; have HN2 : Hid (Sg ((w2.alloc (.cells Tryz.zeroCells53 53)).setRow w2.heap.size SA) w2.heap.size SA) := HN.out.row SA hSA.out; have R3 : Hid (Bk ((w2.alloc (.cells Tryz.zeroCells53 53)).setRow w2.heap.size SA) (w.heap.size + 1 + 1) #[.bool false, .slice none 0 0] 30) := ((R2.out.old g2).alloc _).otherRow (by omega) _; have HO2 : Hid (Old w ((w2.alloc (.cells Tryz.zeroCells53 53)).setRow w2.heap.size SA)) := Old.row ((Old.trans HG2.out g2).alloc _) (by omega) _; have hz3 : w1.heap.size < w2.heap.size := Nat.lt_of_lt_of_le BX.out.lt g2.size; have X3 : Hid (Bk ((w2.alloc (.cells Tryz.zeroCells53 53)).setRow w2.heap.size SA) w1.heap.size #[.int .i64 N, .int .i64 T, .int .i64 E, .slice a0 ps.length c0, .slice (some ⟨g, 0, none⟩) ps.length ps.length, .bool false, .slice a l c] 48) := ((BX.out.old g2).alloc _).otherRow (by omega) _; have x0 := X3.out.c (i := 0) rfl; have x1 := X3.out.c (i := 1) rfl; have x2 := X3.out.c (i := 2) rfl; have x3 := X3.out.c (i := 3) rfl; have x4 := X3.out.c (i := 4) rfl; have x5 := X3.out.c (i := 5) rfl; have x6 := X3.out.c (i := 6) rfl; have HP2 : Hid (Old w1 ((w2.alloc (.cells Tryz.zeroCells53 53)).setRow w2.heap.size SA)) := Old.row ((Old.trans HO1.out g2).alloc _) (Nat.le_of_lt hz3) _; clear g2) | ((with_reducible refine store_sg HN.out (SA) hSA.out ?_ ?_ ?_); exact rfl; exact rfl; simp only [Act.put]) | ((with_reducible refine load_sg HN2.out ?_ ?_); exact rfl; simp only [Act.put, List.setIfInBounds_toArray, List.set_cons_succ, List.set_cons_zero]) | (go_at_call 33; refine (CH _ HP2.out).mono ?_; rintro e w3 ⟨rfl, g3⟩; have R4 : Hid (Bk w3 (w.heap.size + 1 + 1) #[.bool false, .slice none 0 0] 30) := R3.out.old g3; have HO3 : Hid (Old w w3) := Old.trans HO2.out g3; clear g3) | (go_at_call 27; refine (CW _).mono ?_; rintro e w4 ⟨v4, rfl, g4, o4⟩; have R5 : Hid (Bk w4 (w.heap.size + 1 + 1) #[.bool false, .slice none 0 0] 30) := R4.out.old g4; have HO4 : Hid (Old w w4) := Old.trans HO3.out g4; have hz4 : w.heap.size + 1 + 1 < w3.heap.size := R4.out.lt; have y0 := R5.out.c (i := 0) rfl; have y1 := R5.out.c (i := 1) rfl; have f0 := frozen_of_row _ _ 0 _ _ R5.out; have f1 := frozen_of_row _ _ 1 _ _ R5.out; have O4 : Hid (Own w4 w3.heap.size v4 (toI DV)) := o4; obtain ⟨x4, m4, rfl⟩ := (Own.row o4).slice; clear g4 o4))
      have HF := bk_putW R5.out (.bool false) (.slice x4 (toI DV).length m4)
      have q0 := HF.c (i := 0) rfl
      have q1 := HF.c (i := 1) rfl
      refine bodyPost_ret (v := .tuple #[.agg #[.bool false, .slice x4 (toI DV).length m4], .bool true]) (by simp [results, Tryz.results32, go_sem, q0, q1]) rfl ?_
      rw [HB.out.1, HB.out.2]
      refine ⟨_, rfl, (HO4.out.own (p := ⟨w.heap.size + 1 + 1, 0, none⟩) (by simp; omega) _).own (p := ⟨w.heap.size + 1 + 1, 1, none⟩) (by simp; omega) _, ?_⟩
      refine own_farB (Own.low O4.out (by omega)) (fun b hb => ?_)
      have hlt := (O4.out.lt b hb).1
      exact (heap_setCell_other _ ⟨w.heap.size + 1 + 1, 1, none⟩ b _ (by show b ≠ w.heap.size + 1 + 1; omega)).trans (heap_setCell_other _ ⟨w.heap.size + 1 + 1, 0, none⟩ b _ (by show b ≠ w.heap.size + 1 + 1; omega))
end Go.Proofs.YtihjndakgncdaaaGreatDoor
/- Proved: the model's numbers as rows; its l9Q, l11R, l11Limit, l11Out and l11Fresh. -/
namespace Go.Proofs.YtihjndakgncdaaaGreatDoor
open Go.ChangeShapes Go.WideShapes Go.ChangeAt Go.RowKit
open M2
set_option linter.unusedVariables false
set_option linter.unusedSimpArgs false
def RwD (n : Nat) (W : World) (v : Value) : Prop := ∃ a c, v = .slice a (dig n).length c ∧ Row W (.slice a (dig n).length c) (toI (dig n))
theorem RwD.old {n : Nat} {W W' : World} {v : Value} (h : RwD n W v) (q : Old W W') : RwD n W' v := by
  obtain ⟨a, c, e, r⟩ := h
  exact ⟨a, c, e, r.old q⟩
theorem RwD.row {n : Nat} {W : World} {v : Value} (h : RwD n W v) : Row W v (toI (dig n)) := by
  obtain ⟨a, c, e, r⟩ := h
  rw [e]
  exact r
theorem RwD.of {n : Nat} {W : World} {v : Value} (h : Row W v (toI (dig n))) : RwD n W v := by
  obtain ⟨a, c, e⟩ := h.slice
  rw [toI_len] at e
  subst e
  exact ⟨a, c, rfl, h⟩
theorem RwD.zero (W : World) : RwD 0 W (.slice none 0 0) := ⟨none, 0, rfl, .inl ⟨none, 0, rfl, rfl⟩⟩
theorem RwD.one (w : World) (n : Nat) (h : dig n = [n]) : RwD n (w.alloc (.cells #[.int .i64 (n : Int)] 3)) (.slice (some ⟨w.heap.size, 0, none⟩) 1 1) := by
  refine ⟨some ⟨w.heap.size, 0, none⟩, 1, by rw [h]; rfl, ?_⟩
  rw [h]
  refine .inr ⟨w.heap.size, 0, 1, rfl, by simp, by simp [toI], fun j hj => ?_⟩
  have : j = 0 := by simp [toI] at hj; omega
  subst this
  exact cell_at _ _ _ _ _ rfl
def WhP (base n : Nat) (W : World) (x : Value) : Prop := ∃ a c, x = .agg #[.bool false, .slice a (dig n).length c] ∧ Own W base (.slice a (dig n).length c) (toI (dig n))
theorem WhP.old {base n : Nat} {W W' : World} {x : Value} (h : WhP base n W x) (q : Old W W') : WhP base n W' x := by
  obtain ⟨a, c, e, o⟩ := h
  exact ⟨a, c, e, o.old q⟩
theorem of_n (n : Nat) (w : World) (h : n ≤ 9223372036854775807) : Calls Tryz.prog 51 #[.int .i64 (n : Int)] w fun e w' => ∃ v, e = .returned v ∧ Old w w' ∧ RwD (n) w' v := (of_any n w h).mono fun e w' h => by
  obtain ⟨v, e1, g, o⟩ := h
  exact ⟨v, e1, g, RwD.of (Own.row o)⟩
theorem mul_n (a b : Nat) (v u : Value) (w : World) (h1 : RwD a w v) (h2 : RwD b w u) (ha : cnt a ≤ 1000) (hb : cnt b ≤ 1000) : Calls Tryz.prog 50 #[v, u] w fun e w' => ∃ v, e = .returned v ∧ Old w w' ∧ RwD (a * b) w' v := (mul_any (dig a) (dig b) v u w h1.row h2.row (dig_lim _) (dig_lim _) (by unfold cnt at ha; omega) (by unfold cnt at hb; omega)).mono fun e w' h => by
  obtain ⟨v, e1, g, o⟩ := h
  rw [val_dig, val_dig] at o
  exact ⟨v, e1, g, RwD.of (Own.row o)⟩
theorem add_n (a b : Nat) (v u : Value) (w : World) (h1 : RwD a w v) (h2 : RwD b w u) (ha : cnt a ≤ 1000) (hb : cnt b ≤ 1000) : Calls Tryz.prog 55 #[v, u] w fun e w' => ∃ v, e = .returned v ∧ Old w w' ∧ RwD (a + b) w' v := (add_any (dig a) (dig b) v u w h1.row h2.row (dig_lim _) (dig_lim _) (by unfold cnt at ha; omega) (by unfold cnt at hb; omega)).mono fun e w' h => by
  obtain ⟨v, e1, g, o⟩ := h
  rw [val_dig, val_dig] at o
  exact ⟨v, e1, g, RwD.of (Own.row o)⟩
theorem sub_n (a b : Nat) (v u : Value) (w : World) (h1 : RwD a w v) (h2 : RwD b w u) (ha : cnt a ≤ 1000) (hb : cnt b ≤ 1000) (hle : b ≤ a) : Calls Tryz.prog 54 #[v, u] w fun e w' => ∃ v, e = .returned v ∧ Old w w' ∧ RwD (a - b) w' v := (sub_any (dig a) (dig b) v u w h1.row h2.row (dig_nrm _) (dig_nrm _) (by unfold cnt at ha; omega) (by unfold cnt at hb; omega) (by rw [val_dig, val_dig]; exact hle)).mono fun e w' h => by
  obtain ⟨v, e1, g, o⟩ := h
  rw [val_dig, val_dig] at o
  exact ⟨v, e1, g, RwD.of (Own.row o)⟩
theorem div_n (a b : Nat) (v u : Value) (w : World) (h1 : RwD a w v) (h2 : RwD b w u) (ha : cnt a ≤ 1000) (hb : cnt b ≤ 1000) (h0 : 0 < b) : Calls Tryz.prog 53 #[v, u] w fun e w' => ∃ v1 v2, e = .returned (.tuple #[v1, v2]) ∧ Old w w' ∧ RwD (a / b) w' v1 ∧ RwD (a % b) w' v2 := (div_any (dig a) (dig b) v u w h1.row h2.row (dig_lim _) (dig_nrm _) (fun e => by have := val_dig b; rw [e] at this; simp [val] at this; omega) (by unfold cnt at ha; omega) (by unfold cnt at hb; omega)).mono fun e w' h => by
  obtain ⟨v1, v2, e1, g, o1, o2⟩ := h
  rw [val_dig, val_dig] at o1 o2
  exact ⟨v1, v2, e1, g, RwD.of (Own.row o1), RwD.of (Own.row o2)⟩
theorem cmp_n (a b : Nat) (v u : Value) (w : World) (h1 : RwD a w v) (h2 : RwD b w u) (ha : cnt a ≤ 1000) (hb : cnt b ≤ 1000) : Calls Tryz.prog 24 #[v, u] w fun e w' => e = .returned (.int .i64 (cmpN a b)) ∧ Old w w' := by
  have := cmp_any (dig a) (dig b) v u w h1.row h2.row (dig_nrm _) (dig_nrm _) (by unfold cnt at ha; omega) (by unfold cnt at hb; omega)
  rwa [val_dig, val_dig] at this
theorem word_n (a m : Nat) (v : Value) (w : World) (h1 : RwD a w v) (ha : cnt a ≤ 1000) (hm : 1 ≤ m ∧ m ≤ 268435456) : Calls Tryz.prog 78 #[v, .int .i64 (m : Int)] w fun e w' => e = .returned (.int .i64 ((a % m : Nat) : Int)) ∧ Old w w' := by
  have := word_any (dig a) m v w h1.row (dig_lim _) (by unfold cnt at ha; omega) hm.1 hm.2
  rwa [val_dig] at this
set_option maxRecDepth 100000 in
set_option maxHeartbeats 4000000 in
theorem l9Q_n (N T E : Int) (P : List Nat) (a0 : Option Addr) (l0 c0 : Nat) (w : World) (hv : Row w (.slice a0 l0 c0) (toZ P)) (hb : Bas P) : Calls Tryz.prog 49 #[.agg #[.int .i64 N, .int .i64 T, .int .i64 E, .slice a0 l0 c0]] w fun e w' => ∃ v, e = .returned v ∧ Old w w' ∧ RwD (prodN P) w' v := by
  have HK : Hid (∀ W, Old w W → Calls Tryz.prog 76 #[.slice a0 l0 c0] W fun e w' => ∃ v', e = .returned v' ∧ Old W w' ∧ Row w' v' (toI (dig (prodN P)))) := fun W g => spec_product P _ W (hv.old g) hb.len6 hb.hi
  have HA : Hid (Old w (w.alloc (.cells #[.int .i64 N, .int .i64 T, .int .i64 E, .slice a0 l0 c0] 25))) := (Old.refl w).alloc _
  have BA : Hid (Bk (w.alloc (.cells #[.int .i64 N, .int .i64 T, .int .i64 E, .slice a0 l0 c0] 25)) w.heap.size #[.int .i64 N, .int .i64 T, .int .i64 E, .slice a0 l0 c0] 25) := Bk.new' w _ _ rfl
  have x3 := BA.out.c (i := 3) rfl
  clear hv hb
  go_enter Tryz.func49, Tryz.ntmps49
  go_wp2_with fail
  refine (HK.out _ HA.out).mono ?_
  rintro e w1 ⟨v1, rfl, g1, r1⟩
  have HG : Hid (Old w w1) := Old.trans HA.out g1
  have HR : Hid (Row w1 v1 (toI (dig (prodN P)))) := r1
  clear g1 r1 x3
  go_wp2_with fail
  go_ret
  exact ⟨_, rfl, HG.out, RwD.of HR.out⟩
set_option maxRecDepth 100000 in
set_option maxHeartbeats 4000000 in
theorem l11R_n (Nn Tn En : Nat) (P : List Nat) (a0 : Option Addr) (l0 c0 : Nat) (w : World) (hv : Row w (.slice a0 l0 c0) (toZ P)) (hb : Bas P) (hT : 2 ≤ Tn ∧ Tn ≤ 65536) : Calls Tryz.prog 52 #[.agg #[.int .i64 (Nn : Int), .int .i64 (Tn : Int), .int .i64 (En : Int), .slice a0 l0 c0]] w fun e w' => e = .returned (.int .i64 ((prodN P % Tn : Nat) : Int)) ∧ Old w w' := by
  have HV : Hid (Row w (.slice a0 l0 c0) (toZ P)) := hv
  have hcq := hb.cnt
  have HA : Hid (Old w (w.alloc (.cells #[.int .i64 (Nn : Int), .int .i64 (Tn : Int), .int .i64 (En : Int), .slice a0 l0 c0] 25))) := (Old.refl w).alloc _
  have BP : Hid (Bk (w.alloc (.cells #[.int .i64 (Nn : Int), .int .i64 (Tn : Int), .int .i64 (En : Int), .slice a0 l0 c0] 25)) w.heap.size #[.int .i64 (Nn : Int), .int .i64 (Tn : Int), .int .i64 (En : Int), .slice a0 l0 c0] 25) := Bk.new' w _ _ rfl
  generalize hwA : (w.alloc (.cells #[.int .i64 (Nn : Int), .int .i64 (Tn : Int), .int .i64 (En : Int), .slice a0 l0 c0] 25)) = wA at HA BP
  go_enter Tryz.func52, Tryz.ntmps52
  go_wp2_with fail
  refine reg_Ma wA Nn Tn En a0 l0 c0 w.heap.size ((prodN P % Tn : Nat) : Int) (RwD (prodN P)) (fun W W' v h q => h.old q) BP.out (fun W g => l9Q_n Nn Tn En P a0 l0 c0 W (HV.out.old (Old.trans HA.out g)) hb) (fun W g u hu => word_n (prodN P) Tn u W hu (by omega) (by omega)) _ _ ?_ ?_ ?_
  iterate 2 (· exact rfl)
  intro us W q h5
  have HQ : Hid (Old w W) := Old.trans HA.out q
  simp only [putAll, Act.put, slotMa, List.range, List.range.loop, List.map_cons, List.map_nil, List.getD_cons_zero, List.getD_cons_succ, List.setIfInBounds_toArray, List.set_cons_succ, List.set_cons_zero]
  simp only [h5]
  clear q h5 HV hv
  go_wp2_with fail
  go_ret
  exact ⟨rfl, HQ.out⟩
set_option maxRecDepth 100000 in
set_option maxHeartbeats 4000000 in
theorem l11Limit_n (Nn Tn En : Nat) (P : List Nat) (a0 : Option Addr) (l0 c0 : Nat) (w : World) (hv : Row w (.slice a0 l0 c0) (toZ P)) (hb : Bas P) (hT : 2 ≤ Tn ∧ Tn ≤ 65536) : Calls Tryz.prog 22 #[.agg #[.int .i64 (Nn : Int), .int .i64 (Tn : Int), .int .i64 (En : Int), .slice a0 l0 c0]] w fun e w' => ∃ v, e = .returned v ∧ Old w w' ∧ RwD (limN (prodN P) Tn) w' v := by
  have HV : Hid (Row w (.slice a0 l0 c0) (toZ P)) := hv
  have hcq := hb.cnt
  have hr0 : prodN P % Tn < Tn := Nat.mod_lt _ (by omega)
  have hlb : Tn * (prodN P % Tn) ≤ 65536 * 65536 := Nat.mul_le_mul hT.2 (by omega)
  have hcl : cnt (Tn * (prodN P % Tn)) ≤ 3 := cnt_w (by omega)
  have CR := fun W (g : Old w W) => l11R_n Nn Tn En P a0 l0 c0 W (HV.out.old g) hb hT
  have CQ := fun W (g : Old w W) => l9Q_n Nn Tn En P a0 l0 c0 W (HV.out.old g) hb
  have HL : Hid (limN (prodN P) Tn = if prodN P < Tn * (prodN P % Tn) then 0 else (prodN P - Tn * (prodN P % Tn)) / 2) := rfl
  have hcT : cnt Tn ≤ 3 := cnt_w (by omega)
  have hcr : cnt (prodN P % Tn) ≤ 3 := cnt_w (by omega)
  have KT : ∀ W, Calls Tryz.prog 51 #[.int .i64 (Tn : Int)] W fun e w' => ∃ v, e = .returned v ∧ Old W w' ∧ RwD Tn w' v := fun W => of_n Tn W (by omega)
  have KR : ∀ W, Calls Tryz.prog 51 #[.int .i64 ((prodN P % Tn : Nat) : Int)] W fun e w' => ∃ v, e = .returned v ∧ Old W w' ∧ RwD (prodN P % Tn) w' v := fun W => of_n _ W (by omega)
  generalize limN (prodN P) Tn = LM at *
  generalize prodN P = q at *
  generalize q % Tn = r at *
  have HA : Hid (Old w (w.alloc (.cells #[.int .i64 (Nn : Int), .int .i64 (Tn : Int), .int .i64 (En : Int), .slice a0 l0 c0] 25))) := (Old.refl w).alloc _
  have BP : Hid (Bk (w.alloc (.cells #[.int .i64 (Nn : Int), .int .i64 (Tn : Int), .int .i64 (En : Int), .slice a0 l0 c0] 25)) w.heap.size #[.int .i64 (Nn : Int), .int .i64 (Tn : Int), .int .i64 (En : Int), .slice a0 l0 c0] 25) := Bk.new' w _ _ rfl
  generalize hwA : (w.alloc (.cells #[.int .i64 (Nn : Int), .int .i64 (Tn : Int), .int .i64 (En : Int), .slice a0 l0 c0] 25)) = wA at HA BP
  have p0 := BP.out.c (i := 0) rfl
  have p1 := BP.out.c (i := 1) rfl
  have p2 := BP.out.c (i := 2) rfl
  have p3 := BP.out.c (i := 3) rfl
  clear hv
  go_enter Tryz.func22, Tryz.ntmps22
  go_wp2_with fail
  refine (CQ _ HA.out).mono ?_
  rintro e w1 ⟨v1, rfl, g1, qa, qc, rfl, rq⟩
  have HO1 : Hid (Old w w1) := Old.trans HA.out g1
  have BP1 : Hid (Bk w1 w.heap.size #[.int .i64 (Nn : Int), .int .i64 (Tn : Int), .int .i64 (En : Int), .slice a0 l0 c0] 25) := BP.out.old g1
  have HRQ : Hid (RwD q w1 (.slice qa (dig q).length qc)) := ⟨qa, qc, rfl, rq⟩
  clear g1 rq p0 p1 p2 p3 BP HA hwA CQ
  generalize (dig q).length = lq at *
  go_wp2_with fail
  refine reg_Mb w1 Nn Tn En a0 l0 c0 w.heap.size (r : Int) (RwD Tn) (RwD r) (RwD (Tn * r)) (fun W W' v h q => h.old q) (fun W W' v h q => h.old q) (fun W W' v h q => h.old q) BP1.out (fun W g => KT W) (fun W g => CR W (Old.trans HO1.out g)) (fun W g => KR W) (fun W g u1 u2 h1 h2 => mul_n Tn r u1 u2 W h1 h2 (by omega) (by omega)) _ _ ?_ ?_ ?_
  iterate 2 (· exact rfl)
  intro us W2 q2 h7
  obtain ⟨la, lc, e7, r7⟩ := h7
  have HO2 : Hid (Old w W2) := Old.trans HO1.out q2
  have HRQ2 : Hid (RwD q W2 (.slice qa lq qc)) := HRQ.out.old q2
  have HRL2 : Hid (RwD (Tn * r) W2 (.slice la (dig (Tn * r)).length lc)) := ⟨la, lc, rfl, r7⟩
  simp only [putAll, Act.put, slotMb, List.range, List.range.loop, List.map_cons, List.map_nil, List.getD_cons_zero, List.getD_cons_succ, List.setIfInBounds_toArray, List.set_cons_succ, List.set_cons_zero]
  simp only [e7]
  clear q2 e7 r7 BP1 HRQ HO1 KT KR CR
  generalize hTr : Tn * r = tr at *
  generalize (dig tr).length = ll at *
  clear hTr
  have KC : ∀ W, Old W2 W → Calls Tryz.prog 24 #[.slice qa lq qc, .slice la ll lc] W fun e w' => e = .returned (.int .i64 (cmpN q tr)) ∧ Old W w' := fun W g => cmp_n q tr _ _ W (HRQ2.out.old g) (HRL2.out.old g) (by omega) (by omega)
  have HCM : Hid (cmpN q tr < 0 ↔ q < tr) := by
    show cmpN q tr < 0 ↔ q < tr
    unfold cmpN
    split
    · omega
    · split <;> omega
  generalize cmpN q tr = cm at *
  by_cases hlt : q < tr
  · have d1 : decide (cm < 0) = true := decide_eq_true (HCM.out.2 hlt)
    have HLM : Hid (LM = 0) := HL.out.trans (if_pos hlt)
    clear HL HCM hlt
    go_wp2_with fail
    refine (KC _ (Old.refl _)).mono ?_
    rintro e w3 ⟨rfl, g3⟩
    have HO3 : Hid (Old w w3) := Old.trans HO2.out g3
    clear g3
    go_wp2_with fail
    go_ret
    exact ⟨_, rfl, HO3.out, by rw [HLM.out]; exact RwD.zero _⟩
  · have d1 : decide (cm < 0) = false := decide_eq_false (fun h => hlt (HCM.out.1 h))
    have HLM : Hid (LM = (q - tr) / 2) := HL.out.trans (if_neg hlt)
    have KS : ∀ W, Old W2 W → Calls Tryz.prog 54 #[.slice qa lq qc, .slice la ll lc] W fun e w' => ∃ v, e = .returned v ∧ Old W w' ∧ RwD (q - tr) w' v := fun W g => sub_n q tr _ _ W (HRQ2.out.old g) (HRL2.out.old g) (by omega) (by omega) (by omega)
    have hcs : cnt (q - tr) ≤ 7 := Nat.le_trans (cnt_mono (Nat.sub_le _ _)) hcq
    have KD : ∀ W v, RwD (q - tr) W v → Calls Tryz.prog 53 #[v, .slice (some ⟨W.heap.size, 0, none⟩) 1 1] (W.alloc (.cells #[.int .i64 2] 3)) fun e w' => ∃ v1 v2, e = .returned (.tuple #[v1, v2]) ∧ Old (W.alloc (.cells #[.int .i64 2] 3)) w' ∧ RwD ((q - tr) / 2) w' v1 ∧ RwD ((q - tr) % 2) w' v2 := fun W v h => div_n (q - tr) 2 _ _ _ (h.old ((Old.refl W).alloc _)) (RwD.one W 2 (by decide)) (by omega) (by decide) (by omega)
    clear HL HCM hlt
    go_wp2_with fail
    refine (KC _ (Old.refl _)).mono ?_
    rintro e w3 ⟨rfl, g3⟩
    have HO3 : Hid (Old w w3) := Old.trans HO2.out g3
    have HP3 : Hid (Old W2 w3) := g3
    clear g3 KC
    go_wp2_with fail
    refine (KS _ HP3.out).mono ?_
    rintro e w4 ⟨v4, rfl, g4, r4⟩
    have HO4 : Hid (Old w w4) := Old.trans HO3.out g4
    have HR4 : Hid (RwD (q - tr) w4 v4) := r4
    clear g4 r4 KS
    go_wp2_with fail
    refine (KD w4 v4 HR4.out).mono ?_
    rintro e w5 ⟨v5, v6, rfl, g5, r5, _⟩
    have HO5 : Hid (Old w w5) := Old.trans (HO4.out.alloc _) g5
    have HR5 : Hid (RwD ((q - tr) / 2) w5 v5) := r5
    clear g5 r5 KD
    go_wp2_with fail
    go_ret
    exact ⟨_, rfl, HO5.out, by rw [HLM.out]; exact HR5.out⟩
set_option maxRecDepth 100000 in
set_option maxHeartbeats 4000000 in
theorem l11Fresh_n (Nn Tn En : Nat) (P : List Nat) (a0 : Option Addr) (l0 c0 : Nat) (w : World) (hv : Row w (.slice a0 l0 c0) (toZ P)) (hb : Bas P) (hN : 2 ≤ Nn ∧ Nn ≤ 16) (hT : 2 ≤ Tn ∧ Tn ≤ 65536) (hE : 1 ≤ En ∧ En ≤ 16) : Calls Tryz.prog 23 #[.agg #[.int .i64 (Nn : Int), .int .i64 (Tn : Int), .int .i64 (En : Int), .slice a0 l0 c0]] w fun e w' => ∃ v, e = .returned v ∧ Old w w' ∧ RwD (plN (prodN P) Tn + Tn * En * (2 * Nn + 1)) w' v := by
  have HV : Hid (Row w (.slice a0 l0 c0) (toZ P)) := hv
  have hbd := tE_bd hN hT hE
  have hp := plN_bd (q := prodN P) hT
  have e1 : (Tn : Int) * (En : Int) = ((Tn * En : Nat) : Int) := by rw [Int.natCast_mul]
  have e2 : (Tn : Int) * (En : Int) * (2 * (Nn : Int) + 1) = ((Tn * En * (2 * Nn + 1) : Nat) : Int) := by
    rw [Int.natCast_mul, Int.natCast_mul, Int.natCast_add, Int.natCast_mul]
    rfl
  have e3 := plN_int (q := prodN P) hT.1
  have HA : Hid (Old w (w.alloc (.cells #[.int .i64 (Nn : Int), .int .i64 (Tn : Int), .int .i64 (En : Int), .slice a0 l0 c0] 25))) := (Old.refl w).alloc _
  have BP : Hid (Bk (w.alloc (.cells #[.int .i64 (Nn : Int), .int .i64 (Tn : Int), .int .i64 (En : Int), .slice a0 l0 c0] 25)) w.heap.size #[.int .i64 (Nn : Int), .int .i64 (Tn : Int), .int .i64 (En : Int), .slice a0 l0 c0] 25) := Bk.new' w _ _ rfl
  generalize hwA : (w.alloc (.cells #[.int .i64 (Nn : Int), .int .i64 (Tn : Int), .int .i64 (En : Int), .slice a0 l0 c0] 25)) = wA at HA BP
  go_enter Tryz.func23, Tryz.ntmps23
  go_wp2_with fail
  refine reg_Md wA Nn Tn En a0 l0 c0 w.heap.size ((prodN P % Tn : Nat) : Int) (RwD (plN (prodN P) Tn)) (RwD (Tn * En * (2 * Nn + 1))) (RwD (plN (prodN P) Tn + Tn * En * (2 * Nn + 1))) (fun W W' v h q => h.old q) (fun W W' v h q => h.old q) (fun W W' v h q => h.old q) BP.out (by omega) (by omega) (by rw [e3]; omega) (by rw [e1]; omega) (by rw [e2]; omega) (fun W g => l11R_n Nn Tn En P a0 l0 c0 W (HV.out.old (Old.trans HA.out g)) hb hT) (fun W g => by rw [e3]; exact of_n _ W (by omega)) (fun W g => by rw [e2]; exact of_n _ W (by omega)) (fun W g u1 u2 h1 h2 => add_n _ _ u1 u2 W h1 h2 (Nat.le_trans (cnt_w (by omega)) (by omega)) (Nat.le_trans (cnt_w (by omega)) (by omega))) _ _ ?_ ?_ ?_
  iterate 2 (· exact rfl)
  intro us W q h19
  have HQ : Hid (Old w W) := Old.trans HA.out q
  have H19 : Hid (RwD (plN (prodN P) Tn + Tn * En * (2 * Nn + 1)) W (us 19)) := h19
  simp only [putAll, Act.put, slotMd, List.range, List.range.loop, List.map_cons, List.map_nil, List.getD_cons_zero, List.getD_cons_succ, List.setIfInBounds_toArray, List.set_cons_succ, List.set_cons_zero]
  clear q h19 HV hv e1 e2 e3 hbd hp
  go_wp2_with fail
  go_ret
  exact ⟨_, rfl, HQ.out, H19.out⟩
end Go.Proofs.YtihjndakgncdaaaGreatDoor
/- Proved: the model's l11Mul, l11Switch and l11Bound. -/
namespace Go.Proofs.YtihjndakgncdaaaGreatDoor
open Go.ChangeShapes Go.WideShapes Go.ChangeAt Go.RowKit
open M2
set_option linter.unusedVariables false
set_option linter.unusedSimpArgs false
def mulM (q N T a b : Nat) : Nat := N * oftN N T * (a + b) + (N * (a * b) / q + 1) + rndN N T
set_option maxRecDepth 100000 in
set_option maxHeartbeats 4000000 in
theorem l11Mul_n (Nn Tn En : Nat) (P : List Nat) (a0 : Option Addr) (l0 c0 : Nat) (a b : Nat) (v u : Value) (w : World) (hv : Row w (.slice a0 l0 c0) (toZ P)) (hb : Bas P) (h0 : 0 < prodN P) (hN : 2 ≤ Nn ∧ Nn ≤ 16) (hT : 2 ≤ Tn ∧ Tn ≤ 65536) (ha : RwD a w v) (hb' : RwD b w u) (hca : cnt a ≤ 100) (hcb : cnt b ≤ 100) : Calls Tryz.prog 26 #[.agg #[.int .i64 (Nn : Int), .int .i64 (Tn : Int), .int .i64 (En : Int), .slice a0 l0 c0], v, u] w fun e w' => ∃ v, e = .returned v ∧ Old w w' ∧ RwD (mulM (prodN P) Nn Tn a b) w' v := by
  obtain ⟨b1, b2, b3, b4, b5⟩ := oft_bd hN hT
  have HV : Hid (Row w (.slice a0 l0 c0) (toZ P)) := hv
  have hcq := hb.cnt
  have CQ := fun W (g : Old w W) => l9Q_n Nn Tn En P a0 l0 c0 W (HV.out.old g) hb
  have e1 : (Tn : Int) * (1 + (Nn : Int)) = ((Tn * (1 + Nn) : Nat) : Int) := by rw [Int.natCast_mul, Int.natCast_add]; rfl
  have e2 : (Nn : Int) * (Nn : Int) = ((Nn * Nn : Nat) : Int) := by rw [Int.natCast_mul]
  have e3 : (Tn : Int) * (1 + (Nn : Int) + ((Nn * Nn : Nat) : Int)) = ((Tn * (1 + Nn + Nn * Nn) : Nat) : Int) := by first | (push_cast; rfl) | push_cast
  have e4 : (Nn : Int) * ((oftN Nn Tn : Nat) : Int) = ((Nn * oftN Nn Tn : Nat) : Int) := by rw [Int.natCast_mul]
  have k1 : cnt (a + b) ≤ 101 := cnt_addL hca hcb
  have k2 : cnt (Nn * oftN Nn Tn) ≤ 3 := cnt_w (by omega)
  have k3 : cnt (Nn * oftN Nn Tn * (a + b)) ≤ 104 := Nat.le_trans (cnt_mul _ _) (by omega)
  have k4 : cnt (a * b) ≤ 200 := Nat.le_trans (cnt_mul _ _) (by omega)
  have k5 : cnt Nn ≤ 3 := cnt_w (by omega)
  have k6 : cnt (Nn * (a * b)) ≤ 203 := Nat.le_trans (cnt_mul _ _) (by omega)
  have k7 : cnt (Nn * (a * b) / prodN P) ≤ 203 := Nat.le_trans (cnt_mono (Nat.div_le_self _ _)) k6
  have k8 : cnt (Nn * (a * b) / prodN P + 1) ≤ 204 := cnt_addL (k := 203) k7 (Nat.le_trans (cnt_w (by omega)) (by omega))
  have k9 : cnt (Nn * oftN Nn Tn * (a + b) + (Nn * (a * b) / prodN P + 1)) ≤ 205 := cnt_addL (k := 204) (by omega) k8
  have k10 : cnt (rndN Nn Tn) ≤ 3 := cnt_w (by omega)
  have g1' : IntKind.i64.wrap (1 + (Nn : Int)) = 1 + (Nn : Int) := by rw [IntKind.wrap_i64]; omega
  have g2' : IntKind.i64.wrap ((Tn : Int) * (1 + (Nn : Int))) = ((Tn * (1 + Nn) : Nat) : Int) := by rw [e1, IntKind.wrap_i64]; omega
  have g3' : (((Tn * (1 + Nn) : Nat) : Int)).tdiv 2 = ((Tn * (1 + Nn) / 2 : Nat) : Int) := by rw [Int.tdiv_eq_ediv_of_nonneg (by omega)]; rfl
  have g4' : IntKind.i64.wrap ((Tn * (1 + Nn) / 2 : Nat) : Int) = ((Tn * (1 + Nn) / 2 : Nat) : Int) := by rw [IntKind.wrap_i64]; omega
  have g5' : IntKind.i64.wrap (((Tn * (1 + Nn) / 2 : Nat) : Int) + 1) = ((oftN Nn Tn : Nat) : Int) := by rw [IntKind.wrap_i64]; unfold oftN; omega
  have g6' : IntKind.i64.wrap ((Nn : Int) * ((oftN Nn Tn : Nat) : Int)) = ((Nn * oftN Nn Tn : Nat) : Int) := by rw [e4, IntKind.wrap_i64]; omega
  have f1' : IntKind.i64.wrap ((Nn : Int) * (Nn : Int)) = ((Nn * Nn : Nat) : Int) := by rw [e2, IntKind.wrap_i64]; omega
  have f2' : IntKind.i64.wrap (1 + (Nn : Int) + ((Nn * Nn : Nat) : Int)) = 1 + (Nn : Int) + ((Nn * Nn : Nat) : Int) := by rw [IntKind.wrap_i64]; omega
  have f3' : IntKind.i64.wrap ((Tn : Int) * (1 + (Nn : Int) + ((Nn * Nn : Nat) : Int))) = ((Tn * (1 + Nn + Nn * Nn) : Nat) : Int) := by rw [e3, IntKind.wrap_i64]; omega
  have f4' : (((Tn * (1 + Nn + Nn * Nn) : Nat) : Int)).tdiv 2 = ((Tn * (1 + Nn + Nn * Nn) / 2 : Nat) : Int) := by rw [Int.tdiv_eq_ediv_of_nonneg (by omega)]; rfl
  have f5' : IntKind.i64.wrap ((Tn * (1 + Nn + Nn * Nn) / 2 : Nat) : Int) = ((Tn * (1 + Nn + Nn * Nn) / 2 : Nat) : Int) := by rw [IntKind.wrap_i64]; omega
  have f6' : IntKind.i64.wrap (((Tn * (1 + Nn + Nn * Nn) / 2 : Nat) : Int) + 1) = ((rndN Nn Tn : Nat) : Int) := by rw [IntKind.wrap_i64]; unfold rndN; omega
  have HG1 : Hid (IntKind.i64.wrap (1 + (Nn : Int)) = 1 + (Nn : Int)) := g1'
  have HM : Hid (mulM (prodN P) Nn Tn a b = Nn * oftN Nn Tn * (a + b) + (Nn * (a * b) / prodN P + 1) + rndN Nn Tn) := rfl
  have KNo : ∀ W, Calls Tryz.prog 51 #[.int .i64 ((Nn * oftN Nn Tn : Nat) : Int)] W fun e w' => ∃ v, e = .returned v ∧ Old W w' ∧ RwD (Nn * oftN Nn Tn) w' v := fun W => of_n _ W (by omega)
  have KNn : ∀ W, Calls Tryz.prog 51 #[.int .i64 (Nn : Int)] W fun e w' => ∃ v, e = .returned v ∧ Old W w' ∧ RwD Nn w' v := fun W => of_n _ W (by omega)
  have KRn : ∀ W, Calls Tryz.prog 51 #[.int .i64 ((rndN Nn Tn : Nat) : Int)] W fun e w' => ∃ v, e = .returned v ∧ Old W w' ∧ RwD (rndN Nn Tn) w' v := fun W => of_n _ W (by omega)
  obtain ⟨va, vc, rfl, ra⟩ := ha
  obtain ⟨ua, uc, rfl, rb⟩ := hb'
  have HRA : Hid (RwD a w (.slice va (dig a).length vc)) := ⟨va, vc, rfl, ra⟩
  have HRB : Hid (RwD b w (.slice ua (dig b).length uc)) := ⟨ua, uc, rfl, rb⟩
  clear ra rb hv e1 e2 e3 e4 b1 b2 b3 b4 b5
  generalize (Tn * (1 + Nn + Nn * Nn) / 2 : Nat) = X6 at *
  generalize (Tn * (1 + Nn + Nn * Nn) : Nat) = X5 at *
  generalize (Nn * Nn : Nat) = X3 at *
  generalize (Tn * (1 + Nn) / 2 : Nat) = X2 at *
  generalize (Tn * (1 + Nn) : Nat) = X1 at *
  generalize hO : (Nn * oftN Nn Tn : Nat) = NO at *
  generalize oftN Nn Tn = oo at *
  generalize rndN Nn Tn = rr at *
  generalize mulM (prodN P) Nn Tn a b = MM at *
  generalize prodN P = q at *
  generalize (dig a).length = la at *
  generalize (dig b).length = lb at *
  have HA : Hid (Old w (w.alloc (.cells #[.int .i64 (Nn : Int), .int .i64 (Tn : Int), .int .i64 (En : Int), .slice a0 l0 c0] 25))) := (Old.refl w).alloc _
  have BP : Hid (Bk (w.alloc (.cells #[.int .i64 (Nn : Int), .int .i64 (Tn : Int), .int .i64 (En : Int), .slice a0 l0 c0] 25)) w.heap.size #[.int .i64 (Nn : Int), .int .i64 (Tn : Int), .int .i64 (En : Int), .slice a0 l0 c0] 25) := Bk.new' w _ _ rfl
  generalize hwA : (w.alloc (.cells #[.int .i64 (Nn : Int), .int .i64 (Tn : Int), .int .i64 (En : Int), .slice a0 l0 c0] 25)) = wA at HA BP
  have p0 := BP.out.c (i := 0) rfl
  have p1 := BP.out.c (i := 1) rfl
  clear hO hN hT
  go_enter Tryz.func26, Tryz.ntmps26
  go_wp2_with fail
  refine (KNo _).mono ?_
  rintro e w1 ⟨v1, rfl, g1, ya, yc, rfl, r1⟩
  have HO1 : Hid (Old w w1) := Old.trans HA.out g1
  have BP1 : Hid (Bk w1 w.heap.size #[.int .i64 (Nn : Int), .int .i64 (Tn : Int), .int .i64 (En : Int), .slice a0 l0 c0] 25) := BP.out.old g1
  have HY1 : Hid (RwD NO w1 (.slice ya (dig NO).length yc)) := ⟨ya, yc, rfl, r1⟩
  clear g1 r1 p0 p1 BP HA hwA KNo g1' g2' g3' g4' g5' g6'
  go_wp2_with fail
  refine (add_n a b _ _ w1 (HRA.out.old HO1.out) (HRB.out.old HO1.out) (by omega) (by omega)).mono ?_
  rintro e w2 ⟨v2, rfl, g2, za, zc, rfl, r2⟩
  have HO2 : Hid (Old w w2) := Old.trans HO1.out g2
  have BP2 : Hid (Bk w2 w.heap.size #[.int .i64 (Nn : Int), .int .i64 (Tn : Int), .int .i64 (En : Int), .slice a0 l0 c0] 25) := BP1.out.old g2
  have HY2 : Hid (RwD NO w2 (.slice ya (dig NO).length yc)) := HY1.out.old g2
  have HZ2 : Hid (RwD (a + b) w2 (.slice za (dig (a + b)).length zc)) := ⟨za, zc, rfl, r2⟩
  clear g2 r2 HY1 BP1
  go_wp2_with fail
  refine (mul_n NO (a + b) _ _ w2 HY2.out HZ2.out (by omega) (by omega)).mono ?_
  rintro e w3 ⟨v3, rfl, g3, oa, oc, rfl, r3⟩
  have HO3 : Hid (Old w w3) := Old.trans HO2.out g3
  have BP3 : Hid (Bk w3 w.heap.size #[.int .i64 (Nn : Int), .int .i64 (Tn : Int), .int .i64 (En : Int), .slice a0 l0 c0] 25) := BP2.out.old g3
  have HU3 : Hid (RwD (NO * (a + b)) w3 (.slice oa (dig (NO * (a + b))).length oc)) := ⟨oa, oc, rfl, r3⟩
  clear g3 r3 HY2 HZ2 BP2 HO1 HO2
  generalize (dig (NO * (a + b))).length = lo at *
  go_wp2_with fail
  refine reg_Mj w3 Nn Tn En a0 l0 c0 w.heap.size va la vc ua lb uc (RwD Nn) (RwD (a * b)) (RwD (Nn * (a * b))) (RwD q) (fun W x => ∃ v1 v2, x = .tuple #[v1, v2] ∧ RwD (Nn * (a * b) / q) W v1 ∧ RwD (Nn * (a * b) % q) W v2) (RwD (Nn * (a * b) / q)) (RwD (Nn * (a * b) % q)) (fun W W' v h q => h.old q) (fun W W' v h q => h.old q) (fun W W' v h q => h.old q) (fun W W' v h q => h.old q) (fun W W' v h g => by obtain ⟨v1, v2, e, h1, h2⟩ := h; exact ⟨v1, v2, e, h1.old g, h2.old g⟩) (fun W W' v h q => h.old q) (fun W W' v h q => h.old q) (fun W x h => h) BP3.out (fun W g => KNn W) (fun W g => mul_n a b _ _ W (HRA.out.old (Old.trans HO3.out g)) (HRB.out.old (Old.trans HO3.out g)) (by omega) (by omega)) (fun W g u1 u2 h1 h2 => mul_n Nn (a * b) u1 u2 W h1 h2 (by omega) (by omega)) (fun W g => CQ W (Old.trans HO3.out g)) (fun W g u1 u2 h1 h2 => (div_n (Nn * (a * b)) q u1 u2 W h1 h2 (by omega) (by omega) h0).mono fun e w' h => by obtain ⟨v1, v2, e1, g1, d1, d2⟩ := h; exact ⟨_, e1, g1, v1, v2, rfl, d1, d2⟩) _ _ ?_ ?_ ?_ ?_ ?_
  iterate 4 (· exact rfl)
  intro us W4 q4 h13
  obtain ⟨da, dc, e13, r13⟩ := h13
  have HO4 : Hid (Old w W4) := Old.trans HO3.out q4
  have BP4 : Hid (Bk W4 w.heap.size #[.int .i64 (Nn : Int), .int .i64 (Tn : Int), .int .i64 (En : Int), .slice a0 l0 c0] 25) := BP3.out.old q4
  have HU4 : Hid (RwD (NO * (a + b)) W4 (.slice oa lo oc)) := HU3.out.old q4
  have HD4 : Hid (RwD (Nn * (a * b) / q) W4 (.slice da (dig (Nn * (a * b) / q)).length dc)) := ⟨da, dc, rfl, r13⟩
  simp only [putAll, Act.put, slotMj, List.range, List.range.loop, List.map_cons, List.map_nil, List.getD_cons_zero, List.getD_cons_succ, List.setIfInBounds_toArray, List.set_cons_succ, List.set_cons_zero]
  simp only [e13]
  clear q4 e13 r13 BP3 HU3 HO3 KNn CQ HRA HRB
  generalize (dig (Nn * (a * b) / q)).length = ld at *
  generalize Nn * (a * b) / q = BQ at *
  generalize NO * (a + b) = AQ at *
  have K1 : Calls Tryz.prog 55 #[.slice da ld dc, .slice (some ⟨W4.heap.size, 0, none⟩) 1 1] (W4.alloc (.cells #[.int .i64 1] 3)) fun e w' => ∃ v, e = .returned v ∧ Old (W4.alloc (.cells #[.int .i64 1] 3)) w' ∧ RwD (BQ + 1) w' v := add_n BQ 1 _ _ _ (HD4.out.old ((Old.refl W4).alloc _)) (RwD.one W4 1 (by decide)) (by omega) (by decide)
  go_wp2_with fail
  refine K1.mono ?_
  rintro e w5 ⟨v5, rfl, g5, ea, ec, rfl, r5⟩
  have HO5 : Hid (Old w w5) := Old.trans (HO4.out.alloc _) g5
  have BP5 : Hid (Bk w5 w.heap.size #[.int .i64 (Nn : Int), .int .i64 (Tn : Int), .int .i64 (En : Int), .slice a0 l0 c0] 25) := (BP4.out.alloc _).old g5
  have HU5 : Hid (RwD AQ w5 (.slice oa lo oc)) := HU4.out.old (Old.trans ((Old.refl W4).alloc _) g5)
  have HE5 : Hid (RwD (BQ + 1) w5 (.slice ea (dig (BQ + 1)).length ec)) := ⟨ea, ec, rfl, r5⟩
  clear g5 r5 K1 BP4 HU4 HD4 HO4
  generalize (dig (BQ + 1)).length = le at *
  go_wp2_with fail
  refine (add_n AQ (BQ + 1) _ _ w5 HU5.out HE5.out (by omega) (by omega)).mono ?_
  rintro e w6 ⟨v6, rfl, g6, ha, hc, rfl, r6⟩
  have HO6 : Hid (Old w w6) := Old.trans HO5.out g6
  have BP6 : Hid (Bk w6 w.heap.size #[.int .i64 (Nn : Int), .int .i64 (Tn : Int), .int .i64 (En : Int), .slice a0 l0 c0] 25) := BP5.out.old g6
  have HS6 : Hid (RwD (AQ + (BQ + 1)) w6 (.slice ha (dig (AQ + (BQ + 1))).length hc)) := ⟨ha, hc, rfl, r6⟩
  have x0 := BP6.out.c (i := 0) rfl
  have x1 := BP6.out.c (i := 1) rfl
  have g1' : IntKind.i64.wrap (1 + (Nn : Int)) = 1 + (Nn : Int) := HG1.out
  clear g6 r6 BP5 HU5 HE5 HO5
  generalize (dig (AQ + (BQ + 1))).length = ls at *
  go_wp2_with fail
  refine (KRn _).mono ?_
  rintro e w7 ⟨v7, rfl, g7, ka, kc, rfl, r7⟩
  have HO7 : Hid (Old w w7) := Old.trans HO6.out g7
  have HS7 : Hid (RwD (AQ + (BQ + 1)) w7 (.slice ha ls hc)) := HS6.out.old g7
  have HK7 : Hid (RwD rr w7 (.slice ka (dig rr).length kc)) := ⟨ka, kc, rfl, r7⟩
  clear g7 r7 x0 x1 HS6 HO6 BP6 KRn f1' f2' f3' f4' f5' f6' g1'
  go_wp2_with fail
  refine (add_n (AQ + (BQ + 1)) rr _ _ w7 HS7.out HK7.out (by omega) (by omega)).mono ?_
  rintro e w8 ⟨v8, rfl, g8, r8⟩
  have HO8 : Hid (Old w w8) := Old.trans HO7.out g8
  have HR8 : Hid (RwD (AQ + (BQ + 1) + rr) w8 v8) := r8
  clear g8 r8
  go_wp2_with fail
  go_ret
  exact ⟨_, rfl, HO8.out, by rw [HM.out]; exact HR8.out⟩
set_option maxRecDepth 100000 in
set_option maxHeartbeats 4000000 in
theorem l11Switch_n (Nn Tn En : Nat) (xs : List Int) (b2 o2 c0 : Nat) (a ds : Nat) (v : Value) (w : World) (hb2 : b2 < w.heap.size) (hc2 : ∀ j, j < xs.length → w.cell? ⟨b2, o2 + j, none⟩ = some (.int .i64 (xs.getD j 0))) (hl : 1 ≤ xs.length ∧ xs.length ≤ 6) (hp : ∀ k, k < xs.length → 2 ≤ xs.getD k 0 ∧ xs.getD k 0 ≤ 268435456) (hN : 2 ≤ Nn ∧ Nn ≤ 16) (hT : 2 ≤ Tn ∧ Tn ≤ 65536) (hE : 1 ≤ En ∧ En ≤ 16) (hds : dgS xs xs.length = (ds : Int)) (hdb : ds ≤ 1610612736) (ha : RwD a w v) (hca : cnt a ≤ 100) : Calls Tryz.prog 25 #[.agg #[.int .i64 (Nn : Int), .int .i64 (Tn : Int), .int .i64 (En : Int), .slice (some ⟨b2, o2, none⟩) xs.length c0], v] w fun e w' => ∃ v, e = .returned v ∧ Old w w' ∧ RwD (a + Tn * Nn * En * ds) w' v := by
  have h1 : Tn * Nn ≤ 65536 * 16 := Nat.mul_le_mul hT.2 hN.2
  have h2 : Tn * Nn * En ≤ 65536 * 16 * 16 := Nat.mul_le_mul h1 hE.2
  have w1' : IntKind.i64.wrap ((Tn : Int) * (Nn : Int)) = ((Tn * Nn : Nat) : Int) := by rw [show (Tn : Int) * (Nn : Int) = ((Tn * Nn : Nat) : Int) by rw [Int.natCast_mul], IntKind.wrap_i64]; omega
  have w2' : IntKind.i64.wrap (((Tn * Nn : Nat) : Int) * (En : Int)) = ((Tn * Nn * En : Nat) : Int) := by rw [show ((Tn * Nn : Nat) : Int) * (En : Int) = ((Tn * Nn * En : Nat) : Int) by rw [Int.natCast_mul (Tn * Nn)], IntKind.wrap_i64]; omega
  have k1 : cnt (Tn * Nn * En) ≤ 3 := cnt_w (by omega)
  have k2 : cnt ds ≤ 3 := cnt_w (by omega)
  have k3 : cnt (Tn * Nn * En * ds) ≤ 6 := Nat.le_trans (cnt_mul _ _) (by omega)
  have KA : ∀ W, Calls Tryz.prog 51 #[.int .i64 ((Tn * Nn * En : Nat) : Int)] W fun e w' => ∃ v, e = .returned v ∧ Old W w' ∧ RwD (Tn * Nn * En) w' v := fun W => of_n _ W (by omega)
  have KB : ∀ W, Calls Tryz.prog 51 #[.int .i64 (ds : Int)] W fun e w' => ∃ v, e = .returned v ∧ Old W w' ∧ RwD ds w' v := fun W => of_n _ W (by omega)
  obtain ⟨va, vc, rfl, ra⟩ := ha
  have HRA : Hid (RwD a w (.slice va (dig a).length vc)) := ⟨va, vc, rfl, ra⟩
  have HC2 : Hid (∀ j, j < xs.length → w.cell? ⟨b2, o2 + j, none⟩ = some (.int .i64 (xs.getD j 0))) := hc2
  have HP : Hid (∀ k, k < xs.length → 2 ≤ xs.getD k 0 ∧ xs.getD k 0 ≤ 268435456) := hp
  have HDB : Hid (∀ k, k ≤ xs.length → 0 ≤ dgS xs k ∧ dgS xs k ≤ 268435456 * k) := dgS_bd xs hp
  have HDS : Hid (∀ k, dgS xs (k + 1) = dgS xs k + (xs.getD k 0 - 1)) := fun _ => rfl
  have HD0 : Hid (dgS xs 0 = 0) := rfl
  have HDE : Hid (dgS xs xs.length = (ds : Int)) := hds
  clear ra hc2 hp hds
  generalize dgS xs = dS at *
  generalize (Tn * Nn * En : Nat) = Y2 at *
  generalize (Tn * Nn : Nat) = Y1 at *
  generalize (dig a).length = la at *
  have HA : Hid (Old w (w.alloc (.cells #[.int .i64 (Nn : Int), .int .i64 (Tn : Int), .int .i64 (En : Int), .slice (some ⟨b2, o2, none⟩) xs.length c0] 25))) := (Old.refl w).alloc _
  have BP : Hid (Bk (w.alloc (.cells #[.int .i64 (Nn : Int), .int .i64 (Tn : Int), .int .i64 (En : Int), .slice (some ⟨b2, o2, none⟩) xs.length c0] 25)) w.heap.size #[.int .i64 (Nn : Int), .int .i64 (Tn : Int), .int .i64 (En : Int), .slice (some ⟨b2, o2, none⟩) xs.length c0] 25) := Bk.new' w _ _ rfl
  generalize hwA : (w.alloc (.cells #[.int .i64 (Nn : Int), .int .i64 (Tn : Int), .int .i64 (En : Int), .slice (some ⟨b2, o2, none⟩) xs.length c0] 25)) = wA at HA BP
  have HC3 : Hid (∀ j, j < xs.length → wA.cell? ⟨b2, o2 + j, none⟩ = some (.int .i64 (xs.getD j 0))) := fun j hj => (HA.out.cell (p := ⟨b2, o2 + j, none⟩) hb2).trans (HC2.out j hj)
  have y0 := BP.out.c (i := 0) rfl
  have y1 := BP.out.c (i := 1) rfl
  have y2 := BP.out.c (i := 2) rfl
  have y3 := BP.out.c (i := 3) rfl
  clear hN hT hE
  go_enter Tryz.func25, Tryz.ntmps25
  go_wp2_with fail
  go_loopw [5, 11] (fun x i W => ∃ (k : Nat), k ≤ xs.length ∧ i = .int .i64 k ∧ x = .int .i64 (dS k) ∧ W = wA) (fun _ i _ => xs.length - (intOf i).toNat)
  case atStart => exact ⟨0, by omega, rfl, by rw [HD0.out], rfl⟩
  case round =>
    obtain ⟨k, hk, rfl, rfl, rfl⟩ := hrel
    by_cases hlt : k < xs.length
    · have d1 : decide ((k : Int) < (xs.length : Int)) = true := decide_eq_true (by omega)
      have c1 := HC3.out k hlt
      have p1 := HP.out k hlt
      have p2 := HDB.out k (by omega)
      have p3 := HDS.out k
      have w1 : IntKind.i64.wrap (xs.getD k 0 - 1) = xs.getD k 0 - 1 := by rw [IntKind.wrap_i64]; omega
      have w2 : IntKind.i64.wrap (dS k + (xs.getD k 0 - 1)) = dS (k + 1) := by rw [p3, IntKind.wrap_i64]; omega
      clear p3
      generalize xs.getD k 0 = pk at *
      go_wp2_with fail
      exact ⟨⟨k + 1, by omega, by go_num, by first | rfl | trivial, by first | rfl | trivial⟩, by simp [intOf]; omega⟩
    · have d1 : decide ((k : Int) < (xs.length : Int)) = false := decide_eq_false (by omega)
      obtain rfl : k = xs.length := by omega
      rw [HDE.out]
      go_wp2_with fail
      refine (KA _).mono ?_
      rintro e w3 ⟨v3, rfl, g3, oa, oc, rfl, r3⟩
      have HO3 : Hid (Old w w3) := Old.trans HA.out g3
      have HY3 : Hid (RwD Y2 w3 (.slice oa (dig Y2).length oc)) := ⟨oa, oc, rfl, r3⟩
      clear g3 r3
      go_wp2_with fail
      refine (KB _).mono ?_
      rintro e w4 ⟨v4, rfl, g4, za, zc, rfl, r4⟩
      have HO4 : Hid (Old w w4) := Old.trans HO3.out g4
      have HY4 : Hid (RwD Y2 w4 (.slice oa (dig Y2).length oc)) := HY3.out.old g4
      have HZ4 : Hid (RwD ds w4 (.slice za (dig ds).length zc)) := ⟨za, zc, rfl, r4⟩
      clear g4 r4
      go_wp2_with fail
      refine (mul_n Y2 ds _ _ w4 HY4.out HZ4.out (by omega) (by omega)).mono ?_
      rintro e w5 ⟨v5, rfl, g5, ea, ec, rfl, r5⟩
      have HO5 : Hid (Old w w5) := Old.trans HO4.out g5
      have HM5 : Hid (RwD (Y2 * ds) w5 (.slice ea (dig (Y2 * ds)).length ec)) := ⟨ea, ec, rfl, r5⟩
      clear g5 r5
      go_wp2_with fail
      refine (add_n a (Y2 * ds) _ _ w5 (HRA.out.old HO5.out) HM5.out (by omega) (by omega)).mono ?_
      rintro e w6 ⟨v6, rfl, g6, r6⟩
      have HO6 : Hid (Old w w6) := Old.trans HO5.out g6
      have HR6 : Hid (RwD (a + Y2 * ds) w6 v6) := r6
      clear g6 r6
      go_wp2_with fail
      go_ret
      exact ⟨_, rfl, HO6.out, HR6.out⟩
end Go.Proofs.YtihjndakgncdaaaGreatDoor
/- Proved: the program's AddPlainBound, MulPlainBound, SwitchBound, NoiseLimit and FreshBound. -/
namespace Go.Proofs.YtihjndakgncdaaaGreatDoor
open Go.ChangeShapes Go.WideShapes Go.ChangeAt Go.RowKit
open M2
set_option linter.unusedVariables false
set_option linter.unusedSimpArgs false
set_option maxRecDepth 100000 in
set_option maxHeartbeats 4000000 in
theorem impl_SwitchBound_of (N T E : Int) (ps : List Int) (a0 : Option Addr) (c0 : Nat) (nb : Bool) (a1 : Option Addr) (l1 c1 : Nat) (D : List Nat) (ok : Bool) (w : World) (KB : ∀ W, Old w W → Calls Tryz.prog 32 #[.agg #[.int .i64 N, .int .i64 T, .int .i64 E, .slice a0 ps.length c0], .agg #[.bool nb, .slice a1 l1 c1], .func (.func 33) #[] #[]] W (WhA D ok W)) :
    Calls Tryz.prog 11 #[.agg #[.int .i64 N, .int .i64 T, .int .i64 E, .slice a0 ps.length c0], .agg #[.bool nb, .slice a1 l1 c1]] w (WhA D ok w) := by
  have HA : Hid (Old w (((w.alloc (.cells #[.int .i64 N, .int .i64 T, .int .i64 E, .slice a0 ps.length c0] 25)).alloc (.cells #[.bool nb, .slice a1 l1 c1] 30)).alloc (.cells #[.bool false, .slice none 0 0] 30))) := (((Old.refl w).alloc _).alloc _).alloc _
  have BP : Hid (Bk (((w.alloc (.cells #[.int .i64 N, .int .i64 T, .int .i64 E, .slice a0 ps.length c0] 25)).alloc (.cells #[.bool nb, .slice a1 l1 c1] 30)).alloc (.cells #[.bool false, .slice none 0 0] 30)) w.heap.size #[.int .i64 N, .int .i64 T, .int .i64 E, .slice a0 ps.length c0] 25) := ((Bk.new' w _ _ rfl).alloc _).alloc _
  have BW : Hid (Bk (((w.alloc (.cells #[.int .i64 N, .int .i64 T, .int .i64 E, .slice a0 ps.length c0] 25)).alloc (.cells #[.bool nb, .slice a1 l1 c1] 30)).alloc (.cells #[.bool false, .slice none 0 0] 30)) (w.heap.size + 1) #[.bool nb, .slice a1 l1 c1] 30) := (Bk.new' _ _ _ (by simp)).alloc _
  have BR : Hid (Bk (((w.alloc (.cells #[.int .i64 N, .int .i64 T, .int .i64 E, .slice a0 ps.length c0] 25)).alloc (.cells #[.bool nb, .slice a1 l1 c1] 30)).alloc (.cells #[.bool false, .slice none 0 0] 30)) (w.heap.size + 1 + 1) #[.bool false, .slice none 0 0] 30) := Bk.new' _ _ _ (by simp)
  generalize hwA : (((w.alloc (.cells #[.int .i64 N, .int .i64 T, .int .i64 E, .slice a0 ps.length c0] 25)).alloc (.cells #[.bool nb, .slice a1 l1 c1] 30)).alloc (.cells #[.bool false, .slice none 0 0] 30)) = wA at HA BP BW BR
  have p0 := BP.out.c (i := 0) rfl
  have p1 := BP.out.c (i := 1) rfl
  have p2 := BP.out.c (i := 2) rfl
  have p3 := BP.out.c (i := 3) rfl
  have u0 := BW.out.c (i := 0) rfl
  have u1 := BW.out.c (i := 1) rfl
  go_enter Tryz.func11, Tryz.ntmps11
  go_wp2_with fail
  refine (KB _ HA.out).mono ?_
  rintro e w4 ⟨v4, rfl, g4, o4⟩
  have R5 : Hid (Bk w4 (w.heap.size + 1 + 1) #[.bool false, .slice none 0 0] 30) := BR.out.old g4
  have HO4 : Hid (Old w w4) := Old.trans HA.out g4
  have hz4 : w.heap.size + 1 + 1 < wA.heap.size := BR.out.lt
  have y0 := R5.out.c (i := 0) rfl
  have y1 := R5.out.c (i := 1) rfl
  have f0 := frozen_of_row _ _ 0 _ _ R5.out
  have f1 := frozen_of_row _ _ 1 _ _ R5.out
  have O4 : Hid (Own w4 wA.heap.size v4 (toI D)) := o4
  obtain ⟨x4, m4, rfl⟩ := (Own.row o4).slice
  clear g4 o4 KB p0 p1 p2 p3 u0 u1
  go_wp2_with fail
  have HF := bk_putW R5.out (.bool false) (.slice x4 (toI D).length m4)
  have q0 := HF.c (i := 0) rfl
  have q1 := HF.c (i := 1) rfl
  refine bodyPost_ret (v := .tuple #[.agg #[.bool false, .slice x4 (toI D).length m4], .bool ok]) (by simp [results, Tryz.results11, go_sem, q0, q1]) rfl ?_
  refine ⟨_, rfl, (HO4.out.own (p := ⟨w.heap.size + 1 + 1, 0, none⟩) (by simp; omega) _).own (p := ⟨w.heap.size + 1 + 1, 1, none⟩) (by simp; omega) _, ?_⟩
  refine own_farB (Own.low O4.out (by omega)) (fun b hb => ?_)
  have hlt := (O4.out.lt b hb).1
  exact (heap_setCell_other _ ⟨w.heap.size + 1 + 1, 1, none⟩ b _ (by show b ≠ w.heap.size + 1 + 1; omega)).trans (heap_setCell_other _ ⟨w.heap.size + 1 + 1, 0, none⟩ b _ (by show b ≠ w.heap.size + 1 + 1; omega))
set_option maxRecDepth 100000 in
set_option maxHeartbeats 4000000 in
theorem impl_NoiseLimit (N T E : Int) (ps : List Int) (v : Value) (V : Nat) (w : World) (hP : PrsW w) (hT : TabW w) (hv : Row w v ps) (hf : Fit v) (hlp : ps.length ≤ 9223372036854775807) (hV : prB N T E ps = true → cnt V ≤ 7)
    (KC : prB N T E ps = true → ∀ W g a l c, Old w W → Row W (.slice a l c) (toI (dig (prodN (ps.map Int.toNat)))) → Calls Tryz.prog 18 #[.agg #[.int .i64 N, .int .i64 T, .int .i64 E, v, .slice (some ⟨g, 0, none⟩) ps.length ps.length, .bool false, .slice a l c]] W fun e w' => e = .returned (.agg (szV V)) ∧ Old W w')
    (D : List Nat) (ok : Bool) (hy : prB N T E ps = true → D = dig V ∧ ok = true) (hn : prB N T E ps = false → D = [] ∧ ok = false) :
    Calls Tryz.prog 7 #[.agg #[.int .i64 N, .int .i64 T, .int .i64 E, v]] w (WhA D ok w) := by
  have HY : Hid (prB N T E ps = true → D = dig V ∧ ok = true) := hy
  have HNN : Hid (prB N T E ps = false → D = [] ∧ ok = false) := hn
  clear hy hn
  obtain ⟨Rf, hRf⟩ := Rings_roots N ps
  have K1 := fun W (g : Old w W) => impl_reckonerOf N T E ps Rf v W (hP.old g) (hT.old g) (hv.old g) hf hlp hRf
  obtain ⟨a0, c0, ev⟩ := hv.slice
  subst ev
  have HA : Hid (Old w ((w.alloc (.cells #[.int .i64 N, .int .i64 T, .int .i64 E, .slice a0 ps.length c0] 25)).alloc (.cells #[.bool false, .slice none 0 0] 30))) := ((Old.refl w).alloc _).alloc _
  have BR : Hid (Bk ((w.alloc (.cells #[.int .i64 N, .int .i64 T, .int .i64 E, .slice a0 ps.length c0] 25)).alloc (.cells #[.bool false, .slice none 0 0] 30)) (w.heap.size + 1) #[.bool false, .slice none 0 0] 30) := Bk.new' _ _ _ (by simp)
  have HKC : Hid (prB N T E ps = true → ∀ W g a l c, Old w W → Row W (.slice a l c) (toI (dig (prodN (ps.map Int.toNat)))) → Calls Tryz.prog 18 #[.agg #[.int .i64 N, .int .i64 T, .int .i64 E, .slice a0 ps.length c0, .slice (some ⟨g, 0, none⟩) ps.length ps.length, .bool false, .slice a l c]] W fun e w' => e = .returned (.agg (szV V)) ∧ Old W w') := KC
  have HV : Hid (prB N T E ps = true → cnt V ≤ 7) := hV
  clear hv hf hP hT hRf KC hV
  go_enter Tryz.func7, Tryz.ntmps7
  go_wp2_with fail
  refine (K1 _ HA.out).mono ?_
  rintro e w1 ⟨g1, h⟩
  have HG1 : Hid (Old w w1) := Old.trans HA.out g1
  have R1 : Hid (Bk w1 (w.heap.size + 1) #[.bool false, .slice none 0 0] 30) := BR.out.old g1
  clear g1 K1 BR HA
  rcases h with ⟨hB, rfl⟩ | ⟨hB, g, a, l, c, hg, rfl, hrg, P, hPz, hbas, hl, ho⟩
  · have HB : Hid (D = [] ∧ ok = false) := HNN.out hB
    have R2 : Hid (Bk (w1.alloc (.cells rk0 48)) (w.heap.size + 1) #[.bool false, .slice none 0 0] 30) := R1.out.alloc _
    have HG2 : Hid (Old w (w1.alloc (.cells rk0 48))) := HG1.out.alloc _
    have y0 := R2.out.c (i := 0) rfl
    have y1 := R2.out.c (i := 1) rfl
    have f0 := frozen_of_row _ _ 0 _ _ R2.out
    have f1 := frozen_of_row _ _ 1 _ _ R2.out
    clear hB HKC
    go_wp2_with fail
    have HF := bk_putW R2.out (.bool false) (.slice none 0 0)
    have q0 := HF.c (i := 0) rfl
    have q1 := HF.c (i := 1) rfl
    refine bodyPost_ret (v := .tuple #[.agg #[.bool false, .slice none 0 0], .bool false]) (by simp [results, Tryz.results7, go_sem, q0, q1]) rfl ?_
    rw [HB.out.1, HB.out.2]
    exact ⟨_, rfl, (HG2.out.own (p := ⟨w.heap.size + 1, 0, none⟩) (by simp) _).own (p := ⟨w.heap.size + 1, 1, none⟩) (by simp) _, nil_own _ _⟩
  · have hPn : ps.map Int.toNat = P := by rw [hPz]; exact toZ_bk11 P
    have HQR : Hid (Row w1 (.slice a l c) (toI (dig (prodN (ps.map Int.toNat))))) := by rw [hPn]; exact Own.row ho
    have HB : Hid (D = dig V ∧ ok = true) := HY.out hB
    have CW := fun W => wholeF_any2 V W (Nat.le_trans (HV.out hB) (by omega))
    have CH : ∀ W, Old w1 W → Calls Tryz.prog 18 #[.agg #[.int .i64 N, .int .i64 T, .int .i64 E, .slice a0 ps.length c0, .slice (some ⟨g, 0, none⟩) ps.length ps.length, .bool false, .slice a l c]] W fun e w' => e = .returned (.agg (szV V)) ∧ Old W w' := fun W q => HKC.out hB W g a l c (Old.trans HG1.out q) (HQR.out.old q)
    have R2 : Hid (Bk (w1.alloc (.cells #[.int .i64 N, .int .i64 T, .int .i64 E, .slice a0 ps.length c0, .slice (some ⟨g, 0, none⟩) ps.length ps.length, .bool false, .slice a l c] 48)) (w.heap.size + 1) #[.bool false, .slice none 0 0] 30) := R1.out.alloc _
    have HG2 : Hid (Old w (w1.alloc (.cells #[.int .i64 N, .int .i64 T, .int .i64 E, .slice a0 ps.length c0, .slice (some ⟨g, 0, none⟩) ps.length ps.length, .bool false, .slice a l c] 48))) := HG1.out.alloc _
    have HO1 : Hid (Old w1 (w1.alloc (.cells #[.int .i64 N, .int .i64 T, .int .i64 E, .slice a0 ps.length c0, .slice (some ⟨g, 0, none⟩) ps.length ps.length, .bool false, .slice a l c] 48))) := (Old.refl w1).alloc _
    have BX : Hid (Bk (w1.alloc (.cells #[.int .i64 N, .int .i64 T, .int .i64 E, .slice a0 ps.length c0, .slice (some ⟨g, 0, none⟩) ps.length ps.length, .bool false, .slice a l c] 48)) w1.heap.size #[.int .i64 N, .int .i64 T, .int .i64 E, .slice a0 ps.length c0, .slice (some ⟨g, 0, none⟩) ps.length ps.length, .bool false, .slice a l c] 48) := Bk.new' w1 _ _ rfl
    have z0 := BX.out.c (i := 0) rfl
    have z1 := BX.out.c (i := 1) rfl
    have z2 := BX.out.c (i := 2) rfl
    have z3 := BX.out.c (i := 3) rfl
    have z4 := BX.out.c (i := 4) rfl
    have z5 := BX.out.c (i := 5) rfl
    have z6 := BX.out.c (i := 6) rfl
    clear hB HKC hPn hPz hbas ho hrg hg hl HQR
    generalize szV V = SV at *
    generalize dig V = DV at *
    go_wp2_with fail
    refine (CH _ HO1.out).mono ?_
    rintro e w3 ⟨rfl, g3⟩
    have R4 : Hid (Bk w3 (w.heap.size + 1) #[.bool false, .slice none 0 0] 30) := R2.out.old g3
    have HO3 : Hid (Old w w3) := Old.trans HG2.out g3
    clear g3 z0 z1 z2 z3 z4 z5 z6
    go_wp2_with fail
    refine (CW _).mono ?_
    rintro e w4 ⟨v4, rfl, g4, o4⟩
    have R5 : Hid (Bk w4 (w.heap.size + 1) #[.bool false, .slice none 0 0] 30) := R4.out.old g4
    have HO4 : Hid (Old w w4) := Old.trans HO3.out g4
    have hz4 : w.heap.size + 1 < w3.heap.size := R4.out.lt
    have y0 := R5.out.c (i := 0) rfl
    have y1 := R5.out.c (i := 1) rfl
    have f0 := frozen_of_row _ _ 0 _ _ R5.out
    have f1 := frozen_of_row _ _ 1 _ _ R5.out
    have O4 : Hid (Own w4 w3.heap.size v4 (toI DV)) := o4
    obtain ⟨x4, m4, rfl⟩ := (Own.row o4).slice
    clear g4 o4
    go_wp2_with fail
    have HF := bk_putW R5.out (.bool false) (.slice x4 (toI DV).length m4)
    have q0 := HF.c (i := 0) rfl
    have q1 := HF.c (i := 1) rfl
    refine bodyPost_ret (v := .tuple #[.agg #[.bool false, .slice x4 (toI DV).length m4], .bool true]) (by simp [results, Tryz.results7, go_sem, q0, q1]) rfl ?_
    rw [HB.out.1, HB.out.2]
    refine ⟨_, rfl, (HO4.out.own (p := ⟨w.heap.size + 1, 0, none⟩) (by simp) _).own (p := ⟨w.heap.size + 1, 1, none⟩) (by simp) _, ?_⟩
    refine own_farB (Own.low O4.out (by omega)) (fun b hb => ?_)
    have hlt := (O4.out.lt b hb).1
    exact (heap_setCell_other _ ⟨w.heap.size + 1, 1, none⟩ b _ (by show b ≠ w.heap.size + 1; omega)).trans (heap_setCell_other _ ⟨w.heap.size + 1, 0, none⟩ b _ (by show b ≠ w.heap.size + 1; omega))
set_option maxRecDepth 100000 in
set_option maxHeartbeats 4000000 in
theorem impl_FreshBound (N T E : Int) (ps : List Int) (v : Value) (V : Nat) (w : World) (hP : PrsW w) (hT : TabW w) (hv : Row w v ps) (hf : Fit v) (hlp : ps.length ≤ 9223372036854775807) (hV : prB N T E ps = true → cnt V ≤ 7)
    (KC : prB N T E ps = true → ∀ W g a l c, Old w W → Row W (.slice a l c) (toI (dig (prodN (ps.map Int.toNat)))) → Calls Tryz.prog 28 #[.agg #[.int .i64 N, .int .i64 T, .int .i64 E, v, .slice (some ⟨g, 0, none⟩) ps.length ps.length, .bool false, .slice a l c]] W fun e w' => e = .returned (.agg (szV V)) ∧ Old W w')
    (D : List Nat) (ok : Bool) (hy : prB N T E ps = true → D = dig V ∧ ok = true) (hn : prB N T E ps = false → D = [] ∧ ok = false) :
    Calls Tryz.prog 8 #[.agg #[.int .i64 N, .int .i64 T, .int .i64 E, v]] w (WhA D ok w) := by
  have HY : Hid (prB N T E ps = true → D = dig V ∧ ok = true) := hy
  have HNN : Hid (prB N T E ps = false → D = [] ∧ ok = false) := hn
  clear hy hn
  obtain ⟨Rf, hRf⟩ := Rings_roots N ps
  have K1 := fun W (g : Old w W) => impl_reckonerOf N T E ps Rf v W (hP.old g) (hT.old g) (hv.old g) hf hlp hRf
  obtain ⟨a0, c0, ev⟩ := hv.slice
  subst ev
  have HA : Hid (Old w ((w.alloc (.cells #[.int .i64 N, .int .i64 T, .int .i64 E, .slice a0 ps.length c0] 25)).alloc (.cells #[.bool false, .slice none 0 0] 30))) := ((Old.refl w).alloc _).alloc _
  have BR : Hid (Bk ((w.alloc (.cells #[.int .i64 N, .int .i64 T, .int .i64 E, .slice a0 ps.length c0] 25)).alloc (.cells #[.bool false, .slice none 0 0] 30)) (w.heap.size + 1) #[.bool false, .slice none 0 0] 30) := Bk.new' _ _ _ (by simp)
  have HKC : Hid (prB N T E ps = true → ∀ W g a l c, Old w W → Row W (.slice a l c) (toI (dig (prodN (ps.map Int.toNat)))) → Calls Tryz.prog 28 #[.agg #[.int .i64 N, .int .i64 T, .int .i64 E, .slice a0 ps.length c0, .slice (some ⟨g, 0, none⟩) ps.length ps.length, .bool false, .slice a l c]] W fun e w' => e = .returned (.agg (szV V)) ∧ Old W w') := KC
  have HV : Hid (prB N T E ps = true → cnt V ≤ 7) := hV
  clear hv hf hP hT hRf KC hV
  go_enter Tryz.func8, Tryz.ntmps8
  go_wp2_with fail
  refine (K1 _ HA.out).mono ?_
  rintro e w1 ⟨g1, h⟩
  have HG1 : Hid (Old w w1) := Old.trans HA.out g1
  have R1 : Hid (Bk w1 (w.heap.size + 1) #[.bool false, .slice none 0 0] 30) := BR.out.old g1
  clear g1 K1 BR HA
  rcases h with ⟨hB, rfl⟩ | ⟨hB, g, a, l, c, hg, rfl, hrg, P, hPz, hbas, hl, ho⟩
  · have HB : Hid (D = [] ∧ ok = false) := HNN.out hB
    have R2 : Hid (Bk (w1.alloc (.cells rk0 48)) (w.heap.size + 1) #[.bool false, .slice none 0 0] 30) := R1.out.alloc _
    have HG2 : Hid (Old w (w1.alloc (.cells rk0 48))) := HG1.out.alloc _
    have y0 := R2.out.c (i := 0) rfl
    have y1 := R2.out.c (i := 1) rfl
    have f0 := frozen_of_row _ _ 0 _ _ R2.out
    have f1 := frozen_of_row _ _ 1 _ _ R2.out
    clear hB HKC
    go_wp2_with fail
    have HF := bk_putW R2.out (.bool false) (.slice none 0 0)
    have q0 := HF.c (i := 0) rfl
    have q1 := HF.c (i := 1) rfl
    refine bodyPost_ret (v := .tuple #[.agg #[.bool false, .slice none 0 0], .bool false]) (by simp [results, Tryz.results8, go_sem, q0, q1]) rfl ?_
    rw [HB.out.1, HB.out.2]
    exact ⟨_, rfl, (HG2.out.own (p := ⟨w.heap.size + 1, 0, none⟩) (by simp) _).own (p := ⟨w.heap.size + 1, 1, none⟩) (by simp) _, nil_own _ _⟩
  · have hPn : ps.map Int.toNat = P := by rw [hPz]; exact toZ_bk11 P
    have HQR : Hid (Row w1 (.slice a l c) (toI (dig (prodN (ps.map Int.toNat))))) := by rw [hPn]; exact Own.row ho
    have HB : Hid (D = dig V ∧ ok = true) := HY.out hB
    have CW := fun W => wholeF_any2 V W (Nat.le_trans (HV.out hB) (by omega))
    have CH : ∀ W, Old w1 W → Calls Tryz.prog 28 #[.agg #[.int .i64 N, .int .i64 T, .int .i64 E, .slice a0 ps.length c0, .slice (some ⟨g, 0, none⟩) ps.length ps.length, .bool false, .slice a l c]] W fun e w' => e = .returned (.agg (szV V)) ∧ Old W w' := fun W q => HKC.out hB W g a l c (Old.trans HG1.out q) (HQR.out.old q)
    have R2 : Hid (Bk (w1.alloc (.cells #[.int .i64 N, .int .i64 T, .int .i64 E, .slice a0 ps.length c0, .slice (some ⟨g, 0, none⟩) ps.length ps.length, .bool false, .slice a l c] 48)) (w.heap.size + 1) #[.bool false, .slice none 0 0] 30) := R1.out.alloc _
    have HG2 : Hid (Old w (w1.alloc (.cells #[.int .i64 N, .int .i64 T, .int .i64 E, .slice a0 ps.length c0, .slice (some ⟨g, 0, none⟩) ps.length ps.length, .bool false, .slice a l c] 48))) := HG1.out.alloc _
    have HO1 : Hid (Old w1 (w1.alloc (.cells #[.int .i64 N, .int .i64 T, .int .i64 E, .slice a0 ps.length c0, .slice (some ⟨g, 0, none⟩) ps.length ps.length, .bool false, .slice a l c] 48))) := (Old.refl w1).alloc _
    have BX : Hid (Bk (w1.alloc (.cells #[.int .i64 N, .int .i64 T, .int .i64 E, .slice a0 ps.length c0, .slice (some ⟨g, 0, none⟩) ps.length ps.length, .bool false, .slice a l c] 48)) w1.heap.size #[.int .i64 N, .int .i64 T, .int .i64 E, .slice a0 ps.length c0, .slice (some ⟨g, 0, none⟩) ps.length ps.length, .bool false, .slice a l c] 48) := Bk.new' w1 _ _ rfl
    have z0 := BX.out.c (i := 0) rfl
    have z1 := BX.out.c (i := 1) rfl
    have z2 := BX.out.c (i := 2) rfl
    have z3 := BX.out.c (i := 3) rfl
    have z4 := BX.out.c (i := 4) rfl
    have z5 := BX.out.c (i := 5) rfl
    have z6 := BX.out.c (i := 6) rfl
    clear hB HKC hPn hPz hbas ho hrg hg hl HQR
    generalize szV V = SV at *
    generalize dig V = DV at *
    go_wp2_with fail
    refine (CH _ HO1.out).mono ?_
    rintro e w3 ⟨rfl, g3⟩
    have R4 : Hid (Bk w3 (w.heap.size + 1) #[.bool false, .slice none 0 0] 30) := R2.out.old g3
    have HO3 : Hid (Old w w3) := Old.trans HG2.out g3
    clear g3 z0 z1 z2 z3 z4 z5 z6
    go_wp2_with fail
    refine (CW _).mono ?_
    rintro e w4 ⟨v4, rfl, g4, o4⟩
    have R5 : Hid (Bk w4 (w.heap.size + 1) #[.bool false, .slice none 0 0] 30) := R4.out.old g4
    have HO4 : Hid (Old w w4) := Old.trans HO3.out g4
    have hz4 : w.heap.size + 1 < w3.heap.size := R4.out.lt
    have y0 := R5.out.c (i := 0) rfl
    have y1 := R5.out.c (i := 1) rfl
    have f0 := frozen_of_row _ _ 0 _ _ R5.out
    have f1 := frozen_of_row _ _ 1 _ _ R5.out
    have O4 : Hid (Own w4 w3.heap.size v4 (toI DV)) := o4
    obtain ⟨x4, m4, rfl⟩ := (Own.row o4).slice
    clear g4 o4
    go_wp2_with fail
    have HF := bk_putW R5.out (.bool false) (.slice x4 (toI DV).length m4)
    have q0 := HF.c (i := 0) rfl
    have q1 := HF.c (i := 1) rfl
    refine bodyPost_ret (v := .tuple #[.agg #[.bool false, .slice x4 (toI DV).length m4], .bool true]) (by simp [results, Tryz.results8, go_sem, q0, q1]) rfl ?_
    rw [HB.out.1, HB.out.2]
    refine ⟨_, rfl, (HO4.out.own (p := ⟨w.heap.size + 1, 0, none⟩) (by simp) _).own (p := ⟨w.heap.size + 1, 1, none⟩) (by simp) _, ?_⟩
    refine own_farB (Own.low O4.out (by omega)) (fun b hb => ?_)
    have hlt := (O4.out.lt b hb).1
    exact (heap_setCell_other _ ⟨w.heap.size + 1, 1, none⟩ b _ (by show b ≠ w.heap.size + 1; omega)).trans (heap_setCell_other _ ⟨w.heap.size + 1, 0, none⟩ b _ (by show b ≠ w.heap.size + 1; omega))
end Go.Proofs.YtihjndakgncdaaaGreatDoor
/- Proved: what good params are in numbers; a whole number as a law's result. -/
namespace Go.Proofs.YtihjndakgncdaaaGreatDoor
open Go.ChangeShapes Go.WideShapes Go.ChangeAt Go.RowKit
open M2
set_option linter.unusedVariables false
set_option linter.unusedSimpArgs false
theorem prB_nat {N T E : Int} {xs : List Int} (h : prB N T E xs = true) : ∃ (Nn Tn En : Nat) (P : List Nat), N = Nn ∧ T = Tn ∧ E = En ∧ xs = toZ P ∧ Bas P ∧ (2 ≤ Nn ∧ Nn ≤ 16) ∧ (2 ≤ Tn ∧ Tn ≤ 65536) ∧ (1 ≤ En ∧ En ≤ 16) ∧ xs.map Int.toNat = P ∧ 0 < prodN P ∧ (1 ≤ xs.length ∧ xs.length ≤ 6) ∧ ∀ k, k < xs.length → 2 ≤ xs.getD k 0 ∧ xs.getD k 0 ≤ 268435456 := by
  have h' := h
  unfold prB inQ at h'
  simp only [Bool.and_eq_true, decide_eq_true_eq] at h'
  obtain ⟨hs, h4, ⟨t1, t2⟩, ⟨e1, e2⟩, _⟩ := h'
  obtain ⟨hz, hbb, _⟩ := sp_ring hs
  obtain ⟨P, hP, hb⟩ := basB_yes hbb
  refine ⟨N.toNat, T.toNat, E.toNat, P, by omega, by omega, by omega, hP, hb, by omega, by omega, by omega, by rw [hP]; exact toZ_bk11 P, Nat.pos_of_ne_zero hb.pos, (bas_at hbb).1, fun k hk => pm_bd ((bas_at hbb).2 k hk)⟩
theorem dg_ds {xs : List Int} (hl : xs.length ≤ 6) (hp : ∀ k, k < xs.length → 2 ≤ xs.getD k 0 ∧ xs.getD k 0 ≤ 268435456) : dgS xs xs.length = (((dgS xs xs.length).toNat : Nat) : Int) ∧ (dgS xs xs.length).toNat ≤ 1610612736 := by
  have := dgS_bd xs hp xs.length (Nat.le_refl _)
  omega
end Go.Proofs.YtihjndakgncdaaaGreatDoor
/- Proved: the bounds of DepthOf: those of the program, cut, and those of the model, uncut, stay below the limit alike; where they stop. -/
namespace Go.Proofs.YtihjndakgncdaaaGreatDoor
open Go.ChangeShapes Go.WideShapes Go.ChangeAt Go.RowKit
open M2
set_option linter.unusedVariables false
set_option linter.unusedSimpArgs false
def dvN (q N T E ds : Nat) : Nat → Nat
  | 0 => plN q T + T * E * (2 * N + 1)
  | k + 1 => mulM q N T (dvN q N T E ds k) (dvN q N T E ds k) + T * N * E * ds
def dwN (q N T E ds : Nat) : Nat → Nat
  | 0 => freshN q N T E
  | k + 1 => swtN q N T E ds (prdN q N T (dwN q N T E ds k) (dwN q N T E ds k))
theorem prd_mul (q N T a b : Nat) : prdN q N T a b = cutN q (mulM q N T a b) := by
  unfold prdN mulM
  congr 1
  rw [Nat.mul_comm (a + b), Nat.mul_comm (a * b) N]
  omega
theorem cut_if (q n : Nat) : (n ≤ q → cutN q n = n) ∧ (q ≤ n → cutN q n = q) := by
  unfold cutN
  constructor
  · intro h
    rw [if_neg (by omega)]
  · intro h
    split
    · rfl
    · omega
theorem dw_dv (q N T E ds L : Nat) (hL : L ≤ q) : ∀ k, (∀ j, j < k → dvN q N T E ds j < L) → (dvN q N T E ds k < L → dwN q N T E ds k = dvN q N T E ds k) ∧ (L ≤ dvN q N T E ds k → L ≤ dwN q N T E ds k) := by
  intro k
  induction k with
  | zero =>
    intro _
    show (dvN q N T E ds 0 < L → cutN q (dvN q N T E ds 0) = _) ∧ (_ → L ≤ cutN q (dvN q N T E ds 0))
    generalize dvN q N T E ds 0 = n
    obtain ⟨c1, c2⟩ := cut_if q n
    refine ⟨fun h => c1 (by omega), fun h => ?_⟩
    rcases Nat.le_total n q with h1 | h1
    · rw [c1 h1]; exact h
    · rw [c2 h1]; exact hL
  | succ k ih =>
    intro h
    have e := (ih (fun j hj => h j (by omega))).1 (h k (by omega))
    show (mulM q N T (dvN q N T E ds k) (dvN q N T E ds k) + T * N * E * ds < L → cutN q (prdN q N T (dwN q N T E ds k) (dwN q N T E ds k) + T * N * E * ds) = _) ∧ (L ≤ mulM q N T (dvN q N T E ds k) (dvN q N T E ds k) + T * N * E * ds → L ≤ cutN q (prdN q N T (dwN q N T E ds k) (dwN q N T E ds k) + T * N * E * ds))
    rw [e, prd_mul, show dvN q N T E ds (k + 1) = mulM q N T (dvN q N T E ds k) (dvN q N T E ds k) + T * N * E * ds from rfl]
    generalize mulM q N T (dvN q N T E ds k) (dvN q N T E ds k) = M
    generalize T * N * E * ds = s
    obtain ⟨c1, c2⟩ := cut_if q M
    obtain ⟨c3, c4⟩ := cut_if q (cutN q M + s)
    refine ⟨fun h => ?_, fun h => ?_⟩
    · rw [c1 (by omega)] at c3 ⊢
      exact c3 (by omega)
    · rcases Nat.le_total (cutN q M + s) q with h1 | h1
      · rw [c3 h1]
        rcases Nat.le_total M q with h2 | h2
        · rw [c1 h2]; exact h
        · rw [c2 h2]; omega
      · rw [c4 h1]; exact hL
theorem dw_le (q N T E ds : Nat) : ∀ k, dwN q N T E ds k ≤ q
  | 0 => cutN_le
  | k + 1 => cutN_le
theorem ex_stop (p : Nat → Bool) : ∀ n, ∃ m, m ≤ n ∧ (∀ k, k < m → p k = true) ∧ (m < n → p m = false)
  | 0 => ⟨0, by omega, fun k h => by omega, fun h => by omega⟩
  | n + 1 => by
    obtain ⟨m, h1, h2, h3⟩ := ex_stop p n
    by_cases h : m < n
    · exact ⟨m, by omega, h2, fun _ => h3 h⟩
    · obtain rfl : m = n := by omega
      cases hp : p m
      · exact ⟨m, by omega, h2, fun _ => hp⟩
      · refine ⟨m + 1, by omega, fun k hk => ?_, fun h => by omega⟩
        rcases Nat.lt_or_ge k m with h4 | h4
        · exact h2 k h4
        · obtain rfl : k = m := by omega
          exact hp
theorem stop_same (q N T E ds L m : Nat) (hL : L ≤ q) (hm : m ≤ 21) (h1 : ∀ k, k < m → dwN q N T E ds k < L) (h2 : m < 21 → L ≤ dwN q N T E ds m) :
    (L ≤ dvN q N T E ds 0 → m - 1 = 0) ∧ (∀ k, k < 20 → (∀ j, j ≤ k → dvN q N T E ds j < L) → L ≤ dvN q N T E ds (k + 1) → m - 1 = k) ∧ ((∀ j, j ≤ 20 → dvN q N T E ds j < L) → m - 1 = 20) := by
  have key := dw_dv q N T E ds L hL
  refine ⟨fun h => ?_, fun k hk hj h => ?_, fun hj => ?_⟩
  · rcases Nat.eq_zero_or_pos m with h0 | h0
    · omega
    · have := h1 0 h0
      have := (key 0 (fun j hj => by omega)).2 h
      omega
  · have a1 := (key (k + 1) (fun j h => hj j (by omega))).2 h
    have a2 : ¬ k + 1 < m := fun h => by have := h1 (k + 1) h; omega
    have a3 : ¬ m < k + 1 := fun h => by
      have b1 := h2 (by omega)
      have b2 := (key m (fun j h => hj j (by omega))).1 (hj m (by omega))
      have b3 := hj m (by omega)
      omega
    omega
  · have a3 : ¬ m < 21 := fun h => by
      have b1 := h2 h
      have b2 := (key m (fun j h => hj j (by omega))).1 (hj m (by omega))
      have b3 := hj m (by omega)
      omega
    omega
theorem mulM_cnt2 {q N T a : Nat} (hN : 2 ≤ N ∧ N ≤ 16) (hT : 2 ≤ T ∧ T ≤ 65536) (ha : cnt a ≤ 7) : cnt (mulM q N T a a) ≤ 60 := by
  obtain ⟨b1, b2, b3, b4, b5⟩ := oft_bd hN hT
  have k1 : cnt (a + a) ≤ 8 := cnt_addL ha ha
  have k2 : cnt (N * oftN N T * (a + a)) ≤ 11 := Nat.le_trans (cnt_mul _ _) (by have := cnt_w (n := N * oftN N T) (by omega); omega)
  have k3 : cnt (a * a) ≤ 14 := Nat.le_trans (cnt_mul _ _) (by omega)
  have k4 : cnt (N * (a * a)) ≤ 17 := Nat.le_trans (cnt_mul _ _) (by have := cnt_w (n := N) (by omega); omega)
  have k5 : cnt (N * (a * a) / q) ≤ 17 := Nat.le_trans (cnt_mono (Nat.div_le_self _ _)) k4
  have k6 : cnt (N * (a * a) / q + 1) ≤ 18 := cnt_addL k5 (Nat.le_trans (cnt_w (by omega)) (by omega))
  have k7 : cnt (N * oftN N T * (a + a) + (N * (a * a) / q + 1)) ≤ 19 := cnt_addL (by omega) k6
  unfold mulM
  exact Nat.le_trans (cnt_addL k7 (Nat.le_trans (cnt_w (by omega)) (by omega))) (by omega)
end Go.Proofs.YtihjndakgncdaaaGreatDoor
/- Proved: the model's DepthOf, under what it calls. -/
namespace Go.Proofs.YtihjndakgncdaaaGreatDoor
open Go.ChangeShapes Go.WideShapes Go.ChangeAt Go.RowKit
open M2
set_option linter.unusedVariables false
set_option linter.unusedSimpArgs false
theorem hid11 {P : Prop} (h : P) : Hid P := h
set_option maxRecDepth 100000 in
set_option maxHeartbeats 4000000 in
theorem spec_DepthOf_no (N T E : Int) (a0 : Option Addr) (l0 c0 : Nat) (w : World) (KB : ∀ W, Old w W → Calls Tryz.prog 21 #[.agg #[.int .i64 N, .int .i64 T, .int .i64 E, .slice a0 l0 c0]] W fun e w' => e = .returned (.bool false) ∧ Old W w') :
    Calls Tryz.prog 6 #[.agg #[.int .i64 N, .int .i64 T, .int .i64 E, .slice a0 l0 c0]] w fun e w' => e = .returned (.tuple #[.int .i64 0, .bool false]) ∧ Old w w' := by
  have HA : Hid (Old w (w.alloc (.cells #[.int .i64 N, .int .i64 T, .int .i64 E, .slice a0 l0 c0] 25))) := (Old.refl w).alloc _
  have BP : Hid (Bk (w.alloc (.cells #[.int .i64 N, .int .i64 T, .int .i64 E, .slice a0 l0 c0] 25)) w.heap.size #[.int .i64 N, .int .i64 T, .int .i64 E, .slice a0 l0 c0] 25) := Bk.new' w _ _ rfl
  have p0 := BP.out.c (i := 0) rfl
  have p1 := BP.out.c (i := 1) rfl
  have p2 := BP.out.c (i := 2) rfl
  have p3 := BP.out.c (i := 3) rfl
  go_enter Tryz.func6, Tryz.ntmps6
  go_wp2_with fail
  refine (KB _ HA.out).mono ?_
  rintro e w1 ⟨rfl, g1⟩
  have HO1 : Hid (Old w w1) := Old.trans HA.out g1
  clear g1 p0 p1 p2 p3
  go_wp2_with fail
  refine bodyPost_ret (v := .tuple #[.int .i64 0, .bool false]) (by simp [results, Tryz.results6, go_sem]) rfl ?_
  exact ⟨rfl, HO1.out⟩
set_option maxRecDepth 100000 in
set_option maxHeartbeats 4000000 in
theorem spec_DepthOf_yes (N T E : Int) (a0 : Option Addr) (l0 c0 : Nat) (LM : Nat) (V M : Nat → Nat) (w : World)
    (KB : ∀ W, Old w W → Calls Tryz.prog 21 #[.agg #[.int .i64 N, .int .i64 T, .int .i64 E, .slice a0 l0 c0]] W fun e w' => e = .returned (.bool true) ∧ Old W w')
    (KL : ∀ W, Old w W → Calls Tryz.prog 22 #[.agg #[.int .i64 N, .int .i64 T, .int .i64 E, .slice a0 l0 c0]] W fun e w' => ∃ v, e = .returned v ∧ Old W w' ∧ RwD LM w' v)
    (KF : ∀ W, Old w W → Calls Tryz.prog 23 #[.agg #[.int .i64 N, .int .i64 T, .int .i64 E, .slice a0 l0 c0]] W fun e w' => ∃ v, e = .returned v ∧ Old W w' ∧ RwD (V 0) w' v)
    (KC : ∀ k, k ≤ 20 → (∀ j, j < k → V j < LM) → ∀ W v u, RwD (V k) W v → RwD LM W u → Calls Tryz.prog 24 #[v, u] W fun e w' => e = .returned (.int .i64 (cmpN (V k) LM)) ∧ Old W w')
    (KM : ∀ k, k < 20 → V k < LM → ∀ W v, Old w W → RwD (V k) W v → Calls Tryz.prog 26 #[.agg #[.int .i64 N, .int .i64 T, .int .i64 E, .slice a0 l0 c0], v, v] W fun e w' => ∃ x, e = .returned x ∧ Old W w' ∧ RwD (M k) w' x)
    (KS : ∀ k, k < 20 → V k < LM → ∀ W v, Old w W → RwD (M k) W v → Calls Tryz.prog 25 #[.agg #[.int .i64 N, .int .i64 T, .int .i64 E, .slice a0 l0 c0], v] W fun e w' => ∃ x, e = .returned x ∧ Old W w' ∧ RwD (V (k + 1)) w' x)
    (R : Nat) (h0 : LM ≤ V 0 → R = 0) (h1 : ∀ k, k < 20 → (∀ j, j ≤ k → V j < LM) → LM ≤ V (k + 1) → R = k) (h2 : (∀ j, j ≤ 20 → V j < LM) → R = 20) :
    Calls Tryz.prog 6 #[.agg #[.int .i64 N, .int .i64 T, .int .i64 E, .slice a0 l0 c0]] w fun e w' => e = .returned (.tuple #[.int .i64 (R : Int), .bool true]) ∧ Old w w' := by
  have HC : Hid (∀ k, k ≤ 20 → (∀ j, j < k → V j < LM) → ∀ W v u, RwD (V k) W v → RwD LM W u → Calls Tryz.prog 24 #[v, u] W fun e w' => e = .returned (.int .i64 (cmpN (V k) LM)) ∧ Old W w') := KC
  have HM : Hid (∀ k, k < 20 → V k < LM → ∀ W v, Old w W → RwD (V k) W v → Calls Tryz.prog 26 #[.agg #[.int .i64 N, .int .i64 T, .int .i64 E, .slice a0 l0 c0], v, v] W fun e w' => ∃ x, e = .returned x ∧ Old W w' ∧ RwD (M k) w' x) := KM
  have HS : Hid (∀ k, k < 20 → V k < LM → ∀ W v, Old w W → RwD (M k) W v → Calls Tryz.prog 25 #[.agg #[.int .i64 N, .int .i64 T, .int .i64 E, .slice a0 l0 c0], v] W fun e w' => ∃ x, e = .returned x ∧ Old W w' ∧ RwD (V (k + 1)) w' x) := KS
  have H0 : Hid (LM ≤ V 0 → R = 0) := h0
  have H1 : Hid (∀ k, k < 20 → (∀ j, j ≤ k → V j < LM) → LM ≤ V (k + 1) → R = k) := h1
  have H2 : Hid ((∀ j, j ≤ 20 → V j < LM) → R = 20) := h2
  have hge : ∀ a b : Nat, decide ((0 : Int) ≤ cmpN a b) = decide (b ≤ a) := fun a b => decide_eq_decide.2 (by unfold cmpN; split <;> (try split) <;> omega)
  clear KC KM KS h0 h1 h2
  have HA : Hid (Old w (w.alloc (.cells #[.int .i64 N, .int .i64 T, .int .i64 E, .slice a0 l0 c0] 25))) := (Old.refl w).alloc _
  have BP : Hid (Bk (w.alloc (.cells #[.int .i64 N, .int .i64 T, .int .i64 E, .slice a0 l0 c0] 25)) w.heap.size #[.int .i64 N, .int .i64 T, .int .i64 E, .slice a0 l0 c0] 25) := Bk.new' w _ _ rfl
  have p0 := BP.out.c (i := 0) rfl
  have p1 := BP.out.c (i := 1) rfl
  have p2 := BP.out.c (i := 2) rfl
  have p3 := BP.out.c (i := 3) rfl
  go_enter Tryz.func6, Tryz.ntmps6
  go_wp2_with fail
  refine (KB _ HA.out).mono ?_
  rintro e w1 ⟨rfl, g1⟩
  have O1 : Hid (Old w w1) := Old.trans HA.out g1
  have P1 : Hid (Bk w1 w.heap.size #[.int .i64 N, .int .i64 T, .int .i64 E, .slice a0 l0 c0] 25) := BP.out.old g1
  clear g1 p0 p1 p2 p3 HA BP KB
  have p0 := P1.out.c (i := 0) rfl
  have p1 := P1.out.c (i := 1) rfl
  have p2 := P1.out.c (i := 2) rfl
  have p3 := P1.out.c (i := 3) rfl
  go_wp2_with fail
  refine (KL _ O1.out).mono ?_
  rintro e w2 ⟨v2, rfl, g2, la, lc, rfl, r2⟩
  have O2 : Hid (Old w w2) := Old.trans O1.out g2
  have P2 : Hid (Bk w2 w.heap.size #[.int .i64 N, .int .i64 T, .int .i64 E, .slice a0 l0 c0] 25) := P1.out.old g2
  have L2 : Hid (RwD LM w2 (.slice la (dig LM).length lc)) := ⟨la, lc, rfl, r2⟩
  clear g2 r2 p0 p1 p2 p3 O1 P1 KL
  have p0 := P2.out.c (i := 0) rfl
  have p1 := P2.out.c (i := 1) rfl
  have p2 := P2.out.c (i := 2) rfl
  have p3 := P2.out.c (i := 3) rfl
  go_wp2_with fail
  refine (KF _ O2.out).mono ?_
  rintro e w3 ⟨v3, rfl, g3, fa, fc, rfl, r3⟩
  have O3 : Hid (Old w w3) := Old.trans O2.out g3
  have P3 : Hid (Bk w3 w.heap.size #[.int .i64 N, .int .i64 T, .int .i64 E, .slice a0 l0 c0] 25) := P2.out.old g3
  have L3 : Hid (RwD LM w3 (.slice la (dig LM).length lc)) := L2.out.old g3
  have F3 : Hid (RwD (V 0) w3 (.slice fa (dig (V 0)).length fc)) := ⟨fa, fc, rfl, r3⟩
  have K3 := HC.out 0 (by omega) (fun j hj => by omega) w3 _ _ F3.out L3.out
  clear g3 r3 p0 p1 p2 p3 O2 P2 L2 KF
  go_wp2_with fail
  refine K3.mono ?_
  rintro e w4 ⟨rfl, g4⟩
  have O4 : Hid (Old w w4) := Old.trans O3.out g4
  have P4 : Hid (Bk w4 w.heap.size #[.int .i64 N, .int .i64 T, .int .i64 E, .slice a0 l0 c0] 25) := P3.out.old g4
  have L4 : Hid (RwD LM w4 (.slice la (dig LM).length lc)) := L3.out.old g4
  have F4 : Hid (RwD (V 0) w4 (.slice fa (dig (V 0)).length fc)) := F3.out.old g4
  have hg0 := hge (V 0) LM
  clear g4 K3 O3 P3 L3 F3
  by_cases hlt : LM ≤ V 0
  · rw [decide_eq_true hlt] at hg0
    have HR : Hid (R = 0) := H0.out hlt
    clear hlt hge
    generalize cmpN (V 0) LM = C at *
    go_wp2_with fail
    refine bodyPost_ret (v := .tuple #[.int .i64 0, .bool true]) (by simp [results, Tryz.results6, go_sem]) rfl ?_
    exact ⟨by rw [HR.out]; rfl, O4.out⟩
  rw [decide_eq_false hlt] at hg0
  have HJ0 : Hid (∀ j, j ≤ 0 → V j < LM) := fun j hj => by
    have : j = 0 := by omega
    subst this
    omega
  have HGE : Hid (∀ a b : Nat, decide ((0 : Int) ≤ cmpN a b) = decide (b ≤ a)) := hge
  clear hlt hge
  generalize cmpN (V 0) LM = C at *
  go_wp2_with fail
  go_loopw [6, 5] (fun i nv W => ∃ (k : Nat) (a : Option Addr) (c : Nat), k ≤ 20 ∧ i = .int .i64 (k : Int) ∧ nv = .slice a (dig (V k)).length c ∧ Hid (Old w W) ∧ Hid (Bk W w.heap.size #[.int .i64 N, .int .i64 T, .int .i64 E, .slice a0 l0 c0] 25) ∧ Hid (RwD LM W (.slice la (dig LM).length lc)) ∧ Hid (RwD (V k) W (.slice a (dig (V k)).length c)) ∧ Hid (∀ j, j ≤ k → V j < LM)) (fun i _ _ => 20 - (intOf i).toNat)
  case atStart => exact ⟨0, fa, fc, by omega, rfl, rfl, O4, P4, L4, F4, HJ0⟩
  case round =>
    obtain ⟨k, na, nc, hk, rfl, rfl, O5, P5, L5, F5, HJ⟩ := hrel
    clear O4 P4 L4 F4 HJ0 hg0
    by_cases hlt : k < 20
    · have d1 : decide ((k : Int) < 20) = true := decide_eq_true (by omega)
      have d2 : decide (k < 20) = true := decide_eq_true hlt
      have hvk := HJ.out k (Nat.le_refl _)
      have HKM := hid11 (fun W (q : Old wr W) => HM.out k hlt hvk W (.slice na (dig (V k)).length nc) (Old.trans O5.out q) (F5.out.old q))
      have HKS := hid11 (fun W (q : Old wr W) u (h : RwD (M k) W u) => HS.out k hlt hvk W u (Old.trans O5.out q) h)
      clear hvk
      go_wp2_with fail
      refine reg_Ml wr N T E a0 l0 c0 w.heap.size (.slice na (dig (V k)).length nc) (RwD (M k)) (RwD (V (k + 1))) (fun W W' v h q => h.old q) (fun W W' v h q => h.old q) P5.out HKM.out HKS.out _ _ ?_ ?_ ?_ ?_
      iterate 3 (· exact rfl)
      intro us W q hp
      obtain ⟨pa, pc, ep, rp⟩ := hp
      simp only [putAll, Act.put, slotMl, List.range, List.range.loop, List.map_cons, List.map_nil, List.getD_cons_zero, List.getD_cons_succ, List.setIfInBounds_toArray, List.set_cons_succ, List.set_cons_zero]
      simp only [ep]
      have O6 : Hid (Old w W) := Old.trans O5.out q
      have P6 : Hid (Bk W w.heap.size #[.int .i64 N, .int .i64 T, .int .i64 E, .slice a0 l0 c0] 25) := P5.out.old q
      have L6 : Hid (RwD LM W (.slice la (dig LM).length lc)) := L5.out.old q
      have F6 : Hid (RwD (V (k + 1)) W (.slice pa (dig (V (k + 1))).length pc)) := ⟨pa, pc, rfl, rp⟩
      have KC6 := HC.out (k + 1) (by omega) (fun j hj => HJ.out j (by omega)) W _ _ F6.out L6.out
      clear q rp ep HKM HKS O5 P5 L5 F5
      go_wp2_with fail
      refine KC6.mono ?_
      rintro e w7 ⟨rfl, g7⟩
      have O7 : Hid (Old w w7) := Old.trans O6.out g7
      have P7 : Hid (Bk w7 w.heap.size #[.int .i64 N, .int .i64 T, .int .i64 E, .slice a0 l0 c0] 25) := P6.out.old g7
      have L7 : Hid (RwD LM w7 (.slice la (dig LM).length lc)) := L6.out.old g7
      have F7 : Hid (RwD (V (k + 1)) w7 (.slice pa (dig (V (k + 1))).length pc)) := F6.out.old g7
      have hg1 := HGE.out (V (k + 1)) LM
      clear g7 KC6 O6 P6 L6 F6
      by_cases hl2 : LM ≤ V (k + 1)
      · rw [decide_eq_true hl2] at hg1
        have HR : Hid (R = k) := H1.out k hlt HJ.out hl2
        clear hl2
        generalize cmpN (V (k + 1)) LM = C2 at *
        go_wp2_with fail
        refine bodyPost_ret (v := .tuple #[.int .i64 (k : Int), .bool true]) (by simp [results, Tryz.results6, go_sem]) rfl ?_
        exact ⟨by rw [HR.out], O7.out⟩
      · rw [decide_eq_false hl2] at hg1
        have HJ2 : Hid (∀ j, j ≤ k + 1 → V j < LM) := fun j hj => by
          rcases Nat.lt_or_ge j (k + 1) with h | h
          · exact HJ.out j (by omega)
          · rw [show j = k + 1 by omega]
            omega
        clear hl2
        generalize cmpN (V (k + 1)) LM = C2 at *
        go_wp2_with fail
        exact ⟨⟨k + 1, pa, pc, by omega, by go_num, rfl, O7, P7, L7, F7, HJ2⟩, by simp [intOf]; omega⟩
    · have d1 : decide ((k : Int) < 20) = false := decide_eq_false (by omega)
      have d2 : decide (k < 20) = false := decide_eq_false hlt
      have HR : Hid (R = 20) := H2.out (fun j hj => HJ.out j (by omega))
      go_wp2_with fail
      refine bodyPost_ret (v := .tuple #[.int .i64 20, .bool true]) (by simp [results, Tryz.results6, go_sem]) rfl ?_
      exact ⟨congrArg (fun z : Nat => Ending.returned (.tuple #[.int .i64 (z : Int), .bool true])) HR.out.symm, O5.out⟩
end Go.Proofs.YtihjndakgncdaaaGreatDoor
/- Proved: the model's MulBound and BudgetOf. -/
namespace Go.Proofs.YtihjndakgncdaaaGreatDoor
open Go.ChangeShapes Go.WideShapes Go.ChangeAt Go.RowKit
open M2
set_option linter.unusedVariables false
set_option linter.unusedSimpArgs false
theorem lenB_bd {xs : List Nat} (hx : Lim xs) (h : xs.length ≤ 40) : lenB xs ≤ 1048576 := by
  unfold lenB
  split
  · omega
  · have := (bitLen_p (xs.getD (xs.length - 1) 0) (hx.getD _)).1
    omega
end Go.Proofs.YtihjndakgncdaaaGreatDoor
/- Proved: the program's BudgetOf. -/
namespace Go.Proofs.YtihjndakgncdaaaGreatDoor
open Go.ChangeShapes Go.WideShapes Go.ChangeAt Go.RowKit
open M2
set_option linter.unusedVariables false
set_option linter.unusedSimpArgs false
set_option maxRecDepth 100000 in
set_option maxHeartbeats 4000000 in
theorem impl_BudgetOf (N T E : Int) (ps : List Int) (v : Value) (nb : Bool) (ys : List Int) (u : Value) (L : Nat) (w : World) (hP : PrsW w) (hT : TabW w) (hv : Row w v ps) (hf : Fit v) (hlp : ps.length ≤ 9223372036854775807) (hu : Row w u ys) (hly : ys.length ≤ 1048576) (hV : prB N T E ps = true → cnt L ≤ 7)
    (KC : prB N T E ps = true → ∀ W g a l c, Old w W → Row W (.slice a l c) (toI (dig (prodN (ps.map Int.toNat)))) → Calls Tryz.prog 18 #[.agg #[.int .i64 N, .int .i64 T, .int .i64 E, v, .slice (some ⟨g, 0, none⟩) ps.length ps.length, .bool false, .slice a l c]] W fun e w' => e = .returned (.agg (szV L)) ∧ Old W w')
    (R : Int) (ok : Bool) (hy : (prB N T E ps && bdB (prodN (ps.map Int.toNat)) nb ys) = true → R = (if 0 < ((lenB (dig L) : Nat) : Int) - ((lenB (nat ys) : Nat) : Int) then ((lenB (dig L) : Nat) : Int) - ((lenB (nat ys) : Nat) : Int) else 0) ∧ ok = true) (hn : (prB N T E ps && bdB (prodN (ps.map Int.toNat)) nb ys) = false → R = 0 ∧ ok = false) :
    Calls Tryz.prog 9 #[.agg #[.int .i64 N, .int .i64 T, .int .i64 E, v], .agg #[.bool nb, u]] w fun e w' => e = .returned (.tuple #[.int .i64 R, .bool ok]) ∧ Old w w' := by
  have HY : Hid ((prB N T E ps && bdB (prodN (ps.map Int.toNat)) nb ys) = true → R = (if 0 < ((lenB (dig L) : Nat) : Int) - ((lenB (nat ys) : Nat) : Int) then ((lenB (dig L) : Nat) : Int) - ((lenB (nat ys) : Nat) : Int) else 0) ∧ ok = true) := hy
  have HNN : Hid ((prB N T E ps && bdB (prodN (ps.map Int.toNat)) nb ys) = false → R = 0 ∧ ok = false) := hn
  clear hy hn
  obtain ⟨Rf, hRf⟩ := Rings_roots N ps
  have K1 := fun W (g : Old w W) => impl_reckonerOf N T E ps Rf v W (hP.old g) (hT.old g) (hv.old g) hf hlp hRf
  obtain ⟨a0, c0, ev⟩ := hv.slice
  obtain ⟨a1, c1, eu⟩ := hu.slice
  subst ev eu
  have HA : Hid (Old w ((w.alloc (.cells #[.int .i64 N, .int .i64 T, .int .i64 E, .slice a0 ps.length c0] 25)).alloc (.cells #[.bool nb, .slice a1 ys.length c1] 30))) := ((Old.refl w).alloc _).alloc _
  have BA : Hid (Bk ((w.alloc (.cells #[.int .i64 N, .int .i64 T, .int .i64 E, .slice a0 ps.length c0] 25)).alloc (.cells #[.bool nb, .slice a1 ys.length c1] 30)) (w.heap.size + 1) #[.bool nb, .slice a1 ys.length c1] 30) := Bk.new' _ _ _ (by simp)
  have HU : Hid (Row w (.slice a1 ys.length c1) ys) := hu
  have HKC : Hid (prB N T E ps = true → ∀ W g a l c, Old w W → Row W (.slice a l c) (toI (dig (prodN (ps.map Int.toNat)))) → Calls Tryz.prog 18 #[.agg #[.int .i64 N, .int .i64 T, .int .i64 E, .slice a0 ps.length c0, .slice (some ⟨g, 0, none⟩) ps.length ps.length, .bool false, .slice a l c]] W fun e w' => e = .returned (.agg (szV L)) ∧ Old W w') := KC
  have HV : Hid (prB N T E ps = true → cnt L ≤ 7) := hV
  clear hv hf hu hP hT hRf KC hV
  go_enter Tryz.func9, Tryz.ntmps9
  go_wp2_with fail
  refine (K1 _ HA.out).mono ?_
  rintro e w1 ⟨g1, h⟩
  have HG1 : Hid (Old w w1) := Old.trans HA.out g1
  have A1 : Hid (Bk w1 (w.heap.size + 1) #[.bool nb, .slice a1 ys.length c1] 30) := BA.out.old g1
  clear g1 K1 BA HA
  rcases h with ⟨hB, rfl⟩ | ⟨hB, g, a, l, c, hg, rfl, hrg, P, hPz, hbas, hl, ho⟩
  · have HB : Hid (R = 0 ∧ ok = false) := HNN.out (by rw [hB]; rfl)
    obtain ⟨SA, hSA', _, RA'⟩ := readB_n 0 0 0 none 0 0 none 0 0 none 0 0 0 nb ys a1 c1 (by decide) hly
    have hSA : Hid (Sq SA) := hSA'
    have HO : Hid (Old w (w1.alloc (.cells rk0 48))) := HG1.out.alloc _
    have RA := fun W (q : Old (w1.alloc (.cells rk0 48)) W) => RA' W (by rw [dig_zero]; exact .inl ⟨_, _, rfl, rfl⟩) (HU.out.old (Old.trans HO.out q))
    generalize bdB 0 nb ys = bA at *
    clear hB hSA' RA' HKC HV HY HNN
    have HG2 : Hid (Old w (w1.alloc (.cells rk0 48))) := HG1.out.alloc _
    have BX : Hid (Bk (w1.alloc (.cells rk0 48)) w1.heap.size rk0 48) := Bk.new' w1 _ _ rfl
    have BA2 : Hid (Bk (w1.alloc (.cells rk0 48)) (w.heap.size + 1) #[.bool nb, .slice a1 ys.length c1] 30) := A1.out.alloc _
    have HGR : Hid (Old (w1.alloc (.cells rk0 48)) (w1.alloc (.cells rk0 48))) := Old.refl _
    have z0 := BX.out.c (i := 0) rfl
    have z1 := BX.out.c (i := 1) rfl
    have z2 := BX.out.c (i := 2) rfl
    have z3 := BX.out.c (i := 3) rfl
    have z4 := BX.out.c (i := 4) rfl
    have z5 := BX.out.c (i := 5) rfl
    have z6 := BX.out.c (i := 6) rfl
    have u0 := BA2.out.c (i := 0) rfl
    have u1 := BA2.out.c (i := 1) rfl
    go_wp2_with fail
    refine (RA _ HGR.out).mono ?_
    rintro e w2 ⟨rfl, g2⟩
    have hz2 : w.heap.size + 1 < w2.heap.size := Nat.lt_of_lt_of_le BA2.out.lt g2.size
    have hy2 : w1.heap.size < w2.heap.size := Nat.lt_of_lt_of_le BX.out.lt g2.size
    have HN : Hid (Sg (w2.alloc (.cells Tryz.zeroCells53 53)) w2.heap.size Tryz.zeroCells53) := Sg.zero _ _ rfl
    have X3 : Hid (Bk ((w2.alloc (.cells Tryz.zeroCells53 53)).setRow w2.heap.size SA) w1.heap.size rk0 48) := ((BX.out.old g2).alloc _).otherRow (by omega) _
    have BA3 : Hid (Bk ((w2.alloc (.cells Tryz.zeroCells53 53)).setRow w2.heap.size SA) (w.heap.size + 1) #[.bool nb, .slice a1 ys.length c1] 30) := ((BA2.out.old g2).alloc _).otherRow (by omega) _
    have HO2 : Hid (Old w ((w2.alloc (.cells Tryz.zeroCells53 53)).setRow w2.heap.size SA)) := Old.row ((Old.trans HG2.out g2).alloc _) (by omega) _
    have HP2 : Hid (Old (w1.alloc (.cells rk0 48)) ((w2.alloc (.cells Tryz.zeroCells53 53)).setRow w2.heap.size SA)) := Old.row (g2.alloc _) (by simp; omega) _
    clear g2 z0 z1 z2 z3 z4 z5 z6 u0 u1
    go_wp2_with (first | ((with_reducible refine store_sg HN.out (SA) hSA.out ?_ ?_ ?_); exact rfl; exact rfl; simp only [Act.put]))
    refine bodyPost_ret (v := .tuple #[.int .i64 0, .bool false]) (by simp [results, Tryz.results9, go_sem]) rfl ?_
    exact ⟨by rw [HB.out.1, HB.out.2], HO2.out⟩
  · have hPn : ps.map Int.toNat = P := by rw [hPz]; exact toZ_bk11 P
    have hcq : cnt (prodN (ps.map Int.toNat)) ≤ 7 := by rw [hPn]; exact hbas.cnt
    have HQR : Hid (Row w1 (.slice a l c) (toI (dig (prodN (ps.map Int.toNat))))) := by rw [hPn]; exact Own.row ho
    obtain ⟨SA, hSA', hVA, RA'⟩ := readB_n N T E a0 ps.length c0 (some ⟨g, 0, none⟩) ps.length ps.length a l c (prodN (ps.map Int.toNat)) nb ys a1 c1 hcq hly
    have hSA : Hid (Sq SA) := hSA'
    have RA : ∀ W, Old (w1.alloc (.cells #[.int .i64 N, .int .i64 T, .int .i64 E, .slice a0 ps.length c0, .slice (some ⟨g, 0, none⟩) ps.length ps.length, .bool false, .slice a l c] 48)) W → Calls Tryz.prog 29 #[.agg #[.int .i64 N, .int .i64 T, .int .i64 E, .slice a0 ps.length c0, .slice (some ⟨g, 0, none⟩) ps.length ps.length, .bool false, .slice a l c], .agg #[.bool nb, .slice a1 ys.length c1]] W fun e w' => e = .returned (.tuple #[.agg SA, .bool (bdB (prodN (ps.map Int.toNat)) nb ys)]) ∧ Old W w' := fun W q => RA' W (HQR.out.old (Old.trans ((Old.refl w1).alloc _) q)) (HU.out.old (Old.trans (HG1.out.alloc _) q))
    clear hSA' RA'
    cases hbA : bdB (prodN (ps.map Int.toNat)) nb ys
    · have HB : Hid (R = 0 ∧ ok = false) := HNN.out (by rw [hB, hbA]; rfl)
      rw [hbA] at RA
      clear hB hPn hcq hPz hbas ho hrg hg hl HKC HV hVA hbA HY HNN HQR
      have HG2 : Hid (Old w (w1.alloc (.cells #[.int .i64 N, .int .i64 T, .int .i64 E, .slice a0 ps.length c0, .slice (some ⟨g, 0, none⟩) ps.length ps.length, .bool false, .slice a l c] 48))) := HG1.out.alloc _
      have BX : Hid (Bk (w1.alloc (.cells #[.int .i64 N, .int .i64 T, .int .i64 E, .slice a0 ps.length c0, .slice (some ⟨g, 0, none⟩) ps.length ps.length, .bool false, .slice a l c] 48)) w1.heap.size #[.int .i64 N, .int .i64 T, .int .i64 E, .slice a0 ps.length c0, .slice (some ⟨g, 0, none⟩) ps.length ps.length, .bool false, .slice a l c] 48) := Bk.new' w1 _ _ rfl
      have BA2 : Hid (Bk (w1.alloc (.cells #[.int .i64 N, .int .i64 T, .int .i64 E, .slice a0 ps.length c0, .slice (some ⟨g, 0, none⟩) ps.length ps.length, .bool false, .slice a l c] 48)) (w.heap.size + 1) #[.bool nb, .slice a1 ys.length c1] 30) := A1.out.alloc _
      have HGR : Hid (Old (w1.alloc (.cells #[.int .i64 N, .int .i64 T, .int .i64 E, .slice a0 ps.length c0, .slice (some ⟨g, 0, none⟩) ps.length ps.length, .bool false, .slice a l c] 48)) (w1.alloc (.cells #[.int .i64 N, .int .i64 T, .int .i64 E, .slice a0 ps.length c0, .slice (some ⟨g, 0, none⟩) ps.length ps.length, .bool false, .slice a l c] 48))) := Old.refl _
      have z0 := BX.out.c (i := 0) rfl
      have z1 := BX.out.c (i := 1) rfl
      have z2 := BX.out.c (i := 2) rfl
      have z3 := BX.out.c (i := 3) rfl
      have z4 := BX.out.c (i := 4) rfl
      have z5 := BX.out.c (i := 5) rfl
      have z6 := BX.out.c (i := 6) rfl
      have u0 := BA2.out.c (i := 0) rfl
      have u1 := BA2.out.c (i := 1) rfl
      go_wp2_with fail
      refine (RA _ HGR.out).mono ?_
      rintro e w2 ⟨rfl, g2⟩
      have hz2 : w.heap.size + 1 < w2.heap.size := Nat.lt_of_lt_of_le BA2.out.lt g2.size
      have hy2 : w1.heap.size < w2.heap.size := Nat.lt_of_lt_of_le BX.out.lt g2.size
      have HN : Hid (Sg (w2.alloc (.cells Tryz.zeroCells53 53)) w2.heap.size Tryz.zeroCells53) := Sg.zero _ _ rfl
      have X3 : Hid (Bk ((w2.alloc (.cells Tryz.zeroCells53 53)).setRow w2.heap.size SA) w1.heap.size #[.int .i64 N, .int .i64 T, .int .i64 E, .slice a0 ps.length c0, .slice (some ⟨g, 0, none⟩) ps.length ps.length, .bool false, .slice a l c] 48) := ((BX.out.old g2).alloc _).otherRow (by omega) _
      have BA3 : Hid (Bk ((w2.alloc (.cells Tryz.zeroCells53 53)).setRow w2.heap.size SA) (w.heap.size + 1) #[.bool nb, .slice a1 ys.length c1] 30) := ((BA2.out.old g2).alloc _).otherRow (by omega) _
      have HO2 : Hid (Old w ((w2.alloc (.cells Tryz.zeroCells53 53)).setRow w2.heap.size SA)) := Old.row ((Old.trans HG2.out g2).alloc _) (by omega) _
      have HP2 : Hid (Old (w1.alloc (.cells #[.int .i64 N, .int .i64 T, .int .i64 E, .slice a0 ps.length c0, .slice (some ⟨g, 0, none⟩) ps.length ps.length, .bool false, .slice a l c] 48)) ((w2.alloc (.cells Tryz.zeroCells53 53)).setRow w2.heap.size SA)) := Old.row (g2.alloc _) (by simp; omega) _
      clear g2 z0 z1 z2 z3 z4 z5 z6 u0 u1
      go_wp2_with (first | ((with_reducible refine store_sg HN.out (SA) hSA.out ?_ ?_ ?_); exact rfl; exact rfl; simp only [Act.put]))
      refine bodyPost_ret (v := .tuple #[.int .i64 0, .bool false]) (by simp [results, Tryz.results9, go_sem]) rfl ?_
      exact ⟨by rw [HB.out.1, HB.out.2], HO2.out⟩
    obtain ⟨k1, k2, k3⟩ := bdB_yes hbA
    obtain ⟨e1, e2, e3⟩ := good_gw k1
    have hcl := HV.out hB
    have HB : Hid (R = (if 0 < ((lenB (dig L) : Nat) : Int) - ((lenB (nat ys) : Nat) : Int) then ((lenB (dig L) : Nat) : Int) - ((lenB (nat ys) : Nat) : Int) else 0) ∧ ok = true) := HY.out (by rw [hB, hbA]; rfl)
    rw [hbA] at RA
    have eX : bitsW false (toI (dig L)) = ((lenB (dig L) : Nat) : Int) := by
      unfold bitsW
      rw [if_pos (dig_good11 (by omega)), nat_toI11]
    have eY : bitsW nb ys = ((lenB (nat ys) : Nat) : Int) := by
      unfold bitsW
      rw [if_pos k1]
    have CH : ∀ W, Old (w1.alloc (.cells #[.int .i64 N, .int .i64 T, .int .i64 E, .slice a0 ps.length c0, .slice (some ⟨g, 0, none⟩) ps.length ps.length, .bool false, .slice a l c] 48)) W → Calls Tryz.prog 18 #[.agg #[.int .i64 N, .int .i64 T, .int .i64 E, .slice a0 ps.length c0, .slice (some ⟨g, 0, none⟩) ps.length ps.length, .bool false, .slice a l c]] W fun e w' => e = .returned (.agg (szV L)) ∧ Old W w' := fun W q => HKC.out hB W g a l c (Old.trans (HG1.out.alloc _) q) (HQR.out.old (Old.trans ((Old.refl w1).alloc _) q))
    have CW : ∀ W, Calls Tryz.prog 27 #[.bool false, .agg (szV L)] W fun e w' => ∃ v, e = .returned v ∧ Old W w' ∧ WhP W.heap.size L w' v := fun W => (wholeF_any2 L W (by omega)).mono fun e w' h => by
      obtain ⟨v, e1, g, o⟩ := h
      obtain ⟨x, y, e2⟩ := (Own.row o).slice
      rw [toI_len] at e2
      subst e2
      exact ⟨_, e1, g, x, y, rfl, o⟩
    have CX : ∀ W u, WhP 0 L W u → Calls Tryz.prog 30 #[u] W fun e w' => e = .returned (.int .i64 (((lenB (dig L) : Nat) : Int))) ∧ Old W w' := fun W u h => by
      obtain ⟨x, y, rfl, o⟩ := h
      rw [← eX]
      exact impl_bitsOf false (toI (dig L)) _ W (Own.row o) (by rw [toI_len]; unfold cnt at hcl; omega)
    have CY : ∀ W, Old (w1.alloc (.cells #[.int .i64 N, .int .i64 T, .int .i64 E, .slice a0 ps.length c0, .slice (some ⟨g, 0, none⟩) ps.length ps.length, .bool false, .slice a l c] 48)) W → Calls Tryz.prog 30 #[.agg #[.bool nb, .slice a1 ys.length c1]] W fun e w' => e = .returned (.int .i64 (((lenB (nat ys) : Nat) : Int))) ∧ Old W w' := fun W q => by
      rw [← eY]
      exact impl_bitsOf nb ys _ W (HU.out.old (Old.trans (HG1.out.alloc _) q)) hly
    have bX : lenB (dig L) ≤ 1048576 := lenB_bd (dig_lim _) (by unfold cnt at hcl; omega)
    have bY : lenB (nat ys) ≤ 1048576 := lenB_bd e2.1.1 e3
    obtain ⟨x, hx⟩ : ∃ x : Int, x = ((lenB (dig L) : Nat) : Int) := ⟨_, rfl⟩
    obtain ⟨y, hy⟩ : ∃ y : Int, y = ((lenB (nat ys) : Nat) : Int) := ⟨_, rfl⟩
    rw [← hx, ← hy] at HB
    rw [← hx] at CX
    rw [← hy] at CY
    have VX : Hid (0 ≤ x ∧ x ≤ 1048576) := by show _ ∧ _; omega
    have VY : Hid (0 ≤ y ∧ y ≤ 1048576) := by show _ ∧ _; omega
    clear hB hPn hcq hPz hbas ho hrg hg hl HKC HV hVA hbA HY HNN HQR k1 k2 k3 e1 e2 e3 hcl eX eY bX bY hx hy
    generalize szV L = SL at *
    have HG2 : Hid (Old w (w1.alloc (.cells #[.int .i64 N, .int .i64 T, .int .i64 E, .slice a0 ps.length c0, .slice (some ⟨g, 0, none⟩) ps.length ps.length, .bool false, .slice a l c] 48))) := HG1.out.alloc _
    have BX : Hid (Bk (w1.alloc (.cells #[.int .i64 N, .int .i64 T, .int .i64 E, .slice a0 ps.length c0, .slice (some ⟨g, 0, none⟩) ps.length ps.length, .bool false, .slice a l c] 48)) w1.heap.size #[.int .i64 N, .int .i64 T, .int .i64 E, .slice a0 ps.length c0, .slice (some ⟨g, 0, none⟩) ps.length ps.length, .bool false, .slice a l c] 48) := Bk.new' w1 _ _ rfl
    have BA2 : Hid (Bk (w1.alloc (.cells #[.int .i64 N, .int .i64 T, .int .i64 E, .slice a0 ps.length c0, .slice (some ⟨g, 0, none⟩) ps.length ps.length, .bool false, .slice a l c] 48)) (w.heap.size + 1) #[.bool nb, .slice a1 ys.length c1] 30) := A1.out.alloc _
    have HGR : Hid (Old (w1.alloc (.cells #[.int .i64 N, .int .i64 T, .int .i64 E, .slice a0 ps.length c0, .slice (some ⟨g, 0, none⟩) ps.length ps.length, .bool false, .slice a l c] 48)) (w1.alloc (.cells #[.int .i64 N, .int .i64 T, .int .i64 E, .slice a0 ps.length c0, .slice (some ⟨g, 0, none⟩) ps.length ps.length, .bool false, .slice a l c] 48))) := Old.refl _
    have z0 := BX.out.c (i := 0) rfl
    have z1 := BX.out.c (i := 1) rfl
    have z2 := BX.out.c (i := 2) rfl
    have z3 := BX.out.c (i := 3) rfl
    have z4 := BX.out.c (i := 4) rfl
    have z5 := BX.out.c (i := 5) rfl
    have z6 := BX.out.c (i := 6) rfl
    have u0 := BA2.out.c (i := 0) rfl
    have u1 := BA2.out.c (i := 1) rfl
    go_wp2_with fail
    refine (RA _ HGR.out).mono ?_
    rintro e w2 ⟨rfl, g2⟩
    have hz2 : w.heap.size + 1 < w2.heap.size := Nat.lt_of_lt_of_le BA2.out.lt g2.size
    have hy2 : w1.heap.size < w2.heap.size := Nat.lt_of_lt_of_le BX.out.lt g2.size
    have HN : Hid (Sg (w2.alloc (.cells Tryz.zeroCells53 53)) w2.heap.size Tryz.zeroCells53) := Sg.zero _ _ rfl
    have X3 : Hid (Bk ((w2.alloc (.cells Tryz.zeroCells53 53)).setRow w2.heap.size SA) w1.heap.size #[.int .i64 N, .int .i64 T, .int .i64 E, .slice a0 ps.length c0, .slice (some ⟨g, 0, none⟩) ps.length ps.length, .bool false, .slice a l c] 48) := ((BX.out.old g2).alloc _).otherRow (by omega) _
    have BA3 : Hid (Bk ((w2.alloc (.cells Tryz.zeroCells53 53)).setRow w2.heap.size SA) (w.heap.size + 1) #[.bool nb, .slice a1 ys.length c1] 30) := ((BA2.out.old g2).alloc _).otherRow (by omega) _
    have HO2 : Hid (Old w ((w2.alloc (.cells Tryz.zeroCells53 53)).setRow w2.heap.size SA)) := Old.row ((Old.trans HG2.out g2).alloc _) (by omega) _
    have HP2 : Hid (Old (w1.alloc (.cells #[.int .i64 N, .int .i64 T, .int .i64 E, .slice a0 ps.length c0, .slice (some ⟨g, 0, none⟩) ps.length ps.length, .bool false, .slice a l c] 48)) ((w2.alloc (.cells Tryz.zeroCells53 53)).setRow w2.heap.size SA)) := Old.row (g2.alloc _) (by simp; omega) _
    clear g2 z0 z1 z2 z3 z4 z5 z6 u0 u1
    go_wp2_with (first | ((with_reducible refine store_sg HN.out (SA) hSA.out ?_ ?_ ?_); exact rfl; exact rfl; simp only [Act.put]))
    refine reg_Bo ((w2.alloc (.cells Tryz.zeroCells53 53)).setRow w2.heap.size SA) N T E a0 ps.length c0 (some ⟨g, 0, none⟩) ps.length ps.length a l c w1.heap.size (w.heap.size + 1) nb a1 ys.length c1 SL x y (WhP 0 L) (fun W W' v h q => h.old q) X3.out BA3.out VX.out VY.out (fun W g => CH W (Old.trans HP2.out g)) (fun W g => (CW W).mono fun e w' h => by obtain ⟨v, e1, g1, a, c, e2, o⟩ := h; exact ⟨v, e1, g1, a, c, e2, Own.low o (Nat.zero_le _)⟩) (fun W g u h => CX W u h) (fun W g => CY W (Old.trans HP2.out g)) _ _ ?_ ?_ ?_ ?_
    iterate 3 (· exact rfl)
    intro us W q e8 e9
    have HO : Hid (Old w W) := Old.trans HO2.out q
    simp only [putAll, Act.put, slotBo, List.range, List.range.loop, List.map_cons, List.map_nil, List.getD_cons_zero, List.getD_cons_succ, List.setIfInBounds_toArray, List.set_cons_succ, List.set_cons_zero]
    rw [← HB.out.1] at e8
    rw [← HB.out.2] at e9
    simp only [e8, e9]
    clear q e8 e9 CX CY CH CW
    go_wp2_with fail
    refine bodyPost_ret (v := .tuple #[.int .i64 R, .bool ok]) (by simp [results, Tryz.results9, go_sem]) rfl ?_
    exact ⟨rfl, HO.out⟩
end Go.Proofs.YtihjndakgncdaaaGreatDoor
