/- Proved: the program's bounds by numbers. -/
import Derived.Test.YtpcpahgflkjnaaaGreatDoorB13
import Derived.Test.YtpcpahgflkjnaaaGreatDoorB05
import Derived.Test.YtpcpahgflkjnaaaGreatDoorMlr
import Derived.Test.YtpcpahgflkjnaaaGreatDoorB07
import Derived.KernelRfl
import Derived.Test.YtpcpahgflkjnaaaGreatDoorB08
import Derived.Test.YtpcpahgflkjnaaaGreatDoorImpMod
import Derived.Test.YtpcpahgflkjnaaaGreatDoorB24
import Derived.Test.YtpcpahgflkjnaaaGreatDoorSzAdd
import Derived.Test.YtpcpahgflkjnaaaGreatDoorB32
import Derived.Test.YtpcpahgflkjnaaaGreatDoorB00
namespace Go.Proofs.YtpcpahgflkjnaaaGreatDoor
open Go.ChangeShapes Go.WideShapes Go.ChangeAt Go.RowKit
open M2
set_option linter.unusedVariables false
set_option linter.unusedSimpArgs false
theorem nat_toI11 (xs : List Nat) : nat (toI xs) = xs := by
  apply List.ext_getElem
  · simp [nat, toI]
  · intro i h1 h2
    simp [nat, toI]
theorem dig_good11 {n : Nat} (hl : cnt n ≤ 40) : Good false (toI (dig n)) := by
  have hn := dig_nrm n
  refine ⟨by rw [toI_len]; exact hl, (fun h => by cases h.2), ?_⟩
  intro j hj
  rw [toI_len] at hj
  have hm : (dig n).getD j 0 ∈ dig n := by simp [List.getD, hj]
  have hb := hn.1 _ hm
  unfold LB at hb
  refine ⟨?_, ?_⟩
  · rw [toI_get]
    omega
  · rw [toI_get, toI_len]
    rintro ⟨h0, h1⟩
    have hne : dig n ≠ [] := by intro e; rw [e] at hj; simp at hj
    apply hn.2 hne
    rw [List.getLast_eq_getElem]
    have h2 : (dig n).getD j 0 = 0 := by omega
    have e : (dig n).length - 1 = j := by omega
    simp only [e]
    rw [← h2]
    simp [List.getD, hj]
theorem modW_n {q T : Nat} (hc : cnt q ≤ 40) (hT : 2 ≤ T ∧ T ≤ 268435456) : modW false (toI (dig q)) (T : Int) = ((q % T : Nat) : Int) := by
  unfold modW
  rw [if_pos ⟨dig_good11 hc, by omega⟩, nat_toI11]
  simp [sv, val_dig]
theorem cnt_addL {a b k : Nat} (ha : cnt a ≤ k) (hb : cnt b ≤ k) : cnt (a + b) ≤ k + 1 := by
  have h1 : a < LB ^ k := Nat.lt_of_lt_of_le (cnt_lt a) (Nat.pow_le_pow_right (by decide) ha)
  have h2 : b < LB ^ k := Nat.lt_of_lt_of_le (cnt_lt b) (Nat.pow_le_pow_right (by decide) hb)
  refine cnt_le ?_
  rw [Nat.pow_succ]
  generalize LB ^ k = M at *
  unfold LB
  omega
theorem cnt_w {n : Nat} (h : n < 18446744073709551616) : cnt n ≤ 3 := cnt_word h
def cutN (q n : Nat) : Nat := if q < n then q else n
theorem cutN_cnt {q n k : Nat} (h : cnt n ≤ k) : cnt (cutN q n) ≤ k := by
  unfold cutN
  split
  · exact Nat.le_trans (cnt_mono (by omega)) h
  · exact h
theorem cutN_le {q n : Nat} : cutN q n ≤ q := by
  unfold cutN
  split <;> omega
theorem cmp_pos {a b : Nat} : 0 < cmpN a b ↔ b < a := by
  unfold cmpN
  split
  · omega
  · split <;> omega
theorem cmp_le {a b : Nat} : cmpN a b ≤ 0 ↔ a ≤ b := by
  unfold cmpN
  split
  · omega
  · split <;> omega
def plN (q T : Nat) : Nat := q % T * (T - 1)
theorem plN_bd {q T : Nat} (hT : 2 ≤ T ∧ T ≤ 65536) : plN q T ≤ 4294967296 := by
  unfold plN
  have h1 : q % T < T := Nat.mod_lt _ (by omega)
  have h2 : q % T * (T - 1) ≤ 65536 * 65536 := Nat.mul_le_mul (by omega) (by omega)
  omega
theorem plN_int {q T : Nat} (hT : 2 ≤ T) : ((q % T : Nat) : Int) * ((T : Int) - 1) = ((plN q T : Nat) : Int) := by
  unfold plN
  rw [Int.natCast_mul, Int.natCast_sub (by omega)]
  rfl
theorem sizeQ_n (q : Nat) (a6 : Option Addr) (l6 c6 : Nat) (w : World) (hq : cnt q ≤ 7) (hr : Row w (.slice a6 l6 c6) (toI (dig q))) : Calls Tryz.prog 130 #[.agg #[.bool false, .slice a6 l6 c6]] w fun e w' => e = .returned (.agg (szV q)) ∧ Old w w' := by
  have := sizeOf_sz false (dig q) _ w hr (dig_nrm q) (by unfold cnt at hq; omega)
  rwa [val_dig] at this
theorem spare_n (Nn Tn En : Nat) (a3 : Option Addr) (l3 c3 : Nat) (a4 : Option Addr) (l4 c4 : Nat) (a6 : Option Addr) (l6 c6 : Nat) (q : Nat) (w : World) (hq : cnt q ≤ 7) (hr : Row w (.slice a6 l6 c6) (toI (dig q))) (hT : 2 ≤ Tn ∧ Tn ≤ 65536) : Calls Tryz.prog 139 #[.agg #[.int .i64 (Nn : Int), .int .i64 (Tn : Int), .int .i64 (En : Int), .slice a3 l3 c3, .slice a4 l4 c4, .bool false, .slice a6 l6 c6]] w fun e w' => e = .returned (.int .i64 ((q % Tn : Nat) : Int)) ∧ Old w w' :=
  spare_of Nn Tn En a3 l3 c3 a4 l4 c4 a6 l6 c6 _ w (fun W g => by
    have h1 := impl_mod false (toI (dig q)) Tn _ W (hr.old g) (by rw [toI_len]; unfold cnt at hq; omega)
    rwa [modW_n (by omega) (by omega)] at h1)
theorem cut_n (Nn Tn En : Nat) (a3 : Option Addr) (l3 c3 : Nat) (a4 : Option Addr) (l4 c4 : Nat) (a6 : Option Addr) (l6 c6 : Nat) (q n : Nat) (w : World) (hq : cnt q ≤ 7) (hr : Row w (.slice a6 l6 c6) (toI (dig q))) (hn : cnt n ≤ 79) : Calls Tryz.prog 147 #[.agg #[.int .i64 (Nn : Int), .int .i64 (Tn : Int), .int .i64 (En : Int), .slice a3 l3 c3, .slice a4 l4 c4, .bool false, .slice a6 l6 c6], .agg (szV n)] w fun e w' => e = .returned (.agg (szV (cutN q n))) ∧ Old w w' := by
  refine cut_of Nn Tn En a3 l3 c3 a4 l4 c4 a6 l6 c6 (szV n) (szV q) (szV (cutN q n)) (cmpN n q) w (sq_v (by omega)) (sq_v (by omega)) (fun W g => sizeQ_n q a6 l6 c6 W hq (hr.old g)) (fun W => cmp_sz n q W (by omega) (by omega)) (fun h => ?_) (fun h => ?_)
  · rw [cmp_pos] at h
    unfold cutN
    rw [if_pos h]
  · rw [cmp_pos] at h
    unfold cutN
    rw [if_neg h]
theorem raised_n (Nn Tn En : Nat) (a3 : Option Addr) (l3 c3 : Nat) (a4 : Option Addr) (l4 c4 : Nat) (a6 : Option Addr) (l6 c6 : Nat) (q n k : Nat) (w : World) (hq : cnt q ≤ 7) (hr : Row w (.slice a6 l6 c6) (toI (dig q))) (hn : cnt n ≤ 77) (hk : k ≤ 4611686018427387904) : Calls Tryz.prog 142 #[.agg #[.int .i64 (Nn : Int), .int .i64 (Tn : Int), .int .i64 (En : Int), .slice a3 l3 c3, .slice a4 l4 c4, .bool false, .slice a6 l6 c6], .agg (szV n), .int .i64 (k : Int)] w fun e w' => e = .returned (.agg (szV (cutN q (n + k)))) ∧ Old w w' := by
  have hk3 : cnt k ≤ 3 := cnt_w (by omega)
  have hs : cnt (n + k) ≤ 78 := cnt_addL (k := 77) hn (by omega)
  exact raised_of Nn Tn En a3 l3 c3 a4 l4 c4 a6 l6 c6 (szV n) (szV k) (szV (n + k)) (szV (cutN q (n + k))) k w (by omega) (sq_v (by omega)) (sq_v (Nat.le_trans (cutN_cnt hs) (by omega))) (fun W g => ofWord_sz k W (by omega)) (fun W g => add_sz n k W (by omega) (by omega)) (fun W g => cut_n Nn Tn En a3 l3 c3 a4 l4 c4 a6 l6 c6 q (n + k) W hq (hr.old g) (by omega))
theorem plainNoise_n (Nn Tn En : Nat) (a3 : Option Addr) (l3 c3 : Nat) (a4 : Option Addr) (l4 c4 : Nat) (a6 : Option Addr) (l6 c6 : Nat) (q : Nat) (w : World) (hq : cnt q ≤ 7) (hr : Row w (.slice a6 l6 c6) (toI (dig q))) (hT : 2 ≤ Tn ∧ Tn ≤ 65536) : Calls Tryz.prog 143 #[.agg #[.int .i64 (Nn : Int), .int .i64 (Tn : Int), .int .i64 (En : Int), .slice a3 l3 c3, .slice a4 l4 c4, .bool false, .slice a6 l6 c6]] w fun e w' => e = .returned (.int .i64 ((plN q Tn : Nat) : Int)) ∧ Old w w' := by
  have h1 : q % Tn < Tn := Nat.mod_lt _ (by omega)
  have h2 := plN_bd (q := q) hT
  have := plainNoise_of Nn Tn En a3 l3 c3 a4 l4 c4 a6 l6 c6 ((q % Tn : Nat) : Int) w (by omega) (by omega) (by rw [plN_int hT.1]; omega) (fun W g => spare_n Nn Tn En a3 l3 c3 a4 l4 c4 a6 l6 c6 q W hq (hr.old g) hT)
  rwa [plN_int hT.1] at this
def limN (q T : Nat) : Nat := if q < T * (q % T) then 0 else (q - T * (q % T)) / 2
theorem szV_zero : szV 0 = Tryz.zeroCells113 := by
  rw [szZero]
  rfl
theorem limit_n (Nn Tn En : Nat) (a3 : Option Addr) (l3 c3 : Nat) (a4 : Option Addr) (l4 c4 : Nat) (a6 : Option Addr) (l6 c6 : Nat) (q : Nat) (w : World) (hq : cnt q ≤ 7) (hr : Row w (.slice a6 l6 c6) (toI (dig q))) (hT : 2 ≤ Tn ∧ Tn ≤ 65536) : Calls Tryz.prog 80 #[.agg #[.int .i64 (Nn : Int), .int .i64 (Tn : Int), .int .i64 (En : Int), .slice a3 l3 c3, .slice a4 l4 c4, .bool false, .slice a6 l6 c6]] w fun e w' => e = .returned (.agg (szV (limN q Tn))) ∧ Old w w' := by
  have h1 : q % Tn < Tn := Nat.mod_lt _ (by omega)
  have h2 : Tn * (q % Tn) ≤ 65536 * 65536 := Nat.mul_le_mul hT.2 (by omega)
  have e1 : (Tn : Int) * ((q % Tn : Nat) : Int) = ((Tn * (q % Tn) : Nat) : Int) := by rw [Int.natCast_mul]
  have c1 : cnt (q - Tn * (q % Tn)) ≤ 7 := Nat.le_trans (cnt_mono (Nat.sub_le _ _)) hq
  have c2 : cnt ((q - Tn * (q % Tn)) / 2) ≤ 7 := Nat.le_trans (cnt_mono (Nat.div_le_self _ _)) c1
  refine limit_of Nn Tn En a3 l3 c3 a4 l4 c4 a6 l6 c6 (szV q) (szV (Tn * (q % Tn))) (szV (q - Tn * (q % Tn))) (szV ((q - Tn * (q % Tn)) / 2)) (szV (limN q Tn)) ((q % Tn : Nat) : Int) (cmpN (Tn * (q % Tn)) q) (((q - Tn * (q % Tn)) % 2 : Nat) : Int) w (by rw [e1]; omega) (sq_v (by omega)) (sq_v (Nat.le_trans (cnt_w (by omega)) (by omega))) (sq_v (by omega)) (fun W g => sizeQ_n q a6 l6 c6 W hq (hr.old g)) (fun W g => spare_n Nn Tn En a3 l3 c3 a4 l4 c4 a6 l6 c6 q W hq (hr.old g) hT) (fun W g => ?_) (fun W => cmp_sz _ _ W (Nat.le_trans (cnt_w (by omega)) (by omega)) (by omega)) (fun h W => ?_) (fun h W => word_sz _ 2 W (by omega) (by omega) (by omega)) (fun h => ?_) (fun h => ?_)
  · rw [e1]
    exact ofWord_sz _ W (by omega)
  · rw [cmp_pos] at h
    exact less_sz q _ W (by omega) (by omega)
  · rw [cmp_pos] at h
    unfold limN
    rw [if_pos h, szV_zero]
  · rw [cmp_pos] at h
    unfold limN
    rw [if_neg h]
end Go.Proofs.YtpcpahgflkjnaaaGreatDoor
