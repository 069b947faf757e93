/- Proved: the model's table of a turn, and that it is the program's. -/
import Derived.Test.YtcnkanjkdkjceaaDoorTabI
namespace Go.Proofs.YtcnkanjkdkjceaaDoor
open Go.ChangeShapes Go.WideShapes Go.ChangeAt Go.RowKit
set_option linter.unusedVariables false
set_option linter.unusedSimpArgs false
/-- one more point's places, the first j places looked at -/
def tI (N t i : Nat) (base : List Nat) : Nat → List Nat
  | 0 => base
  | j + 1 => if (ptsN N).getD j 0 = (ptsN N).getD i 0 * t % (2 * N) then tI N t i base j ++ [j] else tI N t i base j
def tO (N t : Nat) : Nat → List Nat
  | 0 => []
  | i + 1 => tI N t i (tO N t i) N
theorem tI_len (N t i : Nat) (base : List Nat) : ∀ j, (tI N t i base j).length ≤ base.length + j
  | 0 => Nat.le_refl _
  | j + 1 => by
    have := tI_len N t i base j
    unfold tI
    split
    · rw [List.length_append, List.length_singleton]; omega
    · omega
theorem tO_len (N t : Nat) (hN : N ≤ 16) : ∀ i, (tO N t i).length ≤ 16 * i
  | 0 => by simp [tO]
  | i + 1 => by
    have h1 := tO_len N t hN i
    have h2 := tI_len N t i (tO N t i) N
    show (tI N t i (tO N t i) N).length ≤ _
    omega
theorem tab2 : ∀ t, t < 4 → t % 2 = 1 → tO 2 t 2 = tabN 2 t := by decide +kernel
theorem tab4 : ∀ t, t < 8 → t % 2 = 1 → tO 4 t 4 = tabN 4 t := by decide +kernel
theorem tab8 : ∀ t, t < 16 → t % 2 = 1 → tO 8 t 8 = tabN 8 t := by decide +kernel
theorem tab16 : ∀ t, t < 32 → t % 2 = 1 → tO 16 t 16 = tabN 16 t := by decide +kernel
theorem tab_same {N t : Nat} (h : Sz4 N) (ht : t < 2 * N) (ho : t % 2 = 1) : tO N t N = tabN N t := by
  rcases h with rfl | rfl | rfl | rfl
  · exact tab2 t ht ho
  · exact tab4 t ht ho
  · exact tab8 t ht ho
  · exact tab16 t ht ho
theorem pts_bd {N : Nat} (h : Sz4 N) (k : Nat) : (ptsN N).getD k 0 < 2 * N + 1 := by
  by_cases hk : k < N
  · rw [ptsN_get N k hk]
    have := back_lt0 h k
    omega
  · have e : (ptsN N).getD k 0 = 0 := by simp [List.getD, List.getElem?_eq_none (show (ptsN N).length ≤ k by rw [ptsN_len]; omega)]
    omega
set_option maxRecDepth 100000 in
set_option maxHeartbeats 2000000 in
theorem spec_TurnTable_yes (N t : Nat) (w : World) (h : Sz4 N) (ht : turnB N t = true) (htl : t < 2 * N) :
    Calls Tryd.prog 34 #[.int .i64 N, .int .i64 t] w fun e w' => ∃ v', e = .returned (.tuple #[v', .bool true]) ∧ Old w w' ∧ Own w' w.heap.size v' (toZ (tO N t N)) := by
  obtain ⟨i0, hi, hz0, hz1, hz2⟩ := info_parts Tryd.infoInt
  have hs := sz_bd h
  have c0 := fun W => spec_isSize N W
  rw [rgB_mk (by omega)] at c0
  have c1 := fun W => spec_odd N t W (by omega) (by omega)
  rw [ht] at c1
  have c2 := fun W => spec_points N W h
  have HPB : Hid (∀ k, (ptsN N).getD k 0 < 2 * N + 1) := fun k => pts_bd h k
  have hpl := ptsN_len N
  have HI1 : Hid (∀ i j, (ptsN N).getD j 0 = (ptsN N).getD i 0 * t % (2 * N) → toZ (tI N t i (tO N t i) (j + 1)) = toZ (tI N t i (tO N t i) j) ++ [(j : Int)]) := fun i j e => by
    rw [tI, if_pos e]
    simp
  have HI2 : Hid (∀ i j, ¬ (ptsN N).getD j 0 = (ptsN N).getD i 0 * t % (2 * N) → toZ (tI N t i (tO N t i) (j + 1)) = toZ (tI N t i (tO N t i) j)) := fun i j e => by
    rw [tI, if_neg e]
  have HI0 : Hid (∀ i, toZ (tI N t i (tO N t i) 0) = toZ (tO N t i)) := fun i => rfl
  have HIN : Hid (∀ i, toZ (tI N t i (tO N t i) N) = toZ (tO N t (i + 1))) := fun i => rfl
  have HIL : Hid (∀ i j, i ≤ 16 → j ≤ N → (toZ (tI N t i (tO N t i) j)).length ≤ 300) := fun i j h1 h2 => by
    rw [toZ_len]
    have := tI_len N t i (tO N t i) j
    have := tO_len N t hs.2 i
    omega
  have HO0 : Hid (toZ (tO N t 0) = []) := rfl
  obtain ⟨FI, eFI⟩ : ∃ FI : Nat → Nat → List Int, FI = fun i j => toZ (tI N t i (tO N t i) j) := ⟨_, rfl⟩
  obtain ⟨FO, eFO⟩ : ∃ FO : Nat → List Int, FO = fun i => toZ (tO N t i) := ⟨_, rfl⟩
  have HI1' : Hid (∀ i j, (ptsN N).getD j 0 = (ptsN N).getD i 0 * t % (2 * N) → FI i (j + 1) = FI i j ++ [(j : Int)]) := by rw [eFI]; exact HI1
  have HI2' : Hid (∀ i j, ¬ (ptsN N).getD j 0 = (ptsN N).getD i 0 * t % (2 * N) → FI i (j + 1) = FI i j) := by rw [eFI]; exact HI2
  have HI0' : Hid (∀ i, FI i 0 = FO i) := by rw [eFI, eFO]; exact HI0
  have HIN' : Hid (∀ i, FI i N = FO (i + 1)) := by rw [eFI, eFO]; exact HIN
  have HIL' : Hid (∀ i j, i ≤ 16 → j ≤ N → (FI i j).length ≤ 300) := by rw [eFI]; exact HIL
  have HO0' : Hid (FO 0 = []) := by rw [eFO]; exact HO0
  rw [show toZ (tO N t N) = FO N by rw [eFO]]
  clear HI1 HI2 HI0 HIN HIL HO0 eFI eFO
  generalize ptsN N = ps at *
  clear ht h
  have hpn : ¬ (2 * (N : Int)) = 0 := by omega
  have hpn2 : ¬ N = 0 := by omega
  go_enter Tryd.func34, Tryd.ntmps34
  go_wp2_with fail
  refine (c0 _).mono ?_
  rintro e w1 ⟨rfl, hw⟩
  obtain rfl : w = w1 := hw.symm
  go_wp2_with fail
  refine (c1 _).mono ?_
  rintro e w1 ⟨rfl, hw⟩
  obtain rfl : w = w1 := hw.symm
  go_wp2_with fail
  refine (c2 _).mono ?_
  rintro e w1 ⟨v1, rfl, g1, o1⟩
  obtain ⟨b1, o1', cap1, rfl, hb1, hc1⟩ := (Own.row o1).atZ (by omega)
  rw [hpl] at hc1 ⊢
  have HC1 : Hid (∀ j, j < N → w1.cell? ⟨b1, o1' + j, none⟩ = some (.int .i64 ((ps.getD j 0 : Nat) : Int))) := hc1
  have HG1 : Hid (Old w w1) := g1
  clear g1 o1 hc1
  go_wp2_with fail
  go_loopw [7, 25] (fun v i W => ∃ (k : Nat) (a : Option Addr) (cap : Nat), k ≤ N ∧ i = .int .i64 k ∧ v = .slice a (FO k).length cap ∧ Hid (Own W w1.heap.size (.slice a (FO k).length cap) (FO k)) ∧ Hid (Old w1 W)) (fun _ i _ => N - (intOf i).toNat)
  case atStart => exact ⟨0, none, 0, by omega, rfl, by rw [HO0'.out]; rfl, (by show Own _ _ _ _; rw [HO0'.out]; exact own_nil _ _), Old.refl _⟩
  case round =>
    obtain ⟨k, a, cap, hk, rfl, rfl, HO1, HG2⟩ := hrel
    by_cases hlt : k < N
    · have d1 : decide ((k : Int) < (N : Int)) = true := by simp; omega
      have x1 : wr.cell? ⟨b1, o1' + k, none⟩ = some (.int .i64 ((ps.getD k 0 : Nat) : Int)) := (HG2.out.cell (p := ⟨b1, o1' + k, none⟩) hb1).trans (HC1.out k hlt)
      have hE := HPB.out k
      have HS1 : Hid (∀ j, ps.getD j 0 = ps.getD k 0 * t % (2 * N) → FI k (j + 1) = FI k j ++ [(j : Int)]) := fun j => HI1'.out k j
      have HS2 : Hid (∀ j, ¬ ps.getD j 0 = ps.getD k 0 * t % (2 * N) → FI k (j + 1) = FI k j) := fun j => HI2'.out k j
      generalize ps.getD k 0 = E at *
      have hEt : E * t ≤ 1056 := by
        have := Nat.mul_le_mul (show E ≤ 33 by omega) (show t ≤ 32 by omega)
        omega
      have e1 : (E : Int) * (t : Int) = ((E * t : Nat) : Int) := by simp
      have e2 : ((E * t : Nat) : Int) % (2 * (N : Int)) = ((E * t % (2 * N) : Nat) : Int) := by simp
      generalize E * t = m at *
      generalize m % (2 * N) = q at *
      go_wp2_with fail
      go_loopw [7, 31] (fun v i W => ∃ (j : Nat) (a : Option Addr) (cap : Nat), j ≤ N ∧ i = .int .i64 j ∧ v = .slice a (FI k j).length cap ∧ Hid (Own W w1.heap.size (.slice a (FI k j).length cap) (FI k j)) ∧ Hid (Old w1 W)) (fun _ i _ => N - (intOf i).toNat)
      case atStart => exact ⟨0, a, cap, by omega, rfl, by rw [HI0'.out], (by show Own _ _ _ _; rw [HI0'.out]; exact HO1.out), HG2⟩
      case round =>
        obtain ⟨j, a2, cap2, hj, rfl, rfl, HO2, HG3⟩ := hrel
        have hs3 := HG3.out.size
        by_cases hjl : j < N
        · have d2 : decide ((j : Int) < (N : Int)) = true := by simp; omega
          have x2 : wr.cell? ⟨b1, o1' + j, none⟩ = some (.int .i64 ((ps.getD j 0 : Nat) : Int)) := (HG3.out.cell (p := ⟨b1, o1' + j, none⟩) hb1).trans (HC1.out j hjl)
          have T1 := HS1.out j
          have T2 := HS2.out j
          have hlen := HIL'.out k j (by omega) (by omega)
          generalize ps.getD j 0 = f at *
          by_cases hf : f = q
          · have d3 : ((f : Int) == (q : Int)) = true := by simp; omega
            have HT2 : Hid (FI k (j + 1) = FI k j ++ [(j : Int)]) := T1 hf
            clear T1 T2 hf
            go_wp2_with (at_builtin; refine wpList_append_own _ rfl _ _ 25 rfl w1.heap.size 3 i0 (.int .i64 0) 1 8 Tryd.underlying25 hi hz0 hz1 hz2 rfl (by decide) _ _ _ rfl (HO2.out.alloc _) ⟨wr.heap.size, 0, none⟩ 1 1 [.int .i64 (j : Int)] rfl rfl (one_cell _ _ _) (one_one _) (by unfold maxLen; omega) (by omega) (by simp; omega) ?_; intro v5 w5 o5 g5 x5; have O5 : Hid (Own w5 w1.heap.size v5 (FI k (j + 1))) := (by have := HT2.out; show Own _ _ _ _; rw [this]; exact Own.snoc o5); have G5 : Hid (Old w1 w5) := Below.grown (HG3.out.alloc (.cells #[.int .i64 (j : Int)] 3)) g5 (HG3.out.alloc (.cells #[.int .i64 (j : Int)] 3)).size (fun j hj => (HO2.out.lt j hj).1); clear o5 g5 x5)
            obtain ⟨a5, cap5, rfl⟩ := (Own.row O5.out).slice
            exact ⟨⟨j + 1, _, _, by omega, by go_num, rfl, O5, G5⟩, by simp [intOf]; omega⟩
          · have d3 : ((f : Int) == (q : Int)) = false := by simp; omega
            have HT2 : Hid (FI k (j + 1) = FI k j) := T2 hf
            clear T1 T2 hf
            go_wp2_with fail
            exact ⟨⟨j + 1, _, _, by omega, by go_num, by rw [HT2.out], (by show Own _ _ _ _; rw [HT2.out]; exact HO2.out), HG3⟩, by simp [intOf]; omega⟩
        · have d2 : decide ((j : Int) < (N : Int)) = false := by simp; omega
          obtain rfl : j = N := by omega
          go_wp2_with fail
          exact ⟨⟨k + 1, _, _, by omega, by go_num, by rw [← HIN'.out], (by show Own _ _ _ _; rw [← HIN'.out]; exact HO2.out), HG3⟩, by simp [intOf]; omega⟩
    · have d1 : decide ((k : Int) < (N : Int)) = false := by simp; omega
      obtain rfl : k = N := by omega
      go_wp2_with fail
      go_ret2
      exact ⟨_, rfl, Old.trans HG1.out HG2.out, HO1.out.low HG1.out.size⟩
end Go.Proofs.YtcnkanjkdkjceaaDoor
