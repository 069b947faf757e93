/- Proved: several texts in one: what each proves is said ahead of it. -/
import Derived.Test.YtpebikjckhcgfaaDoorZ72
/- Proved: the places of the slots' points, by the model. -/
namespace Go.Proofs.YtpebikjckhcgfaaDoor
open Go.ChangeShapes Go.WideShapes Go.ChangeAt Go.RowKit
set_option linter.unusedVariables false
set_option linter.unusedSimpArgs false
def pI (N i : Nat) (base : List Nat) : Nat → List Nat
  | 0 => base
  | j + 1 => if (exL N).getD i 0 = (ptsN N).getD j 0 then pI N i base j ++ [j] else pI N i base j
def pO (N : Nat) : Nat → List Nat
  | 0 => []
  | i + 1 => pI N i (pO N i) N
theorem pI_len (N i : Nat) (base : List Nat) : ∀ j, (pI N i base j).length ≤ base.length + j
  | 0 => Nat.le_refl _
  | j + 1 => by
    have := pI_len N i base j
    unfold pI
    split
    · rw [List.length_append, List.length_singleton]; omega
    · omega
theorem pO_len (N : Nat) (hN : N ≤ 16) : ∀ i, (pO N i).length ≤ 16 * i
  | 0 => by simp [pO]
  | i + 1 => by
    have h1 := pO_len N hN i
    have h2 := pI_len N i (pO N i) N
    show (pI N i (pO N i) N).length ≤ _
    omega
theorem pO_same {N : Nat} (h : Sz4 N) : pO N N = plL N := by rcases h with rfl | rfl | rfl | rfl <;> decide +kernel
set_option maxRecDepth 100000 in
set_option maxHeartbeats 2000000 in
theorem spec_l10Places (N : Nat) (w : World) (h : Sz4 N) :
    Calls Tryd.prog 68 #[.int .i64 N] w fun e w' => ∃ v', e = .returned v' ∧ Old w w' ∧ Own w' w.heap.size v' (toZ (plL N)) := by
  rw [← pO_same h]
  obtain ⟨i0, hi, hz0, hz1, hz2⟩ := info_parts Tryd.infoInt
  have hs := sz_bd h
  have c4 := fun W => spec_l10Points N W h
  have c2 := fun W => spec_points N W h
  have hpl := ptsN_len N
  have hql := exL_len h
  have HI1 : Hid (∀ i j, (exL N).getD i 0 = (ptsN N).getD j 0 → toZ (pI N i (pO N i) (j + 1)) = toZ (pI N i (pO N i) j) ++ [(j : Int)]) := fun i j e => by
    rw [pI, if_pos e]
    simp
  have HI2 : Hid (∀ i j, ¬ (exL N).getD i 0 = (ptsN N).getD j 0 → toZ (pI N i (pO N i) (j + 1)) = toZ (pI N i (pO N i) j)) := fun i j e => by
    rw [pI, if_neg e]
  have HI0 : Hid (∀ i, toZ (pI N i (pO N i) 0) = toZ (pO N i)) := fun i => rfl
  have HIN : Hid (∀ i, toZ (pI N i (pO N i) N) = toZ (pO N (i + 1))) := fun i => rfl
  have HIL : Hid (∀ i j, i ≤ 16 → j ≤ N → (toZ (pI N i (pO N i) j)).length ≤ 300) := fun i j h1 h2 => by
    rw [toZ_len]
    have := pI_len N i (pO N i) j
    have := pO_len N hs.2 i
    omega
  have HO0 : Hid (toZ (pO N 0) = []) := rfl
  obtain ⟨FI, eFI⟩ : ∃ FI : Nat → Nat → List Int, FI = fun i j => toZ (pI N i (pO N i) j) := ⟨_, rfl⟩
  obtain ⟨FO, eFO⟩ : ∃ FO : Nat → List Int, FO = fun i => toZ (pO N i) := ⟨_, rfl⟩
  have HI1' : Hid (∀ i j, (exL N).getD i 0 = (ptsN N).getD j 0 → FI i (j + 1) = FI i j ++ [(j : Int)]) := by rw [eFI]; exact HI1
  have HI2' : Hid (∀ i j, ¬ (exL N).getD i 0 = (ptsN N).getD j 0 → FI i (j + 1) = FI i j) := by rw [eFI]; exact HI2
  have HI0' : Hid (∀ i, FI i 0 = FO i) := by rw [eFI, eFO]; exact HI0
  have HIN' : Hid (∀ i, FI i N = FO (i + 1)) := by rw [eFI, eFO]; exact HIN
  have HIL' : Hid (∀ i j, i ≤ 16 → j ≤ N → (FI i j).length ≤ 300) := by rw [eFI]; exact HIL
  have HO0' : Hid (FO 0 = []) := by rw [eFO]; exact HO0
  rw [show toZ (pO N N) = FO N by rw [eFO]]
  clear HI1 HI2 HI0 HIN HIL HO0 eFI eFO
  generalize ptsN N = ps at *
  generalize exL N = qs at *
  clear h
  go_enter Tryd.func68, Tryd.ntmps68
  go_wp2_with fail
  refine (c2 _).mono ?_
  rintro e w1 ⟨v1, rfl, g1, o1⟩
  obtain ⟨b1, o1', cap1, rfl, hb1, hc1⟩ := (Own.row o1).atZ (by omega)
  rw [hpl] at hc1 ⊢
  have HC1 : Hid (∀ j, j < N → w1.cell? ⟨b1, o1' + j, none⟩ = some (.int .i64 ((ps.getD j 0 : Nat) : Int))) := hc1
  have HG1 : Hid (Old w w1) := g1
  clear g1 o1 hc1
  go_wp2_with fail
  refine (c4 _).mono ?_
  rintro e w2 ⟨v2, rfl, g2, o2⟩
  obtain ⟨b3, o3, cap3, rfl, hb3, hc3⟩ := (Own.row o2).atZ (by omega)
  rw [hql] at hc3 ⊢
  have HC3 : Hid (∀ j, j < N → w2.cell? ⟨b3, o3 + j, none⟩ = some (.int .i64 ((qs.getD j 0 : Nat) : Int))) := hc3
  have HG12 : Hid (Old w w2) := Old.trans HG1.out g2
  have HC4 : Hid (∀ j, j < N → w2.cell? ⟨b1, o1' + j, none⟩ = some (.int .i64 ((ps.getD j 0 : Nat) : Int))) := fun j hj => (g2.cell (p := ⟨b1, o1' + j, none⟩) hb1).trans (HC1.out j hj)
  have hb4 : b1 < w2.heap.size := Nat.lt_of_lt_of_le hb1 g2.size
  clear g2 o2 hc3 HC1 hb1 HG1
  go_wp2_with fail
  go_loopw [3, 14] (fun v i W => ∃ (k : Nat) (a : Option Addr) (cap : Nat), k ≤ N ∧ i = .int .i64 k ∧ v = .slice a (FO k).length cap ∧ Hid (Own W w2.heap.size (.slice a (FO k).length cap) (FO k)) ∧ Hid (Old w2 W)) (fun _ i _ => N - (intOf i).toNat)
  case atStart => exact ⟨0, none, 0, by omega, rfl, by rw [HO0'.out]; rfl, (by show Own _ _ _ _; rw [HO0'.out]; exact own_nil _ _), Old.refl _⟩
  case round =>
    obtain ⟨k, a, cap, hk, rfl, rfl, HO1, HG2⟩ := hrel
    by_cases hlt : k < N
    · have d1 : decide ((k : Int) < (N : Int)) = true := by simp; omega
      have x1 : wr.cell? ⟨b3, o3 + k, none⟩ = some (.int .i64 ((qs.getD k 0 : Nat) : Int)) := (HG2.out.cell (p := ⟨b3, o3 + k, none⟩) hb3).trans (HC3.out k hlt)
      have HS1 : Hid (∀ j, qs.getD k 0 = ps.getD j 0 → FI k (j + 1) = FI k j ++ [(j : Int)]) := fun j => HI1'.out k j
      have HS2 : Hid (∀ j, ¬ qs.getD k 0 = ps.getD j 0 → FI k (j + 1) = FI k j) := fun j => HI2'.out k j
      generalize qs.getD k 0 = q at *
      go_wp2_with fail
      go_loopw [3, 20] (fun v i W => ∃ (j : Nat) (a : Option Addr) (cap : Nat), j ≤ N ∧ i = .int .i64 j ∧ v = .slice a (FI k j).length cap ∧ Hid (Own W w2.heap.size (.slice a (FI k j).length cap) (FI k j)) ∧ Hid (Old w2 W)) (fun _ i _ => N - (intOf i).toNat)
      case atStart => exact ⟨0, a, cap, by omega, rfl, by rw [HI0'.out], (by show Own _ _ _ _; rw [HI0'.out]; exact HO1.out), HG2⟩
      case round =>
        obtain ⟨j, a2, cap2, hj, rfl, rfl, HO2, HG3⟩ := hrel
        have hs3 := HG3.out.size
        by_cases hjl : j < N
        · have d2 : decide ((j : Int) < (N : Int)) = true := by simp; omega
          have x2 : wr.cell? ⟨b1, o1' + j, none⟩ = some (.int .i64 ((ps.getD j 0 : Nat) : Int)) := (HG3.out.cell (p := ⟨b1, o1' + j, none⟩) hb4).trans (HC4.out j hjl)
          have T1 := HS1.out j
          have T2 := HS2.out j
          have hlen := HIL'.out k j (by omega) (by omega)
          generalize ps.getD j 0 = f at *
          by_cases hf : q = f
          · have d3 : ((q : Int) == (f : Int)) = true := by simp; omega
            have HT2 : Hid (FI k (j + 1) = FI k j ++ [(j : Int)]) := T1 hf
            clear T1 T2 hf
            go_wp2_with (at_builtin; refine wpList_append_own _ rfl _ _ 23 rfl w2.heap.size 3 i0 (.int .i64 0) 1 8 Tryd.underlying23 hi hz0 hz1 hz2 rfl (by decide) _ _ _ rfl (HO2.out.alloc _) ⟨wr.heap.size, 0, none⟩ 1 1 [.int .i64 (j : Int)] rfl rfl (one_cell _ _ _) (one_one _) (by unfold maxLen; omega) (by omega) (by simp; omega) ?_; intro v5 w5 o5 g5 x5; have O5 : Hid (Own w5 w2.heap.size v5 (FI k (j + 1))) := (by have := HT2.out; show Own _ _ _ _; rw [this]; exact Own.snoc o5); have G5 : Hid (Old w2 w5) := Below.grown (HG3.out.alloc (.cells #[.int .i64 (j : Int)] 3)) g5 (HG3.out.alloc (.cells #[.int .i64 (j : Int)] 3)).size (fun j hj => (HO2.out.lt j hj).1); clear o5 g5 x5)
            obtain ⟨a5, cap5, rfl⟩ := (Own.row O5.out).slice
            exact ⟨⟨j + 1, _, _, by omega, by go_num, rfl, O5, G5⟩, by simp [intOf]; omega⟩
          · have d3 : ((q : Int) == (f : Int)) = false := by simp; omega
            have HT2 : Hid (FI k (j + 1) = FI k j) := T2 hf
            clear T1 T2 hf
            go_wp2_with fail
            exact ⟨⟨j + 1, _, _, by omega, by go_num, by rw [HT2.out], (by show Own _ _ _ _; rw [HT2.out]; exact HO2.out), HG3⟩, by simp [intOf]; omega⟩
        · have d2 : decide ((j : Int) < (N : Int)) = false := by simp; omega
          obtain rfl : j = N := by omega
          go_wp2_with fail
          exact ⟨⟨k + 1, _, _, by omega, by go_num, by rw [← HIN'.out], (by show Own _ _ _ _; rw [← HIN'.out]; exact HO2.out), HG3⟩, by simp [intOf]; omega⟩
    · have d1 : decide ((k : Int) < (N : Int)) = false := by simp; omega
      obtain rfl : k = N := by omega
      go_wp2_with fail
      go_ret
      exact ⟨_, rfl, Old.trans HG12.out HG2.out, HO1.out.low HG12.out.size⟩
end Go.Proofs.YtpebikjckhcgfaaDoor
