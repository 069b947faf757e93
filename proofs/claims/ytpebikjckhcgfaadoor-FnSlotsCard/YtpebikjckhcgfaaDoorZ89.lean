/- Proved: several texts in one: what each proves is said ahead of it. -/
import Derived.Test.YtpebikjckhcgfaaDoorZ72
import Derived.Test.YtpebikjckhcgfaaDoorZ12
import Derived.Test.YtpebikjckhcgfaaDoorZ17
/- Proved: where slots go by a turn, by the model. -/
namespace Go.Proofs.YtpebikjckhcgfaaDoor
open Go.ChangeShapes Go.WideShapes Go.ChangeAt Go.RowKit
set_option linter.unusedVariables false
set_option linter.unusedSimpArgs false
def uI (N t i : Nat) (base : List Nat) : Nat → List Nat
  | 0 => base
  | j + 1 => if (exL N).getD j 0 = (exL N).getD i 0 * t % (2 * N) then uI N t i base j ++ [j] else uI N t i base j
def uO (N t : Nat) : Nat → List Nat
  | 0 => []
  | i + 1 => uI N t i (uO N t i) N
theorem uI_len (N t i : Nat) (base : List Nat) : ∀ j, (uI N t i base j).length ≤ base.length + j
  | 0 => Nat.le_refl _
  | j + 1 => by
    have := uI_len N t i base j
    unfold uI
    split
    · rw [List.length_append, List.length_singleton]; omega
    · omega
theorem uO_len (N t : Nat) (hN : N ≤ 16) : ∀ i, (uO N t i).length ≤ 16 * i
  | 0 => by simp [uO]
  | i + 1 => by
    have h1 := uO_len N t hN i
    have h2 := uI_len N t i (uO N t i) N
    show (uI N t i (uO N t i) N).length ≤ _
    omega
/-- slots in another order -/
abbrev pkX (xs : List Int) (l : List Nat) : List Int := l.map (fun j => xs.getD j 0)
set_option maxRecDepth 100000 in
set_option maxHeartbeats 2000000 in
theorem spec_MovedSlots_yes (N t : Nat) (xs : List Int) (v : Value) (w : World) (hv : Row w v xs) (hxl : xs.length = N) (h : Sz4 N) (ht : turnB N t = true) (htl : t < 2 * N) :
    Calls Tryd.prog 37 #[.int .i64 N, v, .int .i64 t] w fun e w' => ∃ v', e = .returned (.tuple #[v', .bool true]) ∧ Old w w' ∧ Own w' w.heap.size v' (pkX xs (uO N t N)) := by
  obtain ⟨i0, hi, hz0, hz1, hz2⟩ := info_parts Tryd.infoInt
  have hs := sz_bd h
  have c0 := fun W => spec_isSize N W
  rw [rgB_mk (by omega)] at c0
  have c1 := fun W => spec_odd N t W (by omega) (by omega)
  rw [ht] at c1
  have c2 := fun W => spec_l10Points N W h
  have HPB : Hid (∀ k, (exL N).getD k 0 < 2 * N + 1) := fun k => Nat.lt_succ_of_lt (exL_bd h k)
  have hpl := exL_len h
  have HI1 : Hid (∀ i j, (exL N).getD j 0 = (exL N).getD i 0 * t % (2 * N) → pkX xs (uI N t i (uO N t i) (j + 1)) = pkX xs (uI N t i (uO N t i) j) ++ [xs.getD j 0]) := fun i j e => by
    rw [uI, if_pos e]
    simp [pkX]
  have HI2 : Hid (∀ i j, ¬ (exL N).getD j 0 = (exL N).getD i 0 * t % (2 * N) → pkX xs (uI N t i (uO N t i) (j + 1)) = pkX xs (uI N t i (uO N t i) j)) := fun i j e => by
    rw [uI, if_neg e]
  have HI0 : Hid (∀ i, pkX xs (uI N t i (uO N t i) 0) = pkX xs (uO N t i)) := fun i => rfl
  have HIN : Hid (∀ i, pkX xs (uI N t i (uO N t i) N) = pkX xs (uO N t (i + 1))) := fun i => rfl
  have HIL : Hid (∀ i j, i ≤ 16 → j ≤ N → (pkX xs (uI N t i (uO N t i) j)).length ≤ 300) := fun i j h1 h2 => by
    rw [List.length_map]
    have := uI_len N t i (uO N t i) j
    have := uO_len N t hs.2 i
    omega
  have HO0 : Hid (pkX xs (uO N t 0) = []) := rfl
  obtain ⟨FI, eFI⟩ : ∃ FI : Nat → Nat → List Int, FI = fun i j => pkX xs (uI N t i (uO N t i) j) := ⟨_, rfl⟩
  obtain ⟨FO, eFO⟩ : ∃ FO : Nat → List Int, FO = fun i => pkX xs (uO N t i) := ⟨_, rfl⟩
  have HI1' : Hid (∀ i j, (exL N).getD j 0 = (exL N).getD i 0 * t % (2 * N) → FI i (j + 1) = FI i j ++ [xs.getD j 0]) := by rw [eFI]; exact HI1
  have HI2' : Hid (∀ i j, ¬ (exL N).getD j 0 = (exL N).getD i 0 * t % (2 * N) → FI i (j + 1) = FI i j) := by rw [eFI]; exact HI2
  have HI0' : Hid (∀ i, FI i 0 = FO i) := by rw [eFI, eFO]; exact HI0
  have HIN' : Hid (∀ i, FI i N = FO (i + 1)) := by rw [eFI, eFO]; exact HIN
  have HIL' : Hid (∀ i j, i ≤ 16 → j ≤ N → (FI i j).length ≤ 300) := by rw [eFI]; exact HIL
  have HO0' : Hid (FO 0 = []) := by rw [eFO]; exact HO0
  rw [show pkX xs (uO N t N) = FO N by rw [eFO]]
  clear HI1 HI2 HI0 HIN HIL HO0 eFI eFO
  generalize exL N = ps at *
  clear ht h
  obtain ⟨bx, ox, capx, rfl, hbx, hcx⟩ : ∃ b o cap, v = .slice (some ⟨b, o, none⟩) N cap ∧ b < w.heap.size ∧ ∀ j, j < N → w.cell? ⟨b, o + j, none⟩ = some (.int .i64 (xs.getD j 0)) := by
    rcases hv with ⟨a, c, e1, e2⟩ | ⟨b, o, c, e1, e2, _, e4⟩
    · rw [e2] at hxl
      simp at hxl
      omega
    · exact ⟨b, o, c, by rw [e1, hxl], e2, fun j hj => e4 j (by omega)⟩
  have HX : Hid (∀ j, j < N → w.cell? ⟨bx, ox + j, none⟩ = some (.int .i64 (xs.getD j 0))) := hcx
  clear hcx hv hxl
  obtain ⟨fx, hfx⟩ : ∃ fx : Nat → Int, (fun j => xs.getD j 0) = fx := ⟨_, rfl⟩
  have hfx2 : ∀ j, xs.getD j 0 = fx j := fun j => by rw [← hfx]
  simp only [hfx2] at HX HI1'
  clear hfx hfx2
  have dnn : ((N : Int) != (N : Int)) = false := by simp
  have hpn : ¬ (2 * (N : Int)) = 0 := by omega
  have hpn2 : ¬ N = 0 := by omega
  go_enter Tryd.func37, Tryd.ntmps37
  go_wp2_with fail
  refine (c0 _).mono ?_
  rintro e w1 ⟨rfl, hw⟩
  obtain rfl : w = w1 := hw.symm
  go_wp2_with fail
  refine (c1 _).mono ?_
  rintro e w1 ⟨rfl, hw⟩
  obtain rfl : w = w1 := hw.symm
  go_wp2_with fail
  refine (c2 _).mono ?_
  rintro e w1 ⟨v1, rfl, g1, o1⟩
  obtain ⟨b1, o1', cap1, rfl, hb1, hc1⟩ := (Own.row o1).atZ (by omega)
  rw [hpl] at hc1 ⊢
  have HC1 : Hid (∀ j, j < N → w1.cell? ⟨b1, o1' + j, none⟩ = some (.int .i64 ((ps.getD j 0 : Nat) : Int))) := hc1
  have HG1 : Hid (Old w w1) := g1
  clear g1 o1 hc1
  go_wp2_with fail
  go_loopw [9, 33] (fun v i W => ∃ (k : Nat) (a : Option Addr) (cap : Nat), k ≤ N ∧ i = .int .i64 k ∧ v = .slice a (FO k).length cap ∧ Hid (Own W w1.heap.size (.slice a (FO k).length cap) (FO k)) ∧ Hid (Old w1 W)) (fun _ i _ => N - (intOf i).toNat)
  case atStart => exact ⟨0, none, 0, by omega, rfl, by rw [HO0'.out]; rfl, (by show Own _ _ _ _; rw [HO0'.out]; exact own_nil _ _), Old.refl _⟩
  case round =>
    obtain ⟨k, a, cap, hk, rfl, rfl, HO1, HG2⟩ := hrel
    by_cases hlt : k < N
    · have d1 : decide ((k : Int) < (N : Int)) = true := by simp; omega
      have x1 : wr.cell? ⟨b1, o1' + k, none⟩ = some (.int .i64 ((ps.getD k 0 : Nat) : Int)) := (HG2.out.cell (p := ⟨b1, o1' + k, none⟩) hb1).trans (HC1.out k hlt)
      have hE := HPB.out k
      have HS1 : Hid (∀ j, ps.getD j 0 = ps.getD k 0 * t % (2 * N) → FI k (j + 1) = FI k j ++ [fx j]) := fun j => HI1'.out k j
      have HS2 : Hid (∀ j, ¬ ps.getD j 0 = ps.getD k 0 * t % (2 * N) → FI k (j + 1) = FI k j) := fun j => HI2'.out k j
      generalize ps.getD k 0 = E at *
      have hEt : E * t ≤ 1056 := by
        have := Nat.mul_le_mul (show E ≤ 33 by omega) (show t ≤ 32 by omega)
        omega
      have e1 : (E : Int) * (t : Int) = ((E * t : Nat) : Int) := by simp
      have e2 : ((E * t : Nat) : Int) % (2 * (N : Int)) = ((E * t % (2 * N) : Nat) : Int) := by simp
      generalize E * t = m at *
      generalize m % (2 * N) = q at *
      go_wp2_with fail
      go_loopw [9, 39] (fun v i W => ∃ (j : Nat) (a : Option Addr) (cap : Nat), j ≤ N ∧ i = .int .i64 j ∧ v = .slice a (FI k j).length cap ∧ Hid (Own W w1.heap.size (.slice a (FI k j).length cap) (FI k j)) ∧ Hid (Old w1 W)) (fun _ i _ => N - (intOf i).toNat)
      case atStart => exact ⟨0, a, cap, by omega, rfl, by rw [HI0'.out], (by show Own _ _ _ _; rw [HI0'.out]; exact HO1.out), HG2⟩
      case round =>
        obtain ⟨j, a2, cap2, hj, rfl, rfl, HO2, HG3⟩ := hrel
        have hs3 := HG3.out.size
        by_cases hjl : j < N
        · have d2 : decide ((j : Int) < (N : Int)) = true := by simp; omega
          have x2 : wr.cell? ⟨b1, o1' + j, none⟩ = some (.int .i64 ((ps.getD j 0 : Nat) : Int)) := (HG3.out.cell (p := ⟨b1, o1' + j, none⟩) hb1).trans (HC1.out j hjl)
          have T1 := HS1.out j
          have T2 := HS2.out j
          have hlen := HIL'.out k j (by omega) (by omega)
          have x3 : wr.cell? ⟨bx, ox + j, none⟩ = some (.int .i64 (fx j)) := ((Old.trans HG1.out HG3.out).cell (p := ⟨bx, ox + j, none⟩) hbx).trans (HX.out j hjl)
          generalize ps.getD j 0 = f at *
          generalize fx j = y at *
          by_cases hf : f = q
          · have d3 : ((f : Int) == (q : Int)) = true := by simp; omega
            have HT2 : Hid (FI k (j + 1) = FI k j ++ [y]) := T1 hf
            clear T1 T2 hf
            go_wp2_with (at_builtin; refine wpList_append_own _ rfl _ _ 23 rfl w1.heap.size 3 i0 (.int .i64 0) 1 8 Tryd.underlying23 hi hz0 hz1 hz2 rfl (by decide) _ _ _ rfl (HO2.out.alloc _) ⟨wr.heap.size, 0, none⟩ 1 1 [.int .i64 (y)] rfl rfl (one_cell _ _ _) (one_one _) (by unfold maxLen; omega) (by omega) (by simp; omega) ?_; intro v5 w5 o5 g5 x5; have O5 : Hid (Own w5 w1.heap.size v5 (FI k (j + 1))) := (by have := HT2.out; show Own _ _ _ _; rw [this]; exact Own.snoc o5); have G5 : Hid (Old w1 w5) := Below.grown (HG3.out.alloc (.cells #[.int .i64 (y)] 3)) g5 (HG3.out.alloc (.cells #[.int .i64 (y)] 3)).size (fun j hj => (HO2.out.lt j hj).1); clear o5 g5 x5)
            obtain ⟨a5, cap5, rfl⟩ := (Own.row O5.out).slice
            exact ⟨⟨j + 1, _, _, by omega, by go_num, rfl, O5, G5⟩, by simp [intOf]; omega⟩
          · have d3 : ((f : Int) == (q : Int)) = false := by simp; omega
            have HT2 : Hid (FI k (j + 1) = FI k j) := T2 hf
            clear T1 T2 hf
            go_wp2_with fail
            exact ⟨⟨j + 1, _, _, by omega, by go_num, by rw [HT2.out], (by show Own _ _ _ _; rw [HT2.out]; exact HO2.out), HG3⟩, by simp [intOf]; omega⟩
        · have d2 : decide ((j : Int) < (N : Int)) = false := by simp; omega
          obtain rfl : j = N := by omega
          go_wp2_with fail
          exact ⟨⟨k + 1, _, _, by omega, by go_num, by rw [← HIN'.out], (by show Own _ _ _ _; rw [← HIN'.out]; exact HO2.out), HG3⟩, by simp [intOf]; omega⟩
    · have d1 : decide ((k : Int) < (N : Int)) = false := by simp; omega
      obtain rfl : k = N := by omega
      go_wp2_with fail
      go_ret2
      exact ⟨_, rfl, Old.trans HG1.out HG2.out, HO1.out.low HG1.out.size⟩
end Go.Proofs.YtpebikjckhcgfaaDoor
/- Proved: the program's table of a turn: at each place the place of the point's power; none where the size or the turn is not as said. -/
namespace Go.Proofs.YtpebikjckhcgfaaDoor
open Go.ChangeShapes Go.WideShapes Go.ChangeAt Go.RowKit
set_option linter.unusedVariables false
set_option linter.unusedSimpArgs false
def tabN (N t : Nat) : List Nat := (List.range N).map (fun k => backN (lg N) ((2 * backN (lg N) k 0 + 1) * t % (2 * N) / 2) 0)
theorem tabN_len (N t : Nat) : (tabN N t).length = N := by simp [tabN]
theorem tabN_get (N t k : Nat) (h : k < N) : (tabN N t).getD k 0 = backN (lg N) ((2 * backN (lg N) k 0 + 1) * t % (2 * N) / 2) 0 := by simp [tabN, List.getD, h]
theorem et_bd (x t N : Nat) (hx : x < N) (hN : N ≤ 16) (ht : t < 2 * N) : (2 * x + 1) * t ≤ 1056 := by
  have := Nat.mul_le_mul (show 2 * x + 1 ≤ 33 by omega) (show t ≤ 32 by omega)
  omega
end Go.Proofs.YtpebikjckhcgfaaDoor
