/- Proved: contracts of the program's drawRow, with uniform and with noise: what so many draws one behind the other leave. -/
import Derived.Test.YtonbimgdkafnjaaCoin6
namespace Go.Proofs.Ytonbimgdkafnjaa
open Go.ChangeShapes Go.WideShapes Go.ChangeAt Go.RowKit
set_option linter.unusedVariables false
set_option linter.unusedSimpArgs false
/-- what one draw of the program's leaves -/
def DrP (D : Nat → Option (Int × Nat)) (ws : List Int) (w : World) (c k : Nat) (e : Ending) (w' : World) : Prop :=
  Chg w w' c (c + 2) ∧ ((∃ x k', D k = some (x, k') ∧ e = .returned (.tuple #[.int .i64 x, .bool true]) ∧ Pu w' c ws k') ∨ (D k = none ∧ ∃ y, e = .returned (.tuple #[.int .i64 y, .bool false])))
/-- what a row of draws of the program's leaves -/
def RwP (R : Option (List Int × Nat)) (w : World) (c : Nat) (e : Ending) (w' : World) : Prop :=
  Chg w w' c (c + 2) ∧ ((∃ l k v', R = some (l, k) ∧ e = .returned (.tuple #[v', .int .i64 (k : Nat), .bool true]) ∧ Own w' w.heap.size v' l) ∨ (R = none ∧ e = .returned (.tuple #[.slice none 0 0, .int .i64 0, .bool false])))
/-- j numbers, noughts behind -/
def zfill (l : List Int) (n : Nat) : List Int := l ++ List.replicate (n - l.length) 0
theorem zfill_len (l : List Int) (n : Nat) (h : l.length ≤ n) : (zfill l n).length = n := by simp [zfill]; omega
theorem zfill_set (l : List Int) (n : Nat) (x : Int) (h : l.length < n) : (zfill l n).set l.length x = zfill (l ++ [x]) n := by
  unfold zfill
  rw [show n - l.length = (n - (l ++ [x]).length) + 1 by simp; omega, List.replicate_succ, List.set_append_right _ _ (Nat.le_refl _), Nat.sub_self, List.set_cons_zero, List.append_assoc]
  rfl
theorem zfill_all (l : List Int) (n : Nat) (h : l.length = n) : zfill l n = l := by simp [zfill, h]
set_option maxRecDepth 100000 in
set_option maxHeartbeats 4000000 in
theorem drawRow_uniform (D : Nat → Option (Int × Nat)) (ws : List Int) (c k0 n0 b : Nat) (w : World) (hn : n0 ≤ 64) (h : Pu w c ws k0)
    (hD : ∀ k W, Pu W c ws k → Calls Try.prog 92 #[.pointer (some ⟨c + 1, 0, none⟩), .int .i64 b] W fun e w' => DrP D ws W c k e w') :
    Calls Try.prog 53 #[.pointer (some ⟨c + 1, 0, none⟩), .func (.func 92) #[] #[], .int .i64 b, .int .i64 n0] w fun e w' => RwP (drP D k0 n0) w c e w' := by
  obtain ⟨i0, hi, hz0, hz1, hz2⟩ := info_parts Try.infoInt
  have HD : Hid (∀ k W, Pu W c ws k → Calls Try.prog 92 #[.pointer (some ⟨c + 1, 0, none⟩), .int .i64 b] W fun e w' => DrP D ws W c k e w') := hD
  have HP : Hid (Pu w c ws k0) := h
  have HQ : Hid (c + 1 < w.heap.size) := h.lt
  clear h hD
  go_enter Try.func53, Try.ntmps53
  go_wp2_with (at_make; refine wpList_make_full _ rfl _ _ 23 rfl w.heap.size 3 i0 (.int .i64 0) 1 Try.underlying23 hi hz0 hz1 .i64 .i64 _ _ n0 rfl rfl rfl rfl (by rw [hz2]; omega) (by unfold maxLen; omega) (Nat.le_refl _) ?_; intro w1 hown hgrow)
  rw [made_ints, show List.replicate n0 (0 : Int) = zfill [] n0 by simp [zfill]] at hown
  have HO : Hid (w1.ownsRow w.heap.size 3 1 (.slice (some ⟨w.heap.size, 0, none⟩) n0 n0) n0 ((zfill [] n0).map (Value.int .i64))) := hown
  have HG0 : Hid (Old w w1) := Below.grown (Below.refl _ _) hgrow (Nat.le_refl _) (fun _ h => by cases h)
  clear hown hgrow
  go_loopw [19] (fun i W => ∃ j : Nat, j ≤ n0 ∧ i = .int .i64 j ∧ Hid (Chg w W c (c + 2)) ∧ ∃ l k, Hid (drP D k0 j = some (l, k)) ∧ Hid (W.ownsRow w.heap.size 3 1 (.slice (some ⟨w.heap.size, 0, none⟩) n0 n0) n0 ((zfill l n0).map (Value.int .i64))) ∧ Hid (Pu W c ws k)) (fun i _ => n0 - (intOf i).toNat)
  case atStart => exact ⟨0, by omega, rfl, HG0.out.toChg _ _, [], k0, rfl, HO, HP.out.old HG0.out⟩
  case round =>
    obtain ⟨j, hj, rfl, HG, l, k, HR, HO1, HP1⟩ := hrel
    clear HO HG0 HP
    have HL : Hid (l.length = j) := drP_len j l k HR.out
    by_cases hlt : j < n0
    · have dl : decide ((j : Int) < (n0 : Int)) = true := by simp; omega
      go_wp2_with fail
      refine (HD.out k wr HP1.out).mono ?_
      rintro e w1 ⟨g1, ⟨x, k', h1, rfl, h3⟩ | ⟨h1, y, rfl⟩⟩
      · have HR1 : Hid (drP D k0 (j + 1) = some (l ++ [x], k')) := drP_succ HR.out h1
        have HG1 : Hid (Chg w w1 c (c + 2)) := HG.out.trans g1
        have zl : (zfill l n0).length = n0 := zfill_len l n0 (by rw [HL.out]; omega)
        have HO2 : Hid (w1.ownsRow w.heap.size 3 1 (.slice (some ⟨w.heap.size, 0, none⟩) n0 n0) n0 ((zfill l n0).map (Value.int .i64))) := by
          have hx : Own wr w.heap.size (.slice (some ⟨w.heap.size, 0, none⟩) n0 n0) (zfill l n0) := by unfold Own; rw [zl]; exact HO1.out
          have := hx.chg g1 (fun p hp => Or.inr (by have := (hx.lt p hp).1; have := HQ.out; omega))
          unfold Own at this
          rw [zl] at this
          exact this
        have HP2 : Hid (Pu w1 c ws k') := h3
        have c2 : w1.cell? ⟨w.heap.size, j, none⟩ = some (.int .i64 ((zfill l n0).getD j 0)) := by
          rw [World.ownsRow.cellAt HO2.out j (by omega)]
          simp [List.getD, zl, hlt]
        have c3 : w1.frozen? ⟨w.heap.size, j, none⟩ = false := World.ownsRow.frozenAt HO2.out j
        have HS : Hid ((w1.setCell ⟨w.heap.size, j, none⟩ (.int .i64 x)).ownsRow w.heap.size 3 1 (.slice (some ⟨w.heap.size, 0, none⟩) n0 n0) n0 ((zfill (l ++ [x]) n0).map (Value.int .i64))) := by
          have := (World.ownsRow.stored HO2.out j (.int .i64 x)).1
          rw [← List.map_set, ← HL.out, zfill_set l n0 x (by rw [HL.out]; exact hlt)] at this
          rw [HL.out] at this
          exact this
        have HC2 : Hid (Chg w (w1.setCell ⟨w.heap.size, j, none⟩ (.int .i64 x)) c (c + 2)) :=
          ⟨HG1.out.os, HG1.out.tape, HG1.out.output, by rw [World.size_setCell]; exact HG1.out.size, fun p hp ho => (heap_setCell_other w1 ⟨w.heap.size, j, none⟩ p _ (by show p ≠ w.heap.size; omega)).trans (HG1.out.block p hp ho)⟩
        have HP3 : Hid (Pu (w1.setCell ⟨w.heap.size, j, none⟩ (.int .i64 x)) c ws k') := HP2.out.chg (chg_setCell _ _ _ _) (Or.inl (by have := HQ.out; omega))
        generalize (zfill l n0).getD j 0 = y at c2
        clear g1 h3 HO1 HO2 HG HP1 HP2 zl h1 HG1 HR
        go_wp2_with fail
        exact ⟨⟨j + 1, by omega, by go_num, HC2, l ++ [x], k', HR1, HS, HP3⟩, by simp [intOf]; omega⟩
      · have HR1 : Hid (drP D k0 n0 = none) := by
          have := drP_none (drP_dry HR.out h1) (n0 - (j + 1))
          rw [show j + 1 + (n0 - (j + 1)) = n0 by omega] at this
          exact this
        have HG1 : Hid (Chg w w1 c (c + 2)) := HG.out.trans g1
        clear g1 HO1 HG HP1 h1 HR
        go_wp2_with fail
        go_ret3
        unfold RwP
        exact ⟨HG1.out, Or.inr ⟨HR1.out, rfl⟩⟩
    · have dl : decide ((j : Int) < (n0 : Int)) = false := by simp; omega
      obtain rfl : j = n0 := by omega
      have HF : Hid (Own wr w.heap.size (.slice (some ⟨w.heap.size, 0, none⟩) j j) l) := by
        have := HO1.out
        rw [zfill_all l j HL.out] at this
        unfold Own
        rw [HL.out]
        exact this
      have c1 : wr.cell? ⟨c + 1, 1, none⟩ = some (.int .i64 (k : Int)) := by rw [cell_of_row _ _ _ _ _ _ HP1.out.cells]; rfl
      clear HO1 HP1
      go_wp2_with fail
      go_quiet (fail)
      go_wp2_with fail
      go_ret3
      unfold RwP
      exact ⟨HG.out.trans (chg_drew _ _ _ _), Or.inl ⟨l, k, _, HR.out, rfl, HF.out.old ((Old.refl _).drewN _)⟩⟩
set_option maxRecDepth 100000 in
set_option maxHeartbeats 4000000 in
theorem drawRow_noise (D : Nat → Option (Int × Nat)) (ws : List Int) (c k0 n0 b : Nat) (w : World) (hn : n0 ≤ 64) (h : Pu w c ws k0)
    (hD : ∀ k W, Pu W c ws k → Calls Try.prog 55 #[.pointer (some ⟨c + 1, 0, none⟩), .int .i64 b] W fun e w' => DrP D ws W c k e w') :
    Calls Try.prog 53 #[.pointer (some ⟨c + 1, 0, none⟩), .func (.func 55) #[] #[], .int .i64 b, .int .i64 n0] w fun e w' => RwP (drP D k0 n0) w c e w' := by
  obtain ⟨i0, hi, hz0, hz1, hz2⟩ := info_parts Try.infoInt
  have HD : Hid (∀ k W, Pu W c ws k → Calls Try.prog 55 #[.pointer (some ⟨c + 1, 0, none⟩), .int .i64 b] W fun e w' => DrP D ws W c k e w') := hD
  have HP : Hid (Pu w c ws k0) := h
  have HQ : Hid (c + 1 < w.heap.size) := h.lt
  clear h hD
  go_enter Try.func53, Try.ntmps53
  go_wp2_with (at_make; refine wpList_make_full _ rfl _ _ 23 rfl w.heap.size 3 i0 (.int .i64 0) 1 Try.underlying23 hi hz0 hz1 .i64 .i64 _ _ n0 rfl rfl rfl rfl (by rw [hz2]; omega) (by unfold maxLen; omega) (Nat.le_refl _) ?_; intro w1 hown hgrow)
  rw [made_ints, show List.replicate n0 (0 : Int) = zfill [] n0 by simp [zfill]] at hown
  have HO : Hid (w1.ownsRow w.heap.size 3 1 (.slice (some ⟨w.heap.size, 0, none⟩) n0 n0) n0 ((zfill [] n0).map (Value.int .i64))) := hown
  have HG0 : Hid (Old w w1) := Below.grown (Below.refl _ _) hgrow (Nat.le_refl _) (fun _ h => by cases h)
  clear hown hgrow
  go_loopw [19] (fun i W => ∃ j : Nat, j ≤ n0 ∧ i = .int .i64 j ∧ Hid (Chg w W c (c + 2)) ∧ ∃ l k, Hid (drP D k0 j = some (l, k)) ∧ Hid (W.ownsRow w.heap.size 3 1 (.slice (some ⟨w.heap.size, 0, none⟩) n0 n0) n0 ((zfill l n0).map (Value.int .i64))) ∧ Hid (Pu W c ws k)) (fun i _ => n0 - (intOf i).toNat)
  case atStart => exact ⟨0, by omega, rfl, HG0.out.toChg _ _, [], k0, rfl, HO, HP.out.old HG0.out⟩
  case round =>
    obtain ⟨j, hj, rfl, HG, l, k, HR, HO1, HP1⟩ := hrel
    clear HO HG0 HP
    have HL : Hid (l.length = j) := drP_len j l k HR.out
    by_cases hlt : j < n0
    · have dl : decide ((j : Int) < (n0 : Int)) = true := by simp; omega
      go_wp2_with fail
      refine (HD.out k wr HP1.out).mono ?_
      rintro e w1 ⟨g1, ⟨x, k', h1, rfl, h3⟩ | ⟨h1, y, rfl⟩⟩
      · have HR1 : Hid (drP D k0 (j + 1) = some (l ++ [x], k')) := drP_succ HR.out h1
        have HG1 : Hid (Chg w w1 c (c + 2)) := HG.out.trans g1
        have zl : (zfill l n0).length = n0 := zfill_len l n0 (by rw [HL.out]; omega)
        have HO2 : Hid (w1.ownsRow w.heap.size 3 1 (.slice (some ⟨w.heap.size, 0, none⟩) n0 n0) n0 ((zfill l n0).map (Value.int .i64))) := by
          have hx : Own wr w.heap.size (.slice (some ⟨w.heap.size, 0, none⟩) n0 n0) (zfill l n0) := by unfold Own; rw [zl]; exact HO1.out
          have := hx.chg g1 (fun p hp => Or.inr (by have := (hx.lt p hp).1; have := HQ.out; omega))
          unfold Own at this
          rw [zl] at this
          exact this
        have HP2 : Hid (Pu w1 c ws k') := h3
        have c2 : w1.cell? ⟨w.heap.size, j, none⟩ = some (.int .i64 ((zfill l n0).getD j 0)) := by
          rw [World.ownsRow.cellAt HO2.out j (by omega)]
          simp [List.getD, zl, hlt]
        have c3 : w1.frozen? ⟨w.heap.size, j, none⟩ = false := World.ownsRow.frozenAt HO2.out j
        have HS : Hid ((w1.setCell ⟨w.heap.size, j, none⟩ (.int .i64 x)).ownsRow w.heap.size 3 1 (.slice (some ⟨w.heap.size, 0, none⟩) n0 n0) n0 ((zfill (l ++ [x]) n0).map (Value.int .i64))) := by
          have := (World.ownsRow.stored HO2.out j (.int .i64 x)).1
          rw [← List.map_set, ← HL.out, zfill_set l n0 x (by rw [HL.out]; exact hlt)] at this
          rw [HL.out] at this
          exact this
        have HC2 : Hid (Chg w (w1.setCell ⟨w.heap.size, j, none⟩ (.int .i64 x)) c (c + 2)) :=
          ⟨HG1.out.os, HG1.out.tape, HG1.out.output, by rw [World.size_setCell]; exact HG1.out.size, fun p hp ho => (heap_setCell_other w1 ⟨w.heap.size, j, none⟩ p _ (by show p ≠ w.heap.size; omega)).trans (HG1.out.block p hp ho)⟩
        have HP3 : Hid (Pu (w1.setCell ⟨w.heap.size, j, none⟩ (.int .i64 x)) c ws k') := HP2.out.chg (chg_setCell _ _ _ _) (Or.inl (by have := HQ.out; omega))
        generalize (zfill l n0).getD j 0 = y at c2
        clear g1 h3 HO1 HO2 HG HP1 HP2 zl h1 HG1 HR
        go_wp2_with fail
        exact ⟨⟨j + 1, by omega, by go_num, HC2, l ++ [x], k', HR1, HS, HP3⟩, by simp [intOf]; omega⟩
      · have HR1 : Hid (drP D k0 n0 = none) := by
          have := drP_none (drP_dry HR.out h1) (n0 - (j + 1))
          rw [show j + 1 + (n0 - (j + 1)) = n0 by omega] at this
          exact this
        have HG1 : Hid (Chg w w1 c (c + 2)) := HG.out.trans g1
        clear g1 HO1 HG HP1 h1 HR
        go_wp2_with fail
        go_ret3
        unfold RwP
        exact ⟨HG1.out, Or.inr ⟨HR1.out, rfl⟩⟩
    · have dl : decide ((j : Int) < (n0 : Int)) = false := by simp; omega
      obtain rfl : j = n0 := by omega
      have HF : Hid (Own wr w.heap.size (.slice (some ⟨w.heap.size, 0, none⟩) j j) l) := by
        have := HO1.out
        rw [zfill_all l j HL.out] at this
        unfold Own
        rw [HL.out]
        exact this
      have c1 : wr.cell? ⟨c + 1, 1, none⟩ = some (.int .i64 (k : Int)) := by rw [cell_of_row _ _ _ _ _ _ HP1.out.cells]; rfl
      clear HO1 HP1
      go_wp2_with fail
      go_quiet (fail)
      go_wp2_with fail
      go_ret3
      unfold RwP
      exact ⟨HG.out.trans (chg_drew _ _ _ _), Or.inl ⟨l, k, _, HR.out, rfl, HF.out.old ((Old.refl _).drewN _)⟩⟩
end Go.Proofs.Ytonbimgdkafnjaa
