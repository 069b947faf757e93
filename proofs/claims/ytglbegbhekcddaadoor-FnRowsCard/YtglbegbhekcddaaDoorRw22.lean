/- Proved: several texts in one: what each proves is said ahead of it. -/
import Derived.Test.YtglbegbhekcddaaDoorRw18
import Derived.Test.YtglbegbhekcddaaDoorRw12
/- Proved: the program's joinedRows with less. -/
namespace Go.Proofs.YtglbegbhekcddaaDoor
open Go.ChangeShapes Go.WideShapes Go.ChangeAt Go.RowKit
set_option linter.unusedVariables false
set_option linter.unusedSimpArgs false
set_option maxRecDepth 100000 in
set_option maxHeartbeats 8000000 in
theorem joined_less (N : Int) (a : Bool) (ps : List Int) (Rf : Nat → Int) (us : Nat → Value) (v : Value) (ps2 : List Int) (Rf2 : Nat → Int) (a2 : Bool) (us2 : Nat → Value) (v2 : Value) (m : Nat) (w : World) (hr : RdR w v m N a ps Rf us) (hus : ∀ k, k < m → ∃ x n c, us k = .slice x n c) (hr2 : RdR w v2 m N a2 ps2 Rf2 us2) (hus2 : ∀ k, k < m → ∃ x n c, us2 k = .slice x n c) (hm : 1 ≤ m ∧ m ≤ 1000) (zss : List (List Int))
    (cj : ∀ k, k < m → ∀ W, Old w W → Calls Tryd.prog 20 #[.agg #[.int .i64 (ps.getD k 0), .int .i64 N, .int .i64 (Rf k), .bool a, us k], .agg #[.int .i64 (ps2.getD k 0), .int .i64 N, .int .i64 (Rf2 k), .bool a2, us2 k]] W fun e w' => ∃ v', e = .returned v' ∧ Old W w' ∧ Own w' W.heap.size v' (zss.getD k [])) :
    Calls Tryd.prog 28 #[v, v2, .func (.func 20) #[] #[]] w fun e w' => e = .returned (.slice (some ⟨w.heap.size, 0, none⟩) m m) ∧ Old w w' ∧ Ows (TS 42 5 m (elR N a ps Rf zss)) w' w.heap.size w'.heap.size [.slice (some ⟨w.heap.size, 0, none⟩) m m] := by
  obtain ⟨i0, hi, hz0, hz1, hz2⟩ := info_parts Tryd.infoRingRow
  obtain ⟨b, cap, rfl, hb, hc⟩ := hr
  have HC : Hid (∀ k, k < m → w.cell? ⟨b, k * 5, none⟩ = some (.int .i64 (ps.getD k 0)) ∧ w.cell? ⟨b, k * 5 + 1, none⟩ = some (.int .i64 N) ∧ w.cell? ⟨b, k * 5 + 2, none⟩ = some (.int .i64 (Rf k)) ∧ w.cell? ⟨b, k * 5 + 3, none⟩ = some (.bool a) ∧ w.cell? ⟨b, k * 5 + 4, none⟩ = some (us k)) := hc
  have HUS : Hid (∀ k, k < m → ∃ x n c, us k = .slice x n c) := hus
  have HCJ : Hid (∀ k, k < m → ∀ W, Old w W → Calls Tryd.prog 20 #[.agg #[.int .i64 (ps.getD k 0), .int .i64 N, .int .i64 (Rf k), .bool a, us k], .agg #[.int .i64 (ps2.getD k 0), .int .i64 N, .int .i64 (Rf2 k), .bool a2, us2 k]] W fun e w' => ∃ v', e = .returned v' ∧ Old W w' ∧ Own w' W.heap.size v' (zss.getD k [])) := cj
  obtain ⟨b2, cap2, rfl, hb2, hc2⟩ := hr2
  have HC2 : Hid (∀ k, k < m → w.cell? ⟨b2, k * 5, none⟩ = some (.int .i64 (ps2.getD k 0)) ∧ w.cell? ⟨b2, k * 5 + 1, none⟩ = some (.int .i64 N) ∧ w.cell? ⟨b2, k * 5 + 2, none⟩ = some (.int .i64 (Rf2 k)) ∧ w.cell? ⟨b2, k * 5 + 3, none⟩ = some (.bool a2) ∧ w.cell? ⟨b2, k * 5 + 4, none⟩ = some (us2 k)) := hc2
  have HUS2 : Hid (∀ k, k < m → ∃ x n c, us2 k = .slice x n c) := hus2
  clear hc2 hus2
  have HEL : Hid (∀ k, elR N a ps Rf zss k = TR (ps.getD k 0) N (Rf k) a (TI (zss.getD k []))) := fun k => rfl
  have HGD : Hid (∀ k, GoodT (elR N a ps Rf zss k)) := good_elR N a ps Rf zss
  generalize elR N a ps Rf zss = Es at *
  clear hc hus cj
  go_enter Tryd.func28, Tryd.ntmps28
  go_wp2_with (at_make; refine wpList_make_full _ rfl _ _ 55 rfl 0 42 i0 (.agg #[.int .i64 0, .int .i64 0, .int .i64 0, .bool false, .slice none 0 0]) 5 Tryd.underlying55 hi hz0 hz1 .i64 .i64 _ _ m rfl rfl rfl rfl (by rw [hz2]; omega) (by unfold maxLen; omega) (Nat.zero_le _) ?_; intro w1 hown hgrow)
  have HO : Hid (TSc 42 5 m 0 Es w1 w.heap.size m _ (fun _ _ => False)) := TSc.start hown
  have HG : Hid (Old w w1) := Below.grown (Below.refl _ _) hgrow (Nat.le_refl _) (fun _ h => by cases h)
  clear hown hgrow
  go_loopw [15, 8, 9] (fun i _ _ W => ∃ (k : Nat) (vs : List Value) (Bs : Nat → Nat → Prop), k ≤ m ∧ i = .int .i64 k ∧ Hid (TSc 42 5 m k Es W w.heap.size m vs Bs) ∧ Hid (∀ j b, j < k → Bs j b → w.heap.size < b) ∧ Hid (Old w W)) (fun i _ _ _ => m - (intOf i).toNat)
  case atStart => exact ⟨0, _, _, by omega, rfl, HO, (fun j b hj => by omega), HG⟩
  case round =>
    obtain ⟨k, vs, Bs, hk, rfl, H1, HB, HG1⟩ := hrel
    clear HO HG
    by_cases hlt : k < m
    · have d1 : decide ((k : Int) < (m : Int)) = true := by simp; omega
      have ilt : (k : Int) < (m : Int) := by omega
      obtain ⟨c0, c1, c2, c3, c4⟩ := HC.out k hlt
      obtain ⟨xu, nu, cu, eu⟩ := HUS.out k hlt
      have cj := HCJ.out k hlt
      rw [eu] at c4 cj
      obtain ⟨e0, e1, e2, e3, e4⟩ := HC2.out k hlt
      obtain ⟨xv, nv, cv, ev⟩ := HUS2.out k hlt
      rw [ev] at e4 cj
      have q0 := (HG1.out.cell (p := ⟨b, k * 5, none⟩) hb).trans c0
      have q1 := (HG1.out.cell (p := ⟨b, k * 5 + 1, none⟩) hb).trans c1
      have q2 := (HG1.out.cell (p := ⟨b, k * 5 + 2, none⟩) hb).trans c2
      have q3 := (HG1.out.cell (p := ⟨b, k * 5 + 3, none⟩) hb).trans c3
      have q4 := (HG1.out.cell (p := ⟨b, k * 5 + 4, none⟩) hb).trans c4
      have r0 := (HG1.out.cell (p := ⟨b2, k * 5, none⟩) hb2).trans e0
      have r1 := (HG1.out.cell (p := ⟨b2, k * 5 + 1, none⟩) hb2).trans e1
      have r2 := (HG1.out.cell (p := ⟨b2, k * 5 + 2, none⟩) hb2).trans e2
      have r3 := (HG1.out.cell (p := ⟨b2, k * 5 + 3, none⟩) hb2).trans e3
      have r4 := (HG1.out.cell (p := ⟨b2, k * 5 + 4, none⟩) hb2).trans e4
      have hbr2 : b2 < wr.heap.size := Nat.lt_of_lt_of_le hb2 HG1.out.size
      have hsr : w.heap.size < wr.heap.size := ownsRow_lt H1.out.row
      have HEK : Hid (Es k = TR (ps.getD k 0) N (Rf k) a (TI (zss.getD k []))) := HEL.out k
      clear c0 c1 c2 c3 c4 eu e0 e1 e2 e3 e4 ev
      generalize ps.getD k 0 = P at *
      generalize Rf k = R at *
      generalize zss.getD k [] = zs at *
      generalize ps2.getD k 0 = P2 at *
      generalize Rf2 k = R2 at *
      have HAS5 : Hid (∀ W', Old (wr.alloc (.cells #[.int .i64 P, .int .i64 N, .int .i64 R, .bool a, .slice xu nu cu] 42)) W' → (W'.cell? ⟨wr.heap.size, 0, none⟩ = some (.int .i64 P) ∧ W'.cell? ⟨wr.heap.size, 1, none⟩ = some (.int .i64 N) ∧ W'.cell? ⟨wr.heap.size, 2, none⟩ = some (.int .i64 R) ∧ W'.cell? ⟨wr.heap.size, 3, none⟩ = some (.bool a) ∧ W'.cell? ⟨wr.heap.size, 4, none⟩ = some (.slice xu nu cu) ∧ W'.cell? ⟨b2, k * 5, none⟩ = some (.int .i64 P2) ∧ W'.cell? ⟨b2, k * 5 + 1, none⟩ = some (.int .i64 N) ∧ W'.cell? ⟨b2, k * 5 + 2, none⟩ = some (.int .i64 R2) ∧ W'.cell? ⟨b2, k * 5 + 3, none⟩ = some (.bool a2) ∧ W'.cell? ⟨b2, k * 5 + 4, none⟩ = some (.slice xv nv cv))) := fun W' q => by
        have q' := Old.trans ((Old.refl wr).alloc _) q
        exact ⟨(q.cell (p := ⟨wr.heap.size, 0, none⟩) (by simp)).trans (cell_at _ _ _ _ _ rfl), (q.cell (p := ⟨wr.heap.size, 1, none⟩) (by simp)).trans (cell_at _ _ _ _ _ rfl), (q.cell (p := ⟨wr.heap.size, 2, none⟩) (by simp)).trans (cell_at _ _ _ _ _ rfl), (q.cell (p := ⟨wr.heap.size, 3, none⟩) (by simp)).trans (cell_at _ _ _ _ _ rfl), (q.cell (p := ⟨wr.heap.size, 4, none⟩) (by simp)).trans (cell_at _ _ _ _ _ rfl), (q'.cell (p := ⟨b2, k * 5, none⟩) hbr2).trans r0, (q'.cell (p := ⟨b2, k * 5 + 1, none⟩) hbr2).trans r1, (q'.cell (p := ⟨b2, k * 5 + 2, none⟩) hbr2).trans r2, (q'.cell (p := ⟨b2, k * 5 + 3, none⟩) hbr2).trans r3, (q'.cell (p := ⟨b2, k * 5 + 4, none⟩) hbr2).trans r4⟩
      have HAS6 : Hid (∀ W' y0 y1 y2 y3 y4, Old (wr.alloc (.cells #[.int .i64 P, .int .i64 N, .int .i64 R, .bool a, .slice xu nu cu] 42)) W' → ((fun W' => W'.cell? ⟨wr.heap.size, 0, none⟩ = some (.int .i64 P) ∧ W'.cell? ⟨wr.heap.size, 1, none⟩ = some (.int .i64 N) ∧ W'.cell? ⟨wr.heap.size, 2, none⟩ = some (.int .i64 R) ∧ W'.cell? ⟨wr.heap.size, 3, none⟩ = some (.bool a) ∧ W'.cell? ⟨wr.heap.size, 4, none⟩ = some (.slice xu nu cu) ∧ W'.cell? ⟨b2, k * 5, none⟩ = some (.int .i64 P2) ∧ W'.cell? ⟨b2, k * 5 + 1, none⟩ = some (.int .i64 N) ∧ W'.cell? ⟨b2, k * 5 + 2, none⟩ = some (.int .i64 R2) ∧ W'.cell? ⟨b2, k * 5 + 3, none⟩ = some (.bool a2) ∧ W'.cell? ⟨b2, k * 5 + 4, none⟩ = some (.slice xv nv cv)) (((((W'.setCell ⟨w.heap.size, k * 5, none⟩ y0).setCell ⟨w.heap.size, k * 5 + 1, none⟩ y1).setCell ⟨w.heap.size, k * 5 + 2, none⟩ y2).setCell ⟨w.heap.size, k * 5 + 3, none⟩ y3).setCell ⟨w.heap.size, k * 5 + 4, none⟩ y4))) := fun W' y0 y1 y2 y3 y4 q => by
        obtain ⟨s0, s1, s2, s3, s4, s5, s6, s7, s8, s9⟩ := HAS5.out W' q
        have key : ∀ (bb j : Nat) (z : Value), bb ≠ w.heap.size → W'.cell? ⟨bb, j, none⟩ = some z → (((((W'.setCell ⟨w.heap.size, k * 5, none⟩ y0).setCell ⟨w.heap.size, k * 5 + 1, none⟩ y1).setCell ⟨w.heap.size, k * 5 + 2, none⟩ y2).setCell ⟨w.heap.size, k * 5 + 3, none⟩ y3).setCell ⟨w.heap.size, k * 5 + 4, none⟩ y4).cell? ⟨bb, j, none⟩ = some z := fun bb j z hb hz => by
          rw [cellO _ _ _ _ hb, cellO _ _ _ _ hb, cellO _ _ _ _ hb, cellO _ _ _ _ hb, cellO _ _ _ _ hb]
          exact hz
        exact ⟨key _ _ _ (by omega) s0, key _ _ _ (by omega) s1, key _ _ _ (by omega) s2, key _ _ _ (by omega) s3, key _ _ _ (by omega) s4, key _ _ _ (by omega) s5, key _ _ _ (by omega) s6, key _ _ _ (by omega) s7, key _ _ _ (by omega) s8, key _ _ _ (by omega) s9⟩
      have HGA : Hid (Old w (wr.alloc (.cells #[.int .i64 P, .int .i64 N, .int .i64 R, .bool a, .slice xu nu cu] 42))) := HG1.out.alloc _
      have HX : Hid (∀ w6 y n c Bz, Old (wr.alloc (.cells #[.int .i64 P, .int .i64 N, .int .i64 R, .bool a, .slice xu nu cu] 42)) w6 → TI zs w6 Bz [.slice y n c] → (∀ b, Bz b → wr.heap.size + 1 ≤ b) → (∃ vs', TSc 42 5 m (k + 1) Es (((((w6.setCell ⟨w.heap.size, k * 5, none⟩ (.int .i64 P)).setCell ⟨w.heap.size, k * 5 + 1, none⟩ (.int .i64 N)).setCell ⟨w.heap.size, k * 5 + 2, none⟩ (.int .i64 R)).setCell ⟨w.heap.size, k * 5 + 3, none⟩ (.bool a)).setCell ⟨w.heap.size, k * 5 + 4, none⟩ (.slice y n c)) w.heap.size m vs' (fun q => if q = k then Bz else Bs q)) ∧ (∀ j b, j < k + 1 → (fun q => if q = k then Bz else Bs q) j b → w.heap.size < b) ∧ Old w (((((w6.setCell ⟨w.heap.size, k * 5, none⟩ (.int .i64 P)).setCell ⟨w.heap.size, k * 5 + 1, none⟩ (.int .i64 N)).setCell ⟨w.heap.size, k * 5 + 2, none⟩ (.int .i64 R)).setCell ⟨w.heap.size, k * 5 + 3, none⟩ (.bool a)).setCell ⟨w.heap.size, k * 5 + 4, none⟩ (.slice y n c))) := fun w6 y n c Bz g6 hTI hlo => by
        have g7 := Old.trans ((Old.refl wr).alloc _) g6
        refine ⟨(H1.out.old HGD.out g7).store5 HGD.out hlt _ _ _ _ _ (B := Bz) (fun W' hW' => ?_) (fun hb => by have := hlo _ hb; omega) (fun j hj b h1 h2 => ?_), fun j b hj hb => ?_, ?_⟩
        · rw [HEK.out]
          exact ⟨_, rfl, (good_TI zs).far hTI (fun b hb => hW' b (by have := hlo b hb; omega))⟩
        · have h4 := H1.out.lt HGD.out j b hj h1
          have := hlo b h2
          omega
        · by_cases e : j = k
          · simp only [e, if_true] at hb
            have := hlo b hb
            omega
          · simp only [e, if_false] at hb
            exact HB.out j b (by omega) hb
        · exact (((((Old.trans HG1.out g7).own (p := ⟨w.heap.size, k * 5, none⟩) (Nat.le_refl _) _).own (p := ⟨w.heap.size, k * 5 + 1, none⟩) (Nat.le_refl _) _).own (p := ⟨w.heap.size, k * 5 + 2, none⟩) (Nat.le_refl _) _).own (p := ⟨w.heap.size, k * 5 + 3, none⟩) (Nat.le_refl _) _).own (p := ⟨w.heap.size, k * 5 + 4, none⟩) (Nat.le_refl _) _
      have HCE : Hid (∀ w6, Old (wr.alloc (.cells #[.int .i64 P, .int .i64 N, .int .i64 R, .bool a, .slice xu nu cu] 42)) w6 → ∀ i, i < 5 → (∃ z, w6.cell? ⟨w.heap.size, k * 5 + i, none⟩ = some z) ∧ w6.frozen? ⟨w.heap.size, k * 5 + i, none⟩ = false) := fun w6 g6 i hi5 => by
        have H2 := H1.out.old HGD.out (Old.trans ((Old.refl wr).alloc _) g6)
        have h5 := H2.cell k i hlt hi5
        have h6 := cellsJ_len H2.row.1 k hlt
        exact ⟨⟨_, h5.trans (List.getElem?_eq_getElem (by omega))⟩, H2.frozen _⟩
      clear r0 r1 r2 r3 r4
      clear H1 HB HEK
      go_wp2_with fail
      go_region_held3 (fun W' => W'.cell? ⟨wr.heap.size, 0, none⟩ = some (.int .i64 P) ∧ W'.cell? ⟨wr.heap.size, 1, none⟩ = some (.int .i64 N) ∧ W'.cell? ⟨wr.heap.size, 2, none⟩ = some (.int .i64 R) ∧ W'.cell? ⟨wr.heap.size, 3, none⟩ = some (.bool a) ∧ W'.cell? ⟨wr.heap.size, 4, none⟩ = some (.slice xu nu cu) ∧ W'.cell? ⟨b2, k * 5, none⟩ = some (.int .i64 P2) ∧ W'.cell? ⟨b2, k * 5 + 1, none⟩ = some (.int .i64 N) ∧ W'.cell? ⟨b2, k * 5 + 2, none⟩ = some (.int .i64 R2) ∧ W'.cell? ⟨b2, k * 5 + 3, none⟩ = some (.bool a2) ∧ W'.cell? ⟨b2, k * 5 + 4, none⟩ = some (.slice xv nv cv)) (first | with_reducible exact HAS5.out _ Q6.out | with_reducible exact HAS5.out _ Q5.out | with_reducible exact HAS5.out _ (Below.drew (Old.refl _)) | with_reducible exact HAS6.out _ _ _ _ _ _ Q6.out | with_reducible exact HAS5.out _ (Old.refl _)) (first
        | (go_at_call 20; refine (cj _ (Below.drew HGA.out)).mono ?_; rintro e w5 ⟨v5, rfl, q5, o5⟩; obtain ⟨x5, c5, rfl⟩ := (Own.row o5).slice; have Q5 : Hid (Old (wr.alloc (.cells #[.int .i64 P, .int .i64 N, .int .i64 R, .bool a, .slice xu nu cu] 42)) w5) := Old.trans (Below.drew (Old.refl _)) q5; have O5 : Hid (Own w5 (wr.heap.size + 1) (.slice x5 zs.length c5) zs) := (by simp at o5; exact o5); clear q5 o5)
        | (go_at_call 47; refine (with_any _ _ _ _ _ _ _ _ _ _ _).mono ?_; rintro e w6 ⟨rfl, q6⟩; have Q6 : Hid (Old (wr.alloc (.cells #[.int .i64 P, .int .i64 N, .int .i64 R, .bool a, .slice xu nu cu] 42)) w6) := Old.trans Q5.out q6; have O6 : Hid (Own w6 (wr.heap.size + 1) (.slice x5 zs.length c5) zs) := O5.out.old q6; clear q6; obtain ⟨⟨z0, hz0⟩, hf0⟩ := HCE.out w6 Q6.out 0 (by omega); obtain ⟨⟨z1, hz1⟩, hf1⟩ := HCE.out w6 Q6.out 1 (by omega); obtain ⟨⟨z2, hz2⟩, hf2⟩ := HCE.out w6 Q6.out 2 (by omega); obtain ⟨⟨z3, hz3⟩, hf3⟩ := HCE.out w6 Q6.out 3 (by omega); obtain ⟨⟨z4, hz4⟩, hf4⟩ := HCE.out w6 Q6.out 4 (by omega); rw [Nat.add_zero] at hz0 hf0)
        | fail)
      all_goals
        obtain ⟨Bz, hTI, hlo⟩ := TI.of O6.out
        obtain ⟨⟨vs', n1⟩, n2, n3⟩ := HX.out w6 x5 zs.length c5 Bz Q6.out hTI hlo
        have N1 : Hid (TSc 42 5 m (k + 1) Es (((((w6.setCell ⟨w.heap.size, k * 5, none⟩ (.int .i64 P)).setCell ⟨w.heap.size, k * 5 + 1, none⟩ (.int .i64 N)).setCell ⟨w.heap.size, k * 5 + 2, none⟩ (.int .i64 R)).setCell ⟨w.heap.size, k * 5 + 3, none⟩ (.bool a)).setCell ⟨w.heap.size, k * 5 + 4, none⟩ (.slice x5 zs.length c5)) w.heap.size m vs' (fun q => if q = k then Bz else Bs q)) := n1
        have N2 : Hid (∀ j b, j < k + 1 → (fun q => if q = k then Bz else Bs q) j b → w.heap.size < b) := n2
        have N3 : Hid (Old w (((((w6.setCell ⟨w.heap.size, k * 5, none⟩ (.int .i64 P)).setCell ⟨w.heap.size, k * 5 + 1, none⟩ (.int .i64 N)).setCell ⟨w.heap.size, k * 5 + 2, none⟩ (.int .i64 R)).setCell ⟨w.heap.size, k * 5 + 3, none⟩ (.bool a)).setCell ⟨w.heap.size, k * 5 + 4, none⟩ (.slice x5 zs.length c5))) := n3
        clear n1 n2 n3 hTI hlo HX
        go_wp2_with fail
        exact ⟨⟨k + 1, vs', _, by omega, by go_num, N1, N2, N3⟩, by simp [intOf]; omega⟩
    · have d1 : decide ((k : Int) < (m : Int)) = false := by simp; omega
      obtain rfl : k = m := by omega
      have HE : Hid (Ows (TS 42 5 k Es) wr w.heap.size wr.heap.size [.slice (some ⟨w.heap.size, 0, none⟩) k k]) := H1.out.done HGD.out (Nat.le_refl _) (fun j b hj hb => Nat.le_of_lt (HB.out j b hj hb))
      go_wp2_with fail
      go_ret
      exact ⟨rfl, HG1.out, HE.out⟩
end Go.Proofs.YtglbegbhekcddaaDoor
/- Proved: the program's joinedRows with times. -/
namespace Go.Proofs.YtglbegbhekcddaaDoor
open Go.ChangeShapes Go.WideShapes Go.ChangeAt Go.RowKit
set_option linter.unusedVariables false
set_option linter.unusedSimpArgs false
set_option maxRecDepth 100000 in
set_option maxHeartbeats 8000000 in
theorem joined_times (N : Int) (a : Bool) (ps : List Int) (Rf : Nat → Int) (us : Nat → Value) (v : Value) (ps2 : List Int) (Rf2 : Nat → Int) (a2 : Bool) (us2 : Nat → Value) (v2 : Value) (m : Nat) (w : World) (hr : RdR w v m N a ps Rf us) (hus : ∀ k, k < m → ∃ x n c, us k = .slice x n c) (hr2 : RdR w v2 m N a2 ps2 Rf2 us2) (hus2 : ∀ k, k < m → ∃ x n c, us2 k = .slice x n c) (hm : 1 ≤ m ∧ m ≤ 1000) (zss : List (List Int))
    (cj : ∀ k, k < m → ∀ W, Old w W → Calls Tryd.prog 14 #[.agg #[.int .i64 (ps.getD k 0), .int .i64 N, .int .i64 (Rf k), .bool a, us k], .agg #[.int .i64 (ps2.getD k 0), .int .i64 N, .int .i64 (Rf2 k), .bool a2, us2 k]] W fun e w' => ∃ v', e = .returned v' ∧ Old W w' ∧ Own w' W.heap.size v' (zss.getD k [])) :
    Calls Tryd.prog 28 #[v, v2, .func (.func 14) #[] #[]] w fun e w' => e = .returned (.slice (some ⟨w.heap.size, 0, none⟩) m m) ∧ Old w w' ∧ Ows (TS 42 5 m (elR N a ps Rf zss)) w' w.heap.size w'.heap.size [.slice (some ⟨w.heap.size, 0, none⟩) m m] := by
  obtain ⟨i0, hi, hz0, hz1, hz2⟩ := info_parts Tryd.infoRingRow
  obtain ⟨b, cap, rfl, hb, hc⟩ := hr
  have HC : Hid (∀ k, k < m → w.cell? ⟨b, k * 5, none⟩ = some (.int .i64 (ps.getD k 0)) ∧ w.cell? ⟨b, k * 5 + 1, none⟩ = some (.int .i64 N) ∧ w.cell? ⟨b, k * 5 + 2, none⟩ = some (.int .i64 (Rf k)) ∧ w.cell? ⟨b, k * 5 + 3, none⟩ = some (.bool a) ∧ w.cell? ⟨b, k * 5 + 4, none⟩ = some (us k)) := hc
  have HUS : Hid (∀ k, k < m → ∃ x n c, us k = .slice x n c) := hus
  have HCJ : Hid (∀ k, k < m → ∀ W, Old w W → Calls Tryd.prog 14 #[.agg #[.int .i64 (ps.getD k 0), .int .i64 N, .int .i64 (Rf k), .bool a, us k], .agg #[.int .i64 (ps2.getD k 0), .int .i64 N, .int .i64 (Rf2 k), .bool a2, us2 k]] W fun e w' => ∃ v', e = .returned v' ∧ Old W w' ∧ Own w' W.heap.size v' (zss.getD k [])) := cj
  obtain ⟨b2, cap2, rfl, hb2, hc2⟩ := hr2
  have HC2 : Hid (∀ k, k < m → w.cell? ⟨b2, k * 5, none⟩ = some (.int .i64 (ps2.getD k 0)) ∧ w.cell? ⟨b2, k * 5 + 1, none⟩ = some (.int .i64 N) ∧ w.cell? ⟨b2, k * 5 + 2, none⟩ = some (.int .i64 (Rf2 k)) ∧ w.cell? ⟨b2, k * 5 + 3, none⟩ = some (.bool a2) ∧ w.cell? ⟨b2, k * 5 + 4, none⟩ = some (us2 k)) := hc2
  have HUS2 : Hid (∀ k, k < m → ∃ x n c, us2 k = .slice x n c) := hus2
  clear hc2 hus2
  have HEL : Hid (∀ k, elR N a ps Rf zss k = TR (ps.getD k 0) N (Rf k) a (TI (zss.getD k []))) := fun k => rfl
  have HGD : Hid (∀ k, GoodT (elR N a ps Rf zss k)) := good_elR N a ps Rf zss
  generalize elR N a ps Rf zss = Es at *
  clear hc hus cj
  go_enter Tryd.func28, Tryd.ntmps28
  go_wp2_with (at_make; refine wpList_make_full _ rfl _ _ 55 rfl 0 42 i0 (.agg #[.int .i64 0, .int .i64 0, .int .i64 0, .bool false, .slice none 0 0]) 5 Tryd.underlying55 hi hz0 hz1 .i64 .i64 _ _ m rfl rfl rfl rfl (by rw [hz2]; omega) (by unfold maxLen; omega) (Nat.zero_le _) ?_; intro w1 hown hgrow)
  have HO : Hid (TSc 42 5 m 0 Es w1 w.heap.size m _ (fun _ _ => False)) := TSc.start hown
  have HG : Hid (Old w w1) := Below.grown (Below.refl _ _) hgrow (Nat.le_refl _) (fun _ h => by cases h)
  clear hown hgrow
  go_loopw [15, 8, 9] (fun i _ _ W => ∃ (k : Nat) (vs : List Value) (Bs : Nat → Nat → Prop), k ≤ m ∧ i = .int .i64 k ∧ Hid (TSc 42 5 m k Es W w.heap.size m vs Bs) ∧ Hid (∀ j b, j < k → Bs j b → w.heap.size < b) ∧ Hid (Old w W)) (fun i _ _ _ => m - (intOf i).toNat)
  case atStart => exact ⟨0, _, _, by omega, rfl, HO, (fun j b hj => by omega), HG⟩
  case round =>
    obtain ⟨k, vs, Bs, hk, rfl, H1, HB, HG1⟩ := hrel
    clear HO HG
    by_cases hlt : k < m
    · have d1 : decide ((k : Int) < (m : Int)) = true := by simp; omega
      have ilt : (k : Int) < (m : Int) := by omega
      obtain ⟨c0, c1, c2, c3, c4⟩ := HC.out k hlt
      obtain ⟨xu, nu, cu, eu⟩ := HUS.out k hlt
      have cj := HCJ.out k hlt
      rw [eu] at c4 cj
      obtain ⟨e0, e1, e2, e3, e4⟩ := HC2.out k hlt
      obtain ⟨xv, nv, cv, ev⟩ := HUS2.out k hlt
      rw [ev] at e4 cj
      have q0 := (HG1.out.cell (p := ⟨b, k * 5, none⟩) hb).trans c0
      have q1 := (HG1.out.cell (p := ⟨b, k * 5 + 1, none⟩) hb).trans c1
      have q2 := (HG1.out.cell (p := ⟨b, k * 5 + 2, none⟩) hb).trans c2
      have q3 := (HG1.out.cell (p := ⟨b, k * 5 + 3, none⟩) hb).trans c3
      have q4 := (HG1.out.cell (p := ⟨b, k * 5 + 4, none⟩) hb).trans c4
      have r0 := (HG1.out.cell (p := ⟨b2, k * 5, none⟩) hb2).trans e0
      have r1 := (HG1.out.cell (p := ⟨b2, k * 5 + 1, none⟩) hb2).trans e1
      have r2 := (HG1.out.cell (p := ⟨b2, k * 5 + 2, none⟩) hb2).trans e2
      have r3 := (HG1.out.cell (p := ⟨b2, k * 5 + 3, none⟩) hb2).trans e3
      have r4 := (HG1.out.cell (p := ⟨b2, k * 5 + 4, none⟩) hb2).trans e4
      have hbr2 : b2 < wr.heap.size := Nat.lt_of_lt_of_le hb2 HG1.out.size
      have hsr : w.heap.size < wr.heap.size := ownsRow_lt H1.out.row
      have HEK : Hid (Es k = TR (ps.getD k 0) N (Rf k) a (TI (zss.getD k []))) := HEL.out k
      clear c0 c1 c2 c3 c4 eu e0 e1 e2 e3 e4 ev
      generalize ps.getD k 0 = P at *
      generalize Rf k = R at *
      generalize zss.getD k [] = zs at *
      generalize ps2.getD k 0 = P2 at *
      generalize Rf2 k = R2 at *
      have HAS5 : Hid (∀ W', Old (wr.alloc (.cells #[.int .i64 P, .int .i64 N, .int .i64 R, .bool a, .slice xu nu cu] 42)) W' → (W'.cell? ⟨wr.heap.size, 0, none⟩ = some (.int .i64 P) ∧ W'.cell? ⟨wr.heap.size, 1, none⟩ = some (.int .i64 N) ∧ W'.cell? ⟨wr.heap.size, 2, none⟩ = some (.int .i64 R) ∧ W'.cell? ⟨wr.heap.size, 3, none⟩ = some (.bool a) ∧ W'.cell? ⟨wr.heap.size, 4, none⟩ = some (.slice xu nu cu) ∧ W'.cell? ⟨b2, k * 5, none⟩ = some (.int .i64 P2) ∧ W'.cell? ⟨b2, k * 5 + 1, none⟩ = some (.int .i64 N) ∧ W'.cell? ⟨b2, k * 5 + 2, none⟩ = some (.int .i64 R2) ∧ W'.cell? ⟨b2, k * 5 + 3, none⟩ = some (.bool a2) ∧ W'.cell? ⟨b2, k * 5 + 4, none⟩ = some (.slice xv nv cv))) := fun W' q => by
        have q' := Old.trans ((Old.refl wr).alloc _) q
        exact ⟨(q.cell (p := ⟨wr.heap.size, 0, none⟩) (by simp)).trans (cell_at _ _ _ _ _ rfl), (q.cell (p := ⟨wr.heap.size, 1, none⟩) (by simp)).trans (cell_at _ _ _ _ _ rfl), (q.cell (p := ⟨wr.heap.size, 2, none⟩) (by simp)).trans (cell_at _ _ _ _ _ rfl), (q.cell (p := ⟨wr.heap.size, 3, none⟩) (by simp)).trans (cell_at _ _ _ _ _ rfl), (q.cell (p := ⟨wr.heap.size, 4, none⟩) (by simp)).trans (cell_at _ _ _ _ _ rfl), (q'.cell (p := ⟨b2, k * 5, none⟩) hbr2).trans r0, (q'.cell (p := ⟨b2, k * 5 + 1, none⟩) hbr2).trans r1, (q'.cell (p := ⟨b2, k * 5 + 2, none⟩) hbr2).trans r2, (q'.cell (p := ⟨b2, k * 5 + 3, none⟩) hbr2).trans r3, (q'.cell (p := ⟨b2, k * 5 + 4, none⟩) hbr2).trans r4⟩
      have HAS6 : Hid (∀ W' y0 y1 y2 y3 y4, Old (wr.alloc (.cells #[.int .i64 P, .int .i64 N, .int .i64 R, .bool a, .slice xu nu cu] 42)) W' → ((fun W' => W'.cell? ⟨wr.heap.size, 0, none⟩ = some (.int .i64 P) ∧ W'.cell? ⟨wr.heap.size, 1, none⟩ = some (.int .i64 N) ∧ W'.cell? ⟨wr.heap.size, 2, none⟩ = some (.int .i64 R) ∧ W'.cell? ⟨wr.heap.size, 3, none⟩ = some (.bool a) ∧ W'.cell? ⟨wr.heap.size, 4, none⟩ = some (.slice xu nu cu) ∧ W'.cell? ⟨b2, k * 5, none⟩ = some (.int .i64 P2) ∧ W'.cell? ⟨b2, k * 5 + 1, none⟩ = some (.int .i64 N) ∧ W'.cell? ⟨b2, k * 5 + 2, none⟩ = some (.int .i64 R2) ∧ W'.cell? ⟨b2, k * 5 + 3, none⟩ = some (.bool a2) ∧ W'.cell? ⟨b2, k * 5 + 4, none⟩ = some (.slice xv nv cv)) (((((W'.setCell ⟨w.heap.size, k * 5, none⟩ y0).setCell ⟨w.heap.size, k * 5 + 1, none⟩ y1).setCell ⟨w.heap.size, k * 5 + 2, none⟩ y2).setCell ⟨w.heap.size, k * 5 + 3, none⟩ y3).setCell ⟨w.heap.size, k * 5 + 4, none⟩ y4))) := fun W' y0 y1 y2 y3 y4 q => by
        obtain ⟨s0, s1, s2, s3, s4, s5, s6, s7, s8, s9⟩ := HAS5.out W' q
        have key : ∀ (bb j : Nat) (z : Value), bb ≠ w.heap.size → W'.cell? ⟨bb, j, none⟩ = some z → (((((W'.setCell ⟨w.heap.size, k * 5, none⟩ y0).setCell ⟨w.heap.size, k * 5 + 1, none⟩ y1).setCell ⟨w.heap.size, k * 5 + 2, none⟩ y2).setCell ⟨w.heap.size, k * 5 + 3, none⟩ y3).setCell ⟨w.heap.size, k * 5 + 4, none⟩ y4).cell? ⟨bb, j, none⟩ = some z := fun bb j z hb hz => by
          rw [cellO _ _ _ _ hb, cellO _ _ _ _ hb, cellO _ _ _ _ hb, cellO _ _ _ _ hb, cellO _ _ _ _ hb]
          exact hz
        exact ⟨key _ _ _ (by omega) s0, key _ _ _ (by omega) s1, key _ _ _ (by omega) s2, key _ _ _ (by omega) s3, key _ _ _ (by omega) s4, key _ _ _ (by omega) s5, key _ _ _ (by omega) s6, key _ _ _ (by omega) s7, key _ _ _ (by omega) s8, key _ _ _ (by omega) s9⟩
      have HGA : Hid (Old w (wr.alloc (.cells #[.int .i64 P, .int .i64 N, .int .i64 R, .bool a, .slice xu nu cu] 42))) := HG1.out.alloc _
      have HX : Hid (∀ w6 y n c Bz, Old (wr.alloc (.cells #[.int .i64 P, .int .i64 N, .int .i64 R, .bool a, .slice xu nu cu] 42)) w6 → TI zs w6 Bz [.slice y n c] → (∀ b, Bz b → wr.heap.size + 1 ≤ b) → (∃ vs', TSc 42 5 m (k + 1) Es (((((w6.setCell ⟨w.heap.size, k * 5, none⟩ (.int .i64 P)).setCell ⟨w.heap.size, k * 5 + 1, none⟩ (.int .i64 N)).setCell ⟨w.heap.size, k * 5 + 2, none⟩ (.int .i64 R)).setCell ⟨w.heap.size, k * 5 + 3, none⟩ (.bool a)).setCell ⟨w.heap.size, k * 5 + 4, none⟩ (.slice y n c)) w.heap.size m vs' (fun q => if q = k then Bz else Bs q)) ∧ (∀ j b, j < k + 1 → (fun q => if q = k then Bz else Bs q) j b → w.heap.size < b) ∧ Old w (((((w6.setCell ⟨w.heap.size, k * 5, none⟩ (.int .i64 P)).setCell ⟨w.heap.size, k * 5 + 1, none⟩ (.int .i64 N)).setCell ⟨w.heap.size, k * 5 + 2, none⟩ (.int .i64 R)).setCell ⟨w.heap.size, k * 5 + 3, none⟩ (.bool a)).setCell ⟨w.heap.size, k * 5 + 4, none⟩ (.slice y n c))) := fun w6 y n c Bz g6 hTI hlo => by
        have g7 := Old.trans ((Old.refl wr).alloc _) g6
        refine ⟨(H1.out.old HGD.out g7).store5 HGD.out hlt _ _ _ _ _ (B := Bz) (fun W' hW' => ?_) (fun hb => by have := hlo _ hb; omega) (fun j hj b h1 h2 => ?_), fun j b hj hb => ?_, ?_⟩
        · rw [HEK.out]
          exact ⟨_, rfl, (good_TI zs).far hTI (fun b hb => hW' b (by have := hlo b hb; omega))⟩
        · have h4 := H1.out.lt HGD.out j b hj h1
          have := hlo b h2
          omega
        · by_cases e : j = k
          · simp only [e, if_true] at hb
            have := hlo b hb
            omega
          · simp only [e, if_false] at hb
            exact HB.out j b (by omega) hb
        · exact (((((Old.trans HG1.out g7).own (p := ⟨w.heap.size, k * 5, none⟩) (Nat.le_refl _) _).own (p := ⟨w.heap.size, k * 5 + 1, none⟩) (Nat.le_refl _) _).own (p := ⟨w.heap.size, k * 5 + 2, none⟩) (Nat.le_refl _) _).own (p := ⟨w.heap.size, k * 5 + 3, none⟩) (Nat.le_refl _) _).own (p := ⟨w.heap.size, k * 5 + 4, none⟩) (Nat.le_refl _) _
      have HCE : Hid (∀ w6, Old (wr.alloc (.cells #[.int .i64 P, .int .i64 N, .int .i64 R, .bool a, .slice xu nu cu] 42)) w6 → ∀ i, i < 5 → (∃ z, w6.cell? ⟨w.heap.size, k * 5 + i, none⟩ = some z) ∧ w6.frozen? ⟨w.heap.size, k * 5 + i, none⟩ = false) := fun w6 g6 i hi5 => by
        have H2 := H1.out.old HGD.out (Old.trans ((Old.refl wr).alloc _) g6)
        have h5 := H2.cell k i hlt hi5
        have h6 := cellsJ_len H2.row.1 k hlt
        exact ⟨⟨_, h5.trans (List.getElem?_eq_getElem (by omega))⟩, H2.frozen _⟩
      clear r0 r1 r2 r3 r4
      clear H1 HB HEK
      go_wp2_with fail
      go_region_held3 (fun W' => W'.cell? ⟨wr.heap.size, 0, none⟩ = some (.int .i64 P) ∧ W'.cell? ⟨wr.heap.size, 1, none⟩ = some (.int .i64 N) ∧ W'.cell? ⟨wr.heap.size, 2, none⟩ = some (.int .i64 R) ∧ W'.cell? ⟨wr.heap.size, 3, none⟩ = some (.bool a) ∧ W'.cell? ⟨wr.heap.size, 4, none⟩ = some (.slice xu nu cu) ∧ W'.cell? ⟨b2, k * 5, none⟩ = some (.int .i64 P2) ∧ W'.cell? ⟨b2, k * 5 + 1, none⟩ = some (.int .i64 N) ∧ W'.cell? ⟨b2, k * 5 + 2, none⟩ = some (.int .i64 R2) ∧ W'.cell? ⟨b2, k * 5 + 3, none⟩ = some (.bool a2) ∧ W'.cell? ⟨b2, k * 5 + 4, none⟩ = some (.slice xv nv cv)) (first | with_reducible exact HAS5.out _ Q6.out | with_reducible exact HAS5.out _ Q5.out | with_reducible exact HAS5.out _ (Below.drew (Old.refl _)) | with_reducible exact HAS6.out _ _ _ _ _ _ Q6.out | with_reducible exact HAS5.out _ (Old.refl _)) (first
        | (go_at_call 14; refine (cj _ (Below.drew HGA.out)).mono ?_; rintro e w5 ⟨v5, rfl, q5, o5⟩; obtain ⟨x5, c5, rfl⟩ := (Own.row o5).slice; have Q5 : Hid (Old (wr.alloc (.cells #[.int .i64 P, .int .i64 N, .int .i64 R, .bool a, .slice xu nu cu] 42)) w5) := Old.trans (Below.drew (Old.refl _)) q5; have O5 : Hid (Own w5 (wr.heap.size + 1) (.slice x5 zs.length c5) zs) := (by simp at o5; exact o5); clear q5 o5)
        | (go_at_call 47; refine (with_any _ _ _ _ _ _ _ _ _ _ _).mono ?_; rintro e w6 ⟨rfl, q6⟩; have Q6 : Hid (Old (wr.alloc (.cells #[.int .i64 P, .int .i64 N, .int .i64 R, .bool a, .slice xu nu cu] 42)) w6) := Old.trans Q5.out q6; have O6 : Hid (Own w6 (wr.heap.size + 1) (.slice x5 zs.length c5) zs) := O5.out.old q6; clear q6; obtain ⟨⟨z0, hz0⟩, hf0⟩ := HCE.out w6 Q6.out 0 (by omega); obtain ⟨⟨z1, hz1⟩, hf1⟩ := HCE.out w6 Q6.out 1 (by omega); obtain ⟨⟨z2, hz2⟩, hf2⟩ := HCE.out w6 Q6.out 2 (by omega); obtain ⟨⟨z3, hz3⟩, hf3⟩ := HCE.out w6 Q6.out 3 (by omega); obtain ⟨⟨z4, hz4⟩, hf4⟩ := HCE.out w6 Q6.out 4 (by omega); rw [Nat.add_zero] at hz0 hf0)
        | fail)
      all_goals
        obtain ⟨Bz, hTI, hlo⟩ := TI.of O6.out
        obtain ⟨⟨vs', n1⟩, n2, n3⟩ := HX.out w6 x5 zs.length c5 Bz Q6.out hTI hlo
        have N1 : Hid (TSc 42 5 m (k + 1) Es (((((w6.setCell ⟨w.heap.size, k * 5, none⟩ (.int .i64 P)).setCell ⟨w.heap.size, k * 5 + 1, none⟩ (.int .i64 N)).setCell ⟨w.heap.size, k * 5 + 2, none⟩ (.int .i64 R)).setCell ⟨w.heap.size, k * 5 + 3, none⟩ (.bool a)).setCell ⟨w.heap.size, k * 5 + 4, none⟩ (.slice x5 zs.length c5)) w.heap.size m vs' (fun q => if q = k then Bz else Bs q)) := n1
        have N2 : Hid (∀ j b, j < k + 1 → (fun q => if q = k then Bz else Bs q) j b → w.heap.size < b) := n2
        have N3 : Hid (Old w (((((w6.setCell ⟨w.heap.size, k * 5, none⟩ (.int .i64 P)).setCell ⟨w.heap.size, k * 5 + 1, none⟩ (.int .i64 N)).setCell ⟨w.heap.size, k * 5 + 2, none⟩ (.int .i64 R)).setCell ⟨w.heap.size, k * 5 + 3, none⟩ (.bool a)).setCell ⟨w.heap.size, k * 5 + 4, none⟩ (.slice x5 zs.length c5))) := n3
        clear n1 n2 n3 hTI hlo HX
        go_wp2_with fail
        exact ⟨⟨k + 1, vs', _, by omega, by go_num, N1, N2, N3⟩, by simp [intOf]; omega⟩
    · have d1 : decide ((k : Int) < (m : Int)) = false := by simp; omega
      obtain rfl : k = m := by omega
      have HE : Hid (Ows (TS 42 5 k Es) wr w.heap.size wr.heap.size [.slice (some ⟨w.heap.size, 0, none⟩) k k]) := H1.out.done HGD.out (Nat.le_refl _) (fun j b hj hb => Nat.le_of_lt (HB.out j b hj hb))
      go_wp2_with fail
      go_ret
      exact ⟨rfl, HG1.out, HE.out⟩
end Go.Proofs.YtglbegbhekcddaaDoor
/- Proved: the program's changedRows with one of its changes. -/
namespace Go.Proofs.YtglbegbhekcddaaDoor
open Go.ChangeShapes Go.WideShapes Go.ChangeAt Go.RowKit
set_option linter.unusedVariables false
set_option linter.unusedSimpArgs false
set_option maxRecDepth 100000 in
set_option maxHeartbeats 8000000 in
theorem changed_ahead (N : Int) (a : Bool) (ps : List Int) (Rf : Nat → Int) (us : Nat → Value) (v : Value) (m : Nat) (w : World) (hr : RdR w v m N a ps Rf us) (hus : ∀ k, k < m → ∃ x n c, us k = .slice x n c) (hm : 1 ≤ m ∧ m ≤ 1000) (zss : List (List Int))
    (cj : ∀ k, k < m → ∀ W, Old w W → Calls Tryd.prog 21 #[.agg #[.int .i64 (ps.getD k 0), .int .i64 N, .int .i64 (Rf k), .bool a, us k]] W fun e w' => ∃ v', e = .returned v' ∧ Old W w' ∧ Own w' W.heap.size v' (zss.getD k [])) :
    Calls Tryd.prog 34 #[v, .func (.func 21) #[] #[]] w fun e w' => e = .returned (.slice (some ⟨w.heap.size, 0, none⟩) m m) ∧ Old w w' ∧ Ows (TS 42 5 m (elR N a ps Rf zss)) w' w.heap.size w'.heap.size [.slice (some ⟨w.heap.size, 0, none⟩) m m] := by
  obtain ⟨i0, hi, hz0, hz1, hz2⟩ := info_parts Tryd.infoRingRow
  obtain ⟨b, cap, rfl, hb, hc⟩ := hr
  have HC : Hid (∀ k, k < m → w.cell? ⟨b, k * 5, none⟩ = some (.int .i64 (ps.getD k 0)) ∧ w.cell? ⟨b, k * 5 + 1, none⟩ = some (.int .i64 N) ∧ w.cell? ⟨b, k * 5 + 2, none⟩ = some (.int .i64 (Rf k)) ∧ w.cell? ⟨b, k * 5 + 3, none⟩ = some (.bool a) ∧ w.cell? ⟨b, k * 5 + 4, none⟩ = some (us k)) := hc
  have HUS : Hid (∀ k, k < m → ∃ x n c, us k = .slice x n c) := hus
  have HCJ : Hid (∀ k, k < m → ∀ W, Old w W → Calls Tryd.prog 21 #[.agg #[.int .i64 (ps.getD k 0), .int .i64 N, .int .i64 (Rf k), .bool a, us k]] W fun e w' => ∃ v', e = .returned v' ∧ Old W w' ∧ Own w' W.heap.size v' (zss.getD k [])) := cj
  have HEL : Hid (∀ k, elR N a ps Rf zss k = TR (ps.getD k 0) N (Rf k) a (TI (zss.getD k []))) := fun k => rfl
  have HGD : Hid (∀ k, GoodT (elR N a ps Rf zss k)) := good_elR N a ps Rf zss
  generalize elR N a ps Rf zss = Es at *
  clear hc hus cj
  go_enter Tryd.func34, Tryd.ntmps34
  go_wp2_with (at_make; refine wpList_make_full _ rfl _ _ 55 rfl 0 42 i0 (.agg #[.int .i64 0, .int .i64 0, .int .i64 0, .bool false, .slice none 0 0]) 5 Tryd.underlying55 hi hz0 hz1 .i64 .i64 _ _ m rfl rfl rfl rfl (by rw [hz2]; omega) (by unfold maxLen; omega) (Nat.zero_le _) ?_; intro w1 hown hgrow)
  have HO : Hid (TSc 42 5 m 0 Es w1 w.heap.size m _ (fun _ _ => False)) := TSc.start hown
  have HG : Hid (Old w w1) := Below.grown (Below.refl _ _) hgrow (Nat.le_refl _) (fun _ h => by cases h)
  clear hown hgrow
  go_loopw [13, 6, 7] (fun i _ _ W => ∃ (k : Nat) (vs : List Value) (Bs : Nat → Nat → Prop), k ≤ m ∧ i = .int .i64 k ∧ Hid (TSc 42 5 m k Es W w.heap.size m vs Bs) ∧ Hid (∀ j b, j < k → Bs j b → w.heap.size < b) ∧ Hid (Old w W)) (fun i _ _ _ => m - (intOf i).toNat)
  case atStart => exact ⟨0, _, _, by omega, rfl, HO, (fun j b hj => by omega), HG⟩
  case round =>
    obtain ⟨k, vs, Bs, hk, rfl, H1, HB, HG1⟩ := hrel
    clear HO HG
    by_cases hlt : k < m
    · have d1 : decide ((k : Int) < (m : Int)) = true := by simp; omega
      have ilt : (k : Int) < (m : Int) := by omega
      obtain ⟨c0, c1, c2, c3, c4⟩ := HC.out k hlt
      obtain ⟨xu, nu, cu, eu⟩ := HUS.out k hlt
      have cj := HCJ.out k hlt
      rw [eu] at c4 cj
      have q0 := (HG1.out.cell (p := ⟨b, k * 5, none⟩) hb).trans c0
      have q1 := (HG1.out.cell (p := ⟨b, k * 5 + 1, none⟩) hb).trans c1
      have q2 := (HG1.out.cell (p := ⟨b, k * 5 + 2, none⟩) hb).trans c2
      have q3 := (HG1.out.cell (p := ⟨b, k * 5 + 3, none⟩) hb).trans c3
      have q4 := (HG1.out.cell (p := ⟨b, k * 5 + 4, none⟩) hb).trans c4
      have hsr : w.heap.size < wr.heap.size := ownsRow_lt H1.out.row
      have HEK : Hid (Es k = TR (ps.getD k 0) N (Rf k) a (TI (zss.getD k []))) := HEL.out k
      clear c0 c1 c2 c3 c4 eu
      generalize ps.getD k 0 = P at *
      generalize Rf k = R at *
      generalize zss.getD k [] = zs at *
      have HAS5 : Hid (∀ W', Old (wr.alloc (.cells #[.int .i64 P, .int .i64 N, .int .i64 R, .bool a, .slice xu nu cu] 42)) W' → (W'.cell? ⟨wr.heap.size, 0, none⟩ = some (.int .i64 P) ∧ W'.cell? ⟨wr.heap.size, 1, none⟩ = some (.int .i64 N) ∧ W'.cell? ⟨wr.heap.size, 2, none⟩ = some (.int .i64 R) ∧ W'.cell? ⟨wr.heap.size, 3, none⟩ = some (.bool a) ∧ W'.cell? ⟨wr.heap.size, 4, none⟩ = some (.slice xu nu cu))) := fun W' q => by
        have q' := Old.trans ((Old.refl wr).alloc _) q
        exact ⟨(q.cell (p := ⟨wr.heap.size, 0, none⟩) (by simp)).trans (cell_at _ _ _ _ _ rfl), (q.cell (p := ⟨wr.heap.size, 1, none⟩) (by simp)).trans (cell_at _ _ _ _ _ rfl), (q.cell (p := ⟨wr.heap.size, 2, none⟩) (by simp)).trans (cell_at _ _ _ _ _ rfl), (q.cell (p := ⟨wr.heap.size, 3, none⟩) (by simp)).trans (cell_at _ _ _ _ _ rfl), (q.cell (p := ⟨wr.heap.size, 4, none⟩) (by simp)).trans (cell_at _ _ _ _ _ rfl)⟩
      have HAS6 : Hid (∀ W' y0 y1 y2 y3 y4, Old (wr.alloc (.cells #[.int .i64 P, .int .i64 N, .int .i64 R, .bool a, .slice xu nu cu] 42)) W' → ((fun W' => W'.cell? ⟨wr.heap.size, 0, none⟩ = some (.int .i64 P) ∧ W'.cell? ⟨wr.heap.size, 1, none⟩ = some (.int .i64 N) ∧ W'.cell? ⟨wr.heap.size, 2, none⟩ = some (.int .i64 R) ∧ W'.cell? ⟨wr.heap.size, 3, none⟩ = some (.bool a) ∧ W'.cell? ⟨wr.heap.size, 4, none⟩ = some (.slice xu nu cu)) (((((W'.setCell ⟨w.heap.size, k * 5, none⟩ y0).setCell ⟨w.heap.size, k * 5 + 1, none⟩ y1).setCell ⟨w.heap.size, k * 5 + 2, none⟩ y2).setCell ⟨w.heap.size, k * 5 + 3, none⟩ y3).setCell ⟨w.heap.size, k * 5 + 4, none⟩ y4))) := fun W' y0 y1 y2 y3 y4 q => by
        obtain ⟨s0, s1, s2, s3, s4⟩ := HAS5.out W' q
        have key : ∀ (bb j : Nat) (z : Value), bb ≠ w.heap.size → W'.cell? ⟨bb, j, none⟩ = some z → (((((W'.setCell ⟨w.heap.size, k * 5, none⟩ y0).setCell ⟨w.heap.size, k * 5 + 1, none⟩ y1).setCell ⟨w.heap.size, k * 5 + 2, none⟩ y2).setCell ⟨w.heap.size, k * 5 + 3, none⟩ y3).setCell ⟨w.heap.size, k * 5 + 4, none⟩ y4).cell? ⟨bb, j, none⟩ = some z := fun bb j z hb hz => by
          rw [cellO _ _ _ _ hb, cellO _ _ _ _ hb, cellO _ _ _ _ hb, cellO _ _ _ _ hb, cellO _ _ _ _ hb]
          exact hz
        exact ⟨key _ _ _ (by omega) s0, key _ _ _ (by omega) s1, key _ _ _ (by omega) s2, key _ _ _ (by omega) s3, key _ _ _ (by omega) s4⟩
      have HGA : Hid (Old w (wr.alloc (.cells #[.int .i64 P, .int .i64 N, .int .i64 R, .bool a, .slice xu nu cu] 42))) := HG1.out.alloc _
      have HX : Hid (∀ w6 y n c Bz, Old (wr.alloc (.cells #[.int .i64 P, .int .i64 N, .int .i64 R, .bool a, .slice xu nu cu] 42)) w6 → TI zs w6 Bz [.slice y n c] → (∀ b, Bz b → wr.heap.size + 1 ≤ b) → (∃ vs', TSc 42 5 m (k + 1) Es (((((w6.setCell ⟨w.heap.size, k * 5, none⟩ (.int .i64 P)).setCell ⟨w.heap.size, k * 5 + 1, none⟩ (.int .i64 N)).setCell ⟨w.heap.size, k * 5 + 2, none⟩ (.int .i64 R)).setCell ⟨w.heap.size, k * 5 + 3, none⟩ (.bool a)).setCell ⟨w.heap.size, k * 5 + 4, none⟩ (.slice y n c)) w.heap.size m vs' (fun q => if q = k then Bz else Bs q)) ∧ (∀ j b, j < k + 1 → (fun q => if q = k then Bz else Bs q) j b → w.heap.size < b) ∧ Old w (((((w6.setCell ⟨w.heap.size, k * 5, none⟩ (.int .i64 P)).setCell ⟨w.heap.size, k * 5 + 1, none⟩ (.int .i64 N)).setCell ⟨w.heap.size, k * 5 + 2, none⟩ (.int .i64 R)).setCell ⟨w.heap.size, k * 5 + 3, none⟩ (.bool a)).setCell ⟨w.heap.size, k * 5 + 4, none⟩ (.slice y n c))) := fun w6 y n c Bz g6 hTI hlo => by
        have g7 := Old.trans ((Old.refl wr).alloc _) g6
        refine ⟨(H1.out.old HGD.out g7).store5 HGD.out hlt _ _ _ _ _ (B := Bz) (fun W' hW' => ?_) (fun hb => by have := hlo _ hb; omega) (fun j hj b h1 h2 => ?_), fun j b hj hb => ?_, ?_⟩
        · rw [HEK.out]
          exact ⟨_, rfl, (good_TI zs).far hTI (fun b hb => hW' b (by have := hlo b hb; omega))⟩
        · have h4 := H1.out.lt HGD.out j b hj h1
          have := hlo b h2
          omega
        · by_cases e : j = k
          · simp only [e, if_true] at hb
            have := hlo b hb
            omega
          · simp only [e, if_false] at hb
            exact HB.out j b (by omega) hb
        · exact (((((Old.trans HG1.out g7).own (p := ⟨w.heap.size, k * 5, none⟩) (Nat.le_refl _) _).own (p := ⟨w.heap.size, k * 5 + 1, none⟩) (Nat.le_refl _) _).own (p := ⟨w.heap.size, k * 5 + 2, none⟩) (Nat.le_refl _) _).own (p := ⟨w.heap.size, k * 5 + 3, none⟩) (Nat.le_refl _) _).own (p := ⟨w.heap.size, k * 5 + 4, none⟩) (Nat.le_refl _) _
      have HCE : Hid (∀ w6, Old (wr.alloc (.cells #[.int .i64 P, .int .i64 N, .int .i64 R, .bool a, .slice xu nu cu] 42)) w6 → ∀ i, i < 5 → (∃ z, w6.cell? ⟨w.heap.size, k * 5 + i, none⟩ = some z) ∧ w6.frozen? ⟨w.heap.size, k * 5 + i, none⟩ = false) := fun w6 g6 i hi5 => by
        have H2 := H1.out.old HGD.out (Old.trans ((Old.refl wr).alloc _) g6)
        have h5 := H2.cell k i hlt hi5
        have h6 := cellsJ_len H2.row.1 k hlt
        exact ⟨⟨_, h5.trans (List.getElem?_eq_getElem (by omega))⟩, H2.frozen _⟩
      clear H1 HB HEK
      go_wp2_with fail
      go_region_held3 (fun W' => W'.cell? ⟨wr.heap.size, 0, none⟩ = some (.int .i64 P) ∧ W'.cell? ⟨wr.heap.size, 1, none⟩ = some (.int .i64 N) ∧ W'.cell? ⟨wr.heap.size, 2, none⟩ = some (.int .i64 R) ∧ W'.cell? ⟨wr.heap.size, 3, none⟩ = some (.bool a) ∧ W'.cell? ⟨wr.heap.size, 4, none⟩ = some (.slice xu nu cu)) (first | with_reducible exact HAS5.out _ Q6.out | with_reducible exact HAS5.out _ Q5.out | with_reducible exact HAS5.out _ (Below.drew (Old.refl _)) | with_reducible exact HAS6.out _ _ _ _ _ _ Q6.out | with_reducible exact HAS5.out _ (Old.refl _)) (first
        | (go_at_call 21; refine (cj _ (Below.drew HGA.out)).mono ?_; rintro e w5 ⟨v5, rfl, q5, o5⟩; obtain ⟨x5, c5, rfl⟩ := (Own.row o5).slice; have Q5 : Hid (Old (wr.alloc (.cells #[.int .i64 P, .int .i64 N, .int .i64 R, .bool a, .slice xu nu cu] 42)) w5) := Old.trans (Below.drew (Old.refl _)) q5; have O5 : Hid (Own w5 (wr.heap.size + 1) (.slice x5 zs.length c5) zs) := (by simp at o5; exact o5); clear q5 o5)
        | (go_at_call 47; refine (with_any _ _ _ _ _ _ _ _ _ _ _).mono ?_; rintro e w6 ⟨rfl, q6⟩; have Q6 : Hid (Old (wr.alloc (.cells #[.int .i64 P, .int .i64 N, .int .i64 R, .bool a, .slice xu nu cu] 42)) w6) := Old.trans Q5.out q6; have O6 : Hid (Own w6 (wr.heap.size + 1) (.slice x5 zs.length c5) zs) := O5.out.old q6; clear q6; obtain ⟨⟨z0, hz0⟩, hf0⟩ := HCE.out w6 Q6.out 0 (by omega); obtain ⟨⟨z1, hz1⟩, hf1⟩ := HCE.out w6 Q6.out 1 (by omega); obtain ⟨⟨z2, hz2⟩, hf2⟩ := HCE.out w6 Q6.out 2 (by omega); obtain ⟨⟨z3, hz3⟩, hf3⟩ := HCE.out w6 Q6.out 3 (by omega); obtain ⟨⟨z4, hz4⟩, hf4⟩ := HCE.out w6 Q6.out 4 (by omega); rw [Nat.add_zero] at hz0 hf0)
        | fail)
      all_goals
        obtain ⟨Bz, hTI, hlo⟩ := TI.of O6.out
        obtain ⟨⟨vs', n1⟩, n2, n3⟩ := HX.out w6 x5 zs.length c5 Bz Q6.out hTI hlo
        have N1 : Hid (TSc 42 5 m (k + 1) Es (((((w6.setCell ⟨w.heap.size, k * 5, none⟩ (.int .i64 P)).setCell ⟨w.heap.size, k * 5 + 1, none⟩ (.int .i64 N)).setCell ⟨w.heap.size, k * 5 + 2, none⟩ (.int .i64 R)).setCell ⟨w.heap.size, k * 5 + 3, none⟩ (.bool a)).setCell ⟨w.heap.size, k * 5 + 4, none⟩ (.slice x5 zs.length c5)) w.heap.size m vs' (fun q => if q = k then Bz else Bs q)) := n1
        have N2 : Hid (∀ j b, j < k + 1 → (fun q => if q = k then Bz else Bs q) j b → w.heap.size < b) := n2
        have N3 : Hid (Old w (((((w6.setCell ⟨w.heap.size, k * 5, none⟩ (.int .i64 P)).setCell ⟨w.heap.size, k * 5 + 1, none⟩ (.int .i64 N)).setCell ⟨w.heap.size, k * 5 + 2, none⟩ (.int .i64 R)).setCell ⟨w.heap.size, k * 5 + 3, none⟩ (.bool a)).setCell ⟨w.heap.size, k * 5 + 4, none⟩ (.slice x5 zs.length c5))) := n3
        clear n1 n2 n3 hTI hlo HX
        go_wp2_with fail
        exact ⟨⟨k + 1, vs', _, by omega, by go_num, N1, N2, N3⟩, by simp [intOf]; omega⟩
    · have d1 : decide ((k : Int) < (m : Int)) = false := by simp; omega
      obtain rfl : k = m := by omega
      have HE : Hid (Ows (TS 42 5 k Es) wr w.heap.size wr.heap.size [.slice (some ⟨w.heap.size, 0, none⟩) k k]) := H1.out.done HGD.out (Nat.le_refl _) (fun j b hj hb => Nat.le_of_lt (HB.out j b hj hb))
      go_wp2_with fail
      go_ret
      exact ⟨rfl, HG1.out, HE.out⟩
end Go.Proofs.YtglbegbhekcddaaDoor
/- Proved: the program's changedRows with madeBack. -/
namespace Go.Proofs.YtglbegbhekcddaaDoor
open Go.ChangeShapes Go.WideShapes Go.ChangeAt Go.RowKit
set_option linter.unusedVariables false
set_option linter.unusedSimpArgs false
set_option maxRecDepth 100000 in
set_option maxHeartbeats 8000000 in
theorem changed_back (N : Int) (a : Bool) (ps : List Int) (Rf : Nat → Int) (us : Nat → Value) (v : Value) (m : Nat) (w : World) (hr : RdR w v m N a ps Rf us) (hus : ∀ k, k < m → ∃ x n c, us k = .slice x n c) (hm : 1 ≤ m ∧ m ≤ 1000) (zss : List (List Int))
    (cj : ∀ k, k < m → ∀ W, Old w W → Calls Tryd.prog 18 #[.agg #[.int .i64 (ps.getD k 0), .int .i64 N, .int .i64 (Rf k), .bool a, us k]] W fun e w' => ∃ v', e = .returned v' ∧ Old W w' ∧ Own w' W.heap.size v' (zss.getD k [])) :
    Calls Tryd.prog 34 #[v, .func (.func 18) #[] #[]] w fun e w' => e = .returned (.slice (some ⟨w.heap.size, 0, none⟩) m m) ∧ Old w w' ∧ Ows (TS 42 5 m (elR N a ps Rf zss)) w' w.heap.size w'.heap.size [.slice (some ⟨w.heap.size, 0, none⟩) m m] := by
  obtain ⟨i0, hi, hz0, hz1, hz2⟩ := info_parts Tryd.infoRingRow
  obtain ⟨b, cap, rfl, hb, hc⟩ := hr
  have HC : Hid (∀ k, k < m → w.cell? ⟨b, k * 5, none⟩ = some (.int .i64 (ps.getD k 0)) ∧ w.cell? ⟨b, k * 5 + 1, none⟩ = some (.int .i64 N) ∧ w.cell? ⟨b, k * 5 + 2, none⟩ = some (.int .i64 (Rf k)) ∧ w.cell? ⟨b, k * 5 + 3, none⟩ = some (.bool a) ∧ w.cell? ⟨b, k * 5 + 4, none⟩ = some (us k)) := hc
  have HUS : Hid (∀ k, k < m → ∃ x n c, us k = .slice x n c) := hus
  have HCJ : Hid (∀ k, k < m → ∀ W, Old w W → Calls Tryd.prog 18 #[.agg #[.int .i64 (ps.getD k 0), .int .i64 N, .int .i64 (Rf k), .bool a, us k]] W fun e w' => ∃ v', e = .returned v' ∧ Old W w' ∧ Own w' W.heap.size v' (zss.getD k [])) := cj
  have HEL : Hid (∀ k, elR N a ps Rf zss k = TR (ps.getD k 0) N (Rf k) a (TI (zss.getD k []))) := fun k => rfl
  have HGD : Hid (∀ k, GoodT (elR N a ps Rf zss k)) := good_elR N a ps Rf zss
  generalize elR N a ps Rf zss = Es at *
  clear hc hus cj
  go_enter Tryd.func34, Tryd.ntmps34
  go_wp2_with (at_make; refine wpList_make_full _ rfl _ _ 55 rfl 0 42 i0 (.agg #[.int .i64 0, .int .i64 0, .int .i64 0, .bool false, .slice none 0 0]) 5 Tryd.underlying55 hi hz0 hz1 .i64 .i64 _ _ m rfl rfl rfl rfl (by rw [hz2]; omega) (by unfold maxLen; omega) (Nat.zero_le _) ?_; intro w1 hown hgrow)
  have HO : Hid (TSc 42 5 m 0 Es w1 w.heap.size m _ (fun _ _ => False)) := TSc.start hown
  have HG : Hid (Old w w1) := Below.grown (Below.refl _ _) hgrow (Nat.le_refl _) (fun _ h => by cases h)
  clear hown hgrow
  go_loopw [13, 6, 7] (fun i _ _ W => ∃ (k : Nat) (vs : List Value) (Bs : Nat → Nat → Prop), k ≤ m ∧ i = .int .i64 k ∧ Hid (TSc 42 5 m k Es W w.heap.size m vs Bs) ∧ Hid (∀ j b, j < k → Bs j b → w.heap.size < b) ∧ Hid (Old w W)) (fun i _ _ _ => m - (intOf i).toNat)
  case atStart => exact ⟨0, _, _, by omega, rfl, HO, (fun j b hj => by omega), HG⟩
  case round =>
    obtain ⟨k, vs, Bs, hk, rfl, H1, HB, HG1⟩ := hrel
    clear HO HG
    by_cases hlt : k < m
    · have d1 : decide ((k : Int) < (m : Int)) = true := by simp; omega
      have ilt : (k : Int) < (m : Int) := by omega
      obtain ⟨c0, c1, c2, c3, c4⟩ := HC.out k hlt
      obtain ⟨xu, nu, cu, eu⟩ := HUS.out k hlt
      have cj := HCJ.out k hlt
      rw [eu] at c4 cj
      have q0 := (HG1.out.cell (p := ⟨b, k * 5, none⟩) hb).trans c0
      have q1 := (HG1.out.cell (p := ⟨b, k * 5 + 1, none⟩) hb).trans c1
      have q2 := (HG1.out.cell (p := ⟨b, k * 5 + 2, none⟩) hb).trans c2
      have q3 := (HG1.out.cell (p := ⟨b, k * 5 + 3, none⟩) hb).trans c3
      have q4 := (HG1.out.cell (p := ⟨b, k * 5 + 4, none⟩) hb).trans c4
      have hsr : w.heap.size < wr.heap.size := ownsRow_lt H1.out.row
      have HEK : Hid (Es k = TR (ps.getD k 0) N (Rf k) a (TI (zss.getD k []))) := HEL.out k
      clear c0 c1 c2 c3 c4 eu
      generalize ps.getD k 0 = P at *
      generalize Rf k = R at *
      generalize zss.getD k [] = zs at *
      have HAS5 : Hid (∀ W', Old (wr.alloc (.cells #[.int .i64 P, .int .i64 N, .int .i64 R, .bool a, .slice xu nu cu] 42)) W' → (W'.cell? ⟨wr.heap.size, 0, none⟩ = some (.int .i64 P) ∧ W'.cell? ⟨wr.heap.size, 1, none⟩ = some (.int .i64 N) ∧ W'.cell? ⟨wr.heap.size, 2, none⟩ = some (.int .i64 R) ∧ W'.cell? ⟨wr.heap.size, 3, none⟩ = some (.bool a) ∧ W'.cell? ⟨wr.heap.size, 4, none⟩ = some (.slice xu nu cu))) := fun W' q => by
        have q' := Old.trans ((Old.refl wr).alloc _) q
        exact ⟨(q.cell (p := ⟨wr.heap.size, 0, none⟩) (by simp)).trans (cell_at _ _ _ _ _ rfl), (q.cell (p := ⟨wr.heap.size, 1, none⟩) (by simp)).trans (cell_at _ _ _ _ _ rfl), (q.cell (p := ⟨wr.heap.size, 2, none⟩) (by simp)).trans (cell_at _ _ _ _ _ rfl), (q.cell (p := ⟨wr.heap.size, 3, none⟩) (by simp)).trans (cell_at _ _ _ _ _ rfl), (q.cell (p := ⟨wr.heap.size, 4, none⟩) (by simp)).trans (cell_at _ _ _ _ _ rfl)⟩
      have HAS6 : Hid (∀ W' y0 y1 y2 y3 y4, Old (wr.alloc (.cells #[.int .i64 P, .int .i64 N, .int .i64 R, .bool a, .slice xu nu cu] 42)) W' → ((fun W' => W'.cell? ⟨wr.heap.size, 0, none⟩ = some (.int .i64 P) ∧ W'.cell? ⟨wr.heap.size, 1, none⟩ = some (.int .i64 N) ∧ W'.cell? ⟨wr.heap.size, 2, none⟩ = some (.int .i64 R) ∧ W'.cell? ⟨wr.heap.size, 3, none⟩ = some (.bool a) ∧ W'.cell? ⟨wr.heap.size, 4, none⟩ = some (.slice xu nu cu)) (((((W'.setCell ⟨w.heap.size, k * 5, none⟩ y0).setCell ⟨w.heap.size, k * 5 + 1, none⟩ y1).setCell ⟨w.heap.size, k * 5 + 2, none⟩ y2).setCell ⟨w.heap.size, k * 5 + 3, none⟩ y3).setCell ⟨w.heap.size, k * 5 + 4, none⟩ y4))) := fun W' y0 y1 y2 y3 y4 q => by
        obtain ⟨s0, s1, s2, s3, s4⟩ := HAS5.out W' q
        have key : ∀ (bb j : Nat) (z : Value), bb ≠ w.heap.size → W'.cell? ⟨bb, j, none⟩ = some z → (((((W'.setCell ⟨w.heap.size, k * 5, none⟩ y0).setCell ⟨w.heap.size, k * 5 + 1, none⟩ y1).setCell ⟨w.heap.size, k * 5 + 2, none⟩ y2).setCell ⟨w.heap.size, k * 5 + 3, none⟩ y3).setCell ⟨w.heap.size, k * 5 + 4, none⟩ y4).cell? ⟨bb, j, none⟩ = some z := fun bb j z hb hz => by
          rw [cellO _ _ _ _ hb, cellO _ _ _ _ hb, cellO _ _ _ _ hb, cellO _ _ _ _ hb, cellO _ _ _ _ hb]
          exact hz
        exact ⟨key _ _ _ (by omega) s0, key _ _ _ (by omega) s1, key _ _ _ (by omega) s2, key _ _ _ (by omega) s3, key _ _ _ (by omega) s4⟩
      have HGA : Hid (Old w (wr.alloc (.cells #[.int .i64 P, .int .i64 N, .int .i64 R, .bool a, .slice xu nu cu] 42))) := HG1.out.alloc _
      have HX : Hid (∀ w6 y n c Bz, Old (wr.alloc (.cells #[.int .i64 P, .int .i64 N, .int .i64 R, .bool a, .slice xu nu cu] 42)) w6 → TI zs w6 Bz [.slice y n c] → (∀ b, Bz b → wr.heap.size + 1 ≤ b) → (∃ vs', TSc 42 5 m (k + 1) Es (((((w6.setCell ⟨w.heap.size, k * 5, none⟩ (.int .i64 P)).setCell ⟨w.heap.size, k * 5 + 1, none⟩ (.int .i64 N)).setCell ⟨w.heap.size, k * 5 + 2, none⟩ (.int .i64 R)).setCell ⟨w.heap.size, k * 5 + 3, none⟩ (.bool a)).setCell ⟨w.heap.size, k * 5 + 4, none⟩ (.slice y n c)) w.heap.size m vs' (fun q => if q = k then Bz else Bs q)) ∧ (∀ j b, j < k + 1 → (fun q => if q = k then Bz else Bs q) j b → w.heap.size < b) ∧ Old w (((((w6.setCell ⟨w.heap.size, k * 5, none⟩ (.int .i64 P)).setCell ⟨w.heap.size, k * 5 + 1, none⟩ (.int .i64 N)).setCell ⟨w.heap.size, k * 5 + 2, none⟩ (.int .i64 R)).setCell ⟨w.heap.size, k * 5 + 3, none⟩ (.bool a)).setCell ⟨w.heap.size, k * 5 + 4, none⟩ (.slice y n c))) := fun w6 y n c Bz g6 hTI hlo => by
        have g7 := Old.trans ((Old.refl wr).alloc _) g6
        refine ⟨(H1.out.old HGD.out g7).store5 HGD.out hlt _ _ _ _ _ (B := Bz) (fun W' hW' => ?_) (fun hb => by have := hlo _ hb; omega) (fun j hj b h1 h2 => ?_), fun j b hj hb => ?_, ?_⟩
        · rw [HEK.out]
          exact ⟨_, rfl, (good_TI zs).far hTI (fun b hb => hW' b (by have := hlo b hb; omega))⟩
        · have h4 := H1.out.lt HGD.out j b hj h1
          have := hlo b h2
          omega
        · by_cases e : j = k
          · simp only [e, if_true] at hb
            have := hlo b hb
            omega
          · simp only [e, if_false] at hb
            exact HB.out j b (by omega) hb
        · exact (((((Old.trans HG1.out g7).own (p := ⟨w.heap.size, k * 5, none⟩) (Nat.le_refl _) _).own (p := ⟨w.heap.size, k * 5 + 1, none⟩) (Nat.le_refl _) _).own (p := ⟨w.heap.size, k * 5 + 2, none⟩) (Nat.le_refl _) _).own (p := ⟨w.heap.size, k * 5 + 3, none⟩) (Nat.le_refl _) _).own (p := ⟨w.heap.size, k * 5 + 4, none⟩) (Nat.le_refl _) _
      have HCE : Hid (∀ w6, Old (wr.alloc (.cells #[.int .i64 P, .int .i64 N, .int .i64 R, .bool a, .slice xu nu cu] 42)) w6 → ∀ i, i < 5 → (∃ z, w6.cell? ⟨w.heap.size, k * 5 + i, none⟩ = some z) ∧ w6.frozen? ⟨w.heap.size, k * 5 + i, none⟩ = false) := fun w6 g6 i hi5 => by
        have H2 := H1.out.old HGD.out (Old.trans ((Old.refl wr).alloc _) g6)
        have h5 := H2.cell k i hlt hi5
        have h6 := cellsJ_len H2.row.1 k hlt
        exact ⟨⟨_, h5.trans (List.getElem?_eq_getElem (by omega))⟩, H2.frozen _⟩
      clear H1 HB HEK
      go_wp2_with fail
      go_region_held3 (fun W' => W'.cell? ⟨wr.heap.size, 0, none⟩ = some (.int .i64 P) ∧ W'.cell? ⟨wr.heap.size, 1, none⟩ = some (.int .i64 N) ∧ W'.cell? ⟨wr.heap.size, 2, none⟩ = some (.int .i64 R) ∧ W'.cell? ⟨wr.heap.size, 3, none⟩ = some (.bool a) ∧ W'.cell? ⟨wr.heap.size, 4, none⟩ = some (.slice xu nu cu)) (first | with_reducible exact HAS5.out _ Q6.out | with_reducible exact HAS5.out _ Q5.out | with_reducible exact HAS5.out _ (Below.drew (Old.refl _)) | with_reducible exact HAS6.out _ _ _ _ _ _ Q6.out | with_reducible exact HAS5.out _ (Old.refl _)) (first
        | (go_at_call 18; refine (cj _ (Below.drew HGA.out)).mono ?_; rintro e w5 ⟨v5, rfl, q5, o5⟩; obtain ⟨x5, c5, rfl⟩ := (Own.row o5).slice; have Q5 : Hid (Old (wr.alloc (.cells #[.int .i64 P, .int .i64 N, .int .i64 R, .bool a, .slice xu nu cu] 42)) w5) := Old.trans (Below.drew (Old.refl _)) q5; have O5 : Hid (Own w5 (wr.heap.size + 1) (.slice x5 zs.length c5) zs) := (by simp at o5; exact o5); clear q5 o5)
        | (go_at_call 47; refine (with_any _ _ _ _ _ _ _ _ _ _ _).mono ?_; rintro e w6 ⟨rfl, q6⟩; have Q6 : Hid (Old (wr.alloc (.cells #[.int .i64 P, .int .i64 N, .int .i64 R, .bool a, .slice xu nu cu] 42)) w6) := Old.trans Q5.out q6; have O6 : Hid (Own w6 (wr.heap.size + 1) (.slice x5 zs.length c5) zs) := O5.out.old q6; clear q6; obtain ⟨⟨z0, hz0⟩, hf0⟩ := HCE.out w6 Q6.out 0 (by omega); obtain ⟨⟨z1, hz1⟩, hf1⟩ := HCE.out w6 Q6.out 1 (by omega); obtain ⟨⟨z2, hz2⟩, hf2⟩ := HCE.out w6 Q6.out 2 (by omega); obtain ⟨⟨z3, hz3⟩, hf3⟩ := HCE.out w6 Q6.out 3 (by omega); obtain ⟨⟨z4, hz4⟩, hf4⟩ := HCE.out w6 Q6.out 4 (by omega); rw [Nat.add_zero] at hz0 hf0)
        | fail)
      all_goals
        obtain ⟨Bz, hTI, hlo⟩ := TI.of O6.out
        obtain ⟨⟨vs', n1⟩, n2, n3⟩ := HX.out w6 x5 zs.length c5 Bz Q6.out hTI hlo
        have N1 : Hid (TSc 42 5 m (k + 1) Es (((((w6.setCell ⟨w.heap.size, k * 5, none⟩ (.int .i64 P)).setCell ⟨w.heap.size, k * 5 + 1, none⟩ (.int .i64 N)).setCell ⟨w.heap.size, k * 5 + 2, none⟩ (.int .i64 R)).setCell ⟨w.heap.size, k * 5 + 3, none⟩ (.bool a)).setCell ⟨w.heap.size, k * 5 + 4, none⟩ (.slice x5 zs.length c5)) w.heap.size m vs' (fun q => if q = k then Bz else Bs q)) := n1
        have N2 : Hid (∀ j b, j < k + 1 → (fun q => if q = k then Bz else Bs q) j b → w.heap.size < b) := n2
        have N3 : Hid (Old w (((((w6.setCell ⟨w.heap.size, k * 5, none⟩ (.int .i64 P)).setCell ⟨w.heap.size, k * 5 + 1, none⟩ (.int .i64 N)).setCell ⟨w.heap.size, k * 5 + 2, none⟩ (.int .i64 R)).setCell ⟨w.heap.size, k * 5 + 3, none⟩ (.bool a)).setCell ⟨w.heap.size, k * 5 + 4, none⟩ (.slice x5 zs.length c5))) := n3
        clear n1 n2 n3 hTI hlo HX
        go_wp2_with fail
        exact ⟨⟨k + 1, vs', _, by omega, by go_num, N1, N2, N3⟩, by simp [intOf]; omega⟩
    · have d1 : decide ((k : Int) < (m : Int)) = false := by simp; omega
      obtain rfl : k = m := by omega
      have HE : Hid (Ows (TS 42 5 k Es) wr w.heap.size wr.heap.size [.slice (some ⟨w.heap.size, 0, none⟩) k k]) := H1.out.done HGD.out (Nat.le_refl _) (fun j b hj hb => Nat.le_of_lt (HB.out j b hj hb))
      go_wp2_with fail
      go_ret
      exact ⟨rfl, HG1.out, HE.out⟩
end Go.Proofs.YtglbegbhekcddaaDoor
