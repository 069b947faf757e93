/- Proved: several texts in one: what each proves is said ahead of it. -/
import Derived.Test.YtkggfljdbdfonaaGreatDoorWo13
import Derived.Deep.DeepCutAuto
import Derived.Test.YtkggfljdbdfonaaGreatDoorWo04
/- Proved: the contract of the program's rowsIn. -/
namespace Go.Proofs.YtkggfljdbdfonaaGreatDoor
open Go.ChangeShapes Go.WideShapes Go.ChangeAt Go.RowKit
open M1
set_option linter.unusedVariables false
set_option linter.unusedSimpArgs false
theorem Rgs.same {W W' : World} {g : Nat} {N : Int} {xs : List Int} {Rf : Nat → Int} {k : Nat} (h : Rgs W g N xs Rf k) (e : W'.heap[g]? = W.heap[g]?) : Rgs W' g N xs Rf k := by
  obtain ⟨ys, hl, ho, hy⟩ := h
  refine ⟨ys, hl, ⟨ho.1, ?_⟩, hy⟩
  rcases ho.2 with hn | ⟨p, cap, cur, e', hb, hgg, rest⟩
  · exact .inl hn
  · refine .inr ⟨p, cap, cur, e', hb, ?_, rest⟩
    have : p = g := by
      simp only [Value.slice.injEq, Option.some.injEq, Addr.mk.injEq] at e'
      exact e'.1.1.symm
    subst this
    rw [e]
    exact hgg
theorem cell_drew (W : World) (a : Addr) : W.drew.cell? a = W.cell? a := rfl
theorem Rgs.drewn {W : World} {g : Nat} {N : Int} {xs : List Int} {Rf : Nat → Int} {k : Nat} (h : Rgs W g N xs Rf k) : Rgs W.drew g N xs Rf k := h
theorem RRs.drewn {W : World} {g : Nat} {N : Int} {n : Bool} {ps : List Int} {Rf : Nat → Int} {us : Nat → Option Addr} {k : Nat} (h : RRs W g N n ps Rf us k) : RRs W.drew g N n ps Rf us k := h
theorem made_any (z : Array Value) (n k : Nat) : (madeCells z (n * k)).toList.length = k * n := by
  simp [size_madeCells, Nat.mul_comm]
theorem polyB_len {p N : Int} {xs : List Int} (h : polyB p N xs = true) : (xs.length : Int) = N := by
  unfold polyB at h
  rw [Bool.and_eq_true] at h
  exact of_decide_eq_true h.1
set_option maxRecDepth 100000 in
set_option maxHeartbeats 4000000 in
theorem impl_rowsIn (N : Int) (n : Bool) (ps : List Int) (xss : List (List Int)) (Rf : Nat → Int) (us : Nat → Option Addr) (cs : Nat → Nat) (g : Nat) (a1 : Option Addr) (cap1 : Nat) (w : World) (hrg : Rgs w g N ps Rf ps.length) (hsp : spB N ps = true) (hlx : xss.length ≤ 1048576) (hr : ∀ r ∈ xss, r.length ≤ 1048576) (hu : 0 < xss.length → RowsAt w (.slice a1 xss.length cap1) ps xss us cs) :
    Calls Tryz.prog 109 #[.slice (some ⟨g, 0, none⟩) ps.length ps.length, .agg #[.bool n, .slice a1 xss.length cap1]] w fun e w' => Old w w' ∧ ((rwB N ps xss = false ∧ e = .returned (.tuple #[.slice none 0 0, .bool false])) ∨ (rwB N ps xss = true ∧ ∃ g', w.heap.size ≤ g' ∧ e = .returned (.tuple #[.slice (some ⟨g', 0, none⟩) ps.length ps.length, .bool true]) ∧ RRs w' g' N n ps Rf us ps.length)) := by
  have HU : Hid (0 < xss.length → RowsAt w (.slice a1 xss.length cap1) ps xss us cs) := hu
  have HR : Hid (∀ r ∈ xss, r.length ≤ 1048576) := hr
  have HSP : Hid (spB N ps = true) := hsp
  have hgl : g < w.heap.size := hrg.lt
  have HN : Hid (Old w (w.alloc (.cells #[.bool n, .slice a1 xss.length cap1] 35))) := (Old.refl w).alloc _
  have HRG0 : Hid (Rgs (w.alloc (.cells #[.bool n, .slice a1 xss.length cap1] 35)) g N ps Rf ps.length) := hrg.old ((Old.refl w).alloc _)
  have hlen := (bas_at (sp_ring hsp).2.1).1
  clear hu hr hsp hrg
  by_cases hn : xss.length = ps.length
  · have dn : ((xss.length : Int) != (ps.length : Int)) = false := by simp; omega
    obtain ⟨hz, hbb, hring⟩ := sp_ring HSP.out
    have HPM : Hid (∀ k, k < ps.length → pmB (ps.getD k 0) = true) := (bas_at hbb).2
    obtain ⟨Nn, rfl⟩ : ∃ Nn : Nat, N = (Nn : Int) := ⟨N.toNat, by omega⟩
    have hNn : 2 ≤ Nn ∧ Nn ≤ 16 := by omega
    obtain ⟨bu, capu, eu, hbu, hcu⟩ := HU.out (by omega)
    simp only [Value.slice.injEq, true_and] at eu
    obtain ⟨rfl, rfl⟩ := eu
    have HCU : Hid (∀ j, j < xss.length → w.cell? ⟨bu, j, none⟩ = some (.slice (us j) (xss.getD j []).length (cs j)) ∧ (xss.getD j []).length ≤ cs j ∧ Row w (.slice (us j) (xss.getD j []).length (cs j)) (xss.getD j [])) := hcu
    have HB0 : Hid (rwA Nn ps xss 0 = rwB Nn ps xss) := by show _ = _; unfold rwB; rw [decide_eq_true hn]; rfl
    have HNN : Hid (xss.length = ps.length) := hn
    obtain ⟨i0, hi, hz0, hz1, hz2⟩ := info_parts Tryz.infoRingRow
    generalize rwB (Nn : Int) ps xss = GB at *
    clear hz hbb hring hcu hn
    go_enter Tryz.func109, Tryz.ntmps109
    go_wp2_with (at_make; refine wpList_make_full _ rfl _ _ 104 rfl (w.heap.size + 1) 118 i0 (.agg #[.int .i64 0, .int .i64 0, .int .i64 0, .bool false, .slice none 0 0]) 5 Tryz.underlying104 hi hz0 hz1 .i64 .i64 _ _ ps.length rfl rfl rfl rfl (by rw [hz2]; omega) (by unfold maxLen; omega) (by simp) ?_; intro w2 hown hgrow)
    simp only [World.size_alloc] at hown hgrow
    have HRR : Hid (RRs w2 (w.heap.size + 1) Nn n ps Rf us 0) := ⟨_, made_any _ _ _, (by simpa using hown), fun i hi => by omega⟩
    have g2 : Old (w.alloc (.cells #[.bool n, .slice (some ⟨bu, 0, none⟩) xss.length cap1] 35)) w2 := grownBy_old hgrow
    have HG2 : Hid (Old w w2) := Old.trans HN.out g2
    have HRG2 : Hid (Rgs w2 g Nn ps Rf ps.length) := HRG0.out.old g2
    have HS2 : Hid (w2.cell? ⟨w.heap.size, 0, none⟩ = some (.bool n) ∧ w2.cell? ⟨w.heap.size, 1, none⟩ = some (.slice (some ⟨bu, 0, none⟩) xss.length cap1)) := ⟨(g2.cell (p := ⟨w.heap.size, 0, none⟩) (by simp)).trans (cell_at _ _ _ _ _ rfl), (g2.cell (p := ⟨w.heap.size, 1, none⟩) (by simp)).trans (cell_at _ _ _ _ _ rfl)⟩
    clear hown hgrow g2 HRG0
    go_loopw [21] (fun i W => ∃ k : Nat, k ≤ ps.length ∧ i = .int .i64 k ∧ Hid (rwA Nn ps xss k = GB) ∧ Hid (RRs W (w.heap.size + 1) Nn n ps Rf us k) ∧ Hid (Old w W) ∧ Hid (Rgs W g Nn ps Rf ps.length) ∧ Hid (W.cell? ⟨w.heap.size, 0, none⟩ = some (.bool n) ∧ W.cell? ⟨w.heap.size, 1, none⟩ = some (.slice (some ⟨bu, 0, none⟩) xss.length cap1))) (fun i _ => ps.length - (intOf i).toNat)
    case atStart => exact ⟨0, by omega, rfl, HB0, HRR, HG2, HRG2, HS2⟩
    case round =>
      obtain ⟨k, hk, rfl, H1, HRK, HG, HRG, HS⟩ := hrel
      clear HB0 HRR HG2 HRG2 HS2
      have hsr : w.heap.size + 1 < wr.heap.size := HRK.out.lt
      by_cases hlt : k < ps.length
      · have d1 : decide ((k : Int) < (ps.length : Int)) = true := by simp; omega
        have hnn := HNN.out
        have d2 : decide ((k : Int) < (xss.length : Int)) = true := by simp; omega
        have hkx : k < xss.length := by omega
        obtain ⟨r0, r1, r2⟩ := HRG.out.at k hlt hlt
        obtain ⟨c0, hcs, rw0⟩ := HCU.out k hkx
        have hp := pm_bd (HPM.out k hlt)
        have hm : xss.getD k [] ∈ xss := by simp [List.getD, hkx]
        have hrl := HR.out _ hm
        have HY : Hid (polyB (ps.getD k 0) Nn (xss.getD k []) = true → rwA Nn ps xss (k + 1) = GB) := fun h => by have := H1.out; rw [rwA_yes h] at this; exact this
        have HNo : Hid (polyB (ps.getD k 0) Nn (xss.getD k []) = false → GB = false) := fun h => by have := H1.out; rw [rwA_no hlt h] at this; exact this.symm
        have HPUT : Hid (∀ W, RRs W (w.heap.size + 1) Nn n ps Rf us k → RRs (((((W.setCell ⟨w.heap.size + 1, k * 5, none⟩ (.int .i64 (ps.getD k 0))).setCell ⟨w.heap.size + 1, k * 5 + 1, none⟩ (.int .i64 Nn)).setCell ⟨w.heap.size + 1, k * 5 + 2, none⟩ (.int .i64 (Rf k))).setCell ⟨w.heap.size + 1, k * 5 + 3, none⟩ (.bool n)).setCell ⟨w.heap.size + 1, k * 5 + 4, none⟩ (.slice (us k) Nn Nn)) (w.heap.size + 1) Nn n ps Rf us (k + 1)) := fun W h => h.put hlt
        obtain ⟨r, er⟩ : ∃ r, Rf k = r := ⟨_, rfl⟩
        obtain ⟨ua, eua⟩ : ∃ ua, us k = ua := ⟨_, rfl⟩
        obtain ⟨cc, ecc⟩ : ∃ cc, cs k = cc := ⟨_, rfl⟩
        rw [er] at r2 HPUT
        rw [eua] at c0 rw0 HPUT
        rw [ecc] at c0 rw0 hcs
        generalize xss.getD k [] = xs at *
        generalize ps.getD k 0 = p at *
        have cp := fun W (h : Row W (.slice ua xs.length cc) xs) => impl_poly p Nn r xs _ W h (by omega) hp
        have gb : Old wr (wr.alloc (.cells #[.int .i64 p, .int .i64 Nn, .int .i64 r] 116)) := (Old.refl wr).alloc _
        have HGB : Hid (Old w (wr.alloc (.cells #[.int .i64 p, .int .i64 Nn, .int .i64 r] 116))) := Old.trans HG.out gb
        have x1 : (wr.alloc (.cells #[.int .i64 p, .int .i64 Nn, .int .i64 r] 116)).cell? ⟨w.heap.size, 1, none⟩ = some (.slice (some ⟨bu, 0, none⟩) xss.length cap1) := (gb.cell (p := ⟨w.heap.size, 1, none⟩) (by show w.heap.size < wr.heap.size; omega)).trans HS.out.2
        have x2 : (wr.alloc (.cells #[.int .i64 p, .int .i64 Nn, .int .i64 r] 116)).cell? ⟨bu, k, none⟩ = some (.slice ua xs.length cc) := (HGB.out.cell (p := ⟨bu, k, none⟩) hbu).trans c0
        have RW : Hid (Row (wr.alloc (.cells #[.int .i64 p, .int .i64 Nn, .int .i64 r] 116)) (.slice ua xs.length cc) xs) := rw0.old HGB.out
        have HXL : Hid (polyB p Nn xs = true → (xs.length : Int) = Nn) := polyB_len
        clear H1 c0 rw0 er eua ecc hm gb hnn
        obtain ⟨q, hq⟩ : ∃ q, polyB p Nn xs = q := ⟨_, rfl⟩
        rw [hq] at cp HY HNo HXL
        clear hq
        cases q
        · have HB : Hid (GB = false) := HNo.out rfl
          clear HY HNo HXL
          go_wp2_with fail
          refine (cp _ RW.out).mono ?_
          rintro e w3 ⟨rfl, g3⟩
          have HG3 : Hid (Old w w3) := Old.trans HGB.out g3
          clear g3
          go_wp2_with fail
          exact bodyPost_ret (v := .tuple #[.slice none 0 0, .bool false]) (by simp [results, Tryz.results109, go_sem]) rfl ⟨HG3.out, Or.inl ⟨HB.out, rfl⟩⟩
        · have H3 : Hid (rwA Nn ps xss (k + 1) = GB) := HY.out rfl
          have hxl : xs.length = Nn := by have := HXL.out rfl; omega
          rw [hxl] at hcs
          have HXN : Hid (xs.length = Nn) := hxl
          clear HY HNo HXL hxl
          go_wp2_with fail
          refine (cp _ RW.out).mono ?_
          rintro e w3 ⟨rfl, g3⟩
          have g4 : Old wr w3 := Old.trans ((Old.refl wr).alloc _) g3
          have HG3 : Hid (Old w w3) := Old.trans HGB.out g3
          have HRK3 : Hid (RRs w3 (w.heap.size + 1) Nn n ps Rf us k) := HRK.out.old g4
          have HRG3 : Hid (Rgs w3 g Nn ps Rf ps.length) := HRG.out.old g4
          have HS3 : Hid (w3.cell? ⟨w.heap.size, 0, none⟩ = some (.bool n) ∧ w3.cell? ⟨w.heap.size, 1, none⟩ = some (.slice (some ⟨bu, 0, none⟩) xss.length cap1)) := ⟨(g4.cell (p := ⟨w.heap.size, 0, none⟩) (by show w.heap.size < wr.heap.size; omega)).trans HS.out.1, (g4.cell (p := ⟨w.heap.size, 1, none⟩) (by show w.heap.size < wr.heap.size; omega)).trans HS.out.2⟩
          have z0 : w3.cell? ⟨wr.heap.size, 0, none⟩ = some (.int .i64 p) := (g3.cell (p := ⟨wr.heap.size, 0, none⟩) (by simp)).trans (cell_at _ _ _ _ _ rfl)
          have z1 : w3.cell? ⟨wr.heap.size, 1, none⟩ = some (.int .i64 Nn) := (g3.cell (p := ⟨wr.heap.size, 1, none⟩) (by simp)).trans (cell_at _ _ _ _ _ rfl)
          have z2 : w3.cell? ⟨wr.heap.size, 2, none⟩ = some (.int .i64 r) := (g3.cell (p := ⟨wr.heap.size, 2, none⟩) (by simp)).trans (cell_at _ _ _ _ _ rfl)
          have s0 := HS3.out.1
          have s1 := HS3.out.2
          obtain ⟨y0, q0⟩ := HRK3.out.cell (k * 5) (by omega)
          obtain ⟨y1, q1⟩ := HRK3.out.cell (k * 5 + 1) (by omega)
          obtain ⟨y2, q2⟩ := HRK3.out.cell (k * 5 + 2) (by omega)
          obtain ⟨y3, q3⟩ := HRK3.out.cell (k * 5 + 3) (by omega)
          obtain ⟨y4, q4⟩ := HRK3.out.cell (k * 5 + 4) (by omega)
          have f0 := HRK3.out.free (k * 5)
          have f1 := HRK3.out.free (k * 5 + 1)
          have f2 := HRK3.out.free (k * 5 + 2)
          have f3 := HRK3.out.free (k * 5 + 3)
          have f4 := HRK3.out.free (k * 5 + 4)
          clear g3 g4 cp x1 x2 r0 r1 r2 RW
          rw [HXN.out]
          clear HXN
          go_upto_region 10 with fail
          have hne : w.heap.size ≠ w.heap.size + 1 := by omega
          have hng : g ≠ w.heap.size + 1 := by omega
          have A1 : Hid (RRs (((((w3.setCell ⟨w.heap.size + 1, k * 5, none⟩ (.int .i64 p)).setCell ⟨w.heap.size + 1, k * 5 + 1, none⟩ (.int .i64 Nn)).setCell ⟨w.heap.size + 1, k * 5 + 2, none⟩ (.int .i64 r)).setCell ⟨w.heap.size + 1, k * 5 + 3, none⟩ (.bool n)).setCell ⟨w.heap.size + 1, k * 5 + 4, none⟩ (.slice ua Nn Nn)).drew (w.heap.size + 1) Nn n ps Rf us (k + 1)) := RRs.drewn (HPUT.out _ HRK3.out)
          have A2 : Hid (Old w (((((w3.setCell ⟨w.heap.size + 1, k * 5, none⟩ (.int .i64 p)).setCell ⟨w.heap.size + 1, k * 5 + 1, none⟩ (.int .i64 Nn)).setCell ⟨w.heap.size + 1, k * 5 + 2, none⟩ (.int .i64 r)).setCell ⟨w.heap.size + 1, k * 5 + 3, none⟩ (.bool n)).setCell ⟨w.heap.size + 1, k * 5 + 4, none⟩ (.slice ua Nn Nn)).drew) := Below.drew (((((HG3.out.own (p := ⟨w.heap.size + 1, k * 5, none⟩) (by show w.heap.size ≤ w.heap.size + 1; omega) _).own (p := ⟨w.heap.size + 1, k * 5 + 1, none⟩) (by show w.heap.size ≤ w.heap.size + 1; omega) _).own (p := ⟨w.heap.size + 1, k * 5 + 2, none⟩) (by show w.heap.size ≤ w.heap.size + 1; omega) _).own (p := ⟨w.heap.size + 1, k * 5 + 3, none⟩) (by show w.heap.size ≤ w.heap.size + 1; omega) _).own (p := ⟨w.heap.size + 1, k * 5 + 4, none⟩) (by show w.heap.size ≤ w.heap.size + 1; omega) _)
          have A3 : Hid (Rgs (((((w3.setCell ⟨w.heap.size + 1, k * 5, none⟩ (.int .i64 p)).setCell ⟨w.heap.size + 1, k * 5 + 1, none⟩ (.int .i64 Nn)).setCell ⟨w.heap.size + 1, k * 5 + 2, none⟩ (.int .i64 r)).setCell ⟨w.heap.size + 1, k * 5 + 3, none⟩ (.bool n)).setCell ⟨w.heap.size + 1, k * 5 + 4, none⟩ (.slice ua Nn Nn)).drew g Nn ps Rf ps.length) := Rgs.drewn (HRG3.out.same ((heap_setCell_other _ _ _ _ hng).trans ((heap_setCell_other _ _ _ _ hng).trans ((heap_setCell_other _ _ _ _ hng).trans ((heap_setCell_other _ _ _ _ hng).trans ((heap_setCell_other _ _ _ _ hng).trans (rfl)))))))
          have A4 : Hid ((((((w3.setCell ⟨w.heap.size + 1, k * 5, none⟩ (.int .i64 p)).setCell ⟨w.heap.size + 1, k * 5 + 1, none⟩ (.int .i64 Nn)).setCell ⟨w.heap.size + 1, k * 5 + 2, none⟩ (.int .i64 r)).setCell ⟨w.heap.size + 1, k * 5 + 3, none⟩ (.bool n)).setCell ⟨w.heap.size + 1, k * 5 + 4, none⟩ (.slice ua Nn Nn)).drew.cell? ⟨w.heap.size, 0, none⟩ = some (.bool n) ∧ (((((w3.setCell ⟨w.heap.size + 1, k * 5, none⟩ (.int .i64 p)).setCell ⟨w.heap.size + 1, k * 5 + 1, none⟩ (.int .i64 Nn)).setCell ⟨w.heap.size + 1, k * 5 + 2, none⟩ (.int .i64 r)).setCell ⟨w.heap.size + 1, k * 5 + 3, none⟩ (.bool n)).setCell ⟨w.heap.size + 1, k * 5 + 4, none⟩ (.slice ua Nn Nn)).drew.cell? ⟨w.heap.size, 1, none⟩ = some (.slice (some ⟨bu, 0, none⟩) xss.length cap1)) := ⟨(cell_drew _ _).trans ((cellO _ _ _ _ hne).trans ((cellO _ _ _ _ hne).trans ((cellO _ _ _ _ hne).trans ((cellO _ _ _ _ hne).trans ((cellO _ _ _ _ hne).trans (HS3.out.1)))))), (cell_drew _ _).trans ((cellO _ _ _ _ hne).trans ((cellO _ _ _ _ hne).trans ((cellO _ _ _ _ hne).trans ((cellO _ _ _ _ hne).trans ((cellO _ _ _ _ hne).trans (HS3.out.2))))))⟩
          clear hne hng
          go_region
          go_wp2_with fail
          exact ⟨⟨k + 1, by omega, by go_num, H3, A1, A2, A3, A4⟩, by simp [intOf]; omega⟩
      · have d1 : decide ((k : Int) < (ps.length : Int)) = false := by simp; omega
        obtain rfl : k = ps.length := by omega
        have HB : Hid (GB = true) := by have := H1.out; rw [rwA_end (Nat.le_refl _)] at this; exact this.symm
        clear H1
        go_wp2_with fail
        exact bodyPost_ret (v := .tuple #[.slice (some ⟨w.heap.size + 1, 0, none⟩) ps.length ps.length, .bool true]) (by simp [results, Tryz.results109, go_sem]) rfl ⟨HG.out, Or.inr ⟨HB.out, w.heap.size + 1, by omega, rfl, HRK.out⟩⟩
  · have dn : ((xss.length : Int) != (ps.length : Int)) = true := by simp; omega
    have HB : Hid (rwB N ps xss = false) := by show _ = _; unfold rwB; rw [decide_eq_false hn]; rfl
    clear hn
    go_enter Tryz.func109, Tryz.ntmps109
    go_wp2_with fail
    exact bodyPost_ret (v := .tuple #[.slice none 0 0, .bool false]) (by simp [results, Tryz.results109, go_sem]) rfl ⟨HN.out, Or.inl ⟨HB.out, rfl⟩⟩
end Go.Proofs.YtkggfljdbdfonaaGreatDoor
/- Proved: the contract of the program's ringRowsOf. -/
namespace Go.Proofs.YtkggfljdbdfonaaGreatDoor
open Go.ChangeShapes Go.WideShapes Go.ChangeAt Go.RowKit
open M1
set_option linter.unusedVariables false
set_option linter.unusedSimpArgs false
set_option maxRecDepth 100000 in
set_option maxHeartbeats 4000000 in
theorem impl_ringRows (N : Int) (n : Bool) (ps : List Int) (xss : List (List Int)) (Rf : Nat → Int) (us : Nat → Option Addr) (cs : Nat → Nat) (v : Value) (a1 : Option Addr) (cap1 : Nat) (w : World) (hP : PrsW w) (hT : TabW w) (hv : Row w v ps) (hf : Fit v) (hl : ps.length ≤ 1048576) (hlx : xss.length ≤ 1048576) (hr : ∀ r ∈ xss, r.length ≤ 1048576) (hu : 0 < xss.length → RowsAt w (.slice a1 xss.length cap1) ps xss us cs)
    (hRf : ∀ k, RingOk (ps.getD k 0) N → (0 ≤ Rf k ∧ Rf k < ps.getD k 0) ∧ (∀ W, PrsW W → TabW W → Calls Tryz.prog 153 #[.int .i64 (ps.getD k 0), .int .i64 N] W fun e w' => e = .returned (.tuple #[.agg #[.int .i64 (ps.getD k 0), .int .i64 N, .int .i64 (Rf k)], .bool true]) ∧ Old W w')) :
    Calls Tryz.prog 145 #[.agg #[.int .i64 N, v], .agg #[.bool n, .slice a1 xss.length cap1]] w fun e w' => Old w w' ∧ ((grB N ps xss = false ∧ e = .returned (.tuple #[.slice none 0 0, .bool false])) ∨ (grB N ps xss = true ∧ ∃ g, w.heap.size ≤ g ∧ e = .returned (.tuple #[.slice (some ⟨g, 0, none⟩) ps.length ps.length, .bool true]) ∧ RRs w' g N n ps Rf us ps.length)) := by
  have cr := fun W v (h1 : PrsW W) (h2 : TabW W) (h : Row W v ps) (f : Fit v) => impl_rings N ps Rf v W h1 h2 h f (by omega) hRf
  have HP : Hid (PrsW w) := hP
  have HT : Hid (TabW w) := hT
  have HV : Hid (Row w v ps) := hv
  have HF : Hid (Fit v) := hf
  have HU : Hid (0 < xss.length → RowsAt w (.slice a1 xss.length cap1) ps xss us cs) := hu
  have HR : Hid (∀ r ∈ xss, r.length ≤ 1048576) := hr
  obtain ⟨a0, cap0, ev⟩ := hv.slice
  subst ev
  have HN : Hid (Old w ((w.alloc (.cells #[.int .i64 N, .slice a0 ps.length cap0] 33)).alloc (.cells #[.bool n, .slice a1 xss.length cap1] 35))) := ((Old.refl w).alloc _).alloc _
  clear hP hT hv hf hu hr hRf
  go_enter Tryz.func145, Tryz.ntmps145
  go_wp2_with fail
  refine (cr _ _ (HP.out.old HN.out) (HT.out.old HN.out) (HV.out.old HN.out) HF.out).mono ?_
  rintro e w1 ⟨g1, h⟩
  have HG1 : Hid (Old w w1) := Old.trans HN.out g1
  have hs1 : w.heap.size + 1 + 1 ≤ w1.heap.size := by have := g1.size; simp at this; omega
  have t0 : w1.cell? ⟨w.heap.size + 1, 0, none⟩ = some (.bool n) := (g1.cell (p := ⟨w.heap.size + 1, 0, none⟩) (by simp)).trans (by simp [cell_at, cell_lt])
  have t1 : w1.cell? ⟨w.heap.size + 1, 1, none⟩ = some (.slice a1 xss.length cap1) := (g1.cell (p := ⟨w.heap.size + 1, 1, none⟩) (by simp)).trans (by simp [cell_at, cell_lt])
  clear g1 cr
  rcases h with ⟨hB, rfl⟩ | ⟨hB, g, hg, rfl, hrg⟩
  · have HB : Hid (grB N ps xss = false) := by show _ = _; unfold grB; rw [hB]; rfl
    clear hB
    go_wp2_with fail
    exact bodyPost_ret (v := .tuple #[.slice none 0 0, .bool false]) (by simp [results, Tryz.results145, go_sem]) rfl ⟨HG1.out, Or.inl ⟨HB.out, rfl⟩⟩
  · have ci := impl_rowsIn N n ps xss Rf us cs g a1 cap1 w1 hrg hB hlx HR.out (fun h => (HU.out h).old HG1.out)
    have HSP : Hid (spB N ps = true) := hB
    clear hB hg hrg
    go_wp2_with fail
    refine ci.mono ?_
    rintro e w2 ⟨g2, h⟩
    have HG2 : Hid (Old w w2) := Old.trans HG1.out g2
    clear g2 ci
    rcases h with ⟨hB, rfl⟩ | ⟨hB, g', hg', rfl, hrr⟩
    · have HB : Hid (grB N ps xss = false) := by show _ = _; unfold grB; rw [hB, Bool.and_false]
      clear hB
      go_wp2_with fail
      exact bodyPost_ret (v := .tuple #[.slice none 0 0, .bool false]) (by simp [results, Tryz.results145, go_sem]) rfl ⟨HG2.out, Or.inl ⟨HB.out, rfl⟩⟩
    · have HB : Hid (grB N ps xss = true) := by show _ = _; unfold grB; rw [hB, HSP.out]; rfl
      have HRR : Hid (RRs w2 g' N n ps Rf us ps.length) := hrr
      clear hB hrr
      go_wp2_with fail
      exact bodyPost_ret (v := .tuple #[.slice (some ⟨g', 0, none⟩) ps.length ps.length, .bool true]) (by simp [results, Tryz.results145, go_sem]) rfl ⟨HG2.out, Or.inr ⟨HB.out, g', by omega, rfl, HRR.out⟩⟩
end Go.Proofs.YtkggfljdbdfonaaGreatDoor
/- Proved: rows beside their rings as things; rows of rows out of things; contracts of with and numbersOf. -/
namespace Go.Proofs.YtkggfljdbdfonaaGreatDoor
open Go.ChangeShapes Go.WideShapes Go.ChangeAt Go.RowKit
set_option linter.unusedVariables false
set_option linter.unusedSimpArgs false
/-- a thing beside its ring -/
def TR (P N R : Int) (a : Bool) (E : Thing) : Thing := fun W B cs => ∃ x, cs = [.int .i64 P, .int .i64 N, .int .i64 R, .bool a, x] ∧ E W B [x]
theorem good_TR (P N R : Int) (a : Bool) {E : Thing} (g : GoodT E) : GoodT (TR P N R a E) := by
  constructor
  · rintro W W' B cs ⟨x, e, h⟩ hf
    exact ⟨x, e, g.far h hf⟩
  · rintro W B cs ⟨x, e, h⟩ b hb
    exact g.lt h b hb
abbrev elR (N : Int) (a : Bool) (ps : List Int) (Rf : Nat → Int) (zss : List (List Int)) : Nat → Thing := fun k => TR (ps.getD k 0) N (Rf k) a (TI (zss.getD k []))
theorem good_elR (N : Int) (a : Bool) (ps : List Int) (Rf : Nat → Int) (zss : List (List Int)) (k : Nat) : GoodT (elR N a ps Rf zss k) := good_TR _ _ _ _ (good_TI _)
/-- rows beside their rings can be read at v: the rows themselves where us says -/
def RdR (w : World) (v : Value) (m : Nat) (N : Int) (a : Bool) (ps : List Int) (Rf : Nat → Int) (us : Nat → Value) : Prop :=
  ∃ b cap, v = .slice (some ⟨b, 0, none⟩) m cap ∧ b < w.heap.size ∧ ∀ k, k < m → w.cell? ⟨b, k * 5, none⟩ = some (.int .i64 (ps.getD k 0)) ∧ w.cell? ⟨b, k * 5 + 1, none⟩ = some (.int .i64 N) ∧ w.cell? ⟨b, k * 5 + 2, none⟩ = some (.int .i64 (Rf k)) ∧ w.cell? ⟨b, k * 5 + 3, none⟩ = some (.bool a) ∧ w.cell? ⟨b, k * 5 + 4, none⟩ = some (us k)
theorem RdR.old {w w' : World} {v : Value} {m : Nat} {N : Int} {a : Bool} {ps : List Int} {Rf : Nat → Int} {us : Nat → Value} (h : RdR w v m N a ps Rf us) (g : Old w w') : RdR w' v m N a ps Rf us := by
  obtain ⟨b, cap, e, hb, hc⟩ := h
  refine ⟨b, cap, e, Nat.lt_of_lt_of_le hb g.size, fun k hk => ?_⟩
  obtain ⟨h0, h1, h2, h3, h4⟩ := hc k hk
  exact ⟨(g.cell (p := ⟨b, k * 5, none⟩) hb).trans h0, (g.cell (p := ⟨b, k * 5 + 1, none⟩) hb).trans h1, (g.cell (p := ⟨b, k * 5 + 2, none⟩) hb).trans h2, (g.cell (p := ⟨b, k * 5 + 3, none⟩) hb).trans h3, (g.cell (p := ⟨b, k * 5 + 4, none⟩) hb).trans h4⟩
theorem RRs.rd {W : World} {g : Nat} {N : Int} {n : Bool} {ps : List Int} {Rf : Nat → Int} {us : Nat → Option Addr} (h : RRs W g N n ps Rf us ps.length) : RdR W (.slice (some ⟨g, 0, none⟩) ps.length ps.length) ps.length N n ps Rf (fun k => .slice (us k) N.toNat N.toNat) :=
  ⟨g, ps.length, rfl, h.lt, fun k hk => h.at k hk hk⟩
theorem Ows.rd {N : Int} {a : Bool} {ps : List Int} {Rf : Nat → Int} {zss : List (List Int)} {m : Nat} {W : World} {lo hi : Nat} {v : Value} (h0 : 0 < m) (h : Ows (TS 118 5 m (elR N a ps Rf zss)) W lo hi [v]) :
    ∃ us : Nat → Value, RdR W v m N a ps Rf us ∧ ∀ k, k < m → Row W (us k) (zss.getD k []) ∧ ∃ x c, us k = .slice x (zss.getD k []).length c := by
  obtain ⟨_, B, hT, _⟩ := h
  rcases hT with ⟨e, _⟩ | ⟨p, cap, vs, Bs, e, hc, _⟩
  · omega
  simp at e
  subst e
  have hx : ∀ k, k < m → ∃ x, cellsJ 5 vs k = [.int .i64 (ps.getD k 0), .int .i64 N, .int .i64 (Rf k), .bool a, x] ∧ TI (zss.getD k []) W (Bs k) [x] := fun k hk => hc.el k hk
  refine ⟨fun k => (cellsJ 5 vs k).getD 4 (.slice none 0 0), ⟨p, cap, rfl, ownsRow_lt hc.row, fun k hk => ?_⟩, fun k hk => ?_⟩
  · obtain ⟨x, e, hE⟩ := hx k hk
    have c0 := hc.cell k 0 hk (by omega)
    have c1 := hc.cell k 1 hk (by omega)
    have c2 := hc.cell k 2 hk (by omega)
    have c3 := hc.cell k 3 hk (by omega)
    have c4 := hc.cell k 4 hk (by omega)
    show _ ∧ _ ∧ _ ∧ _ ∧ W.cell? ⟨p, k * 5 + 4, none⟩ = some ((cellsJ 5 vs k).getD 4 (.slice none 0 0))
    rw [e] at c0 c1 c2 c3 c4 ⊢
    exact ⟨c0, c1, c2, c3, c4⟩
  · obtain ⟨x, e, hE⟩ := hx k hk
    show Row W ((cellsJ 5 vs k).getD 4 (.slice none 0 0)) _ ∧ ∃ y c, (cellsJ 5 vs k).getD 4 (.slice none 0 0) = .slice y _ c
    rw [e]
    exact ⟨hE.row, hE.slice⟩
theorem cells_five {m k : Nat} {vs : List Value} (h : vs.length = m * 5) (hk : k < m) (a b c d e : Value) : cellsJ 5 (((((vs.set (k * 5 + 0) a).set (k * 5 + 1) b).set (k * 5 + 2) c).set (k * 5 + 3) d).set (k * 5 + 4) e) k = [a, b, c, d, e] := by
  have hl := cellsJ_len (n := 5) h k hk
  rw [cellsJ_set 5 _ k 4 k e (by omega), if_pos rfl, cellsJ_set 5 _ k 3 k d (by omega), if_pos rfl, cellsJ_set 5 _ k 2 k c (by omega), if_pos rfl, cellsJ_set 5 _ k 1 k b (by omega), if_pos rfl, cellsJ_set 5 _ k 0 k a (by omega), if_pos rfl]
  match cellsJ 5 vs k, hl with
  | [_, _, _, _, _], _ => rfl
/-- one element of five cells is stored -/
theorem TSc.store5 {T : TypeId} {m k : Nat} {Es : Nat → Thing} {W : World} {p cap : Nat} {vs : List Value} {Bs : Nat → Nat → Prop} {B : Nat → Prop} (g : ∀ j, GoodT (Es j)) (h : TSc T 5 m k Es W p cap vs Bs) (hk : k < m) (a b c d e : Value)
    (he : ∀ W' : World, (∀ b, b ≠ p → W'.heap[b]? = W.heap[b]?) → Es k W' B [a, b, c, d, e]) (hp : ¬ B p) (hd : ∀ j, j < k → ∀ b, Bs j b → B b → False) :
    ∃ vs', TSc T 5 m (k + 1) Es (((((W.setCell ⟨p, k * 5, none⟩ a).setCell ⟨p, k * 5 + 1, none⟩ b).setCell ⟨p, k * 5 + 2, none⟩ c).setCell ⟨p, k * 5 + 3, none⟩ d).setCell ⟨p, k * 5 + 4, none⟩ e) p cap vs' (fun q => if q = k then B else Bs q) := by
  have h1 := h.fill g 0 (by omega) a
  have h2 := h1.fill g 1 (by omega) b
  have h3 := h2.fill g 2 (by omega) c
  have h4 := h3.fill g 3 (by omega) d
  have h5 := h4.fill g 4 (by omega) e
  refine ⟨_, h5.more (B := B) ?_ hp hd⟩
  rw [cells_five h.row.1 hk a b c d e]
  refine he _ (fun b hb => ?_)
  rw [heap_setCell_other _ _ _ _ hb, heap_setCell_other _ _ _ _ hb, heap_setCell_other _ _ _ _ hb, heap_setCell_other _ _ _ _ hb]
  exact heap_setCell_other _ _ _ _ hb
theorem cells_one {m k : Nat} {vs : List Value} (h : vs.length = m * 1) (hk : k < m) (a : Value) : cellsJ 1 (vs.set (k * 1 + 0) a) k = [a] := by
  have hl := cellsJ_len (n := 1) h k hk
  rw [cellsJ_set 1 _ k 0 k a (by omega), if_pos rfl]
  match cellsJ 1 vs k, hl with
  | [_], _ => rfl
/-- one element of one cell is stored -/
theorem TSc.store1 {T : TypeId} {m k : Nat} {Es : Nat → Thing} {W : World} {p cap : Nat} {vs : List Value} {Bs : Nat → Nat → Prop} {B : Nat → Prop} (g : ∀ j, GoodT (Es j)) (h : TSc T 1 m k Es W p cap vs Bs) (hk : k < m) (a : Value)
    (he : ∀ W' : World, (∀ b, b ≠ p → W'.heap[b]? = W.heap[b]?) → Es k W' B [a]) (hp : ¬ B p) (hd : ∀ j, j < k → ∀ b, Bs j b → B b → False) :
    ∃ vs', TSc T 1 m (k + 1) Es (W.setCell ⟨p, k, none⟩ a) p cap vs' (fun q => if q = k then B else Bs q) := by
  have h1 := h.fill g 0 (by omega) a
  rw [Nat.mul_one, Nat.add_zero] at h1
  refine ⟨_, h1.more (B := B) ?_ hp hd⟩
  have := cells_one h.row.1 hk a
  rw [Nat.mul_one, Nat.add_zero] at this
  rw [this]
  exact he _ (fun b hb => heap_setCell_other _ _ _ _ hb)
/-- rows of rows out of things -/
theorem Ows.owS {zss : List (List Int)} {m : Nat} {W : World} {lo hi : Nat} {v : Value} (hz : zss.length = m) (h : Ows (TS 22 1 m (fun k => TI (zss.getD k []))) W lo hi [v]) : OwS zss W lo hi v := by
  obtain ⟨hh, B, hT, hB⟩ := h
  rcases hT with ⟨e, e1, _⟩ | ⟨p, cap, vs, Bs, e, hc, hb⟩
  · simp at e1
    exact ⟨hh, .inl ⟨e1, List.length_eq_zero_iff.1 (hz.trans e)⟩⟩
  simp at e
  subst e
  have hp := hB p ((hb p).2 (.inl rfl))
  have hcap : m ≤ cap := by
    rcases hc.row.2 with ⟨hn, _⟩ | ⟨p', cap', cur, e', _, _, h3, _⟩
    · cases hn
    · simp only [Value.slice.injEq] at e'
      omega
  have hvl : vs.length = m := by have := hc.row.1; omega
  have hcell : ∀ j, j < m → ∃ x, vs[j]? = some x ∧ TI (zss.getD j []) W (Bs j) [x] := fun j hj => by
    have h1 := hc.el j hj
    have h2 := cellsJ_len (n := 1) hc.row.1 j hj
    have h3 := cellsJ_get 1 vs j 0 (by omega)
    rw [Nat.mul_one, Nat.add_zero] at h3
    match hcs : cellsJ 1 vs j, h2 with
    | [x], _ =>
      rw [hcs] at h1 h3
      exact ⟨x, h3.symm, h1⟩
  refine ⟨hh, .inr ⟨p, cap, vs, by rw [hz], by omega, hp.1, hp.2, ?_, by omega, fun j hj => ?_, fun i j x y b hij hx hy hbx hby => ?_⟩⟩
  · rw [hz]
    refine ⟨hc.row.1, ?_⟩
    rcases hc.row.2 with ⟨hn, _⟩ | ⟨p', cap', cur, e', _, rest⟩
    · cases hn
    · simp only [Value.slice.injEq, Option.some.injEq, Addr.mk.injEq, true_and, and_true] at e'
      obtain ⟨rfl, rfl⟩ := e'
      exact .inr ⟨p, cap, cur, rfl, hp.1, rest⟩
  · rw [hz] at hj
    obtain ⟨x, e, hE⟩ := hcell j hj
    obtain ⟨a, c, rfl⟩ := hE.slice
    have hbl := hE.blocks
    have ho := hE.own (lo := lo) (fun b hb' => (hB b ((hb b).2 (.inr ⟨j, hj, hb'⟩))).1)
    refine ⟨a, c, e, ?_, ⟨ho, hh, fun b hb' => (hB b ((hb b).2 (.inr ⟨j, hj, (hbl b).2 hb'⟩))).2⟩, fun b hb' e2 => ?_⟩
    · obtain ⟨a2, c2, e2, _, f2, _⟩ := hE
      simp at e2
      rw [e2.2]
      exact f2
    · subst e2
      exact hc.np j hj ((hbl b).2 hb')
  · have hi' : i < m := by have := (List.getElem?_eq_some_iff.1 hx).1; omega
    have hj' : j < m := by have := (List.getElem?_eq_some_iff.1 hy).1; omega
    obtain ⟨x2, e, hE⟩ := hcell i hi'
    obtain ⟨y2, e2, hE2⟩ := hcell j hj'
    rw [e] at hx
    rw [e2] at hy
    obtain rfl := Option.some.inj hx
    obtain rfl := Option.some.inj hy
    exact hc.dis i j hi' hj' (by omega) b ((hE.blocks b).2 hbx) ((hE2.blocks b).2 hby)
theorem with_any (P N R : Int) (a : Bool) (x y : Option Addr) (n c n' c' : Nat) (w : World) :
    Calls Tryz.prog 115 #[.agg #[.int .i64 P, .int .i64 N, .int .i64 R, .bool a, .slice x n c], .slice y n' c'] w fun e w' => e = .returned (.agg #[.int .i64 P, .int .i64 N, .int .i64 R, .bool a, .slice y n' c']) ∧ Old w w' := by
  go_enter Tryz.func115, Tryz.ntmps115
  go_wp2_with fail
  refine bodyPost_ret (v := .agg #[.int .i64 P, .int .i64 N, .int .i64 R, .bool a, .slice y n' c']) (by simp [results, Tryz.results115, go_sem]) rfl ⟨rfl, ?_⟩
  exact ((Old.refl w).alloc _).alloc _
set_option maxRecDepth 100000 in
set_option maxHeartbeats 4000000 in
theorem numbersOf_any (N : Int) (a : Bool) (ps : List Int) (Rf : Nat → Int) (zss : List (List Int)) (m lo : Nat) (v : Value) (w : World) (hm : 1 ≤ m ∧ m ≤ 1000) (hz : zss.length = m) (h : Ows (TS 118 5 m (elR N a ps Rf zss)) w lo w.heap.size [v]) (hlo : lo ≤ w.heap.size) :
    Calls Tryz.prog 72 #[v] w fun e w' => e = .returned (.slice (some ⟨w.heap.size, 0, none⟩) m m) ∧ Old w w' ∧ OwS zss w' lo w'.heap.size (.slice (some ⟨w.heap.size, 0, none⟩) m m) := by
  obtain ⟨j0, ji, jz0, jz1, jz2⟩ := info_parts Tryz.infoInts
  obtain ⟨_, B, hT, hB⟩ := h
  rcases hT with ⟨e, _⟩ | ⟨p, cap, vs0, Bs, e, hc, hb⟩
  · omega
  simp at e
  subst e
  have HC : Hid (∀ k, k < m → ∃ x y c, (w.cell? ⟨p, k * 5, none⟩ = some (.int .i64 (ps.getD k 0)) ∧ w.cell? ⟨p, k * 5 + 1, none⟩ = some (.int .i64 N) ∧ w.cell? ⟨p, k * 5 + 2, none⟩ = some (.int .i64 (Rf k)) ∧ w.cell? ⟨p, k * 5 + 3, none⟩ = some (.bool a) ∧ w.cell? ⟨p, k * 5 + 4, none⟩ = some x) ∧ x = .slice y (zss.getD k []).length c ∧ TI (zss.getD k []) w (Bs k) [x]) := fun k hk => by
    obtain ⟨x, e, hE⟩ := hc.el k hk
    obtain ⟨y, c, ex⟩ := hE.slice
    have c0 := hc.cell k 0 hk (by omega)
    have c1 := hc.cell k 1 hk (by omega)
    have c2 := hc.cell k 2 hk (by omega)
    have c3 := hc.cell k 3 hk (by omega)
    have c4 := hc.cell k 4 hk (by omega)
    rw [e] at c0 c1 c2 c3 c4
    exact ⟨x, y, c, ⟨c0, c1, c2, c3, c4⟩, ex, hE⟩
  have hpl : p < w.heap.size := ownsRow_lt hc.row
  have HBL : Hid (∀ k b, k < m → Bs k b → lo ≤ b ∧ b < w.heap.size) := fun k b hk h => hB b ((hb b).2 (.inr ⟨k, hk, h⟩))
  have HDI : Hid (∀ i j, i < m → j < m → i ≠ j → ∀ b, Bs i b → Bs j b → False) := hc.dis
  have HFI : Hid (∀ w' v, Ows (TS 22 1 m (fun k => TI (zss.getD k []))) w' lo w'.heap.size [v] → OwS zss w' lo w'.heap.size v) := fun w' v h => h.owS hz
  clear hc hb hB hz
  go_enter Tryz.func72, Tryz.ntmps72
  go_wp2_with (at_make; refine wpList_make_full _ rfl _ _ 25 rfl 0 22 j0 (.slice none 0 0) 1 Tryz.underlying25 ji jz0 jz1 .i64 .i64 _ _ m rfl rfl rfl rfl (by rw [jz2]; omega) (by unfold maxLen; omega) (Nat.zero_le _) ?_; intro w1 hown hgrow)
  have HO : Hid (TSc 22 1 m 0 (fun k => TI (zss.getD k [])) w1 w.heap.size m _ (fun _ _ => False)) := TSc.start hown
  have HG : Hid (Old w w1) := Below.grown (Below.refl _ _) hgrow (Nat.le_refl _) (fun _ h => by cases h)
  clear hown hgrow
  go_loopw [11, 4, 5] (fun i _ _ W => ∃ (k : Nat) (vs : List Value) (Ds : Nat → Nat → Prop), k ≤ m ∧ i = .int .i64 k ∧ Hid (TSc 22 1 m k (fun k => TI (zss.getD k [])) W w.heap.size m vs Ds) ∧ Hid (∀ j, j < k → Ds j = Bs j) ∧ Hid (Old w W)) (fun i _ _ _ => m - (intOf i).toNat)
  case atStart => exact ⟨0, _, _, by omega, rfl, HO, (fun j hj => by omega), HG⟩
  case round =>
    obtain ⟨k, vs, Ds, hk, rfl, H1, HD, HG1⟩ := hrel
    clear HO HG
    by_cases hlt : k < m
    · have d1 : decide ((k : Int) < (m : Int)) = true := by simp; omega
      obtain ⟨x, y, c, ⟨c0, c1, c2, c3, c4⟩, rfl, hE⟩ := HC.out k hlt
      have q0 := (HG1.out.cell (p := ⟨p, k * 5, none⟩) hpl).trans c0
      have q1 := (HG1.out.cell (p := ⟨p, k * 5 + 1, none⟩) hpl).trans c1
      have q2 := (HG1.out.cell (p := ⟨p, k * 5 + 2, none⟩) hpl).trans c2
      have q3 := (HG1.out.cell (p := ⟨p, k * 5 + 3, none⟩) hpl).trans c3
      have q4 := (HG1.out.cell (p := ⟨p, k * 5 + 4, none⟩) hpl).trans c4
      have hsr : w.heap.size < wr.heap.size := ownsRow_lt H1.out.row
      have hE1 : TI (zss.getD k []) wr (Bs k) [.slice y (zss.getD k []).length c] := (good_TI _).far hE (fun b hb => HG1.out.block b (HBL.out k b hlt hb).2)
      have hst : ∃ vs', TSc 22 1 m (k + 1) (fun k => TI (zss.getD k [])) (wr.setCell ⟨w.heap.size, k, none⟩ (.slice y (zss.getD k []).length c)) w.heap.size m vs' (fun q => if q = k then Bs k else Ds q) :=
        H1.out.store1 (fun j => good_TI _) hlt _ (B := Bs k) (fun W' hW' => (good_TI _).far hE1 (fun b hb => hW' b (by have := (HBL.out k b hlt hb).2; omega))) (fun hb => by have := (HBL.out k _ hlt hb).2; omega) (fun j hj b h1 h2 => by
          rw [HD.out j hj] at h1
          exact HDI.out j k (by omega) hlt (by omega) b h1 h2)
      obtain ⟨vs', hst⟩ := hst
      have HST : Hid (∀ o : Obj, TSc 22 1 m (k + 1) (fun k => TI (zss.getD k [])) ((wr.setCell ⟨w.heap.size, k, none⟩ (.slice y (zss.getD k []).length c)).alloc o) w.heap.size m vs' (fun q => if q = k then Bs k else Ds q)) := fun o => hst.old (fun j => by
        by_cases e : j = k
        · exact good_TI _
        · exact good_TI _) ((Old.refl _).alloc o)
      have HND : Hid (∀ j, j < k + 1 → (fun q => if q = k then Bs k else Ds q) j = Bs j) := fun j hj => by
        by_cases e : j = k
        · simp only [e, if_true]
        · simp only [e, if_false]
          exact HD.out j (by omega)
      obtain ⟨z, hz⟩ : ∃ z, wr.cell? ⟨w.heap.size, k, none⟩ = some z := by
        have h5 := H1.out.cell k 0 hlt (by omega)
        rw [Nat.mul_one, Nat.add_zero] at h5
        have h6 := cellsJ_len H1.out.row.1 k hlt
        exact ⟨_, h5.trans (List.getElem?_eq_getElem (by omega))⟩
      have hfz : wr.frozen? ⟨w.heap.size, k, none⟩ = false := H1.out.frozen _
      clear c0 c1 c2 c3 c4 hE hE1 hst H1 HD
      generalize ps.getD k 0 = P at *
      generalize Rf k = R at *
      obtain ⟨n, hn⟩ : ∃ n, (zss.getD k []).length = n := ⟨_, rfl⟩
      rw [hn] at HST q4
      clear hn
      have HN : Hid (TSc 22 1 m (k + 1) (fun k => TI (zss.getD k [])) ((wr.setCell ⟨w.heap.size, k, none⟩ (.slice y n c)).alloc (.cells #[.int .i64 P, .int .i64 N, .int .i64 R, .bool a, .slice y n c] 118)) w.heap.size m vs' (fun q => if q = k then Bs k else Ds q)) := HST.out _
      have HG2 : Hid (Old w ((wr.setCell ⟨w.heap.size, k, none⟩ (.slice y n c)).alloc (.cells #[.int .i64 P, .int .i64 N, .int .i64 R, .bool a, .slice y n c] 118))) := (HG1.out.own (p := ⟨w.heap.size, k, none⟩) (Nat.le_refl _) _).alloc _
      clear HST
      go_wp2_with fail
      exact ⟨⟨k + 1, vs', _, by omega, by go_num, HN, HND, HG2⟩, by simp [intOf]; omega⟩
    · have d1 : decide ((k : Int) < (m : Int)) = false := by simp; omega
      obtain rfl : k = m := by omega
      have HE : Hid (OwS zss wr lo wr.heap.size (.slice (some ⟨w.heap.size, 0, none⟩) k k)) := HFI.out _ _ (H1.out.done (fun j => good_TI _) hlo (fun j b hj hb => by rw [HD.out j hj] at hb; exact (HBL.out j b hj hb).1))
      go_wp2_with fail
      go_ret
      exact ⟨rfl, HG1.out, HE.out⟩
end Go.Proofs.YtkggfljdbdfonaaGreatDoor
