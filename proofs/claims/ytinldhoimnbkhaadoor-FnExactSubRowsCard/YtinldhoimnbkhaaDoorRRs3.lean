/- Proved: the contract of the program's rowsIn. -/
import Derived.Test.YtinldhoimnbkhaaDoorDb12
import Derived.Deep.DeepCutAuto
namespace Go.Proofs.YtinldhoimnbkhaaDoor
open Go.ChangeShapes Go.WideShapes Go.ChangeAt Go.RowKit
open M1
set_option linter.unusedVariables false
set_option linter.unusedSimpArgs false
theorem Rgs.same {W W' : World} {g : Nat} {N : Int} {xs : List Int} {Rf : Nat → Int} {k : Nat} (h : Rgs W g N xs Rf k) (e : W'.heap[g]? = W.heap[g]?) : Rgs W' g N xs Rf k := by
  obtain ⟨ys, hl, ho, hy⟩ := h
  refine ⟨ys, hl, ⟨ho.1, ?_⟩, hy⟩
  rcases ho.2 with hn | ⟨p, cap, cur, e', hb, hgg, rest⟩
  · exact .inl hn
  · refine .inr ⟨p, cap, cur, e', hb, ?_, rest⟩
    have : p = g := by
      simp only [Value.slice.injEq, Option.some.injEq, Addr.mk.injEq] at e'
      exact e'.1.1.symm
    subst this
    rw [e]
    exact hgg
theorem cell_drew (W : World) (a : Addr) : W.drew.cell? a = W.cell? a := rfl
theorem Rgs.drewn {W : World} {g : Nat} {N : Int} {xs : List Int} {Rf : Nat → Int} {k : Nat} (h : Rgs W g N xs Rf k) : Rgs W.drew g N xs Rf k := h
theorem RRs.drewn {W : World} {g : Nat} {N : Int} {n : Bool} {ps : List Int} {Rf : Nat → Int} {us : Nat → Option Addr} {k : Nat} (h : RRs W g N n ps Rf us k) : RRs W.drew g N n ps Rf us k := h
theorem made_any (z : Array Value) (n k : Nat) : (madeCells z (n * k)).toList.length = k * n := by
  simp [size_madeCells, Nat.mul_comm]
theorem polyB_len {p N : Int} {xs : List Int} (h : polyB p N xs = true) : (xs.length : Int) = N := by
  unfold polyB at h
  rw [Bool.and_eq_true] at h
  exact of_decide_eq_true h.1
set_option maxRecDepth 100000 in
set_option maxHeartbeats 4000000 in
theorem impl_rowsIn (N : Int) (n : Bool) (ps : List Int) (xss : List (List Int)) (Rf : Nat → Int) (us : Nat → Option Addr) (cs : Nat → Nat) (g : Nat) (a1 : Option Addr) (cap1 : Nat) (w : World) (hrg : Rgs w g N ps Rf ps.length) (hsp : spB N ps = true) (hlx : xss.length ≤ 1048576) (hr : ∀ r ∈ xss, r.length ≤ 1048576) (hu : 0 < xss.length → RowsAt w (.slice a1 xss.length cap1) ps xss us cs) :
    Calls Tryd.prog 90 #[.slice (some ⟨g, 0, none⟩) ps.length ps.length, .agg #[.bool n, .slice a1 xss.length cap1]] w fun e w' => Old w w' ∧ ((rwB N ps xss = false ∧ e = .returned (.tuple #[.slice none 0 0, .bool false])) ∨ (rwB N ps xss = true ∧ ∃ g', w.heap.size ≤ g' ∧ e = .returned (.tuple #[.slice (some ⟨g', 0, none⟩) ps.length ps.length, .bool true]) ∧ RRs w' g' N n ps Rf us ps.length)) := by
  have HU : Hid (0 < xss.length → RowsAt w (.slice a1 xss.length cap1) ps xss us cs) := hu
  have HR : Hid (∀ r ∈ xss, r.length ≤ 1048576) := hr
  have HSP : Hid (spB N ps = true) := hsp
  have hgl : g < w.heap.size := hrg.lt
  have HN : Hid (Old w (w.alloc (.cells #[.bool n, .slice a1 xss.length cap1] 33))) := (Old.refl w).alloc _
  have HRG0 : Hid (Rgs (w.alloc (.cells #[.bool n, .slice a1 xss.length cap1] 33)) g N ps Rf ps.length) := hrg.old ((Old.refl w).alloc _)
  have hlen := (bas_at (sp_ring hsp).2.1).1
  clear hu hr hsp hrg
  by_cases hn : xss.length = ps.length
  · have dn : ((xss.length : Int) != (ps.length : Int)) = false := by simp; omega
    obtain ⟨hz, hbb, hring⟩ := sp_ring HSP.out
    have HPM : Hid (∀ k, k < ps.length → pmB (ps.getD k 0) = true) := (bas_at hbb).2
    obtain ⟨Nn, rfl⟩ : ∃ Nn : Nat, N = (Nn : Int) := ⟨N.toNat, by omega⟩
    have hNn : 2 ≤ Nn ∧ Nn ≤ 16 := by omega
    obtain ⟨bu, capu, eu, hbu, hcu⟩ := HU.out (by omega)
    simp only [Value.slice.injEq, true_and] at eu
    obtain ⟨rfl, rfl⟩ := eu
    have HCU : Hid (∀ j, j < xss.length → w.cell? ⟨bu, j, none⟩ = some (.slice (us j) (xss.getD j []).length (cs j)) ∧ (xss.getD j []).length ≤ cs j ∧ Row w (.slice (us j) (xss.getD j []).length (cs j)) (xss.getD j [])) := hcu
    have HB0 : Hid (rwA Nn ps xss 0 = rwB Nn ps xss) := by show _ = _; unfold rwB; rw [decide_eq_true hn]; rfl
    have HNN : Hid (xss.length = ps.length) := hn
    obtain ⟨i0, hi, hz0, hz1, hz2⟩ := info_parts Tryd.infoRingRow
    generalize rwB (Nn : Int) ps xss = GB at *
    clear hz hbb hring hcu hn
    go_enter Tryd.func90, Tryd.ntmps90
    go_wp2_with (at_make; refine wpList_make_full _ rfl _ _ 73 rfl (w.heap.size + 1) 85 i0 (.agg #[.int .i64 0, .int .i64 0, .int .i64 0, .bool false, .slice none 0 0]) 5 Tryd.underlying73 hi hz0 hz1 .i64 .i64 _ _ ps.length rfl rfl rfl rfl (by rw [hz2]; omega) (by unfold maxLen; omega) (by simp) ?_; intro w2 hown hgrow)
    simp only [World.size_alloc] at hown hgrow
    have HRR : Hid (RRs w2 (w.heap.size + 1) Nn n ps Rf us 0) := ⟨_, made_any _ _ _, (by simpa using hown), fun i hi => by omega⟩
    have g2 : Old (w.alloc (.cells #[.bool n, .slice (some ⟨bu, 0, none⟩) xss.length cap1] 33)) w2 := grownBy_old hgrow
    have HG2 : Hid (Old w w2) := Old.trans HN.out g2
    have HRG2 : Hid (Rgs w2 g Nn ps Rf ps.length) := HRG0.out.old g2
    have HS2 : Hid (w2.cell? ⟨w.heap.size, 0, none⟩ = some (.bool n) ∧ w2.cell? ⟨w.heap.size, 1, none⟩ = some (.slice (some ⟨bu, 0, none⟩) xss.length cap1)) := ⟨(g2.cell (p := ⟨w.heap.size, 0, none⟩) (by simp)).trans (cell_at _ _ _ _ _ rfl), (g2.cell (p := ⟨w.heap.size, 1, none⟩) (by simp)).trans (cell_at _ _ _ _ _ rfl)⟩
    clear hown hgrow g2 HRG0
    go_loopw [21] (fun i W => ∃ k : Nat, k ≤ ps.length ∧ i = .int .i64 k ∧ Hid (rwA Nn ps xss k = GB) ∧ Hid (RRs W (w.heap.size + 1) Nn n ps Rf us k) ∧ Hid (Old w W) ∧ Hid (Rgs W g Nn ps Rf ps.length) ∧ Hid (W.cell? ⟨w.heap.size, 0, none⟩ = some (.bool n) ∧ W.cell? ⟨w.heap.size, 1, none⟩ = some (.slice (some ⟨bu, 0, none⟩) xss.length cap1))) (fun i _ => ps.length - (intOf i).toNat)
    case atStart => exact ⟨0, by omega, rfl, HB0, HRR, HG2, HRG2, HS2⟩
    case round =>
      obtain ⟨k, hk, rfl, H1, HRK, HG, HRG, HS⟩ := hrel
      clear HB0 HRR HG2 HRG2 HS2
      have hsr : w.heap.size + 1 < wr.heap.size := HRK.out.lt
      by_cases hlt : k < ps.length
      · have d1 : decide ((k : Int) < (ps.length : Int)) = true := by simp; omega
        have hnn := HNN.out
        have d2 : decide ((k : Int) < (xss.length : Int)) = true := by simp; omega
        have hkx : k < xss.length := by omega
        obtain ⟨r0, r1, r2⟩ := HRG.out.at k hlt hlt
        obtain ⟨c0, hcs, rw0⟩ := HCU.out k hkx
        have hp := pm_bd (HPM.out k hlt)
        have hm : xss.getD k [] ∈ xss := by simp [List.getD, hkx]
        have hrl := HR.out _ hm
        have HY : Hid (polyB (ps.getD k 0) Nn (xss.getD k []) = true → rwA Nn ps xss (k + 1) = GB) := fun h => by have := H1.out; rw [rwA_yes h] at this; exact this
        have HNo : Hid (polyB (ps.getD k 0) Nn (xss.getD k []) = false → GB = false) := fun h => by have := H1.out; rw [rwA_no hlt h] at this; exact this.symm
        have HPUT : Hid (∀ W, RRs W (w.heap.size + 1) Nn n ps Rf us k → RRs (((((W.setCell ⟨w.heap.size + 1, k * 5, none⟩ (.int .i64 (ps.getD k 0))).setCell ⟨w.heap.size + 1, k * 5 + 1, none⟩ (.int .i64 Nn)).setCell ⟨w.heap.size + 1, k * 5 + 2, none⟩ (.int .i64 (Rf k))).setCell ⟨w.heap.size + 1, k * 5 + 3, none⟩ (.bool n)).setCell ⟨w.heap.size + 1, k * 5 + 4, none⟩ (.slice (us k) Nn Nn)) (w.heap.size + 1) Nn n ps Rf us (k + 1)) := fun W h => h.put hlt
        obtain ⟨r, er⟩ : ∃ r, Rf k = r := ⟨_, rfl⟩
        obtain ⟨ua, eua⟩ : ∃ ua, us k = ua := ⟨_, rfl⟩
        obtain ⟨cc, ecc⟩ : ∃ cc, cs k = cc := ⟨_, rfl⟩
        rw [er] at r2 HPUT
        rw [eua] at c0 rw0 HPUT
        rw [ecc] at c0 rw0 hcs
        generalize xss.getD k [] = xs at *
        generalize ps.getD k 0 = p at *
        have cp := fun W (h : Row W (.slice ua xs.length cc) xs) => impl_poly p Nn r xs _ W h (by omega) hp
        have gb : Old wr (wr.alloc (.cells #[.int .i64 p, .int .i64 Nn, .int .i64 r] 83)) := (Old.refl wr).alloc _
        have HGB : Hid (Old w (wr.alloc (.cells #[.int .i64 p, .int .i64 Nn, .int .i64 r] 83))) := Old.trans HG.out gb
        have x1 : (wr.alloc (.cells #[.int .i64 p, .int .i64 Nn, .int .i64 r] 83)).cell? ⟨w.heap.size, 1, none⟩ = some (.slice (some ⟨bu, 0, none⟩) xss.length cap1) := (gb.cell (p := ⟨w.heap.size, 1, none⟩) (by show w.heap.size < wr.heap.size; omega)).trans HS.out.2
        have x2 : (wr.alloc (.cells #[.int .i64 p, .int .i64 Nn, .int .i64 r] 83)).cell? ⟨bu, k, none⟩ = some (.slice ua xs.length cc) := (HGB.out.cell (p := ⟨bu, k, none⟩) hbu).trans c0
        have RW : Hid (Row (wr.alloc (.cells #[.int .i64 p, .int .i64 Nn, .int .i64 r] 83)) (.slice ua xs.length cc) xs) := rw0.old HGB.out
        have HXL : Hid (polyB p Nn xs = true → (xs.length : Int) = Nn) := polyB_len
        clear H1 c0 rw0 er eua ecc hm gb hnn
        obtain ⟨q, hq⟩ : ∃ q, polyB p Nn xs = q := ⟨_, rfl⟩
        rw [hq] at cp HY HNo HXL
        clear hq
        cases q
        · have HB : Hid (GB = false) := HNo.out rfl
          clear HY HNo HXL
          go_wp2_with fail
          refine (cp _ RW.out).mono ?_
          rintro e w3 ⟨rfl, g3⟩
          have HG3 : Hid (Old w w3) := Old.trans HGB.out g3
          clear g3
          go_wp2_with fail
          exact bodyPost_ret (v := .tuple #[.slice none 0 0, .bool false]) (by simp [results, Tryd.results90, go_sem]) rfl ⟨HG3.out, Or.inl ⟨HB.out, rfl⟩⟩
        · have H3 : Hid (rwA Nn ps xss (k + 1) = GB) := HY.out rfl
          have hxl : xs.length = Nn := by have := HXL.out rfl; omega
          rw [hxl] at hcs
          have HXN : Hid (xs.length = Nn) := hxl
          clear HY HNo HXL hxl
          go_wp2_with fail
          refine (cp _ RW.out).mono ?_
          rintro e w3 ⟨rfl, g3⟩
          have g4 : Old wr w3 := Old.trans ((Old.refl wr).alloc _) g3
          have HG3 : Hid (Old w w3) := Old.trans HGB.out g3
          have HRK3 : Hid (RRs w3 (w.heap.size + 1) Nn n ps Rf us k) := HRK.out.old g4
          have HRG3 : Hid (Rgs w3 g Nn ps Rf ps.length) := HRG.out.old g4
          have HS3 : Hid (w3.cell? ⟨w.heap.size, 0, none⟩ = some (.bool n) ∧ w3.cell? ⟨w.heap.size, 1, none⟩ = some (.slice (some ⟨bu, 0, none⟩) xss.length cap1)) := ⟨(g4.cell (p := ⟨w.heap.size, 0, none⟩) (by show w.heap.size < wr.heap.size; omega)).trans HS.out.1, (g4.cell (p := ⟨w.heap.size, 1, none⟩) (by show w.heap.size < wr.heap.size; omega)).trans HS.out.2⟩
          have z0 : w3.cell? ⟨wr.heap.size, 0, none⟩ = some (.int .i64 p) := (g3.cell (p := ⟨wr.heap.size, 0, none⟩) (by simp)).trans (cell_at _ _ _ _ _ rfl)
          have z1 : w3.cell? ⟨wr.heap.size, 1, none⟩ = some (.int .i64 Nn) := (g3.cell (p := ⟨wr.heap.size, 1, none⟩) (by simp)).trans (cell_at _ _ _ _ _ rfl)
          have z2 : w3.cell? ⟨wr.heap.size, 2, none⟩ = some (.int .i64 r) := (g3.cell (p := ⟨wr.heap.size, 2, none⟩) (by simp)).trans (cell_at _ _ _ _ _ rfl)
          have s0 := HS3.out.1
          have s1 := HS3.out.2
          obtain ⟨y0, q0⟩ := HRK3.out.cell (k * 5) (by omega)
          obtain ⟨y1, q1⟩ := HRK3.out.cell (k * 5 + 1) (by omega)
          obtain ⟨y2, q2⟩ := HRK3.out.cell (k * 5 + 2) (by omega)
          obtain ⟨y3, q3⟩ := HRK3.out.cell (k * 5 + 3) (by omega)
          obtain ⟨y4, q4⟩ := HRK3.out.cell (k * 5 + 4) (by omega)
          have f0 := HRK3.out.free (k * 5)
          have f1 := HRK3.out.free (k * 5 + 1)
          have f2 := HRK3.out.free (k * 5 + 2)
          have f3 := HRK3.out.free (k * 5 + 3)
          have f4 := HRK3.out.free (k * 5 + 4)
          clear g3 g4 cp x1 x2 r0 r1 r2 RW
          rw [HXN.out]
          clear HXN
          go_upto_region 10 with fail
          have hne : w.heap.size ≠ w.heap.size + 1 := by omega
          have hng : g ≠ w.heap.size + 1 := by omega
          have A1 : Hid (RRs (((((w3.setCell ⟨w.heap.size + 1, k * 5, none⟩ (.int .i64 p)).setCell ⟨w.heap.size + 1, k * 5 + 1, none⟩ (.int .i64 Nn)).setCell ⟨w.heap.size + 1, k * 5 + 2, none⟩ (.int .i64 r)).setCell ⟨w.heap.size + 1, k * 5 + 3, none⟩ (.bool n)).setCell ⟨w.heap.size + 1, k * 5 + 4, none⟩ (.slice ua Nn Nn)).drew (w.heap.size + 1) Nn n ps Rf us (k + 1)) := RRs.drewn (HPUT.out _ HRK3.out)
          have A2 : Hid (Old w (((((w3.setCell ⟨w.heap.size + 1, k * 5, none⟩ (.int .i64 p)).setCell ⟨w.heap.size + 1, k * 5 + 1, none⟩ (.int .i64 Nn)).setCell ⟨w.heap.size + 1, k * 5 + 2, none⟩ (.int .i64 r)).setCell ⟨w.heap.size + 1, k * 5 + 3, none⟩ (.bool n)).setCell ⟨w.heap.size + 1, k * 5 + 4, none⟩ (.slice ua Nn Nn)).drew) := Below.drew (((((HG3.out.own (p := ⟨w.heap.size + 1, k * 5, none⟩) (by show w.heap.size ≤ w.heap.size + 1; omega) _).own (p := ⟨w.heap.size + 1, k * 5 + 1, none⟩) (by show w.heap.size ≤ w.heap.size + 1; omega) _).own (p := ⟨w.heap.size + 1, k * 5 + 2, none⟩) (by show w.heap.size ≤ w.heap.size + 1; omega) _).own (p := ⟨w.heap.size + 1, k * 5 + 3, none⟩) (by show w.heap.size ≤ w.heap.size + 1; omega) _).own (p := ⟨w.heap.size + 1, k * 5 + 4, none⟩) (by show w.heap.size ≤ w.heap.size + 1; omega) _)
          have A3 : Hid (Rgs (((((w3.setCell ⟨w.heap.size + 1, k * 5, none⟩ (.int .i64 p)).setCell ⟨w.heap.size + 1, k * 5 + 1, none⟩ (.int .i64 Nn)).setCell ⟨w.heap.size + 1, k * 5 + 2, none⟩ (.int .i64 r)).setCell ⟨w.heap.size + 1, k * 5 + 3, none⟩ (.bool n)).setCell ⟨w.heap.size + 1, k * 5 + 4, none⟩ (.slice ua Nn Nn)).drew g Nn ps Rf ps.length) := Rgs.drewn (HRG3.out.same ((heap_setCell_other _ _ _ _ hng).trans ((heap_setCell_other _ _ _ _ hng).trans ((heap_setCell_other _ _ _ _ hng).trans ((heap_setCell_other _ _ _ _ hng).trans ((heap_setCell_other _ _ _ _ hng).trans (rfl)))))))
          have A4 : Hid ((((((w3.setCell ⟨w.heap.size + 1, k * 5, none⟩ (.int .i64 p)).setCell ⟨w.heap.size + 1, k * 5 + 1, none⟩ (.int .i64 Nn)).setCell ⟨w.heap.size + 1, k * 5 + 2, none⟩ (.int .i64 r)).setCell ⟨w.heap.size + 1, k * 5 + 3, none⟩ (.bool n)).setCell ⟨w.heap.size + 1, k * 5 + 4, none⟩ (.slice ua Nn Nn)).drew.cell? ⟨w.heap.size, 0, none⟩ = some (.bool n) ∧ (((((w3.setCell ⟨w.heap.size + 1, k * 5, none⟩ (.int .i64 p)).setCell ⟨w.heap.size + 1, k * 5 + 1, none⟩ (.int .i64 Nn)).setCell ⟨w.heap.size + 1, k * 5 + 2, none⟩ (.int .i64 r)).setCell ⟨w.heap.size + 1, k * 5 + 3, none⟩ (.bool n)).setCell ⟨w.heap.size + 1, k * 5 + 4, none⟩ (.slice ua Nn Nn)).drew.cell? ⟨w.heap.size, 1, none⟩ = some (.slice (some ⟨bu, 0, none⟩) xss.length cap1)) := ⟨(cell_drew _ _).trans ((cellO _ _ _ _ hne).trans ((cellO _ _ _ _ hne).trans ((cellO _ _ _ _ hne).trans ((cellO _ _ _ _ hne).trans ((cellO _ _ _ _ hne).trans (HS3.out.1)))))), (cell_drew _ _).trans ((cellO _ _ _ _ hne).trans ((cellO _ _ _ _ hne).trans ((cellO _ _ _ _ hne).trans ((cellO _ _ _ _ hne).trans ((cellO _ _ _ _ hne).trans (HS3.out.2))))))⟩
          clear hne hng
          go_region
          go_wp2_with fail
          exact ⟨⟨k + 1, by omega, by go_num, H3, A1, A2, A3, A4⟩, by simp [intOf]; omega⟩
      · have d1 : decide ((k : Int) < (ps.length : Int)) = false := by simp; omega
        obtain rfl : k = ps.length := by omega
        have HB : Hid (GB = true) := by have := H1.out; rw [rwA_end (Nat.le_refl _)] at this; exact this.symm
        clear H1
        go_wp2_with fail
        exact bodyPost_ret (v := .tuple #[.slice (some ⟨w.heap.size + 1, 0, none⟩) ps.length ps.length, .bool true]) (by simp [results, Tryd.results90, go_sem]) rfl ⟨HG.out, Or.inr ⟨HB.out, w.heap.size + 1, by omega, rfl, HRK.out⟩⟩
  · have dn : ((xss.length : Int) != (ps.length : Int)) = true := by simp; omega
    have HB : Hid (rwB N ps xss = false) := by show _ = _; unfold rwB; rw [decide_eq_false hn]; rfl
    clear hn
    go_enter Tryd.func90, Tryd.ntmps90
    go_wp2_with fail
    exact bodyPost_ret (v := .tuple #[.slice none 0 0, .bool false]) (by simp [results, Tryd.results90, go_sem]) rfl ⟨HN.out, Or.inl ⟨HB.out, rfl⟩⟩
set_option maxRecDepth 100000 in
set_option maxHeartbeats 4000000 in
/-- of no rings -/
theorem impl_rowsIn_nil (n : Bool) (l1 : Nat) (a1 : Option Addr) (cap1 : Nat) (w : World) :
    Calls Tryd.prog 90 #[.slice none 0 0, .agg #[.bool n, .slice a1 l1 cap1]] w fun e w' => Old w w' ∧ ((decide (l1 = 0) = false ∧ e = .returned (.tuple #[.slice none 0 0, .bool false])) ∨ (decide (l1 = 0) = true ∧ ∃ g, e = .returned (.tuple #[.slice g 0 0, .bool true]))) := by
  have HN : Hid (Old w (w.alloc (.cells #[.bool n, .slice a1 l1 cap1] 33))) := (Old.refl w).alloc _
  by_cases h : l1 = 0
  · have HD : Hid (decide (l1 = 0) = true) := decide_eq_true h
    generalize decide (l1 = 0) = bb at *
    subst h
    obtain ⟨i0, hi, hz0, hz1, hz2⟩ := info_parts Tryd.infoRingRow
    go_enter Tryd.func90, Tryd.ntmps90
    go_wp2_with (at_make; refine wpList_make_full _ rfl _ _ 73 rfl (w.heap.size + 1) 85 i0 (.agg #[.int .i64 0, .int .i64 0, .int .i64 0, .bool false, .slice none 0 0]) 5 Tryd.underlying73 hi hz0 hz1 .i64 .i64 _ _ 0 rfl rfl rfl rfl (by rw [hz2]; omega) (by unfold maxLen; omega) (by simp) ?_; intro w2 hown hgrow)
    have HG2 : Hid (Old w w2) := Old.trans HN.out (grownBy_old hgrow)
    clear hown hgrow
    go_loopw [21] (fun i W => i = .int .i64 0 ∧ W = w2) (fun _ _ => 0)
    case atStart => exact ⟨rfl, rfl⟩
    case round =>
      obtain ⟨rfl, hW⟩ := hrel
      obtain rfl : w2 = wr := hW.symm
      go_wp2_with fail
      refine bodyPost_ret (v := .tuple #[.slice (some ⟨w.heap.size + 1, 0, none⟩) 0 0, .bool true]) (by simp [results, Tryd.results90, go_sem]) rfl ?_
      exact ⟨HG2.out, Or.inr ⟨HD.out, _, rfl⟩⟩
  · have dn : ((l1 : Int) != 0) = true := by simp; omega
    have HD : Hid (decide (l1 = 0) = false) := decide_eq_false h
    generalize decide (l1 = 0) = bb at *
    clear h
    go_enter Tryd.func90, Tryd.ntmps90
    go_wp2_with fail
    refine bodyPost_ret (v := .tuple #[.slice none 0 0, .bool false]) (by simp [results, Tryd.results90, go_sem]) rfl ?_
    exact ⟨HN.out, Or.inl ⟨HD.out, rfl⟩⟩
end Go.Proofs.YtinldhoimnbkhaaDoor
