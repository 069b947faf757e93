/- Proved: several texts in one: what each proves is said ahead of it. -/
import Derived.Test.YtanijpekdnkicaaGreatDoorWq16
import Derived.Test.YtanijpekdnkicaaGreatDoorWq10
import Derived.BigRegion
import Derived.Deep.DeepCutAuto
import Derived.Test.YtanijpekdnkicaaGreatDoorWq02
import Derived.Test.YtanijpekdnkicaaGreatDoorWq14
/- Proved: rows beside their rings, as the program makes them. -/
namespace Go.Proofs.YtanijpekdnkicaaGreatDoor
open Go.ChangeShapes Go.WideShapes Go.ChangeAt Go.RowKit
open M1
set_option linter.unusedVariables false
set_option linter.unusedSimpArgs false
theorem Tryz.infoRingRow : (Tryz.prog.info? 146).map (fun i => (i.zero, i.size, i.bytes)) = some (some (.agg #[.int .i64 0, .int .i64 0, .int .i64 0, .bool false, .slice none 0 0]), 5, 56) := by kernel_rfl
def RRs (W : World) (g : Nat) (N : Int) (n : Bool) (ps : List Int) (Rf : Nat → Int) (us : Nat → Option Addr) (k : Nat) : Prop :=
  ∃ vs : List Value, vs.length = 5 * ps.length ∧ W.ownsRow g 146 5 (.slice (some ⟨g, 0, none⟩) ps.length ps.length) ps.length vs
    ∧ ∀ i, i < k → vs[i * 5]? = some (.int .i64 (ps.getD i 0)) ∧ vs[i * 5 + 1]? = some (.int .i64 N) ∧ vs[i * 5 + 2]? = some (.int .i64 (Rf i)) ∧ vs[i * 5 + 3]? = some (.bool n) ∧ vs[i * 5 + 4]? = some (.slice (us i) N.toNat N.toNat)
theorem RRs.lt {W : World} {g : Nat} {N : Int} {n : Bool} {ps : List Int} {Rf : Nat → Int} {us : Nat → Option Addr} {k : Nat} (h : RRs W g N n ps Rf us k) : g < W.heap.size := by
  obtain ⟨vs, _, ho, _⟩ := h
  exact (ho.lt g rfl).2
theorem RRs.old {W W' : World} {g : Nat} {N : Int} {n : Bool} {ps : List Int} {Rf : Nat → Int} {us : Nat → Option Addr} {k : Nat} (h : RRs W g N n ps Rf us k) (q : Old W W') : RRs W' g N n ps Rf us k := by
  obtain ⟨vs, hl, ho, hy⟩ := h
  refine ⟨vs, hl, ⟨ho.1, ?_⟩, hy⟩
  rcases ho.2 with hn | ⟨p, cap, cur, e, hb, hgg, rest⟩
  · exact .inl hn
  · refine .inr ⟨p, cap, cur, e, hb, ?_, rest⟩
    rw [q.block p (Array.getElem?_eq_some_iff.1 hgg).1]
    exact hgg
theorem RRs.cell {W : World} {g : Nat} {N : Int} {n : Bool} {ps : List Int} {Rf : Nat → Int} {us : Nat → Option Addr} {k : Nat} (h : RRs W g N n ps Rf us k) (j : Nat) (hj : j < 5 * ps.length) : ∃ y : Value, W.cell? ⟨g, j, none⟩ = some y := by
  obtain ⟨vs, hl, ho, hy⟩ := h
  refine ⟨vs[j]'(by omega), ?_⟩
  rw [World.ownsRow.cellAt ho j (by omega)]
  exact List.getElem?_eq_getElem _
theorem RRs.free {W : World} {g : Nat} {N : Int} {n : Bool} {ps : List Int} {Rf : Nat → Int} {us : Nat → Option Addr} {k : Nat} (h : RRs W g N n ps Rf us k) (j : Nat) : W.frozen? ⟨g, j, none⟩ = false := by
  obtain ⟨vs, hl, ho, hy⟩ := h
  exact World.ownsRow.frozenAt ho j
theorem RRs.at {W : World} {g : Nat} {N : Int} {n : Bool} {ps : List Int} {Rf : Nat → Int} {us : Nat → Option Addr} {k : Nat} (h : RRs W g N n ps Rf us k) (i : Nat) (hi : i < k) (hx : i < ps.length) :
    W.cell? ⟨g, i * 5, none⟩ = some (.int .i64 (ps.getD i 0)) ∧ W.cell? ⟨g, i * 5 + 1, none⟩ = some (.int .i64 N) ∧ W.cell? ⟨g, i * 5 + 2, none⟩ = some (.int .i64 (Rf i)) ∧ W.cell? ⟨g, i * 5 + 3, none⟩ = some (.bool n) ∧ W.cell? ⟨g, i * 5 + 4, none⟩ = some (.slice (us i) N.toNat N.toNat) := by
  obtain ⟨vs, hl, ho, hy⟩ := h
  obtain ⟨h0, h1, h2, h3, h4⟩ := hy i hi
  refine ⟨?_, ?_, ?_, ?_, ?_⟩
  · rw [World.ownsRow.cellAt ho _ (by omega)]; exact h0
  · rw [World.ownsRow.cellAt ho _ (by omega)]; exact h1
  · rw [World.ownsRow.cellAt ho _ (by omega)]; exact h2
  · rw [World.ownsRow.cellAt ho _ (by omega)]; exact h3
  · rw [World.ownsRow.cellAt ho _ (by omega)]; exact h4
theorem RRs.put {W : World} {g : Nat} {N : Int} {n : Bool} {ps : List Int} {Rf : Nat → Int} {us : Nat → Option Addr} {k : Nat} (h : RRs W g N n ps Rf us k) (hk : k < ps.length) :
    RRs (((((W.setCell ⟨g, k * 5, none⟩ (.int .i64 (ps.getD k 0))).setCell ⟨g, k * 5 + 1, none⟩ (.int .i64 N)).setCell ⟨g, k * 5 + 2, none⟩ (.int .i64 (Rf k))).setCell ⟨g, k * 5 + 3, none⟩ (.bool n)).setCell ⟨g, k * 5 + 4, none⟩ (.slice (us k) N.toNat N.toNat)) g N n ps Rf us (k + 1) := by
  obtain ⟨vs, hl, ho, hy⟩ := h
  have h1 := (World.ownsRow.stored ho (k * 5) (.int .i64 (ps.getD k 0))).1
  have h2 := (World.ownsRow.stored h1 (k * 5 + 1) (.int .i64 N)).1
  have h3 := (World.ownsRow.stored h2 (k * 5 + 2) (.int .i64 (Rf k))).1
  have h4 := (World.ownsRow.stored h3 (k * 5 + 3) (.bool n)).1
  have h5 := (World.ownsRow.stored h4 (k * 5 + 4) (.slice (us k) N.toNat N.toNat)).1
  refine ⟨_, by simp [hl], h5, fun i hi => ?_⟩
  rcases Nat.lt_or_ge i k with hlt | hge
  · obtain ⟨q0, q1, q2, q3, q4⟩ := hy i hlt
    refine ⟨?_, ?_, ?_, ?_, ?_⟩
    all_goals (rw [List.getElem?_set_ne (by omega), List.getElem?_set_ne (by omega), List.getElem?_set_ne (by omega), List.getElem?_set_ne (by omega), List.getElem?_set_ne (by omega)]; assumption)
  · obtain rfl : i = k := by omega
    refine ⟨?_, ?_, ?_, ?_, ?_⟩
    · rw [List.getElem?_set_ne (by omega), List.getElem?_set_ne (by omega), List.getElem?_set_ne (by omega), List.getElem?_set_ne (by omega), List.getElem?_set_self (by omega)]
    · rw [List.getElem?_set_ne (by omega), List.getElem?_set_ne (by omega), List.getElem?_set_ne (by omega), List.getElem?_set_self (by simp; omega)]
    · rw [List.getElem?_set_ne (by omega), List.getElem?_set_ne (by omega), List.getElem?_set_self (by simp; omega)]
    · rw [List.getElem?_set_ne (by omega), List.getElem?_set_self (by simp; omega)]
    · rw [List.getElem?_set_self (by simp; omega)]
def RowsAt (w : World) (v : Value) (ps : List Int) (xss : List (List Int)) (us : Nat → Option Addr) (cs : Nat → Nat) : Prop :=
  ∃ b cap, v = .slice (some ⟨b, 0, none⟩) xss.length cap ∧ b < w.heap.size ∧ ∀ j, j < xss.length → w.cell? ⟨b, j, none⟩ = some (.slice (us j) (xss.getD j []).length (cs j)) ∧ (xss.getD j []).length ≤ cs j ∧ Row w (.slice (us j) (xss.getD j []).length (cs j)) (xss.getD j [])
theorem OwS.at {xss : List (List Int)} {W : World} {lo hi : Nat} {v : Value} (ps : List Int) (h : OwS xss W lo hi v) (h0 : 0 < xss.length) : ∃ us cs, RowsAt W v ps xss us cs := by
  obtain ⟨hh, h | ⟨p, cap, vs, rfl, hcap, hlo, hhi, ho, hvl, hj, hd⟩⟩ := h
  · obtain ⟨rfl, rfl⟩ := h
    simp at h0
  · have key : ∀ j, ∃ ac : Option Addr × Nat, j < xss.length → W.cell? ⟨p, j, none⟩ = some (.slice ac.1 (xss.getD j []).length ac.2) ∧ (xss.getD j []).length ≤ ac.2 ∧ Row W (.slice ac.1 (xss.getD j []).length ac.2) (xss.getD j []) := fun j => by
      by_cases hjl : j < xss.length
      · obtain ⟨a, c, e, hc, o, hb⟩ := hj j hjl
        refine ⟨(a, c), fun _ => ⟨?_, hc, o.row⟩⟩
        rw [World.ownsRow.cellAt ho j (by omega)]
        exact e
      · exact ⟨(none, 0), fun h => absurd h hjl⟩
    obtain ⟨f, hf⟩ := Classical.skolem.1 key
    exact ⟨fun j => (f j).1, fun j => (f j).2, p, cap, rfl, by omega, hf⟩
theorem RowsAt.old {w w' : World} {v : Value} {ps : List Int} {xss : List (List Int)} {us : Nat → Option Addr} {cs : Nat → Nat} (h : RowsAt w v ps xss us cs) (g : Old w w') : RowsAt w' v ps xss us cs := by
  obtain ⟨b, cap, e, hb, hc⟩ := h
  exact ⟨b, cap, e, Nat.lt_of_lt_of_le hb g.size, fun j hj => ⟨(g.cell (p := ⟨b, j, none⟩) hb).trans (hc j hj).1, (hc j hj).2.1, (hc j hj).2.2.old g⟩⟩
end Go.Proofs.YtanijpekdnkicaaGreatDoor
/- Proved: the contract of the program's rowsIn. -/
namespace Go.Proofs.YtanijpekdnkicaaGreatDoor
open Go.ChangeShapes Go.WideShapes Go.ChangeAt Go.RowKit
open M1
set_option linter.unusedVariables false
set_option linter.unusedSimpArgs false
theorem Rgs.same {W W' : World} {g : Nat} {N : Int} {xs : List Int} {Rf : Nat → Int} {k : Nat} (h : Rgs W g N xs Rf k) (e : W'.heap[g]? = W.heap[g]?) : Rgs W' g N xs Rf k := by
  obtain ⟨ys, hl, ho, hy⟩ := h
  refine ⟨ys, hl, ⟨ho.1, ?_⟩, hy⟩
  rcases ho.2 with hn | ⟨p, cap, cur, e', hb, hgg, rest⟩
  · exact .inl hn
  · refine .inr ⟨p, cap, cur, e', hb, ?_, rest⟩
    have : p = g := by
      simp only [Value.slice.injEq, Option.some.injEq, Addr.mk.injEq] at e'
      exact e'.1.1.symm
    subst this
    rw [e]
    exact hgg
theorem cell_drew (W : World) (a : Addr) : W.drew.cell? a = W.cell? a := rfl
theorem Rgs.drewn {W : World} {g : Nat} {N : Int} {xs : List Int} {Rf : Nat → Int} {k : Nat} (h : Rgs W g N xs Rf k) : Rgs W.drew g N xs Rf k := h
theorem RRs.drewn {W : World} {g : Nat} {N : Int} {n : Bool} {ps : List Int} {Rf : Nat → Int} {us : Nat → Option Addr} {k : Nat} (h : RRs W g N n ps Rf us k) : RRs W.drew g N n ps Rf us k := h
theorem made_any (z : Array Value) (n k : Nat) : (madeCells z (n * k)).toList.length = k * n := by
  simp [size_madeCells, Nat.mul_comm]
theorem polyB_len {p N : Int} {xs : List Int} (h : polyB p N xs = true) : (xs.length : Int) = N := by
  unfold polyB at h
  rw [Bool.and_eq_true] at h
  exact of_decide_eq_true h.1
set_option maxRecDepth 100000 in
set_option maxHeartbeats 4000000 in
theorem impl_rowsIn (N : Int) (n : Bool) (ps : List Int) (xss : List (List Int)) (Rf : Nat → Int) (us : Nat → Option Addr) (cs : Nat → Nat) (g : Nat) (a1 : Option Addr) (cap1 : Nat) (w : World) (hrg : Rgs w g N ps Rf ps.length) (hsp : spB N ps = true) (hlx : xss.length ≤ 1048576) (hr : ∀ r ∈ xss, r.length ≤ 1048576) (hu : 0 < xss.length → RowsAt w (.slice a1 xss.length cap1) ps xss us cs) :
    Calls Tryz.prog 115 #[.slice (some ⟨g, 0, none⟩) ps.length ps.length, .agg #[.bool n, .slice a1 xss.length cap1]] w fun e w' => Old w w' ∧ ((rwB N ps xss = false ∧ e = .returned (.tuple #[.slice none 0 0, .bool false])) ∨ (rwB N ps xss = true ∧ ∃ g', w.heap.size ≤ g' ∧ e = .returned (.tuple #[.slice (some ⟨g', 0, none⟩) ps.length ps.length, .bool true]) ∧ RRs w' g' N n ps Rf us ps.length)) := by
  have HU : Hid (0 < xss.length → RowsAt w (.slice a1 xss.length cap1) ps xss us cs) := hu
  have HR : Hid (∀ r ∈ xss, r.length ≤ 1048576) := hr
  have HSP : Hid (spB N ps = true) := hsp
  have hgl : g < w.heap.size := hrg.lt
  have HN : Hid (Old w (w.alloc (.cells #[.bool n, .slice a1 xss.length cap1] 171))) := (Old.refl w).alloc _
  have HRG0 : Hid (Rgs (w.alloc (.cells #[.bool n, .slice a1 xss.length cap1] 171)) g N ps Rf ps.length) := hrg.old ((Old.refl w).alloc _)
  have hlen := (bas_at (sp_ring hsp).2.1).1
  clear hu hr hsp hrg
  by_cases hn : xss.length = ps.length
  · have dn : ((xss.length : Int) != (ps.length : Int)) = false := by simp; omega
    obtain ⟨hz, hbb, hring⟩ := sp_ring HSP.out
    have HPM : Hid (∀ k, k < ps.length → pmB (ps.getD k 0) = true) := (bas_at hbb).2
    obtain ⟨Nn, rfl⟩ : ∃ Nn : Nat, N = (Nn : Int) := ⟨N.toNat, by omega⟩
    have hNn : 2 ≤ Nn ∧ Nn ≤ 16 := by omega
    obtain ⟨bu, capu, eu, hbu, hcu⟩ := HU.out (by omega)
    simp only [Value.slice.injEq, true_and] at eu
    obtain ⟨rfl, rfl⟩ := eu
    have HCU : Hid (∀ j, j < xss.length → w.cell? ⟨bu, j, none⟩ = some (.slice (us j) (xss.getD j []).length (cs j)) ∧ (xss.getD j []).length ≤ cs j ∧ Row w (.slice (us j) (xss.getD j []).length (cs j)) (xss.getD j [])) := hcu
    have HB0 : Hid (rwA Nn ps xss 0 = rwB Nn ps xss) := by show _ = _; unfold rwB; rw [decide_eq_true hn]; rfl
    have HNN : Hid (xss.length = ps.length) := hn
    obtain ⟨i0, hi, hz0, hz1, hz2⟩ := info_parts Tryz.infoRingRow
    generalize rwB (Nn : Int) ps xss = GB at *
    clear hz hbb hring hcu hn
    go_enter Tryz.func115, Tryz.ntmps115
    go_wp2_with (at_make; refine wpList_make_full _ rfl _ _ 84 rfl (w.heap.size + 1) 146 i0 (.agg #[.int .i64 0, .int .i64 0, .int .i64 0, .bool false, .slice none 0 0]) 5 Tryz.underlying84 hi hz0 hz1 .i64 .i64 _ _ ps.length rfl rfl rfl rfl (by rw [hz2]; omega) (by unfold maxLen; omega) (by simp) ?_; intro w2 hown hgrow)
    simp only [World.size_alloc] at hown hgrow
    have HRR : Hid (RRs w2 (w.heap.size + 1) Nn n ps Rf us 0) := ⟨_, made_any _ _ _, (by simpa using hown), fun i hi => by omega⟩
    have g2 : Old (w.alloc (.cells #[.bool n, .slice (some ⟨bu, 0, none⟩) xss.length cap1] 171)) w2 := grownBy_old hgrow
    have HG2 : Hid (Old w w2) := Old.trans HN.out g2
    have HRG2 : Hid (Rgs w2 g Nn ps Rf ps.length) := HRG0.out.old g2
    have HS2 : Hid (w2.cell? ⟨w.heap.size, 0, none⟩ = some (.bool n) ∧ w2.cell? ⟨w.heap.size, 1, none⟩ = some (.slice (some ⟨bu, 0, none⟩) xss.length cap1)) := ⟨(g2.cell (p := ⟨w.heap.size, 0, none⟩) (by simp)).trans (cell_at _ _ _ _ _ rfl), (g2.cell (p := ⟨w.heap.size, 1, none⟩) (by simp)).trans (cell_at _ _ _ _ _ rfl)⟩
    clear hown hgrow g2 HRG0
    go_loopw [21] (fun i W => ∃ k : Nat, k ≤ ps.length ∧ i = .int .i64 k ∧ Hid (rwA Nn ps xss k = GB) ∧ Hid (RRs W (w.heap.size + 1) Nn n ps Rf us k) ∧ Hid (Old w W) ∧ Hid (Rgs W g Nn ps Rf ps.length) ∧ Hid (W.cell? ⟨w.heap.size, 0, none⟩ = some (.bool n) ∧ W.cell? ⟨w.heap.size, 1, none⟩ = some (.slice (some ⟨bu, 0, none⟩) xss.length cap1))) (fun i _ => ps.length - (intOf i).toNat)
    case atStart => exact ⟨0, by omega, rfl, HB0, HRR, HG2, HRG2, HS2⟩
    case round =>
      obtain ⟨k, hk, rfl, H1, HRK, HG, HRG, HS⟩ := hrel
      clear HB0 HRR HG2 HRG2 HS2
      have hsr : w.heap.size + 1 < wr.heap.size := HRK.out.lt
      by_cases hlt : k < ps.length
      · have d1 : decide ((k : Int) < (ps.length : Int)) = true := by simp; omega
        have hnn := HNN.out
        have d2 : decide ((k : Int) < (xss.length : Int)) = true := by simp; omega
        have hkx : k < xss.length := by omega
        obtain ⟨r0, r1, r2⟩ := HRG.out.at k hlt hlt
        obtain ⟨c0, hcs, rw0⟩ := HCU.out k hkx
        have hp := pm_bd (HPM.out k hlt)
        have hm : xss.getD k [] ∈ xss := by simp [List.getD, hkx]
        have hrl := HR.out _ hm
        have HY : Hid (polyB (ps.getD k 0) Nn (xss.getD k []) = true → rwA Nn ps xss (k + 1) = GB) := fun h => by have := H1.out; rw [rwA_yes h] at this; exact this
        have HNo : Hid (polyB (ps.getD k 0) Nn (xss.getD k []) = false → GB = false) := fun h => by have := H1.out; rw [rwA_no hlt h] at this; exact this.symm
        have HPUT : Hid (∀ W, RRs W (w.heap.size + 1) Nn n ps Rf us k → RRs (((((W.setCell ⟨w.heap.size + 1, k * 5, none⟩ (.int .i64 (ps.getD k 0))).setCell ⟨w.heap.size + 1, k * 5 + 1, none⟩ (.int .i64 Nn)).setCell ⟨w.heap.size + 1, k * 5 + 2, none⟩ (.int .i64 (Rf k))).setCell ⟨w.heap.size + 1, k * 5 + 3, none⟩ (.bool n)).setCell ⟨w.heap.size + 1, k * 5 + 4, none⟩ (.slice (us k) Nn Nn)) (w.heap.size + 1) Nn n ps Rf us (k + 1)) := fun W h => h.put hlt
        obtain ⟨r, er⟩ : ∃ r, Rf k = r := ⟨_, rfl⟩
        obtain ⟨ua, eua⟩ : ∃ ua, us k = ua := ⟨_, rfl⟩
        obtain ⟨cc, ecc⟩ : ∃ cc, cs k = cc := ⟨_, rfl⟩
        rw [er] at r2 HPUT
        rw [eua] at c0 rw0 HPUT
        rw [ecc] at c0 rw0 hcs
        generalize xss.getD k [] = xs at *
        generalize ps.getD k 0 = p at *
        have cp := fun W (h : Row W (.slice ua xs.length cc) xs) => impl_poly p Nn r xs _ W h (by omega) hp
        have gb : Old wr (wr.alloc (.cells #[.int .i64 p, .int .i64 Nn, .int .i64 r] 144)) := (Old.refl wr).alloc _
        have HGB : Hid (Old w (wr.alloc (.cells #[.int .i64 p, .int .i64 Nn, .int .i64 r] 144))) := Old.trans HG.out gb
        have x1 : (wr.alloc (.cells #[.int .i64 p, .int .i64 Nn, .int .i64 r] 144)).cell? ⟨w.heap.size, 1, none⟩ = some (.slice (some ⟨bu, 0, none⟩) xss.length cap1) := (gb.cell (p := ⟨w.heap.size, 1, none⟩) (by show w.heap.size < wr.heap.size; omega)).trans HS.out.2
        have x2 : (wr.alloc (.cells #[.int .i64 p, .int .i64 Nn, .int .i64 r] 144)).cell? ⟨bu, k, none⟩ = some (.slice ua xs.length cc) := (HGB.out.cell (p := ⟨bu, k, none⟩) hbu).trans c0
        have RW : Hid (Row (wr.alloc (.cells #[.int .i64 p, .int .i64 Nn, .int .i64 r] 144)) (.slice ua xs.length cc) xs) := rw0.old HGB.out
        have HXL : Hid (polyB p Nn xs = true → (xs.length : Int) = Nn) := polyB_len
        clear H1 c0 rw0 er eua ecc hm gb hnn
        obtain ⟨q, hq⟩ : ∃ q, polyB p Nn xs = q := ⟨_, rfl⟩
        rw [hq] at cp HY HNo HXL
        clear hq
        cases q
        · have HB : Hid (GB = false) := HNo.out rfl
          clear HY HNo HXL
          go_wp2_with fail
          refine (cp _ RW.out).mono ?_
          rintro e w3 ⟨rfl, g3⟩
          have HG3 : Hid (Old w w3) := Old.trans HGB.out g3
          clear g3
          go_wp2_with fail
          exact bodyPost_ret (v := .tuple #[.slice none 0 0, .bool false]) (by simp [results, Tryz.results115, go_sem]) rfl ⟨HG3.out, Or.inl ⟨HB.out, rfl⟩⟩
        · have H3 : Hid (rwA Nn ps xss (k + 1) = GB) := HY.out rfl
          have hxl : xs.length = Nn := by have := HXL.out rfl; omega
          rw [hxl] at hcs
          have HXN : Hid (xs.length = Nn) := hxl
          clear HY HNo HXL hxl
          go_wp2_with fail
          refine (cp _ RW.out).mono ?_
          rintro e w3 ⟨rfl, g3⟩
          have g4 : Old wr w3 := Old.trans ((Old.refl wr).alloc _) g3
          have HG3 : Hid (Old w w3) := Old.trans HGB.out g3
          have HRK3 : Hid (RRs w3 (w.heap.size + 1) Nn n ps Rf us k) := HRK.out.old g4
          have HRG3 : Hid (Rgs w3 g Nn ps Rf ps.length) := HRG.out.old g4
          have HS3 : Hid (w3.cell? ⟨w.heap.size, 0, none⟩ = some (.bool n) ∧ w3.cell? ⟨w.heap.size, 1, none⟩ = some (.slice (some ⟨bu, 0, none⟩) xss.length cap1)) := ⟨(g4.cell (p := ⟨w.heap.size, 0, none⟩) (by show w.heap.size < wr.heap.size; omega)).trans HS.out.1, (g4.cell (p := ⟨w.heap.size, 1, none⟩) (by show w.heap.size < wr.heap.size; omega)).trans HS.out.2⟩
          have z0 : w3.cell? ⟨wr.heap.size, 0, none⟩ = some (.int .i64 p) := (g3.cell (p := ⟨wr.heap.size, 0, none⟩) (by simp)).trans (cell_at _ _ _ _ _ rfl)
          have z1 : w3.cell? ⟨wr.heap.size, 1, none⟩ = some (.int .i64 Nn) := (g3.cell (p := ⟨wr.heap.size, 1, none⟩) (by simp)).trans (cell_at _ _ _ _ _ rfl)
          have z2 : w3.cell? ⟨wr.heap.size, 2, none⟩ = some (.int .i64 r) := (g3.cell (p := ⟨wr.heap.size, 2, none⟩) (by simp)).trans (cell_at _ _ _ _ _ rfl)
          have s0 := HS3.out.1
          have s1 := HS3.out.2
          obtain ⟨y0, q0⟩ := HRK3.out.cell (k * 5) (by omega)
          obtain ⟨y1, q1⟩ := HRK3.out.cell (k * 5 + 1) (by omega)
          obtain ⟨y2, q2⟩ := HRK3.out.cell (k * 5 + 2) (by omega)
          obtain ⟨y3, q3⟩ := HRK3.out.cell (k * 5 + 3) (by omega)
          obtain ⟨y4, q4⟩ := HRK3.out.cell (k * 5 + 4) (by omega)
          have f0 := HRK3.out.free (k * 5)
          have f1 := HRK3.out.free (k * 5 + 1)
          have f2 := HRK3.out.free (k * 5 + 2)
          have f3 := HRK3.out.free (k * 5 + 3)
          have f4 := HRK3.out.free (k * 5 + 4)
          clear g3 g4 cp x1 x2 r0 r1 r2 RW
          rw [HXN.out]
          clear HXN
          go_upto_region 10 with fail
          have hne : w.heap.size ≠ w.heap.size + 1 := by omega
          have hng : g ≠ w.heap.size + 1 := by omega
          have A1 : Hid (RRs (((((w3.setCell ⟨w.heap.size + 1, k * 5, none⟩ (.int .i64 p)).setCell ⟨w.heap.size + 1, k * 5 + 1, none⟩ (.int .i64 Nn)).setCell ⟨w.heap.size + 1, k * 5 + 2, none⟩ (.int .i64 r)).setCell ⟨w.heap.size + 1, k * 5 + 3, none⟩ (.bool n)).setCell ⟨w.heap.size + 1, k * 5 + 4, none⟩ (.slice ua Nn Nn)).drew (w.heap.size + 1) Nn n ps Rf us (k + 1)) := RRs.drewn (HPUT.out _ HRK3.out)
          have A2 : Hid (Old w (((((w3.setCell ⟨w.heap.size + 1, k * 5, none⟩ (.int .i64 p)).setCell ⟨w.heap.size + 1, k * 5 + 1, none⟩ (.int .i64 Nn)).setCell ⟨w.heap.size + 1, k * 5 + 2, none⟩ (.int .i64 r)).setCell ⟨w.heap.size + 1, k * 5 + 3, none⟩ (.bool n)).setCell ⟨w.heap.size + 1, k * 5 + 4, none⟩ (.slice ua Nn Nn)).drew) := Below.drew (((((HG3.out.own (p := ⟨w.heap.size + 1, k * 5, none⟩) (by show w.heap.size ≤ w.heap.size + 1; omega) _).own (p := ⟨w.heap.size + 1, k * 5 + 1, none⟩) (by show w.heap.size ≤ w.heap.size + 1; omega) _).own (p := ⟨w.heap.size + 1, k * 5 + 2, none⟩) (by show w.heap.size ≤ w.heap.size + 1; omega) _).own (p := ⟨w.heap.size + 1, k * 5 + 3, none⟩) (by show w.heap.size ≤ w.heap.size + 1; omega) _).own (p := ⟨w.heap.size + 1, k * 5 + 4, none⟩) (by show w.heap.size ≤ w.heap.size + 1; omega) _)
          have A3 : Hid (Rgs (((((w3.setCell ⟨w.heap.size + 1, k * 5, none⟩ (.int .i64 p)).setCell ⟨w.heap.size + 1, k * 5 + 1, none⟩ (.int .i64 Nn)).setCell ⟨w.heap.size + 1, k * 5 + 2, none⟩ (.int .i64 r)).setCell ⟨w.heap.size + 1, k * 5 + 3, none⟩ (.bool n)).setCell ⟨w.heap.size + 1, k * 5 + 4, none⟩ (.slice ua Nn Nn)).drew g Nn ps Rf ps.length) := Rgs.drewn (HRG3.out.same ((heap_setCell_other _ _ _ _ hng).trans ((heap_setCell_other _ _ _ _ hng).trans ((heap_setCell_other _ _ _ _ hng).trans ((heap_setCell_other _ _ _ _ hng).trans ((heap_setCell_other _ _ _ _ hng).trans (rfl)))))))
          have A4 : Hid ((((((w3.setCell ⟨w.heap.size + 1, k * 5, none⟩ (.int .i64 p)).setCell ⟨w.heap.size + 1, k * 5 + 1, none⟩ (.int .i64 Nn)).setCell ⟨w.heap.size + 1, k * 5 + 2, none⟩ (.int .i64 r)).setCell ⟨w.heap.size + 1, k * 5 + 3, none⟩ (.bool n)).setCell ⟨w.heap.size + 1, k * 5 + 4, none⟩ (.slice ua Nn Nn)).drew.cell? ⟨w.heap.size, 0, none⟩ = some (.bool n) ∧ (((((w3.setCell ⟨w.heap.size + 1, k * 5, none⟩ (.int .i64 p)).setCell ⟨w.heap.size + 1, k * 5 + 1, none⟩ (.int .i64 Nn)).setCell ⟨w.heap.size + 1, k * 5 + 2, none⟩ (.int .i64 r)).setCell ⟨w.heap.size + 1, k * 5 + 3, none⟩ (.bool n)).setCell ⟨w.heap.size + 1, k * 5 + 4, none⟩ (.slice ua Nn Nn)).drew.cell? ⟨w.heap.size, 1, none⟩ = some (.slice (some ⟨bu, 0, none⟩) xss.length cap1)) := ⟨(cell_drew _ _).trans ((cellO _ _ _ _ hne).trans ((cellO _ _ _ _ hne).trans ((cellO _ _ _ _ hne).trans ((cellO _ _ _ _ hne).trans ((cellO _ _ _ _ hne).trans (HS3.out.1)))))), (cell_drew _ _).trans ((cellO _ _ _ _ hne).trans ((cellO _ _ _ _ hne).trans ((cellO _ _ _ _ hne).trans ((cellO _ _ _ _ hne).trans ((cellO _ _ _ _ hne).trans (HS3.out.2))))))⟩
          clear hne hng
          go_region
          go_wp2_with fail
          exact ⟨⟨k + 1, by omega, by go_num, H3, A1, A2, A3, A4⟩, by simp [intOf]; omega⟩
      · have d1 : decide ((k : Int) < (ps.length : Int)) = false := by simp; omega
        obtain rfl : k = ps.length := by omega
        have HB : Hid (GB = true) := by have := H1.out; rw [rwA_end (Nat.le_refl _)] at this; exact this.symm
        clear H1
        go_wp2_with fail
        exact bodyPost_ret (v := .tuple #[.slice (some ⟨w.heap.size + 1, 0, none⟩) ps.length ps.length, .bool true]) (by simp [results, Tryz.results115, go_sem]) rfl ⟨HG.out, Or.inr ⟨HB.out, w.heap.size + 1, by omega, rfl, HRK.out⟩⟩
  · have dn : ((xss.length : Int) != (ps.length : Int)) = true := by simp; omega
    have HB : Hid (rwB N ps xss = false) := by show _ = _; unfold rwB; rw [decide_eq_false hn]; rfl
    clear hn
    go_enter Tryz.func115, Tryz.ntmps115
    go_wp2_with fail
    exact bodyPost_ret (v := .tuple #[.slice none 0 0, .bool false]) (by simp [results, Tryz.results115, go_sem]) rfl ⟨HN.out, Or.inl ⟨HB.out, rfl⟩⟩
end Go.Proofs.YtanijpekdnkicaaGreatDoor
/- Proved: rows beside their rings as things; rows of rows out of things; contracts of with and numbersOf. -/
namespace Go.Proofs.YtanijpekdnkicaaGreatDoor
open Go.ChangeShapes Go.WideShapes Go.ChangeAt Go.RowKit
set_option linter.unusedVariables false
set_option linter.unusedSimpArgs false
def RdR (w : World) (v : Value) (m : Nat) (N : Int) (a : Bool) (ps : List Int) (Rf : Nat → Int) (us : Nat → Value) : Prop :=
  ∃ b cap, v = .slice (some ⟨b, 0, none⟩) m cap ∧ b < w.heap.size ∧ ∀ k, k < m → w.cell? ⟨b, k * 5, none⟩ = some (.int .i64 (ps.getD k 0)) ∧ w.cell? ⟨b, k * 5 + 1, none⟩ = some (.int .i64 N) ∧ w.cell? ⟨b, k * 5 + 2, none⟩ = some (.int .i64 (Rf k)) ∧ w.cell? ⟨b, k * 5 + 3, none⟩ = some (.bool a) ∧ w.cell? ⟨b, k * 5 + 4, none⟩ = some (us k)
theorem RRs.rd {W : World} {g : Nat} {N : Int} {n : Bool} {ps : List Int} {Rf : Nat → Int} {us : Nat → Option Addr} (h : RRs W g N n ps Rf us ps.length) : RdR W (.slice (some ⟨g, 0, none⟩) ps.length ps.length) ps.length N n ps Rf (fun k => .slice (us k) N.toNat N.toNat) :=
  ⟨g, ps.length, rfl, h.lt, fun k hk => h.at k hk hk⟩
end Go.Proofs.YtanijpekdnkicaaGreatDoor
