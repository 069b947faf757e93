/- Proved: the contract of the program's sumOfParts. -/
import Derived.Test.YtfgooclnohnkmaaGreatDoorRs6
import Derived.Test.YtfgooclnohnkmaaGreatDoorShr
import Derived.Test.YtfgooclnohnkmaaGreatDoorNJ
import Derived.Test.YtfgooclnohnkmaaGreatDoorSzAdd
namespace Go.Proofs.YtfgooclnohnkmaaGreatDoor
open Go.ChangeShapes Go.WideShapes Go.ChangeAt Go.RowKit
open M2
set_option linter.unusedVariables false
set_option linter.unusedSimpArgs false
theorem Own.at0 {w : World} {base g n : Nat} {zs : List Int} (h : Own w base (.slice (some ⟨g, 0, none⟩) n n) zs) (hn : zs.length = n) (h0 : 0 < n) : g < w.heap.size ∧ base ≤ g ∧ ∀ j, j < n → w.cell? ⟨g, j, none⟩ = some (.int .i64 (zs.getD j 0)) := by
  have hr := Own.row h
  rcases h.2 with ⟨e, h1⟩ | ⟨g', cap', cur, e, hb, hg, _⟩
  · omega
  · simp only [Value.slice.injEq, Option.some.injEq, Addr.mk.injEq] at e
    obtain ⟨⟨rfl, _⟩, _⟩ := e
    refine ⟨(Array.getElem?_eq_some_iff.1 hg).1, hb, fun j hj => ?_⟩
    rcases hr with ⟨a, c, e, e'⟩ | ⟨b, o, c, e, _, _, hc⟩
    · subst e'; simp at hn; omega
    · simp only [Value.slice.injEq, Option.some.injEq, Addr.mk.injEq] at e
      obtain ⟨⟨rfl, rfl, _⟩, _⟩ := e
      have := hc j (by omega)
      rwa [Nat.zero_add] at this
set_option maxRecDepth 100000 in
set_option maxHeartbeats 8000000 in
theorem sum_any (rs ps : List Nat) (v u : Value) (w : World) (hv : Row w v (toZ rs)) (hu : Row w u (toZ ps)) (hf : Fit u) (hb : Bas ps) (hrl : rs.length = ps.length) (hr : ∀ i, i < ps.length → rs.getD i 0 < ps.getD i 0) :
    Calls Tryz.prog 78 #[v, u] w fun e w' => e = .returned (.agg (szV (sumN rs ps ps.length))) ∧ Old w w' := by
  have hl6 := hb.len6
  have hl1 := hb.len1
  have csh := fun W h1 h2 => shares_any rs ps v u W h1 h2 hf hb hrl hr
  have HV : Hid (Row w v (toZ rs)) := hv
  have HU : Hid (Row w u (toZ ps)) := hu
  obtain ⟨va, vcap, rfl⟩ : ∃ a c, v = .slice a rs.length c := by have := hv.slice; rwa [toZ_len] at this
  obtain ⟨b2, o2, cap2, rfl, hb2, hc2⟩ := hu.atZ (by omega)
  have HB : Hid (Bas ps) := hb
  have HF : Hid (Fit (.slice (some ⟨b2, o2, none⟩) ps.length cap2)) := hf
  have HYL : Hid (∀ k, k < ps.length → (toZ (yL rs ps)).getD k 0 = ((yN rs ps k : Nat) : Int)) := fun k hk => by rw [toZ_get, yL_get _ _ _ hk]
  have HYN : Hid ((toZ (yL rs ps)).length = ps.length) := by show _ = _; rw [toZ_len, yL_len]
  obtain ⟨T, hT⟩ : ∃ T, sumN rs ps ps.length = T := ⟨_, rfl⟩
  rw [hT]
  have HTT : Hid (sumN rs ps ps.length = T) := hT
  have HLT : Hid ((pad T).length = 80) := by rw [← hT]; exact pad_len' (sumN_cnt hb _ (Nat.le_refl _)) (by omega)
  have HZ : Hid (Sz ((w.alloc (.cells Tryz.zeroCells95 95)).alloc (.cells Tryz.zeroCells95 95)) (w.heap.size + 1) (pad 0) (cnt 0)) := by
    have e : pad 0 = ext [] := by unfold pad; rw [dig_zero]
    show Sz _ _ _ _
    rw [e, cnt_zero]
    exact Sz.zero _ _ (by simp)
  have HY : Hid (Sz ((w.alloc (.cells Tryz.zeroCells95 95)).alloc (.cells Tryz.zeroCells95 95)) w.heap.size (ext []) 0) := (Sz.zero _ _ rfl).alloc _
  have HG0 : Hid (Old w ((w.alloc (.cells Tryz.zeroCells95 95)).alloc (.cells Tryz.zeroCells95 95))) := ((Old.refl w).alloc _).alloc _
  have HS0 : Hid (sumN rs ps 0 = 0) := rfl
  clear hv hu hc2 hb hr hf hT hrl
  unfold szV
  go_enter Tryz.func78, Tryz.ntmps78
  go_wp2_with fail
  refine (csh _ (HV.out.old HG0.out) (HU.out.old HG0.out)).mono ?_
  rintro e w0 ⟨g0, rfl, go0, oo0⟩
  have HGA : Hid (Old w w0) := Old.trans HG0.out go0
  have HZA : Hid (Sz w0 (w.heap.size + 1) (pad 0) (cnt 0)) := HZ.out.old go0
  have HYA : Hid (Sz w0 w.heap.size (ext []) 0) := HY.out.old go0
  have hbg : g0 < w0.heap.size ∧ w.heap.size + 1 + 1 ≤ g0 ∧ ∀ j, j < ps.length → w0.cell? ⟨g0, j, none⟩ = some (.int .i64 ((yN rs ps j : Nat) : Int)) := by
    obtain ⟨h1, h2, h3⟩ := Own.at0 oo0 HYN.out (by omega)
    refine ⟨h1, by simpa using h2, fun j hj => by rw [h3 j hj, HYL.out j hj]⟩
  obtain ⟨hg0, hg1, hgc⟩ := hbg
  have HC1 : Hid (∀ j, j < ps.length → w0.cell? ⟨g0, j, none⟩ = some (.int .i64 ((yN rs ps j : Nat) : Int))) := hgc
  clear go0 oo0 HZ HY HG0 hgc csh
  go_wp2_with fail
  go_loopw [12] (fun j W => ∃ k : Nat, k ≤ ps.length ∧ j = .int .i64 k ∧ Hid (Sz W (w.heap.size + 1) (pad (sumN rs ps k)) (cnt (sumN rs ps k))) ∧ Hid (Sz W w.heap.size (ext []) 0) ∧ Hid (Old w W) ∧ Hid (∀ j, j < ps.length → W.cell? ⟨g0, j, none⟩ = some (.int .i64 ((yN rs ps j : Nat) : Int))) ∧ g0 < W.heap.size) (fun j _ => ps.length - (intOf j).toNat)
  case atStart => exact ⟨0, by omega, rfl, HZA, HYA, HGA, HC1, hg0⟩
  case round =>
    obtain ⟨k, hk, rfl, HS, HR0, HG, HC, hgw⟩ := hrel
    clear HZA HYA HGA HC1
    by_cases hlt : k < ps.length
    · have d1 : decide ((k : Int) < (ps.length : Int)) = true := by simp; omega
      have c1 := HC.out k hlt
      have hyl := yN_lt (rs := rs) HB.out hlt
      have co := fun W h3 => others_any (toZ ps) (.slice (some ⟨b2, o2, none⟩) ps.length cap2) k W h3 HF.out (by rw [toZ_len]; exact hlt) (by rw [toZ_len]; omega)
      rw [oth_toZ] at co
      have cp := fun v' W h3 => productSize_sz (oth ps k) v' W h3 (Nat.le_trans (oth_len ps k) hl6) (fun p hp => HB.out.hi p (oth_mem hp))
      have cs := fun W => scaled_sz (prodN (oth ps k)) (yN rs ps k) 0 W (Nat.le_trans (oth_cnt HB.out hlt) (by omega)) (by omega) (by omega)
      rw [Nat.add_zero] at cs
      have cd := fun W => add_sz (sumN rs ps k) (prodN (oth ps k) * yN rs ps k) W (Nat.le_trans (sumN_cnt HB.out k hk) (by omega)) (Nat.le_trans (part_cnt HB.out hlt) (by omega))
      have HE : Hid (sumN rs ps k + prodN (oth ps k) * yN rs ps k = sumN rs ps (k + 1)) := rfl
      rw [HE.out] at cd
      have HLS : Hid ((pad (sumN rs ps (k + 1))).length = 80) := pad_len' (sumN_cnt HB.out (k + 1) hlt) (by omega)
      unfold szV at cp cs cd
      clear HE
      obtain ⟨S2, hS2⟩ : ∃ S2, sumN rs ps (k + 1) = S2 := ⟨_, rfl⟩
      have HFF : Hid (∀ W, Sz W (w.heap.size + 1) (pad S2) (cnt S2) → Sz W (w.heap.size + 1) (pad (sumN rs ps (k + 1))) (cnt (sumN rs ps (k + 1)))) := fun W h => by rw [hS2]; exact h
      rw [hS2] at cd HLS
      clear hS2
      generalize prodN (oth ps k) * yN rs ps k = pt at *
      generalize prodN (oth ps k) = po at *
      generalize yN rs ps k = y at *
      generalize ps.getD k 0 = p at *
      generalize sumN rs ps k = S1 at *
      have i1 : (k : Int) < (ps.length : Int) := by omega
      go_wp2_with fail
      refine reg_s6 (pad S1) (pad po) (pad pt) (pad S2) (cnt S1) (cnt po) (cnt pt) (cnt S2) (w.heap.size + 1) k y ps.length cap2 (some ⟨b2, o2, none⟩) (toZ (oth ps k)) wr HS HLS (fun W g => (co W (HU.out.old (Old.trans HG.out g))).mono (fun e w' ⟨v', h1, h2, h3⟩ => ⟨v', h1, h2, Own.row h3⟩)) cp cs cd _ _ _ _ _ _ _ _ _ _ _ _ _ _ _ _ _ _ _ _ _ _ _ _ _ ?_
      intro W1 W u17 u18 u19 u20 u21 u22 u23 u24 g5 hW
      have HG5 : Hid (Old w W1) := Old.trans HG.out g5
      have HS5 : Hid (Sz W1 (w.heap.size + 1) (pad S1) (cnt S1)) := HS.out.old g5
      have HR5 : Hid (Sz W1 w.heap.size (ext []) 0) := HR0.out.old g5
      have HC5 : Hid (∀ j, j < ps.length → (W1.setRow (w.heap.size + 1) (szA (pad S2) (cnt S2))).cell? ⟨g0, j, none⟩ = some (.int .i64 ((yN rs ps j : Nat) : Int))) := fun j hj => (World.cell?_of_block (setRow_other W1 (w.heap.size + 1) g0 _ (by omega))).trans ((g5.cell (p := ⟨g0, j, none⟩) hgw).trans (HC.out j hj))
      have hgw5 : g0 < W1.heap.size := Nat.lt_of_lt_of_le hgw g5.size
      subst hW
      clear g5 c1
      go_wp2_with fail
      exact ⟨⟨k + 1, by omega, by go_num, HFF.out _ (HS5.out.row (pad S2) (cnt S2) HLS.out), HR5.out.otherRow (by omega) _, HG5.out.row (by omega) _, HC5, (by simpa using hgw5)⟩, by simp [intOf]; omega⟩
    · have d1 : decide ((k : Int) < (ps.length : Int)) = false := by simp; omega
      obtain rfl : k = ps.length := by omega
      have HS2 : Hid (Sz wr (w.heap.size + 1) (pad T) (cnt T)) := by
        have := HS.out
        rw [HTT.out] at this
        exact this
      clear HS
      go_wp2_with (first | ((with_reducible refine load_sz HS2.out ?_ ?_); exact rfl; simp only [Act.put, List.setIfInBounds_toArray, List.set_cons_succ, List.set_cons_zero]) | ((with_reducible refine store_sz HR0.out (pad T) (cnt T) HLT.out ?_ ?_ ?_); exact rfl; exact rfl; simp only [Act.put]) | ((with_reducible refine bodyPost_ret (ret_sz Tryz.results78 _ _ ?_ (HR0.out.row (pad T) (cnt T) HLT.out)) ?_ ?_); exact rfl; exact rfl; exact ⟨rfl, HG.out.row (Nat.le_refl _) _⟩))
end Go.Proofs.YtfgooclnohnkmaaGreatDoor
