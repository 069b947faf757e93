/- Proved: the contract of the program's eachBy, by each of the two ways that are handed to it. -/
import Derived.Test.YtejkejfhahmhcaaDoorCvc
import Derived.Test.YtejkejfhahmhcaaDoorRsb
namespace Go.Proofs.YtejkejfhahmhcaaDoor
open Go.ChangeShapes Go.WideShapes Go.ChangeAt Go.RowKit
open M2
set_option linter.unusedVariables false
set_option linter.unusedSimpArgs false
set_option maxRecDepth 100000 in
set_option maxHeartbeats 2000000 in
theorem eachS_any (first : Array Value) (ss ts zs : List Int) (vs vt : Value) (w : World) (hs : Row w vs ss) (ht : Row w vt ts) (h1 : 1 ≤ ts.length) (h6 : ts.length ≤ 6) (hls : ss.length = ts.length) (hlz : zs.length = ts.length)
    (hm : ∀ k, k < ts.length → ∀ W, Old w W → Calls Tryd.prog 50 #[.agg first, .int .i64 (ss.getD k 0), .int .i64 (ts.getD k 0)] W fun e w' => e = .returned (.int .i64 (zs.getD k 0)) ∧ Old W w') :
    Calls Tryd.prog 48 #[.func (.func 50) #[.agg first] #[], vs, vt] w fun e w' => ∃ g, e = .returned (.slice (some ⟨g, 0, none⟩) ts.length ts.length) ∧ Old w w' ∧ Own w' w.heap.size (.slice (some ⟨g, 0, none⟩) ts.length ts.length) zs := by
  obtain ⟨i0, hi, hz0, hz1, hz2⟩ := info_parts Tryd.infoInt
  have HM : Hid (∀ k, k < ts.length → ∀ W, Old w W → Calls Tryd.prog 50 #[.agg first, .int .i64 (ss.getD k 0), .int .i64 (ts.getD k 0)] W fun e w' => e = .returned (.int .i64 (zs.getD k 0)) ∧ Old W w') := hm
  obtain ⟨b1, o1, cap1, rfl, hb1, hc1⟩ := hs.cells (by omega)
  obtain ⟨b2, o2, cap2, rfl, hb2, hc2⟩ := ht.cells (by omega)
  rw [hls] at hc1 ⊢
  have HC1 : Hid (∀ j, j < ts.length → w.cell? ⟨b1, o1 + j, none⟩ = some (.int .i64 (ss.getD j 0))) := hc1
  have HC2 : Hid (∀ j, j < ts.length → w.cell? ⟨b2, o2 + j, none⟩ = some (.int .i64 (ts.getD j 0))) := hc2
  clear hs ht hc1 hc2 hm hls
  go_enter Tryd.func48, Tryd.ntmps48
  go_wp2_with (at_make; refine wpList_make_full _ rfl _ _ 22 rfl w.heap.size 3 i0 (.int .i64 0) 1 Tryd.underlying22 hi hz0 hz1 .i64 .i64 _ _ ts.length rfl rfl rfl rfl (by rw [hz2]; omega) (by unfold maxLen; omega) (Nat.le_refl _) ?_; intro w3 hown hgrow)
  have HO : Hid (OwnI w3 w.heap.size w.heap.size ts.length (List.replicate ts.length 0)) := by
    rw [made_ints] at hown
    exact hown
  have HG3 : Hid (Old w w3) := Old.by_ (Old.refl _) hgrow (fun b hb => by cases hb)
  clear hown hgrow
  go_loopw [15] (fun i W => ∃ k : Nat, k ≤ ts.length ∧ i = .int .i64 k ∧ Hid (OwnI W w.heap.size w.heap.size ts.length (fillN zs k)) ∧ Hid (Old w W)) (fun i _ => ts.length - (intOf i).toNat)
  case atStart => exact ⟨0, by omega, rfl, (by show OwnI _ _ _ _ _; rw [fillN_zero, hlz]; exact HO.out), HG3⟩
  case round =>
    obtain ⟨k, hk, rfl, HO1, HG⟩ := hrel
    clear HO HG3
    by_cases hlt : k < ts.length
    · have d1 : decide ((k : Int) < (ts.length : Int)) = true := by simp; omega
      have i1 : (k : Int) < (ts.length : Int) := by omega
      have c1 : wr.cell? ⟨b1, o1 + k, none⟩ = some (.int .i64 (ss.getD k 0)) := (HG.out.cell (p := ⟨b1, o1 + k, none⟩) hb1).trans (HC1.out k hlt)
      have c2 : wr.cell? ⟨b2, o2 + k, none⟩ = some (.int .i64 (ts.getD k 0)) := (HG.out.cell (p := ⟨b2, o2 + k, none⟩) hb2).trans (HC2.out k hlt)
      have cm := HM.out k hlt
      have HPU : Hid (∀ W, OwnI W w.heap.size w.heap.size ts.length (fillN zs k) → OwnI (W.setCell ⟨w.heap.size, k, none⟩ (.int .i64 (zs.getD k 0))) w.heap.size w.heap.size ts.length (fillN zs (k + 1))) := fun W h => by
        have := h.put k (zs.getD k 0)
        rw [fillN_set zs k (by omega)] at this
        exact this
      generalize zs.getD k 0 = y at *
      generalize ss.getD k 0 = x at *
      generalize ts.getD k 0 = m at *
      go_wp2_with fail
      refine (cm _ HG.out).mono ?_
      rintro e w4 ⟨rfl, g4⟩
      have HO4 : Hid (OwnI w4 w.heap.size w.heap.size ts.length (fillN zs k)) := HO1.out.old g4
      have HG6 : Hid (Old w w4) := Old.trans HG.out g4
      have c3 := HO4.out.get (fillN_len zs k (by omega) |>.trans hlz) k hlt
      have c4 := HO4.out.free k
      generalize (fillN zs k).getD k 0 = oldv at *
      clear g4
      go_wp2_with fail
      exact ⟨⟨k + 1, by omega, by go_num, HPU.out _ HO4.out, HG6.out.own (Nat.le_refl _) _⟩, by simp [intOf]; omega⟩
    · have d1 : decide ((k : Int) < (ts.length : Int)) = false := by simp; omega
      obtain rfl : k = ts.length := by omega
      have HF : Hid (Own wr w.heap.size (.slice (some ⟨w.heap.size, 0, none⟩) ts.length ts.length) zs) := by
        have := HO1.out.own ((fillN_len zs ts.length (by omega)).trans hlz)
        rw [show fillN zs ts.length = zs by rw [← hlz]; exact fillN_all zs] at this
        exact this
      go_wp2_with fail
      go_ret
      exact ⟨_, rfl, HG.out, HF.out⟩
set_option maxRecDepth 100000 in
set_option maxHeartbeats 2000000 in
theorem eachT_any (first : Array Value) (ss ts zs : List Int) (vs vt : Value) (w : World) (hs : Row w vs ss) (ht : Row w vt ts) (h1 : 1 ≤ ts.length) (h6 : ts.length ≤ 6) (hls : ss.length = ts.length) (hlz : zs.length = ts.length)
    (hm : ∀ k, k < ts.length → ∀ W, Old w W → Calls Tryd.prog 71 #[.agg first, .int .i64 (ss.getD k 0), .int .i64 (ts.getD k 0)] W fun e w' => e = .returned (.int .i64 (zs.getD k 0)) ∧ Old W w') :
    Calls Tryd.prog 48 #[.func (.func 71) #[.agg first] #[], vs, vt] w fun e w' => ∃ g, e = .returned (.slice (some ⟨g, 0, none⟩) ts.length ts.length) ∧ Old w w' ∧ Own w' w.heap.size (.slice (some ⟨g, 0, none⟩) ts.length ts.length) zs := by
  obtain ⟨i0, hi, hz0, hz1, hz2⟩ := info_parts Tryd.infoInt
  have HM : Hid (∀ k, k < ts.length → ∀ W, Old w W → Calls Tryd.prog 71 #[.agg first, .int .i64 (ss.getD k 0), .int .i64 (ts.getD k 0)] W fun e w' => e = .returned (.int .i64 (zs.getD k 0)) ∧ Old W w') := hm
  obtain ⟨b1, o1, cap1, rfl, hb1, hc1⟩ := hs.cells (by omega)
  obtain ⟨b2, o2, cap2, rfl, hb2, hc2⟩ := ht.cells (by omega)
  rw [hls] at hc1 ⊢
  have HC1 : Hid (∀ j, j < ts.length → w.cell? ⟨b1, o1 + j, none⟩ = some (.int .i64 (ss.getD j 0))) := hc1
  have HC2 : Hid (∀ j, j < ts.length → w.cell? ⟨b2, o2 + j, none⟩ = some (.int .i64 (ts.getD j 0))) := hc2
  clear hs ht hc1 hc2 hm hls
  go_enter Tryd.func48, Tryd.ntmps48
  go_wp2_with (at_make; refine wpList_make_full _ rfl _ _ 22 rfl w.heap.size 3 i0 (.int .i64 0) 1 Tryd.underlying22 hi hz0 hz1 .i64 .i64 _ _ ts.length rfl rfl rfl rfl (by rw [hz2]; omega) (by unfold maxLen; omega) (Nat.le_refl _) ?_; intro w3 hown hgrow)
  have HO : Hid (OwnI w3 w.heap.size w.heap.size ts.length (List.replicate ts.length 0)) := by
    rw [made_ints] at hown
    exact hown
  have HG3 : Hid (Old w w3) := Old.by_ (Old.refl _) hgrow (fun b hb => by cases hb)
  clear hown hgrow
  go_loopw [15] (fun i W => ∃ k : Nat, k ≤ ts.length ∧ i = .int .i64 k ∧ Hid (OwnI W w.heap.size w.heap.size ts.length (fillN zs k)) ∧ Hid (Old w W)) (fun i _ => ts.length - (intOf i).toNat)
  case atStart => exact ⟨0, by omega, rfl, (by show OwnI _ _ _ _ _; rw [fillN_zero, hlz]; exact HO.out), HG3⟩
  case round =>
    obtain ⟨k, hk, rfl, HO1, HG⟩ := hrel
    clear HO HG3
    by_cases hlt : k < ts.length
    · have d1 : decide ((k : Int) < (ts.length : Int)) = true := by simp; omega
      have i1 : (k : Int) < (ts.length : Int) := by omega
      have c1 : wr.cell? ⟨b1, o1 + k, none⟩ = some (.int .i64 (ss.getD k 0)) := (HG.out.cell (p := ⟨b1, o1 + k, none⟩) hb1).trans (HC1.out k hlt)
      have c2 : wr.cell? ⟨b2, o2 + k, none⟩ = some (.int .i64 (ts.getD k 0)) := (HG.out.cell (p := ⟨b2, o2 + k, none⟩) hb2).trans (HC2.out k hlt)
      have cm := HM.out k hlt
      have HPU : Hid (∀ W, OwnI W w.heap.size w.heap.size ts.length (fillN zs k) → OwnI (W.setCell ⟨w.heap.size, k, none⟩ (.int .i64 (zs.getD k 0))) w.heap.size w.heap.size ts.length (fillN zs (k + 1))) := fun W h => by
        have := h.put k (zs.getD k 0)
        rw [fillN_set zs k (by omega)] at this
        exact this
      generalize zs.getD k 0 = y at *
      generalize ss.getD k 0 = x at *
      generalize ts.getD k 0 = m at *
      go_wp2_with fail
      refine (cm _ HG.out).mono ?_
      rintro e w4 ⟨rfl, g4⟩
      have HO4 : Hid (OwnI w4 w.heap.size w.heap.size ts.length (fillN zs k)) := HO1.out.old g4
      have HG6 : Hid (Old w w4) := Old.trans HG.out g4
      have c3 := HO4.out.get (fillN_len zs k (by omega) |>.trans hlz) k hlt
      have c4 := HO4.out.free k
      generalize (fillN zs k).getD k 0 = oldv at *
      clear g4
      go_wp2_with fail
      exact ⟨⟨k + 1, by omega, by go_num, HPU.out _ HO4.out, HG6.out.own (Nat.le_refl _) _⟩, by simp [intOf]; omega⟩
    · have d1 : decide ((k : Int) < (ts.length : Int)) = false := by simp; omega
      obtain rfl : k = ts.length := by omega
      have HF : Hid (Own wr w.heap.size (.slice (some ⟨w.heap.size, 0, none⟩) ts.length ts.length) zs) := by
        have := HO1.out.own ((fillN_len zs ts.length (by omega)).trans hlz)
        rw [show fillN zs ts.length = zs by rw [← hlz]; exact fillN_all zs] at this
        exact this
      go_wp2_with fail
      go_ret
      exact ⟨_, rfl, HG.out, HF.out⟩
end Go.Proofs.YtejkejfhahmhcaaDoor
