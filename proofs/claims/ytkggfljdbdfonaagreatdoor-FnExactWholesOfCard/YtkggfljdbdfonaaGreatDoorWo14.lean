/- Proved: several texts in one: what each proves is said ahead of it. -/
import Derived.Test.YtkggfljdbdfonaaGreatDoorRga
import Derived.Test.YtkggfljdbdfonaaGreatDoorWo13
/- Proved: the model's l5Back where it transforms. -/
namespace Go.Proofs.YtkggfljdbdfonaaGreatDoor
open Go.ChangeShapes Go.WideShapes Go.ChangeAt Go.RowKit
open M1
set_option linter.unusedVariables false
set_option linter.unusedSimpArgs false
set_option maxRecDepth 100000 in
set_option maxHeartbeats 8000000 in
theorem spec_l5Back_t (N : Int) (ps : List Int) (xss zss : List (List Int)) (Rf : Nat → Int) (v u1 : Value) (w : World) (hv : Row w v ps) (h1 : RowS w u1 xss) (hps : 1 ≤ ps.length ∧ ps.length ≤ 6) (hx : xss.length = ps.length) (hzl : zss.length = ps.length)
    (hR : ∀ k, k < ps.length → ∀ W, Calls Tryz.prog 141 #[.int .i64 (ps.getD k 0), .int .i64 N] W fun e w' => e = .returned (.tuple #[.agg #[.int .i64 (ps.getD k 0), .int .i64 N, .int .i64 (Rf k)], .bool true]) ∧ Old W w')
    (KF : ∀ k, k < ps.length → ∀ W u, Row W u (xss.getD k []) → Calls Tryz.prog 95 #[.agg #[.int .i64 (ps.getD k 0), .int .i64 N, .int .i64 (Rf k)], u] W fun e w' => ∃ v', e = .returned v' ∧ Old W w' ∧ Own w' W.heap.size v' (zss.getD k [])) :
    Calls Tryz.prog 46 #[.agg #[.int .i64 N, v], .agg #[.bool true, u1]] w fun e w' => ∃ v', e = .returned v' ∧ Old w w' ∧ OwS zss w' w.heap.size w'.heap.size v' := by
  obtain ⟨i0, hi, hz0, hz1, hz2⟩ := info_parts Tryz.infoInt
  obtain ⟨j0, ji, jz0, jz1, jz2⟩ := info_parts Tryz.infoInts
  have hv0 := hv
  obtain ⟨a0, cap0, ev⟩ := hv.slice
  obtain ⟨a1, cap1, e1⟩ := h1.slice
  rw [hx] at e1
  subst ev e1
  rcases hv with ⟨a, cap, e, e'⟩ | ⟨b, o, cap, e, hb, h0, hc⟩
  · subst e'
    simp at hps
  rcases h1 with ⟨a, cap, e, e'⟩ | ⟨b1, o1, cap, us1, e_1, hb1, h01, hc1⟩
  · subst e'
    simp at hx
    omega
  simp only [Value.slice.injEq, true_and] at e e_1
  obtain ⟨rfl, rfl⟩ := e
  obtain ⟨rfl, hq1, rfl⟩ := e_1
  have HKF : Hid (∀ k, k < ps.length → ∀ W u, Row W u (xss.getD k []) → Calls Tryz.prog 95 #[.agg #[.int .i64 (ps.getD k 0), .int .i64 N, .int .i64 (Rf k)], u] W fun e w' => ∃ v', e = .returned v' ∧ Old W w' ∧ Own w' W.heap.size v' (zss.getD k [])) := KF
  clear KF
  have HC1 : Hid (∀ j, j < ps.length → w.cell? ⟨b1, o1 + j, none⟩ = some (us1 j) ∧ Row w (us1 j) (xss.getD j [])) := fun j hj => hc1 j (by omega)
  have HZ : Hid (∀ k, k < ps.length → zss.take (k + 1) = zss.take k ++ [zss.getD k []]) := fun k hk => take_succL _ _ (by omega)
  have HZL : Hid (zss.length = ps.length) := hzl
  obtain ⟨wB, hwB⟩ : ∃ wB, wB = ((w.alloc (.cells #[.int .i64 N, .slice (some ⟨b, o, none⟩) ps.length cap0] 33)).alloc (.cells #[.bool true, .slice (some ⟨b1, o1, none⟩) ps.length cap1] 35)) := ⟨_, rfl⟩
  have HAO : Hid (Old w wB) := by rw [hwB]; exact ((Old.refl w).alloc _).alloc _
  have HSB : Hid (StW wB (w.heap.size + 1) (.bool true) (.slice (some ⟨b1, o1, none⟩) ps.length cap1) 35) := by
    have := StW.new (w.alloc (.cells #[.int .i64 N, .slice (some ⟨b, o, none⟩) ps.length cap0] 33)) (.bool true) (.slice (some ⟨b1, o1, none⟩) ps.length cap1) 35
    rw [← hwB] at this
    simp at this
    exact this
  have cR := spec_l5Rings N ps Rf _ wB (hv0.old HAO.out) hps hR
  have hbz1 : b1 < wB.heap.size := Nat.lt_of_lt_of_le hb1 HAO.out.size
  have HBZ : Hid (wB.heap.size = w.heap.size + 1 + 1) := by rw [hwB]; show _ = _; simp
  clear hR hc hc1 hv0 hzl hq1 h0 h01 hx
  go_enter Tryz.func46, Tryz.ntmps46
  go_wp2_with fail
  rw [← hwB]
  clear hwB
  refine cR.mono ?_
  rintro e wR ⟨ga, gc, rfl, gR, hrg⟩
  have HRG : Hid (Rgm wR wB.heap.size (.slice ga ps.length gc) N ps Rf ps.length) := hrg
  have HGR : Hid (Old wB wR) := gR
  have hszR := gR.size
  clear hrg gR cR
  go_wp2_with fail
  go_loopw [5, 11] (fun x i W => ∃ (k : Nat) (a : Option Addr) (cap : Nat), k ≤ ps.length ∧ i = .int .i64 k ∧ x = .slice a k cap ∧ Hid (OwS (zss.take k) W wR.heap.size W.heap.size (.slice a k cap)) ∧ Hid (Old wR W)) (fun _ i _ => ps.length - (intOf i).toNat)
  case atStart => exact ⟨0, none, 0, by omega, rfl, rfl, ⟨Nat.le_refl _, Or.inl ⟨rfl, by simp⟩⟩, Old.refl _⟩
  case round =>
    obtain ⟨k, a, cap, hk, rfl, rfl, HO, HG⟩ := hrel
    have hsr := HG.out.size
    by_cases hlt : k < ps.length
    · have d1 : decide ((k : Int) < (ps.length : Int)) = true := by simp; omega
      obtain ⟨g0, hga, hgl, hgh, x0, x1, x2⟩ := (HRG.out.old HG.out).at k hlt
      subst hga
      obtain ⟨p1, p2⟩ := HC1.out k hlt
      obtain ⟨xa, ya, f1⟩ := p2.slice
      rw [f1] at p1 p2
      have HGB : Hid (Old wB wr) := Old.trans HGR.out HG.out
      have HGW : Hid (Old w wr) := Old.trans HAO.out HGB.out
      have c1 : wr.cell? ⟨b1, o1 + k, none⟩ = some (.slice xa (xss.getD k []).length ya) := (HGW.out.cell (p := ⟨b1, o1 + k, none⟩) hb1).trans p1
      have R1 : Hid (Row wr (.slice xa (xss.getD k []).length ya) (xss.getD k [])) := p2.old HGW.out
      have SB := HSB.out.old HGB.out
      have n0 := SB.c0
      have n1 := SB.c1
      have hbr1 : b1 < wr.heap.size := by omega
      have hsb : w.heap.size + 1 < wr.heap.size := SB.lt
      have HZK : Hid (zss.take (k + 1) = zss.take k ++ [zss.getD k []]) := HZ.out k hlt
      clear SB p1 p2 f1
      have KFk := HKF.out k hlt
      generalize zss.getD k [] = zs at *
      generalize xss.getD k [] = xs at *
      generalize ps.getD k 0 = p at *
      generalize Rf k = r at *
      have HEMB : Hid (∀ (W : World) (ra : Option Addr) (rc : Nat), Old wr W → Own W wr.heap.size (.slice ra zs.length rc) zs → zs.length ≤ rc → ∃ vs, W.ownsRow wR.heap.size 22 1 (.slice a k cap) k vs ∧ (∀ v' w', w'.ownsRow wR.heap.size 22 1 v' (k + 1) (vs ++ [.slice ra zs.length rc]) → W.grownBy w' (Value.slice a k cap).ownBlock → (v'.ownBlock = (Value.slice a k cap).ownBlock ∨ v'.ownBlock = some W.heap.size) → OwS (zss.take (k + 1)) w' wR.heap.size w'.heap.size v' ∧ Old wR w')) := fun W ra rc g o hc => by
        have hl : (zss.take k).length = k := by rw [List.length_take]; have := HZL.out; omega
        have := OwS.app HO.out hsr g o hc
        rw [hl] at this
        rw [HZK.out]
        obtain ⟨vs, t1, t2⟩ := this
        refine ⟨vs, t1, fun v' w' q1 q2 q3 => ⟨t2 v' w' q1 q2 q3, ?_⟩⟩
        refine Below.grown (Old.trans HG.out g) q2 (Old.trans HG.out g).size (fun p hp => ?_)
        obtain ⟨hh, ⟨e, e2⟩ | ⟨p', cap', vs, e, hcap, hl, hhi, _⟩⟩ := HO.out
        · rw [e] at hp
          cases hp
        · rw [e] at hp
          simp only [Value.ownBlock, Option.some.injEq] at hp
          omega
      obtain ⟨w4, hw4⟩ : ∃ w4, w4 = wr.alloc (.cells #[.int .i64 p, .int .i64 N, .int .i64 r] 116) := ⟨_, rfl⟩
      have HG4 : Hid (Old wr w4) := by
        rw [hw4]
        exact (Old.refl wr).alloc _
      have y0 : w4.cell? ⟨wr.heap.size, 0, none⟩ = some (.int .i64 p) := by rw [hw4]; exact cell_at _ _ _ _ _ rfl
      have y1 : w4.cell? ⟨wr.heap.size, 1, none⟩ = some (.int .i64 N) := by rw [hw4]; exact cell_at _ _ _ _ _ rfl
      have y2 : w4.cell? ⟨wr.heap.size, 2, none⟩ = some (.int .i64 r) := by rw [hw4]; exact cell_at _ _ _ _ _ rfl
      have n0' := (HG4.out.cell (p := ⟨w.heap.size + 1, 0, none⟩) hsb).trans n0
      have n1' := (HG4.out.cell (p := ⟨w.heap.size + 1, 1, none⟩) hsb).trans n1
      have c1' := (HG4.out.cell (p := ⟨b1, o1 + k, none⟩) hbr1).trans c1
      have hlt' : (k : Int) < (ps.length : Int) := by omega
      rename_i wq
      go_wp2_with fail
      rw [← hw4]
      clear hw4
      refine reg_RgB w4 wr.heap.size (w.heap.size + 1) b1 o1 ps.length cap1 k a cap p N r xa xs.length ya zs wR.heap.size (Nat.le_trans hsr HG4.out.size) (fun W v => OwS (zss.take (k + 1)) W wR.heap.size W.heap.size v ∧ Old wR W) y0 y1 y2 n1' c1' hlt (by omega) (by omega) (fun W g => KFk W _ (R1.out.old (Old.trans HG4.out g))) (fun W ra rc g o hc => HEMB.out W ra rc (Old.trans HG4.out g) (o.low HG4.out.size) hc) _ _ ?_ ?_ ?_ ?_ ?_ ?_
      iterate 5 (· exact rfl)
      intro us W' hfin
      obtain ⟨O5, G5⟩ := hfin
      have HO5 : Hid (OwS (zss.take (k + 1)) W' wR.heap.size W'.heap.size (us 10)) := O5
      have HG5 : Hid (Old wR W') := G5
      clear O5 G5 c1 c1' n0 n0' n1 n1' y0 y1 y2 x0 x1 x2 KFk HEMB
      simp only [putAll, Act.put, slotRgB, List.range, List.range.loop, List.map_cons, List.map_nil, List.getD_cons_zero, List.getD_cons_succ, List.setIfInBounds_toArray, List.set_cons_succ, List.set_cons_zero]
      have hl1 : (zss.take (k + 1)).length = k + 1 := by rw [List.length_take]; have := HZL.out; omega
      obtain ⟨a5, cap5, e5⟩ := HO5.out.slice
      rw [hl1] at e5
      rw [e5] at HO5
      generalize us 10 = u10 at *
      subst e5
      go_wp2_with fail
      exact ⟨⟨k + 1, _, _, by omega, by go_num, rfl, HO5, HG5⟩, by simp [intOf]; omega⟩
    · have d1 : decide ((k : Int) < (ps.length : Int)) = false := by simp; omega
      obtain rfl : k = ps.length := by omega
      have HF : Hid (OwS zss wr wR.heap.size wr.heap.size (.slice a ps.length cap)) := by
        have := HO.out
        rw [List.take_of_length_le (by have := HZL.out; omega)] at this
        exact this
      go_wp2_with fail
      go_ret
      exact ⟨_, rfl, Old.trans HAO.out (Old.trans HGR.out HG.out), HF.out.low (Nat.le_trans HAO.out.size hszR)⟩
end Go.Proofs.YtkggfljdbdfonaaGreatDoor
/- Proved: the model's l5Back where it copies. -/
namespace Go.Proofs.YtkggfljdbdfonaaGreatDoor
open Go.ChangeShapes Go.WideShapes Go.ChangeAt Go.RowKit
open M1
set_option linter.unusedVariables false
set_option linter.unusedSimpArgs false
theorem heap_newL5bc (w : World) (o : Obj) : (w.alloc o).heap[w.heap.size]? = some o := by
  unfold World.alloc
  simp
theorem own_none0L5bc (w : World) (base : Nat) (h : base ≤ w.heap.size) : Own (w.alloc (.cells #[] 3)) base (.slice (some ⟨w.heap.size, 0, none⟩) 0 0) [] := by
  refine ⟨rfl, .inr ⟨w.heap.size, 0, #[], rfl, h, ?_, Nat.le_refl _, ?_, ?_, ?_⟩⟩
  · exact heap_newL5bc w _
  all_goals simp
theorem own_app0L5bc {w : World} {base : Nat} {v : Value} {zs : List Int} (h : w.ownsRow base 3 1 v (0 + zs.length) ([] ++ zs.map (Value.int .i64))) : Own w base v zs := by
  rw [Nat.zero_add, List.nil_append] at h
  exact h
set_option maxRecDepth 100000 in
set_option maxHeartbeats 8000000 in
theorem spec_l5Back_c (N : Int) (ps : List Int) (xss zss : List (List Int)) (Rf : Nat → Int) (v u1 : Value) (w : World) (hv : Row w v ps) (h1 : RowS w u1 xss) (hps : 1 ≤ ps.length ∧ ps.length ≤ 6) (hx : xss.length = ps.length) (hzl : zss.length = ps.length)
    (hR : ∀ k, k < ps.length → ∀ W, Calls Tryz.prog 141 #[.int .i64 (ps.getD k 0), .int .i64 N] W fun e w' => e = .returned (.tuple #[.agg #[.int .i64 (ps.getD k 0), .int .i64 N, .int .i64 (Rf k)], .bool true]) ∧ Old W w')
    (hsame : ∀ k, k < ps.length → zss.getD k [] = xss.getD k [] ∧ 2 ≤ (xss.getD k []).length ∧ (xss.getD k []).length ≤ 16) :
    Calls Tryz.prog 46 #[.agg #[.int .i64 N, v], .agg #[.bool false, u1]] w fun e w' => ∃ v', e = .returned v' ∧ Old w w' ∧ OwS zss w' w.heap.size w'.heap.size v' := by
  obtain ⟨i0, hi, hz0, hz1, hz2⟩ := info_parts Tryz.infoInt
  obtain ⟨j0, ji, jz0, jz1, jz2⟩ := info_parts Tryz.infoInts
  have hv0 := hv
  obtain ⟨a0, cap0, ev⟩ := hv.slice
  obtain ⟨a1, cap1, e1⟩ := h1.slice
  rw [hx] at e1
  subst ev e1
  rcases hv with ⟨a, cap, e, e'⟩ | ⟨b, o, cap, e, hb, h0, hc⟩
  · subst e'
    simp at hps
  rcases h1 with ⟨a, cap, e, e'⟩ | ⟨b1, o1, cap, us1, e_1, hb1, h01, hc1⟩
  · subst e'
    simp at hx
    omega
  simp only [Value.slice.injEq, true_and] at e e_1
  obtain ⟨rfl, rfl⟩ := e
  obtain ⟨rfl, hq1, rfl⟩ := e_1
  have HSM : Hid (∀ k, k < ps.length → zss.getD k [] = xss.getD k [] ∧ 2 ≤ (xss.getD k []).length ∧ (xss.getD k []).length ≤ 16) := hsame
  clear hsame
  have HC1 : Hid (∀ j, j < ps.length → w.cell? ⟨b1, o1 + j, none⟩ = some (us1 j) ∧ Row w (us1 j) (xss.getD j [])) := fun j hj => hc1 j (by omega)
  have HZ : Hid (∀ k, k < ps.length → zss.take (k + 1) = zss.take k ++ [zss.getD k []]) := fun k hk => take_succL _ _ (by omega)
  have HZL : Hid (zss.length = ps.length) := hzl
  obtain ⟨wB, hwB⟩ : ∃ wB, wB = ((w.alloc (.cells #[.int .i64 N, .slice (some ⟨b, o, none⟩) ps.length cap0] 33)).alloc (.cells #[.bool false, .slice (some ⟨b1, o1, none⟩) ps.length cap1] 35)) := ⟨_, rfl⟩
  have HAO : Hid (Old w wB) := by rw [hwB]; exact ((Old.refl w).alloc _).alloc _
  have HSB : Hid (StW wB (w.heap.size + 1) (.bool false) (.slice (some ⟨b1, o1, none⟩) ps.length cap1) 35) := by
    have := StW.new (w.alloc (.cells #[.int .i64 N, .slice (some ⟨b, o, none⟩) ps.length cap0] 33)) (.bool false) (.slice (some ⟨b1, o1, none⟩) ps.length cap1) 35
    rw [← hwB] at this
    simp at this
    exact this
  have cR := spec_l5Rings N ps Rf _ wB (hv0.old HAO.out) hps hR
  have hbz1 : b1 < wB.heap.size := Nat.lt_of_lt_of_le hb1 HAO.out.size
  have HBZ : Hid (wB.heap.size = w.heap.size + 1 + 1) := by rw [hwB]; show _ = _; simp
  clear hR hc hc1 hv0 hzl hq1 h0 h01 hx
  go_enter Tryz.func46, Tryz.ntmps46
  go_wp2_with fail
  rw [← hwB]
  clear hwB
  refine cR.mono ?_
  rintro e wR ⟨ga, gc, rfl, gR, hrg⟩
  have HRG : Hid (Rgm wR wB.heap.size (.slice ga ps.length gc) N ps Rf ps.length) := hrg
  have HGR : Hid (Old wB wR) := gR
  have hszR := gR.size
  clear hrg gR cR
  go_wp2_with fail
  go_loopw [5, 11] (fun x i W => ∃ (k : Nat) (a : Option Addr) (cap : Nat), k ≤ ps.length ∧ i = .int .i64 k ∧ x = .slice a k cap ∧ Hid (OwS (zss.take k) W wR.heap.size W.heap.size (.slice a k cap)) ∧ Hid (Old wR W)) (fun _ i _ => ps.length - (intOf i).toNat)
  case atStart => exact ⟨0, none, 0, by omega, rfl, rfl, ⟨Nat.le_refl _, Or.inl ⟨rfl, by simp⟩⟩, Old.refl _⟩
  case round =>
    obtain ⟨k, a, cap, hk, rfl, rfl, HO, HG⟩ := hrel
    have hsr := HG.out.size
    by_cases hlt : k < ps.length
    · have d1 : decide ((k : Int) < (ps.length : Int)) = true := by simp; omega
      obtain ⟨g0, hga, hgl, hgh, x0, x1, x2⟩ := (HRG.out.old HG.out).at k hlt
      subst hga
      obtain ⟨p1, p2⟩ := HC1.out k hlt
      obtain ⟨xa, ya, f1⟩ := p2.slice
      rw [f1] at p1 p2
      have HGB : Hid (Old wB wr) := Old.trans HGR.out HG.out
      have HGW : Hid (Old w wr) := Old.trans HAO.out HGB.out
      have c1 : wr.cell? ⟨b1, o1 + k, none⟩ = some (.slice xa (xss.getD k []).length ya) := (HGW.out.cell (p := ⟨b1, o1 + k, none⟩) hb1).trans p1
      have R1 : Hid (Row wr (.slice xa (xss.getD k []).length ya) (xss.getD k [])) := p2.old HGW.out
      have SB := HSB.out.old HGB.out
      have n0 := SB.c0
      have n1 := SB.c1
      have hbr1 : b1 < wr.heap.size := by omega
      have hsb : w.heap.size + 1 < wr.heap.size := SB.lt
      have HZK : Hid (zss.take (k + 1) = zss.take k ++ [zss.getD k []]) := HZ.out k hlt
      clear SB p1 p2 f1
      obtain ⟨m1, m2, m3⟩ := HSM.out k hlt
      generalize zss.getD k [] = zs at *
      generalize xss.getD k [] = xs at *
      generalize ps.getD k 0 = p at *
      generalize Rf k = r at *
      have HEMB : Hid (∀ (W : World) (ra : Option Addr) (rc : Nat), Old wr W → Own W wr.heap.size (.slice ra zs.length rc) zs → zs.length ≤ rc → ∃ vs, W.ownsRow wR.heap.size 22 1 (.slice a k cap) k vs ∧ (∀ v' w', w'.ownsRow wR.heap.size 22 1 v' (k + 1) (vs ++ [.slice ra zs.length rc]) → W.grownBy w' (Value.slice a k cap).ownBlock → (v'.ownBlock = (Value.slice a k cap).ownBlock ∨ v'.ownBlock = some W.heap.size) → OwS (zss.take (k + 1)) w' wR.heap.size w'.heap.size v' ∧ Old wR w')) := fun W ra rc g o hc => by
        have hl : (zss.take k).length = k := by rw [List.length_take]; have := HZL.out; omega
        have := OwS.app HO.out hsr g o hc
        rw [hl] at this
        rw [HZK.out]
        obtain ⟨vs, t1, t2⟩ := this
        refine ⟨vs, t1, fun v' w' q1 q2 q3 => ⟨t2 v' w' q1 q2 q3, ?_⟩⟩
        refine Below.grown (Old.trans HG.out g) q2 (Old.trans HG.out g).size (fun p hp => ?_)
        obtain ⟨hh, ⟨e, e2⟩ | ⟨p', cap', vs, e, hcap, hl, hhi, _⟩⟩ := HO.out
        · rw [e] at hp
          cases hp
        · rw [e] at hp
          simp only [Value.ownBlock, Option.some.injEq] at hp
          omega
      obtain ⟨w4, hw4⟩ : ∃ w4, w4 = wr.alloc (.cells #[.int .i64 p, .int .i64 N, .int .i64 r] 116) := ⟨_, rfl⟩
      have HG4 : Hid (Old wr w4) := by
        rw [hw4]
        exact (Old.refl wr).alloc _
      have y0 : w4.cell? ⟨wr.heap.size, 0, none⟩ = some (.int .i64 p) := by rw [hw4]; exact cell_at _ _ _ _ _ rfl
      have y1 : w4.cell? ⟨wr.heap.size, 1, none⟩ = some (.int .i64 N) := by rw [hw4]; exact cell_at _ _ _ _ _ rfl
      have y2 : w4.cell? ⟨wr.heap.size, 2, none⟩ = some (.int .i64 r) := by rw [hw4]; exact cell_at _ _ _ _ _ rfl
      have n0' := (HG4.out.cell (p := ⟨w.heap.size + 1, 0, none⟩) hsb).trans n0
      have n1' := (HG4.out.cell (p := ⟨w.heap.size + 1, 1, none⟩) hsb).trans n1
      have c1' := (HG4.out.cell (p := ⟨b1, o1 + k, none⟩) hbr1).trans c1
      subst m1
      have hlt' : (k : Int) < (ps.length : Int) := by omega
      rcases R1.out with ⟨_, _, e, e'⟩ | ⟨b3, o3, cap3, e, hb3, h03, hc3⟩
      · subst e'
        simp at m2
      simp only [Value.slice.injEq, true_and] at e
      obtain ⟨rfl, rfl⟩ := e
      obtain ⟨w5, hw5⟩ : ∃ w5, w5 = w4.alloc (.cells #[] 3) := ⟨_, rfl⟩
      have hs4 : w4.heap.size = wr.heap.size + 1 := by rw [hw4]; simp
      have HO6 : Hid (Own w5 wr.heap.size (.slice (some ⟨wr.heap.size + 1, 0, none⟩) 0 0) []) := by
        rw [hw5, ← hs4]
        exact own_none0L5bc w4 _ HG4.out.size
      have HG45 : Hid (Old wr w5) := by rw [hw5]; exact HG4.out.alloc _
      have n1'' := (HG45.out.cell (p := ⟨w.heap.size + 1, 1, none⟩) hsb).trans n1
      have c1'' := (HG45.out.cell (p := ⟨b1, o1 + k, none⟩) hbr1).trans c1
      rw [hw5, hw4] at n1'' c1''
      have HN3 : Hid (∀ j u, (zs.map (Value.int .i64))[j]? = some u → w5.cell? ((⟨b3, o3, none⟩ : Addr).add j) = some u) := fun j u hj => by
        have hjl : j < zs.length := by
          have := (List.getElem?_eq_some_iff.1 hj).1
          simpa using this
        have e1 : u = .int .i64 (zs.getD j 0) := by
          simp [List.getElem?_map, hjl] at hj
          rw [← hj]
          simp [List.getD, hjl]
        have e2 : (⟨b3, o3, none⟩ : Addr).add j = ⟨b3, o3 + j, none⟩ := by
          unfold Addr.add
          split
          · rename_i h; simp [h]
          · rfl
        rw [e2, e1]
        exact (HG45.out.cell (p := ⟨b3, o3 + j, none⟩) hb3).trans (hc3 j hjl)
      clear hc3 h03
      go_wp2_with (first
        | (at_builtin; rw [← hw4, ← hw5]; (refine wpList_append_own _ rfl _ _ 22 rfl wr.heap.size 3 i0 (.int .i64 0) 1 8 Tryz.underlying22 hi hz0 hz1 hz2 rfl (by decide) _ 0 [] rfl HO6.out ⟨b3, o3, none⟩ zs.length ya (zs.map (Value.int .i64)) rfl (by simp) HN3.out (by simp [Value.oneCell']) (by unfold maxLen; omega) (by omega) HG45.out.size ?_); intro v5 w6 o5 g5 x5; have O5 : Hid (Own w6 wr.heap.size v5 zs) := own_app0L5bc o5; have G5 : Hid (Old wr w6) := Below.grown HG45.out g5 HG45.out.size (fun j hj => (HO6.out.lt j hj).1); obtain ⟨ra, rc, e7, hc7⟩ := own_fit O5.out; subst e7; obtain ⟨vs, ov, hem⟩ := HEMB.out (w6.alloc (.cells #[.slice ra zs.length rc] 22)) ra rc (G5.out.alloc _) (O5.out.alloc _) hc7; have OV : Hid ((w6.alloc (.cells #[.slice ra zs.length rc] 22)).ownsRow wR.heap.size 22 1 (.slice a k cap) k vs) := ov; have HEM : Hid (∀ v' w', w'.ownsRow wR.heap.size 22 1 v' (k + 1) (vs ++ [.slice ra zs.length rc]) → (w6.alloc (.cells #[.slice ra zs.length rc] 22)).grownBy w' (Value.slice a k cap).ownBlock → (v'.ownBlock = (Value.slice a k cap).ownBlock ∨ v'.ownBlock = some (w6.alloc (.cells #[.slice ra zs.length rc] 22)).heap.size) → OwS (zss.take (k + 1)) w' wR.heap.size w'.heap.size v' ∧ Old wR w') := hem; have hs6 := G5.out.size; clear o5 g5 x5 ov hem)
        | (at_builtin; refine wpList_append_own_at _ rfl _ _ 25 rfl wR.heap.size 22 j0 (.slice none 0 0) 1 24 Tryz.underlying25 ji jz0 jz1 jz2 rfl (by decide) _ _ _ rfl OV.out ⟨w6.heap.size, 0, none⟩ 1 1 [.slice ra zs.length rc] rfl rfl (one_cell _ _ _) (one_sl _ _ _) (by unfold maxLen; omega) (by omega) (by simp; omega) ?_; intro v7 w7 o7 g7 x7 l7; have O7 : Hid (OwS (zss.take (k + 1)) w7 wR.heap.size w7.heap.size v7 ∧ Old wR w7) := HEM.out v7 w7 o7 g7 l7; clear o7 g7 x7 l7))
      have HO7 : Hid (OwS (zss.take (k + 1)) w7 wR.heap.size w7.heap.size v7) := O7.out.1
      have HG7 : Hid (Old wR w7) := O7.out.2
      have hl1 : (zss.take (k + 1)).length = k + 1 := by rw [List.length_take]; have := HZL.out; omega
      obtain ⟨a8, cap8, e8⟩ := HO7.out.slice
      subst e8
      rw [hl1] at HO7 ⊢
      exact ⟨⟨k + 1, _, _, by omega, by go_num, rfl, HO7, HG7⟩, by simp [intOf]; omega⟩
    · have d1 : decide ((k : Int) < (ps.length : Int)) = false := by simp; omega
      obtain rfl : k = ps.length := by omega
      have HF : Hid (OwS zss wr wR.heap.size wr.heap.size (.slice a ps.length cap)) := by
        have := HO.out
        rw [List.take_of_length_le (by have := HZL.out; omega)] at this
        exact this
      go_wp2_with fail
      go_ret
      exact ⟨_, rfl, Old.trans HAO.out (Old.trans HGR.out HG.out), HF.out.low (Nat.le_trans HAO.out.size hszR)⟩
end Go.Proofs.YtkggfljdbdfonaaGreatDoor
