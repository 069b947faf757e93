/- Proved: several texts in one: what each proves is said ahead of it. -/
import Derived.Test.YtglbegbhekcddaaDoorRw19
import Derived.Test.YtglbegbhekcddaaDoorRw21
import Derived.Test.YtglbegbhekcddaaDoorRw23
import Derived.Test.YtglbegbhekcddaaDoorRw17
/- Proved: the model's MulRows of rows that are ahead. -/
namespace Go.Proofs.YtglbegbhekcddaaDoor
open Go.ChangeShapes Go.WideShapes Go.ChangeAt Go.RowKit
open M1
set_option linter.unusedVariables false
set_option linter.unusedSimpArgs false
theorem st_put1 {w : World} {k : Nat} {x y : Value} {t : TypeId} (h : StW w k x y t) (y' : Value) : StW (w.setCell ⟨k, 1, none⟩ y') k x y' t := heap_setCell_same w k 1 _ _ y' h
set_option maxRecDepth 100000 in
set_option maxHeartbeats 8000000 in
theorem spec_MulRows_ahead (N : Int) (ps : List Int) (xss yss : List (List Int)) (v u1 u2 : Value) (w : World) (hv : Row w v ps) (hf : Fit v) (h1 : RowS w u1 xss) (h2 : RowS w u2 yss) (hlp : ps.length ≤ 1048576) (hxb : ∀ x ∈ ps, -9223372036854775808 ≤ x ∧ x ≤ 9223372036854775807) (hl1 : xss.length ≤ 1048576) (hr1 : ∀ r ∈ xss, r.length ≤ 1048576) (hl2 : yss.length ≤ 1048576) (hr2 : ∀ r ∈ yss, r.length ≤ 1048576) (hyes : twoB N ps true true xss yss = true) (zss : List (List Int)) (hps : 1 ≤ ps.length ∧ ps.length ≤ 6) (hx : xss.length = ps.length) (hy : yss.length = ps.length) (hzl : zss.length = ps.length)
    (hzt : ∀ k, k < ps.length → ((xss.getD k []).length ≤ 16 ∧ 1 ≤ (xss.getD k []).length) ∧ (yss.getD k []).length = (xss.getD k []).length ∧ (zss.getD k []).length = (xss.getD k []).length ∧ (2 ≤ ps.getD k 0 ∧ ps.getD k 0 ≤ 268435456) ∧ ∀ i, i < (xss.getD k []).length → (0 ≤ (xss.getD k []).getD i 0 ∧ (xss.getD k []).getD i 0 ≤ 268435456) ∧ (0 ≤ (yss.getD k []).getD i 0 ∧ (yss.getD k []).getD i 0 ≤ 268435456) ∧ (zss.getD k []).getD i 0 = (xss.getD k []).getD i 0 * (yss.getD k []).getD i 0 % ps.getD k 0) :
    Calls Tryd.prog 6 #[.agg #[.int .i64 N, v], .agg #[.bool true, u1], .agg #[.bool true, u2]] w (Rs w true zss true) := by
  obtain ⟨i0, hi, hz0, hz1, hz2⟩ := info_parts Tryd.infoInt
  obtain ⟨j0, ji, jz0, jz1, jz2⟩ := info_parts Tryd.infoInts
  have c1 := fun W (h : Old w W) => spec_l5Two N ps true true xss yss v u1 u2 W (hv.old h) hf (h1.old h) (h2.old h) hlp hxb hl1 hr1 hl2 hr2
  rw [hyes] at c1
  have HZT : Hid (∀ k, k < ps.length → ((xss.getD k []).length ≤ 16 ∧ 1 ≤ (xss.getD k []).length) ∧ (yss.getD k []).length = (xss.getD k []).length ∧ (zss.getD k []).length = (xss.getD k []).length ∧ (2 ≤ ps.getD k 0 ∧ ps.getD k 0 ≤ 268435456) ∧ ∀ i, i < (xss.getD k []).length → (0 ≤ (xss.getD k []).getD i 0 ∧ (xss.getD k []).getD i 0 ≤ 268435456) ∧ (0 ≤ (yss.getD k []).getD i 0 ∧ (yss.getD k []).getD i 0 ≤ 268435456) ∧ (zss.getD k []).getD i 0 = (xss.getD k []).getD i 0 * (yss.getD k []).getD i 0 % ps.getD k 0) := hzt
  clear hf hxb hr1 hr2 hyes hzt
  obtain ⟨a0, cap0, ev⟩ := hv.slice
  obtain ⟨a1, cap1, e1⟩ := h1.slice
  obtain ⟨a2, cap2, e2⟩ := h2.slice
  rw [hx] at e1
  rw [hy] at e2
  subst ev e1 e2
  rcases hv with ⟨a, cap, e, e'⟩ | ⟨b, o, cap, e, hb, h0, hc⟩
  · subst e'
    simp at hps
  rcases h1 with ⟨a, cap, e, e'⟩ | ⟨b1, o1, cap, us1, e_1, hb1, h01, hc1⟩
  · subst e'
    simp at hx
    omega
  rcases h2 with ⟨a, cap, e, e'⟩ | ⟨b2, o2, cap, us2, e_2, hb2, h02, hc2⟩
  · subst e'
    simp at hy
    omega
  simp only [Value.slice.injEq, true_and] at e e_1 e_2
  obtain ⟨rfl, rfl⟩ := e
  obtain ⟨rfl, hq1, rfl⟩ := e_1
  obtain ⟨rfl, hq2, rfl⟩ := e_2
  have HC : Hid (∀ j, j < ps.length → w.cell? ⟨b, o + j, none⟩ = some (.int .i64 (ps.getD j 0))) := hc
  have HC1 : Hid (∀ j, j < ps.length → w.cell? ⟨b1, o1 + j, none⟩ = some (us1 j) ∧ Row w (us1 j) (xss.getD j [])) := fun j hj => hc1 j (by omega)
  have HC2 : Hid (∀ j, j < ps.length → w.cell? ⟨b2, o2 + j, none⟩ = some (us2 j) ∧ Row w (us2 j) (yss.getD j [])) := fun j hj => hc2 j (by omega)
  have HZ : Hid (∀ k, k < ps.length → zss.take (k + 1) = zss.take k ++ [zss.getD k []]) := fun k hk => take_succL _ _ (by omega)
  have HZL : Hid (zss.length = ps.length) := hzl
  have HA : Hid (Old w ((((w.alloc (.cells #[.int .i64 N, .slice (some ⟨b, o, none⟩) ps.length cap0] 25)).alloc (.cells #[.bool true, .slice (some ⟨b1, o1, none⟩) ps.length cap1] 28)).alloc (.cells #[.bool true, .slice (some ⟨b2, o2, none⟩) ps.length cap2] 28)).alloc (.cells #[.bool false, .slice none 0 0] 28))) := ((((Old.refl w).alloc _).alloc _).alloc _).alloc _
  have HS : Hid (StW ((((w.alloc (.cells #[.int .i64 N, .slice (some ⟨b, o, none⟩) ps.length cap0] 25)).alloc (.cells #[.bool true, .slice (some ⟨b1, o1, none⟩) ps.length cap1] 28)).alloc (.cells #[.bool true, .slice (some ⟨b2, o2, none⟩) ps.length cap2] 28)).alloc (.cells #[.bool false, .slice none 0 0] 28)) (w.heap.size + 1 + 1 + 1) (.bool false) (.slice none 0 0) 28) := by
    have := StW.new (((w.alloc (.cells #[.int .i64 N, .slice (some ⟨b, o, none⟩) ps.length cap0] 25)).alloc (.cells #[.bool true, .slice (some ⟨b1, o1, none⟩) ps.length cap1] 28)).alloc (.cells #[.bool true, .slice (some ⟨b2, o2, none⟩) ps.length cap2] 28)) (.bool false) (.slice none 0 0) 28
    simp at this
    exact this
  have HAS : Hid (∀ W', Old ((((w.alloc (.cells #[.int .i64 N, .slice (some ⟨b, o, none⟩) ps.length cap0] 25)).alloc (.cells #[.bool true, .slice (some ⟨b1, o1, none⟩) ps.length cap1] 28)).alloc (.cells #[.bool true, .slice (some ⟨b2, o2, none⟩) ps.length cap2] 28)).alloc (.cells #[.bool false, .slice none 0 0] 28)) W' → (W'.cell? ⟨w.heap.size, 0, none⟩ = some (.int .i64 N) ∧ W'.cell? ⟨w.heap.size, 1, none⟩ = some (.slice (some ⟨b, o, none⟩) ps.length cap0) ∧ W'.cell? ⟨w.heap.size + 1, 0, none⟩ = some (.bool true) ∧ W'.cell? ⟨w.heap.size + 1, 1, none⟩ = some (.slice (some ⟨b1, o1, none⟩) ps.length cap1) ∧ W'.cell? ⟨w.heap.size + 1 + 1, 0, none⟩ = some (.bool true) ∧ W'.cell? ⟨w.heap.size + 1 + 1, 1, none⟩ = some (.slice (some ⟨b2, o2, none⟩) ps.length cap2))) := fun W' g => by
    have g' := Old.trans ((Old.refl _).alloc _) g
    exact ⟨((StW.at31 w _ _ _ _ _ _ _ _ _).old g').c0, ((StW.at31 w _ _ _ _ _ _ _ _ _).old g').c1, ((StW.at32 w _ _ _ _ _ _ _ _ _).old g').c0, ((StW.at32 w _ _ _ _ _ _ _ _ _).old g').c1, ((StW.at33 w _ _ _ _ _ _ _ _ _).old g').c0, ((StW.at33 w _ _ _ _ _ _ _ _ _).old g').c1⟩
  clear hc hc1 hc2 hzl hq1 hq2 h0 h01 h02 hx hy
  go_enter Tryd.func6, Tryd.ntmps6
  go_wp2_with fail
  refine (c1 _ HA.out).mono ?_
  rintro e w1 ⟨rfl, g1⟩
  have HG1 : Hid (Old w w1) := Old.trans HA.out g1
  have HGA : Hid (Old ((((w.alloc (.cells #[.int .i64 N, .slice (some ⟨b, o, none⟩) ps.length cap0] 25)).alloc (.cells #[.bool true, .slice (some ⟨b1, o1, none⟩) ps.length cap1] 28)).alloc (.cells #[.bool true, .slice (some ⟨b2, o2, none⟩) ps.length cap2] 28)).alloc (.cells #[.bool false, .slice none 0 0] 28)) w1) := g1
  have S1 : Hid (StW w1 (w.heap.size + 1 + 1 + 1) (.bool false) (.slice none 0 0) 28) := HS.out.old g1
  have hs : w.heap.size + 1 + 1 + 1 < w1.heap.size := S1.out.lt
  obtain ⟨x0, x1, x2, x3, x4, x5⟩ := HAS.out w1 g1
  obtain ⟨z0, z1, z2, z3, z4, z5⟩ := HAS.out (w1.alloc (.cells #[.bool true, .slice none 0 0] 28)) (g1.alloc _)
  clear g1
  go_wp2_with fail
  clear z0 z1 z2 z3 z4 z5 x0 x1 x2 x3 x4 x5
  go_loopw [33] (fun i W => ∃ (k : Nat) (a : Option Addr) (cap : Nat), k ≤ ps.length ∧ i = .int .i64 k ∧ Hid (StW W w1.heap.size (.bool true) (.slice a k cap) 28) ∧ Hid (OwS (zss.take k) W (w1.heap.size + 1) W.heap.size (.slice a k cap)) ∧ Hid (Old w1 W)) (fun i _ => ps.length - (intOf i).toNat)
  case atStart => exact ⟨0, none, 0, by omega, rfl, StW.new w1 _ _ _, ⟨(by simp), Or.inl ⟨rfl, by simp⟩⟩, (Old.refl w1).alloc _⟩
  case round =>
    obtain ⟨k, a, cap, hk, rfl, HSO, HO, HG⟩ := hrel
    have hob : w1.heap.size < wr.heap.size := HSO.out.lt
    have hsr : w1.heap.size + 1 ≤ wr.heap.size := by omega
    by_cases hlt : k < ps.length
    · have d1 : decide ((k : Int) < (ps.length : Int)) = true := by simp; omega
      have hkL : (k : Int) < (ps.length : Int) := by omega
      have HGW : Hid (Old w wr) := Old.trans HG1.out HG.out
      have c0 : wr.cell? ⟨b, o + k, none⟩ = some (.int .i64 (ps.getD k 0)) := (HGW.out.cell (p := ⟨b, o + k, none⟩) hb).trans (HC.out k hlt)
      obtain ⟨p1, p2⟩ := HC1.out k hlt
      obtain ⟨p3, p4⟩ := HC2.out k hlt
      obtain ⟨⟨t0, t0'⟩, t1, t2, t3, t4⟩ := HZT.out k hlt
      rcases p2 with ⟨xa, ya, e, e'⟩ | ⟨b3, o3, y3, e, hb3, h03, hc3⟩
      · rw [e'] at t0'
        simp at t0'
      rcases p4 with ⟨xa, ya, e4, e'⟩ | ⟨b4, o4, y4, e4, hb4, h04, hc4⟩
      · rw [e'] at t1
        rw [List.length_nil] at t1
        omega
      rw [e] at p1
      rw [e4, t1] at p3
      have c1 : wr.cell? ⟨b1, o1 + k, none⟩ = some (.slice (some ⟨b3, o3, none⟩) (xss.getD k []).length y3) := (HGW.out.cell (p := ⟨b1, o1 + k, none⟩) hb1).trans p1
      have c2 : wr.cell? ⟨b2, o2 + k, none⟩ = some (.slice (some ⟨b4, o4, none⟩) (xss.getD k []).length y4) := (HGW.out.cell (p := ⟨b2, o2 + k, none⟩) hb2).trans p3
      have HB1 : Hid (b1 < wr.heap.size ∧ b2 < wr.heap.size ∧ b3 < wr.heap.size ∧ b4 < wr.heap.size ∧ w.heap.size + 1 + 1 < wr.heap.size) := by
        have := HGW.out.size
        exact ⟨by omega, by omega, by omega, by omega, by omega⟩
      obtain ⟨x0, x1, x2, x3, x4, x5⟩ := HAS.out wr (Old.trans HGA.out HG.out)
      have HCX : Hid (∀ j, j < (xss.getD k []).length → wr.cell? ⟨b3, o3 + j, none⟩ = some (.int .i64 ((xss.getD k []).getD j 0))) := fun j hj => (HGW.out.cell (p := ⟨b3, o3 + j, none⟩) hb3).trans (hc3 j hj)
      have HCY : Hid (∀ j, j < (xss.getD k []).length → wr.cell? ⟨b4, o4 + j, none⟩ = some (.int .i64 ((yss.getD k []).getD j 0))) := fun j hj => (HGW.out.cell (p := ⟨b4, o4 + j, none⟩) hb4).trans (hc4 j (by omega))
      have HT : Hid (∀ i, i < (xss.getD k []).length → (0 ≤ (xss.getD k []).getD i 0 ∧ (xss.getD k []).getD i 0 ≤ 268435456) ∧ (0 ≤ (yss.getD k []).getD i 0 ∧ (yss.getD k []).getD i 0 ≤ 268435456) ∧ (zss.getD k []).take (i + 1) = (zss.getD k []).take i ++ [(xss.getD k []).getD i 0 * (yss.getD k []).getD i 0 % ps.getD k 0]) := fun i hi => by
        obtain ⟨q1, q2, q3⟩ := t4 i hi
        exact ⟨q1, q2, by rw [take_succI _ _ (by omega), q3]⟩
      have HZK : Hid (zss.take (k + 1) = zss.take k ++ [zss.getD k []]) := HZ.out k hlt
      clear p1 p3 e e4 hc3 hc4 h03 h04 t1 t4
      generalize zss.getD k [] = zs at *
      generalize xss.getD k [] = xs at *
      generalize yss.getD k [] = ys at *
      generalize ps.getD k 0 = p at *
      have HEMB : Hid (∀ (W : World) (ra : Option Addr) (rc : Nat), Old wr W → Own W wr.heap.size (.slice ra zs.length rc) zs → zs.length ≤ rc → ∃ vs, W.ownsRow (w1.heap.size + 1) 23 1 (.slice a k cap) k vs ∧ (∀ v' w', w'.ownsRow (w1.heap.size + 1) 23 1 v' (k + 1) (vs ++ [.slice ra zs.length rc]) → W.grownBy w' (Value.slice a k cap).ownBlock → (v'.ownBlock = (Value.slice a k cap).ownBlock ∨ v'.ownBlock = some W.heap.size) → OwS (zss.take (k + 1)) w' (w1.heap.size + 1) w'.heap.size v' ∧ Below ((w1.heap.size + 1)) wr w')) := fun W ra rc g o hc => by
        have hl : (zss.take k).length = k := by rw [List.length_take]; have := HZL.out; omega
        have := OwS.app HO.out hsr g o hc
        rw [hl] at this
        rw [HZK.out]
        obtain ⟨vs, t1, t2⟩ := this
        refine ⟨vs, t1, fun v' w' q1 q2 q3 => ⟨t2 v' w' q1 q2 q3, ?_⟩⟩
        refine Below.grown (g.mono hsr) q2 (Nat.le_trans hsr g.size) (fun p hp => ?_)
        obtain ⟨hh, ⟨e, e2⟩ | ⟨p', cap', vs, e, hcap, hl, hhi, _⟩⟩ := HO.out
        · rw [e] at hp
          cases hp
        · rw [e] at hp
          simp only [Value.ownBlock, Option.some.injEq] at hp
          omega
      have n1 := HSO.out.c1
      rename World => wq
      go_wp2_with fail
      go_loopw [11, 44] (fun x i W => ∃ (j : Nat) (ra : Option Addr) (rc : Nat), j ≤ xs.length ∧ i = .int .i64 j ∧ x = .slice ra j rc ∧ Hid (Own W wq.heap.size (.slice ra j rc) (zs.take j)) ∧ Hid (Old wq W)) (fun _ i _ => xs.length - (intOf i).toNat)
      case atStart => exact ⟨0, none, 0, by omega, rfl, rfl, (by exact own_nil _ _), Old.refl _⟩
      case round =>
        obtain ⟨j, ra, rc, hj, rfl, rfl, HO2, HG2⟩ := hrel
        have hs2 := HG2.out.size
        obtain ⟨l1, l2, l3, l4, l5⟩ := HB1.out
        by_cases hjl : j < xs.length
        · have d2 : decide ((j : Int) < (xs.length : Int)) = true := by simp; omega
          have hjn : (j : Int) < (xs.length : Int) := by omega
          obtain ⟨⟨bx1, bx2⟩, ⟨by1, by2⟩, HT2⟩ := HT.out j hjl
          have kx := (HG2.out.cell (p := ⟨b3, o3 + j, none⟩) l3).trans (HCX.out j hjl)
          have ky := (HG2.out.cell (p := ⟨b4, o4 + j, none⟩) l4).trans (HCY.out j hjl)
          have ka := (HG2.out.cell (p := ⟨w.heap.size + 1, 1, none⟩) (by show w.heap.size + 1 < _; omega)).trans x3
          have kb := (HG2.out.cell (p := ⟨w.heap.size + 1 + 1, 1, none⟩) l5).trans x5
          have k1 := (HG2.out.cell (p := ⟨b1, o1 + k, none⟩) l1).trans c1
          have k2 := (HG2.out.cell (p := ⟨b2, o2 + k, none⟩) l2).trans c2
          have htk : (zs.take j).length = j := by rw [List.length_take]; omega
          generalize xs.getD j 0 = x at *
          generalize ys.getD j 0 = y at *
          obtain ⟨xm, hxm⟩ : ∃ z, x * y = z := ⟨_, rfl⟩
          have bxm : 0 ≤ xm ∧ xm ≤ 72057594037927936 := by
            rw [← hxm]
            refine ⟨Int.mul_nonneg bx1 by1, ?_⟩
            have h1 := Int.mul_le_mul_of_nonneg_right bx2 by1
            have h2 := Int.mul_le_mul_of_nonneg_left by2 (show (0 : Int) ≤ 268435456 by omega)
            omega
          obtain ⟨q, hq⟩ : ∃ q, xm % p = q := ⟨_, rfl⟩
          have e4 : xm.tmod p = q := by rw [Int.tmod_eq_emod_of_nonneg bxm.1]; exact hq
          rw [hxm, hq] at HT2
          have HT3 : Hid (zs.take (j + 1) = zs.take j ++ [q]) := HT2
          clear HT2
          go_wp2_with fail
          refine reg_RgN wr (w.heap.size + 1) (w.heap.size + 1 + 1) b1 o1 b2 o2 b3 o3 b4 o4 ps.length cap1 cap2 xs.length y3 y4 k j ra rc p x y xm q wq.heap.size hs2 (fun W v => Own W wq.heap.size v (zs.take (j + 1)) ∧ Old wq W) ka kb k1 k2 kx ky hlt (by omega) hkL hjl t0 hjn hxm bxm (by omega) hq e4 (fun W g => by
            have h5 := HO2.out.old g
            unfold Own at h5
            rw [htk] at h5
            refine ⟨_, h5, fun v' w' o5 g5 => ⟨?_, Below.grown (Old.trans HG2.out g) g5 (Old.trans HG2.out g).size (fun i hi => (HO2.out.lt i hi).1)⟩⟩
            rw [HT3.out]
            exact Own.snoc (by rw [htk]; exact o5)) _ _ ?_ ?_ ?_ ?_ ?_ ?_ ?_ ?_
          iterate 7 (· exact rfl)
          intro us W' hfin
          obtain ⟨O5, G5⟩ := hfin
          have HO5 : Hid (Own W' wq.heap.size (us 22) (zs.take (j + 1))) := O5
          have HG5 : Hid (Old wq W') := G5
          clear O5 G5 ka kb k1 k2 kx ky
          simp only [putAll, Act.put, slotRgN, List.range, List.range.loop, List.map_cons, List.map_nil, List.getD_cons_zero, List.getD_cons_succ, List.setIfInBounds_toArray, List.set_cons_succ, List.set_cons_zero]
          have htk1 : (zs.take (j + 1)).length = j + 1 := by rw [List.length_take]; omega
          obtain ⟨a5, cap5, e5⟩ := (Own.row HO5.out).slice
          rw [htk1] at e5
          rw [e5] at HO5
          generalize us 22 = u22 at *
          subst e5
          go_wp2_with fail
          exact ⟨⟨j + 1, _, _, by omega, by go_num, rfl, HO5, HG5⟩, by simp [intOf]; omega⟩
        · have d2 : decide ((j : Int) < (xs.length : Int)) = false := by simp; omega
          obtain rfl : j = xs.length := by omega
          have own2 := HO2.out
          rw [List.take_of_length_le (by omega)] at own2
          have hrc : xs.length ≤ rc := by
            rcases own2.2 with ⟨e, hn⟩ | ⟨_, _, _, e, _, _, hn, _⟩
            · simp only [Value.slice.injEq] at e
              omega
            · simp only [Value.slice.injEq, true_and] at e
              omega
          rw [← t2] at own2 hrc
          obtain ⟨vs, ov, hem⟩ := HEMB.out (wr.alloc (.cells #[.slice ra zs.length rc] 23)) ra rc (HG2.out.alloc _) (own2.alloc _) hrc
          rw [t2] at ov hem
          have OV : Hid ((wr.alloc (.cells #[.slice ra xs.length rc] 23)).ownsRow (w1.heap.size + 1) 23 1 (.slice a k cap) k vs) := ov
          have HEM : Hid (∀ v' w', w'.ownsRow (w1.heap.size + 1) 23 1 v' (k + 1) (vs ++ [.slice ra xs.length rc]) → (wr.alloc (.cells #[.slice ra xs.length rc] 23)).grownBy w' (Value.slice a k cap).ownBlock → (v'.ownBlock = (Value.slice a k cap).ownBlock ∨ v'.ownBlock = some (wr.alloc (.cells #[.slice ra xs.length rc] 23)).heap.size) → OwS (zss.take (k + 1)) w' (w1.heap.size + 1) w'.heap.size v' ∧ Below (w1.heap.size + 1) wq w') := hem
          have n1' := (HSO.out.old HG2.out).c1
          clear own2 ov hem hrc HO2 n1
          have hl1 : (zss.take (k + 1)).length = k + 1 := by rw [List.length_take]; have := HZL.out; omega
          go_wp2_with (at_builtin; (refine wpList_append_own_at _ rfl _ _ 26 rfl (w1.heap.size + 1) 23 j0 (.slice none 0 0) 1 24 Tryd.underlying26 ji jz0 jz1 jz2 rfl (by decide) _ _ _ rfl OV.out ⟨wr.heap.size, 0, none⟩ 1 1 [.slice ra xs.length rc] rfl rfl (one_cell _ _ _) (one_sl _ _ _) (by unfold maxLen; omega) (by omega) (by simp; omega) ?_; intro v5 w5 o5 g5 x5 l5; have O5 : Hid (OwS (zss.take (k + 1)) w5 (w1.heap.size + 1) w5.heap.size v5 ∧ Below (w1.heap.size + 1) wq w5) := HEM.out v5 w5 o5 g5 l5; obtain ⟨a5, cap5, e5⟩ := O5.out.1.slice; rw [hl1] at e5; subst e5; have S5 : Hid (StW w5 w1.heap.size (.bool true) (.slice a k cap) 28) := (O5.out.2.block w1.heap.size (by omega)).trans HSO.out; have m1 := S5.out.c1; have m2 := S5.out.f1; clear o5 g5 x5 l5 n1'))
          have N1 : Hid (StW (w5.setCell ⟨w1.heap.size, 1, none⟩ (.slice a5 (k + 1) cap5)) w1.heap.size (.bool true) (.slice a5 (k + 1) cap5) 28) := st_put1 S5.out _
          have N2 : Hid (OwS (zss.take (k + 1)) (w5.setCell ⟨w1.heap.size, 1, none⟩ (.slice a5 (k + 1) cap5)) (w1.heap.size + 1) (w5.setCell ⟨w1.heap.size, 1, none⟩ (.slice a5 (k + 1) cap5)).heap.size (.slice a5 (k + 1) cap5)) := by
            have h5 := O5.out.1.put (k := w1.heap.size) (j := 1) (x := .slice a5 (k + 1) cap5) (by omega)
            exact h5.high (by simp) (by simp)
          have G5 : Old w1 w5 := Below.trans HG.out (O5.out.2.mono (by omega))
          have N3 : Hid (Old w1 (w5.setCell ⟨w1.heap.size, 1, none⟩ (.slice a5 (k + 1) cap5))) := G5.own (p := ⟨w1.heap.size, 1, none⟩) (Nat.le_refl _) _
          exact ⟨⟨k + 1, _, _, by omega, by go_num, N1, N2, N3⟩, by simp [intOf]; omega⟩
    · have d1 : decide ((k : Int) < (ps.length : Int)) = false := by simp; omega
      obtain rfl : k = ps.length := by omega
      have HF : Hid (OwS zss wr (w1.heap.size + 1) wr.heap.size (.slice a ps.length cap)) := by
        have := HO.out
        rw [List.take_of_length_le (by have := HZL.out; omega)] at this
        exact this
      have o0 := HSO.out.c0
      have o1' := HSO.out.c1
      have SF : Hid (StW wr (w.heap.size + 1 + 1 + 1) (.bool false) (.slice none 0 0) 28) := S1.out.old HG.out
      have q0 := SF.out.c0
      have q1 := SF.out.c1
      have f0 := SF.out.f0
      have f1 := SF.out.f1
      go_wp2_with fail
      refine bodyPost_ret (ret_rb Tryd.results6 _ _ rfl rfl (st_put2 SF.out _ _)) rfl ⟨_, rfl, ?_, a, cap, by rw [HZL.out], ?_⟩
      · exact ((Old.trans HG1.out HG.out).own (p := ⟨w.heap.size + 1 + 1 + 1, 0, none⟩) (by simp; omega) _).own (p := ⟨w.heap.size + 1 + 1 + 1, 1, none⟩) (by simp; omega) _
      · rw [HZL.out]
        have h2 := (HF.out.put (k := w.heap.size + 1 + 1 + 1) (j := 0) (x := .bool true) (by omega)).put (k := w.heap.size + 1 + 1 + 1) (j := 1) (x := .slice a ps.length cap) (by omega)
        have h3 := h2.low (lo' := w.heap.size) (by omega)
        exact h3.high (by simp) (Nat.le_refl _)
end Go.Proofs.YtglbegbhekcddaaDoor
/- Proved: the program's eachPair with less, where both are good. -/
namespace Go.Proofs.YtglbegbhekcddaaDoor
open Go.ChangeShapes Go.WideShapes Go.ChangeAt Go.RowKit
set_option linter.unusedVariables false
set_option linter.unusedSimpArgs false
theorem eachPair_less_yes (Nn : Nat) (ps : List Int) (a b : Bool) (xss yss : List (List Int)) (Rf : Nat → Int) (us1 us2 : Nat → Option Addr) (v : Value) (a1 a2 : Option Addr) (cap1 cap2 : Nat) (w : World) (hP : PrsW w) (hT : TabW w) (hv : Row w v ps)
    (c1 : ∀ W, PrsW W → TabW W → Old w W → Calls Tryd.prog 26 #[.agg #[.int .i64 Nn, v], .agg #[.bool a, .slice a1 xss.length cap1]] W fun e w' => Old W w' ∧ ((grB Nn ps xss = false ∧ e = .returned (.tuple #[.slice none 0 0, .bool false])) ∨ (grB Nn ps xss = true ∧ ∃ g, W.heap.size ≤ g ∧ e = .returned (.tuple #[.slice (some ⟨g, 0, none⟩) ps.length ps.length, .bool true]) ∧ RRs w' g Nn a ps Rf us1 ps.length)))
    (c2 : ∀ W, PrsW W → TabW W → Old w W → Calls Tryd.prog 26 #[.agg #[.int .i64 Nn, v], .agg #[.bool b, .slice a2 yss.length cap2]] W fun e w' => Old W w' ∧ ((grB Nn ps yss = false ∧ e = .returned (.tuple #[.slice none 0 0, .bool false])) ∨ (grB Nn ps yss = true ∧ ∃ g, W.heap.size ≤ g ∧ e = .returned (.tuple #[.slice (some ⟨g, 0, none⟩) ps.length ps.length, .bool true]) ∧ RRs w' g Nn b ps Rf us2 ps.length))) (hx : grB Nn ps xss = true) (hy : grB Nn ps yss = true) (hab : a = b) (zss : List (List Int)) (hzl : zss.length = ps.length) (hps : ps.length ≤ 6)
    (cj : ∀ k, k < ps.length → (zss.getD k []).length = Nn ∧ ∀ W, Old w W → Calls Tryd.prog 20 #[.agg #[.int .i64 (ps.getD k 0), .int .i64 Nn, .int .i64 (Rf k), .bool a, .slice (us1 k) Nn Nn], .agg #[.int .i64 (ps.getD k 0), .int .i64 Nn, .int .i64 (Rf k), .bool b, .slice (us2 k) Nn Nn]] W fun e w' => ∃ g, e = .returned (.slice (some ⟨g, 0, none⟩) Nn Nn) ∧ Old W w' ∧ Own w' W.heap.size (.slice (some ⟨g, 0, none⟩) Nn Nn) (zss.getD k [])) :
    Calls Tryd.prog 13 #[.agg #[.int .i64 Nn, v], .agg #[.bool a, .slice a1 xss.length cap1], .agg #[.bool b, .slice a2 yss.length cap2], .func (.func 20) #[] #[]] w (Rs w a zss true) := by
  have h1 : 1 ≤ ps.length := by
    unfold grB at hx
    rw [Bool.and_eq_true] at hx
    exact ((bas_at (sp_ring hx.1).2.1).1).1
  refine eachPair_yes_of Nn ps a b xss yss Rf us1 us2 v a1 a2 cap1 cap2 w hP hT hv c1 c2 hx hy hab zss hzl hps h1 _ (fun W g1 g2 q r1 r2 => ?_)
  refine (joined_less Nn a ps Rf _ _ ps Rf b _ _ ps.length W r1.rd (fun k hk => ⟨_, _, _, rfl⟩) r2.rd (fun k hk => ⟨_, _, _, rfl⟩) (by omega) zss (fun k hk W' g => ?_)).mono fun e w' h => ⟨_, h.1, h.2.1, h.2.2⟩
  have h := (cj k hk).2 W' (Old.trans q g)
  show Calls _ _ #[.agg #[.int .i64 (ps.getD k 0), .int .i64 (Nn : Int), .int .i64 (Rf k), .bool a, .slice (us1 k) ((Nn : Int).toNat) ((Nn : Int).toNat)], .agg #[.int .i64 (ps.getD k 0), .int .i64 (Nn : Int), .int .i64 (Rf k), .bool b, .slice (us2 k) ((Nn : Int).toNat) ((Nn : Int).toNat)]] _ _
  rw [show ((Nn : Int).toNat) = Nn by omega]
  refine h.mono fun e w' h => ?_
  obtain ⟨g', rfl, q1, q2⟩ := h
  exact ⟨_, rfl, q1, q2⟩
end Go.Proofs.YtglbegbhekcddaaDoor
/- Proved: the program's SubRows. -/
namespace Go.Proofs.YtglbegbhekcddaaDoor
open Go.ChangeShapes Go.WideShapes Go.ChangeAt Go.RowKit
open M1
set_option linter.unusedVariables false
set_option linter.unusedSimpArgs false
set_option maxRecDepth 100000 in
set_option maxHeartbeats 4000000 in
theorem impl_SubRows_of (N : Int) (a b : Bool) (a0 a1 a2 : Option Addr) (l0 l1 l2 cap0 cap1 cap2 : Nat) (w : World) (n : Bool) (zss : List (List Int)) (ok : Bool)
    (c : ∀ W, Old w W → Calls Tryd.prog 13 #[.agg #[.int .i64 N, .slice a0 l0 cap0], .agg #[.bool a, .slice a1 l1 cap1], .agg #[.bool b, .slice a2 l2 cap2], .func (.func 20) #[] #[]] W (Rs W n zss ok)) :
    Calls Tryd.prog 9 #[.agg #[.int .i64 N, .slice a0 l0 cap0], .agg #[.bool a, .slice a1 l1 cap1], .agg #[.bool b, .slice a2 l2 cap2]] w (Rs w n zss ok) := by
  have HA : Hid (Old w ((((w.alloc (.cells #[.int .i64 N, .slice a0 l0 cap0] 25)).alloc (.cells #[.bool a, .slice a1 l1 cap1] 28)).alloc (.cells #[.bool b, .slice a2 l2 cap2] 28)).alloc (.cells #[.bool false, .slice none 0 0] 28))) := ((((Old.refl w).alloc _).alloc _).alloc _).alloc _
  have HS : Hid (StW ((((w.alloc (.cells #[.int .i64 N, .slice a0 l0 cap0] 25)).alloc (.cells #[.bool a, .slice a1 l1 cap1] 28)).alloc (.cells #[.bool b, .slice a2 l2 cap2] 28)).alloc (.cells #[.bool false, .slice none 0 0] 28)) (w.heap.size + 1 + 1 + 1) (.bool false) (.slice none 0 0) 28) := by
    have := StW.new (((w.alloc (.cells #[.int .i64 N, .slice a0 l0 cap0] 25)).alloc (.cells #[.bool a, .slice a1 l1 cap1] 28)).alloc (.cells #[.bool b, .slice a2 l2 cap2] 28)) (.bool false) (.slice none 0 0) 28
    simp at this
    exact this
  go_enter Tryd.func9, Tryd.ntmps9
  go_wp2_with fail
  refine (c _ HA.out).mono ?_
  rintro e w1 ⟨r0, rfl, g1, x1⟩
  obtain ⟨ax, cx, rfl, ox⟩ := x1
  have HG1 : Hid (Old w w1) := Old.trans HA.out g1
  have S1 : Hid (StW w1 (w.heap.size + 1 + 1 + 1) (.bool false) (.slice none 0 0) 28) := HS.out.old g1
  have OX : Hid (OwS zss w1 (w.heap.size + 1 + 1 + 1 + 1) w1.heap.size (.slice ax zss.length cx)) := by
    simp at ox
    exact ox
  have q0 := S1.out.c0
  have q1 := S1.out.c1
  have f0 := S1.out.f0
  have f1 := S1.out.f1
  clear g1 ox
  go_wp2_with fail
  refine bodyPost_ret (ret_rb Tryd.results9 _ _ rfl rfl (st_put2 S1.out _ _)) rfl ⟨_, rfl, ?_, ax, cx, rfl, ?_⟩
  · exact (HG1.out.own (p := ⟨w.heap.size + 1 + 1 + 1, 0, none⟩) (by simp; omega) _).own (p := ⟨w.heap.size + 1 + 1 + 1, 1, none⟩) (by simp; omega) _
  · have h2 := (OX.out.put (k := w.heap.size + 1 + 1 + 1) (j := 0) (x := .bool n) (by omega)).put (k := w.heap.size + 1 + 1 + 1) (j := 1) (x := .slice ax zss.length cx) (by omega)
    have h3 := h2.low (lo' := w.heap.size) (by omega)
    exact h3.high (by simp) (Nat.le_refl _)
theorem impl_SubRows (N : Int) (ps : List Int) (a b : Bool) (xss yss : List (List Int)) (v u1 u2 : Value) (w : World) (lo1 hi1 lo2 hi2 : Nat) (hP : PrsW w) (hT : TabW w) (hv : Row w v ps) (hf : Fit v) (h1 : OwS xss w lo1 hi1 u1) (h2 : OwS yss w lo2 hi2 u2) (hlp : ps.length ≤ 1048576) (hl1 : xss.length ≤ 1048576) (hr1 : ∀ r ∈ xss, r.length ≤ 1048576) (hl2 : yss.length ≤ 1048576) (hr2 : ∀ r ∈ yss, r.length ≤ 1048576) :
    Calls Tryd.prog 9 #[.agg #[.int .i64 N, v], .agg #[.bool a, u1], .agg #[.bool b, u2]] w fun e w' => (twoB N ps a b xss yss = true → Rs w a (pairL subF ps xss yss) true e w') ∧ (twoB N ps a b xss yss = false → Rs w false [] false e w') := by
  obtain ⟨Rf, hRf⟩ := Rings_roots N ps
  obtain ⟨us1, cs1, at1⟩ := h1.ats ps
  obtain ⟨us2, cs2, at2⟩ := h2.ats ps
  obtain ⟨a0, cap0, ev⟩ := hv.slice
  obtain ⟨a1, cap1, e1⟩ := h1.slice
  obtain ⟨a2, cap2, e2⟩ := h2.slice
  subst ev e1 e2
  have c1 := fun W W' (q : Old w W) (p1 : PrsW W') (p2 : TabW W') (q' : Old W W') => impl_ringRows N a ps xss Rf us1 cs1 (.slice a0 ps.length cap0) a1 cap1 W' p1 p2 (hv.old (Old.trans q q')) hf hlp hl1 hr1 (fun h => (at1 h).old (Old.trans q q')) hRf
  have c2 := fun W W' (q : Old w W) (p1 : PrsW W') (p2 : TabW W') (q' : Old W W') => impl_ringRows N b ps yss Rf us2 cs2 (.slice a0 ps.length cap0) a2 cap2 W' p1 p2 (hv.old (Old.trans q q')) hf hlp hl2 hr2 (fun h => (at2 h).old (Old.trans q q')) hRf
  cases htw : twoB N ps a b xss yss
  · have hno : ¬ (grB N ps xss = true ∧ grB N ps yss = true ∧ a = b) := fun h => by
      rw [two_of.2 h] at htw
      cases htw
    refine (impl_SubRows_of N a b a0 a1 a2 _ _ _ _ _ _ w false [] false (fun W q => eachPair_less_no N ps a b xss yss Rf us1 us2 _ a1 a2 cap1 cap2 W (hP.old q) (hT.old q) (hv.old q) (fun W' p1 p2 q' => c1 W W' q p1 p2 q') (fun W' p1 p2 q' => c2 W W' q p1 p2 q') hno)).mono (fun e w' h => ⟨(fun h' => by cases h'), fun _ => h⟩)
  · obtain ⟨g1, g2, g3⟩ := two_of.1 htw
    obtain ⟨t1, t2, t3, t4, t5, t6⟩ := two_parts htw
    obtain ⟨Nn, hNn⟩ : ∃ Nn : Nat, N = Nn := ⟨N.toNat, by omega⟩
    subst hNn
    refine (impl_SubRows_of Nn a b a0 a1 a2 _ _ _ _ _ _ w a (pairL subF ps xss yss) true (fun W q => eachPair_less_yes Nn ps a b xss yss Rf us1 us2 _ a1 a2 cap1 cap2 W (hP.old q) (hT.old q) (hv.old q) (fun W' p1 p2 q' => c1 W W' q p1 p2 q') (fun W' p1 p2 q' => c2 W W' q p1 p2 q') g1 g2 g3 (pairL subF ps xss yss) (pairL_len _ _ _ _) t2.2 (fun k hk => ?_))).mono (fun e w' h => ⟨fun _ => h, (fun h' => by cases h')⟩)
    obtain ⟨s1, s2, s3, s4⟩ := t6 k hk
    rw [pairL_get _ _ _ _ _ hk]
    refine ⟨by rw [pairR_len]; omega, fun W' q' => ?_⟩
    obtain ⟨b1, _, _, _, r1⟩ := at1 (by omega)
    obtain ⟨b2, _, _, _, r2⟩ := at2 (by omega)
    have row1 := (r1 k (by omega)).2.2
    have row2 := (r2 k (by omega)).2.2
    have l1 : (xss.getD k []).length = Nn := by omega
    have l2 : (yss.getD k []).length = Nn := by omega
    rw [l1] at row1
    rw [l2] at row2
    refine impl_less (ps.getD k 0) (Rf k) (ps.getD k 0) (Rf k) Nn a b Nn (xss.getD k []) (yss.getD k []) (us1 k) (us2 k) W' ((row1.recap (fun h => by rw [h] at l1; simp at l1; omega)).old (Old.trans q q')) ((row2.recap (fun h => by rw [h] at l2; simp at l2; omega)).old (Old.trans q q')) s3 (by omega) l1 l2 (fun i hi => s4 i (by omega))
end Go.Proofs.YtglbegbhekcddaaDoor
