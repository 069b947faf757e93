/- Proved: several texts in one: what each proves is said ahead of it. -/
import Derived.Test.YtfgooclnohnkmaaGreatDoorWp17
import Derived.Test.YtfgooclnohnkmaaGreatDoorWp09
import Derived.Test.YtfgooclnohnkmaaGreatDoorWp11
import Derived.Deep.RegionHeld3
import Derived.Test.YtfgooclnohnkmaaGreatDoorWp16
import Derived.Test.YtfgooclnohnkmaaGreatDoorWp13
import Derived.Deep.RegionWith
import Derived.BigRegion
import Derived.Test.YtfgooclnohnkmaaGreatDoorWp02
import Derived.Deep.WholeRow
import Derived.Laws.ResultCell
import Derived.Laws.CopyOwn
/- Proved: the model's l5Back where it copies. -/
namespace Go.Proofs.YtfgooclnohnkmaaGreatDoor
open Go.ChangeShapes Go.WideShapes Go.ChangeAt Go.RowKit
open M1
set_option linter.unusedVariables false
set_option linter.unusedSimpArgs false
theorem heap_newL5bc (w : World) (o : Obj) : (w.alloc o).heap[w.heap.size]? = some o := by
  unfold World.alloc
  simp
theorem own_none0L5bc (w : World) (base : Nat) (h : base ≤ w.heap.size) : Own (w.alloc (.cells #[] 3)) base (.slice (some ⟨w.heap.size, 0, none⟩) 0 0) [] := by
  refine ⟨rfl, .inr ⟨w.heap.size, 0, #[], rfl, h, ?_, Nat.le_refl _, ?_, ?_, ?_⟩⟩
  · exact heap_newL5bc w _
  all_goals simp
theorem own_app0L5bc {w : World} {base : Nat} {v : Value} {zs : List Int} (h : w.ownsRow base 3 1 v (0 + zs.length) ([] ++ zs.map (Value.int .i64))) : Own w base v zs := by
  rw [Nat.zero_add, List.nil_append] at h
  exact h
set_option maxRecDepth 100000 in
set_option maxHeartbeats 8000000 in
theorem spec_l5Back_c (N : Int) (ps : List Int) (xss zss : List (List Int)) (Rf : Nat → Int) (v u1 : Value) (w : World) (hv : Row w v ps) (h1 : RowS w u1 xss) (hps : 1 ≤ ps.length ∧ ps.length ≤ 6) (hx : xss.length = ps.length) (hzl : zss.length = ps.length)
    (hR : ∀ k, k < ps.length → ∀ W, Calls Tryz.prog 185 #[.int .i64 (ps.getD k 0), .int .i64 N] W fun e w' => e = .returned (.tuple #[.agg #[.int .i64 (ps.getD k 0), .int .i64 N, .int .i64 (Rf k)], .bool true]) ∧ Old W w')
    (hsame : ∀ k, k < ps.length → zss.getD k [] = xss.getD k [] ∧ 2 ≤ (xss.getD k []).length ∧ (xss.getD k []).length ≤ 16) :
    Calls Tryz.prog 85 #[.agg #[.int .i64 N, v], .agg #[.bool false, u1]] w fun e w' => ∃ v', e = .returned v' ∧ Old w w' ∧ OwS zss w' w.heap.size w'.heap.size v' := by
  obtain ⟨i0, hi, hz0, hz1, hz2⟩ := info_parts Tryz.infoInt
  obtain ⟨j0, ji, jz0, jz1, jz2⟩ := info_parts Tryz.infoInts
  have hv0 := hv
  obtain ⟨a0, cap0, ev⟩ := hv.slice
  obtain ⟨a1, cap1, e1⟩ := h1.slice
  rw [hx] at e1
  subst ev e1
  rcases hv with ⟨a, cap, e, e'⟩ | ⟨b, o, cap, e, hb, h0, hc⟩
  · subst e'
    simp at hps
  rcases h1 with ⟨a, cap, e, e'⟩ | ⟨b1, o1, cap, us1, e_1, hb1, h01, hc1⟩
  · subst e'
    simp at hx
    omega
  simp only [Value.slice.injEq, true_and] at e e_1
  obtain ⟨rfl, rfl⟩ := e
  obtain ⟨rfl, hq1, rfl⟩ := e_1
  have HSM : Hid (∀ k, k < ps.length → zss.getD k [] = xss.getD k [] ∧ 2 ≤ (xss.getD k []).length ∧ (xss.getD k []).length ≤ 16) := hsame
  clear hsame
  have HC1 : Hid (∀ j, j < ps.length → w.cell? ⟨b1, o1 + j, none⟩ = some (us1 j) ∧ Row w (us1 j) (xss.getD j [])) := fun j hj => hc1 j (by omega)
  have HZ : Hid (∀ k, k < ps.length → zss.take (k + 1) = zss.take k ++ [zss.getD k []]) := fun k hk => take_succL _ _ (by omega)
  have HZL : Hid (zss.length = ps.length) := hzl
  obtain ⟨wB, hwB⟩ : ∃ wB, wB = ((w.alloc (.cells #[.int .i64 N, .slice (some ⟨b, o, none⟩) ps.length cap0] 56)).alloc (.cells #[.bool false, .slice (some ⟨b1, o1, none⟩) ps.length cap1] 58)) := ⟨_, rfl⟩
  have HAO : Hid (Old w wB) := by rw [hwB]; exact ((Old.refl w).alloc _).alloc _
  have HSB : Hid (StW wB (w.heap.size + 1) (.bool false) (.slice (some ⟨b1, o1, none⟩) ps.length cap1) 58) := by
    have := StW.new (w.alloc (.cells #[.int .i64 N, .slice (some ⟨b, o, none⟩) ps.length cap0] 56)) (.bool false) (.slice (some ⟨b1, o1, none⟩) ps.length cap1) 58
    rw [← hwB] at this
    simp at this
    exact this
  have cR := spec_l5Rings N ps Rf _ wB (hv0.old HAO.out) hps hR
  have hbz1 : b1 < wB.heap.size := Nat.lt_of_lt_of_le hb1 HAO.out.size
  have HBZ : Hid (wB.heap.size = w.heap.size + 1 + 1) := by rw [hwB]; show _ = _; simp
  clear hR hc hc1 hv0 hzl hq1 h0 h01 hx
  go_enter Tryz.func85, Tryz.ntmps85
  go_wp2_with fail
  rw [← hwB]
  clear hwB
  refine cR.mono ?_
  rintro e wR ⟨ga, gc, rfl, gR, hrg⟩
  have HRG : Hid (Rgm wR wB.heap.size (.slice ga ps.length gc) N ps Rf ps.length) := hrg
  have HGR : Hid (Old wB wR) := gR
  have hszR := gR.size
  clear hrg gR cR
  go_wp2_with fail
  go_loopw [5, 11] (fun x i W => ∃ (k : Nat) (a : Option Addr) (cap : Nat), k ≤ ps.length ∧ i = .int .i64 k ∧ x = .slice a k cap ∧ Hid (OwS (zss.take k) W wR.heap.size W.heap.size (.slice a k cap)) ∧ Hid (Old wR W)) (fun _ i _ => ps.length - (intOf i).toNat)
  case atStart => exact ⟨0, none, 0, by omega, rfl, rfl, ⟨Nat.le_refl _, Or.inl ⟨rfl, by simp⟩⟩, Old.refl _⟩
  case round =>
    obtain ⟨k, a, cap, hk, rfl, rfl, HO, HG⟩ := hrel
    have hsr := HG.out.size
    by_cases hlt : k < ps.length
    · have d1 : decide ((k : Int) < (ps.length : Int)) = true := by simp; omega
      obtain ⟨g0, hga, hgl, hgh, x0, x1, x2⟩ := (HRG.out.old HG.out).at k hlt
      subst hga
      obtain ⟨p1, p2⟩ := HC1.out k hlt
      obtain ⟨xa, ya, f1⟩ := p2.slice
      rw [f1] at p1 p2
      have HGB : Hid (Old wB wr) := Old.trans HGR.out HG.out
      have HGW : Hid (Old w wr) := Old.trans HAO.out HGB.out
      have c1 : wr.cell? ⟨b1, o1 + k, none⟩ = some (.slice xa (xss.getD k []).length ya) := (HGW.out.cell (p := ⟨b1, o1 + k, none⟩) hb1).trans p1
      have R1 : Hid (Row wr (.slice xa (xss.getD k []).length ya) (xss.getD k [])) := p2.old HGW.out
      have SB := HSB.out.old HGB.out
      have n0 := SB.c0
      have n1 := SB.c1
      have hbr1 : b1 < wr.heap.size := by omega
      have hsb : w.heap.size + 1 < wr.heap.size := SB.lt
      have HZK : Hid (zss.take (k + 1) = zss.take k ++ [zss.getD k []]) := HZ.out k hlt
      clear SB p1 p2 f1
      obtain ⟨m1, m2, m3⟩ := HSM.out k hlt
      generalize zss.getD k [] = zs at *
      generalize xss.getD k [] = xs at *
      generalize ps.getD k 0 = p at *
      generalize Rf k = r at *
      have HEMB : Hid (∀ (W : World) (ra : Option Addr) (rc : Nat), Old wr W → Own W wr.heap.size (.slice ra zs.length rc) zs → zs.length ≤ rc → ∃ vs, W.ownsRow wR.heap.size 23 1 (.slice a k cap) k vs ∧ (∀ v' w', w'.ownsRow wR.heap.size 23 1 v' (k + 1) (vs ++ [.slice ra zs.length rc]) → W.grownBy w' (Value.slice a k cap).ownBlock → (v'.ownBlock = (Value.slice a k cap).ownBlock ∨ v'.ownBlock = some W.heap.size) → OwS (zss.take (k + 1)) w' wR.heap.size w'.heap.size v' ∧ Old wR w')) := fun W ra rc g o hc => by
        have hl : (zss.take k).length = k := by rw [List.length_take]; have := HZL.out; omega
        have := OwS.app HO.out hsr g o hc
        rw [hl] at this
        rw [HZK.out]
        obtain ⟨vs, t1, t2⟩ := this
        refine ⟨vs, t1, fun v' w' q1 q2 q3 => ⟨t2 v' w' q1 q2 q3, ?_⟩⟩
        refine Below.grown (Old.trans HG.out g) q2 (Old.trans HG.out g).size (fun p hp => ?_)
        obtain ⟨hh, ⟨e, e2⟩ | ⟨p', cap', vs, e, hcap, hl, hhi, _⟩⟩ := HO.out
        · rw [e] at hp
          cases hp
        · rw [e] at hp
          simp only [Value.ownBlock, Option.some.injEq] at hp
          omega
      obtain ⟨w4, hw4⟩ : ∃ w4, w4 = wr.alloc (.cells #[.int .i64 p, .int .i64 N, .int .i64 r] 151) := ⟨_, rfl⟩
      have HG4 : Hid (Old wr w4) := by
        rw [hw4]
        exact (Old.refl wr).alloc _
      have y0 : w4.cell? ⟨wr.heap.size, 0, none⟩ = some (.int .i64 p) := by rw [hw4]; exact cell_at _ _ _ _ _ rfl
      have y1 : w4.cell? ⟨wr.heap.size, 1, none⟩ = some (.int .i64 N) := by rw [hw4]; exact cell_at _ _ _ _ _ rfl
      have y2 : w4.cell? ⟨wr.heap.size, 2, none⟩ = some (.int .i64 r) := by rw [hw4]; exact cell_at _ _ _ _ _ rfl
      have n0' := (HG4.out.cell (p := ⟨w.heap.size + 1, 0, none⟩) hsb).trans n0
      have n1' := (HG4.out.cell (p := ⟨w.heap.size + 1, 1, none⟩) hsb).trans n1
      have c1' := (HG4.out.cell (p := ⟨b1, o1 + k, none⟩) hbr1).trans c1
      subst m1
      have hlt' : (k : Int) < (ps.length : Int) := by omega
      rcases R1.out with ⟨_, _, e, e'⟩ | ⟨b3, o3, cap3, e, hb3, h03, hc3⟩
      · subst e'
        simp at m2
      simp only [Value.slice.injEq, true_and] at e
      obtain ⟨rfl, rfl⟩ := e
      obtain ⟨w5, hw5⟩ : ∃ w5, w5 = w4.alloc (.cells #[] 3) := ⟨_, rfl⟩
      have hs4 : w4.heap.size = wr.heap.size + 1 := by rw [hw4]; simp
      have HO6 : Hid (Own w5 wr.heap.size (.slice (some ⟨wr.heap.size + 1, 0, none⟩) 0 0) []) := by
        rw [hw5, ← hs4]
        exact own_none0L5bc w4 _ HG4.out.size
      have HG45 : Hid (Old wr w5) := by rw [hw5]; exact HG4.out.alloc _
      have n1'' := (HG45.out.cell (p := ⟨w.heap.size + 1, 1, none⟩) hsb).trans n1
      have c1'' := (HG45.out.cell (p := ⟨b1, o1 + k, none⟩) hbr1).trans c1
      rw [hw5, hw4] at n1'' c1''
      have HN3 : Hid (∀ j u, (zs.map (Value.int .i64))[j]? = some u → w5.cell? ((⟨b3, o3, none⟩ : Addr).add j) = some u) := fun j u hj => by
        have hjl : j < zs.length := by
          have := (List.getElem?_eq_some_iff.1 hj).1
          simpa using this
        have e1 : u = .int .i64 (zs.getD j 0) := by
          simp [List.getElem?_map, hjl] at hj
          rw [← hj]
          simp [List.getD, hjl]
        have e2 : (⟨b3, o3, none⟩ : Addr).add j = ⟨b3, o3 + j, none⟩ := by
          unfold Addr.add
          split
          · rename_i h; simp [h]
          · rfl
        rw [e2, e1]
        exact (HG45.out.cell (p := ⟨b3, o3 + j, none⟩) hb3).trans (hc3 j hjl)
      clear hc3 h03
      go_wp2_with (first
        | (at_builtin; rw [← hw4, ← hw5]; (refine wpList_append_own _ rfl _ _ 23 rfl wr.heap.size 3 i0 (.int .i64 0) 1 8 Tryz.underlying23 hi hz0 hz1 hz2 rfl (by decide) _ 0 [] rfl HO6.out ⟨b3, o3, none⟩ zs.length ya (zs.map (Value.int .i64)) rfl (by simp) HN3.out (by simp [Value.oneCell']) (by unfold maxLen; omega) (by omega) HG45.out.size ?_); intro v5 w6 o5 g5 x5; have O5 : Hid (Own w6 wr.heap.size v5 zs) := own_app0L5bc o5; have G5 : Hid (Old wr w6) := Below.grown HG45.out g5 HG45.out.size (fun j hj => (HO6.out.lt j hj).1); obtain ⟨ra, rc, e7, hc7⟩ := own_fit O5.out; subst e7; obtain ⟨vs, ov, hem⟩ := HEMB.out (w6.alloc (.cells #[.slice ra zs.length rc] 23)) ra rc (G5.out.alloc _) (O5.out.alloc _) hc7; have OV : Hid ((w6.alloc (.cells #[.slice ra zs.length rc] 23)).ownsRow wR.heap.size 23 1 (.slice a k cap) k vs) := ov; have HEM : Hid (∀ v' w', w'.ownsRow wR.heap.size 23 1 v' (k + 1) (vs ++ [.slice ra zs.length rc]) → (w6.alloc (.cells #[.slice ra zs.length rc] 23)).grownBy w' (Value.slice a k cap).ownBlock → (v'.ownBlock = (Value.slice a k cap).ownBlock ∨ v'.ownBlock = some (w6.alloc (.cells #[.slice ra zs.length rc] 23)).heap.size) → OwS (zss.take (k + 1)) w' wR.heap.size w'.heap.size v' ∧ Old wR w') := hem; have hs6 := G5.out.size; clear o5 g5 x5 ov hem)
        | (at_builtin; refine wpList_append_own_at _ rfl _ _ 48 rfl wR.heap.size 23 j0 (.slice none 0 0) 1 24 Tryz.underlying48 ji jz0 jz1 jz2 rfl (by decide) _ _ _ rfl OV.out ⟨w6.heap.size, 0, none⟩ 1 1 [.slice ra zs.length rc] rfl rfl (one_cell _ _ _) (one_sl _ _ _) (by unfold maxLen; omega) (by omega) (by simp; omega) ?_; intro v7 w7 o7 g7 x7 l7; have O7 : Hid (OwS (zss.take (k + 1)) w7 wR.heap.size w7.heap.size v7 ∧ Old wR w7) := HEM.out v7 w7 o7 g7 l7; clear o7 g7 x7 l7))
      have HO7 : Hid (OwS (zss.take (k + 1)) w7 wR.heap.size w7.heap.size v7) := O7.out.1
      have HG7 : Hid (Old wR w7) := O7.out.2
      have hl1 : (zss.take (k + 1)).length = k + 1 := by rw [List.length_take]; have := HZL.out; omega
      obtain ⟨a8, cap8, e8⟩ := HO7.out.slice
      subst e8
      rw [hl1] at HO7 ⊢
      exact ⟨⟨k + 1, _, _, by omega, by go_num, rfl, HO7, HG7⟩, by simp [intOf]; omega⟩
    · have d1 : decide ((k : Int) < (ps.length : Int)) = false := by simp; omega
      obtain rfl : k = ps.length := by omega
      have HF : Hid (OwS zss wr wR.heap.size wr.heap.size (.slice a ps.length cap)) := by
        have := HO.out
        rw [List.take_of_length_le (by have := HZL.out; omega)] at this
        exact this
      go_wp2_with fail
      go_ret
      exact ⟨_, rfl, Old.trans HAO.out (Old.trans HGR.out HG.out), HF.out.low (Nat.le_trans HAO.out.size hszR)⟩
end Go.Proofs.YtfgooclnohnkmaaGreatDoor
/- Proved: the model's AddRows. -/
namespace Go.Proofs.YtfgooclnohnkmaaGreatDoor
open Go.ChangeShapes Go.WideShapes Go.ChangeAt Go.RowKit
open M1
set_option linter.unusedVariables false
set_option linter.unusedSimpArgs false
theorem infoRw : (Tryz.prog.info? 58).map (·.size) = some 2 := by kernel_rfl
/-- rows and a bool that are answered -/
theorem ret_rb {fn : Func} {p u : Tmp} (h : fn.results = #[.cell p 58, .tmp u]) (tmps : Array Value) (w : World) {g : Nat} {x y z : Value} (hp : tmps.getD p undef = .pointer (some ⟨g, 0, none⟩)) (hu : tmps.getD u undef = z) (hs : StW w g x y 58) :
    (results fn tmps).run Tryz.prog w = .ok (.tuple #[.agg #[x, y], z]) w := by
  have hld := run_loadVar_row (P := Tryz.prog) w g 58 58 #[x, y] (0, 0) _ hs Tryz.underlying58 rfl infoRw
  rw [results_cell_tmp h, hp, hu]
  simp [asAddr, Result.andThen, hld]
/-- both rows good and both ahead or both not -/
def twoB (N : Int) (ps : List Int) (a b : Bool) (xss yss : List (List Int)) : Bool := grB N ps xss && (rwB N ps yss && (a == b))
theorem two_parts {N : Int} {ps : List Int} {a b : Bool} {xss yss : List (List Int)} (h : twoB N ps a b xss yss = true) : (N = 2 ∨ N = 4 ∨ N = 8 ∨ N = 16) ∧ (1 ≤ ps.length ∧ ps.length ≤ 6) ∧ xss.length = ps.length ∧ yss.length = ps.length ∧ a = b ∧
    ∀ k, k < ps.length → ((xss.getD k []).length : Int) = N ∧ ((yss.getD k []).length : Int) = N ∧ (2 ≤ ps.getD k 0 ∧ ps.getD k 0 ≤ 268435456) ∧ ∀ i, i < (xss.getD k []).length → (0 ≤ (xss.getD k []).getD i 0 ∧ (xss.getD k []).getD i 0 < ps.getD k 0) ∧ (0 ≤ (yss.getD k []).getD i 0 ∧ (yss.getD k []).getD i 0 < ps.getD k 0) := by
  unfold twoB grB at h
  rw [Bool.and_eq_true, Bool.and_eq_true, Bool.and_eq_true] at h
  obtain ⟨⟨h1, h2⟩, h3, h4⟩ := h
  obtain ⟨s1, s2, s3⟩ := sp_ring h1
  obtain ⟨b1, b2⟩ := bas_at s2
  unfold rwB at h2 h3
  rw [Bool.and_eq_true] at h2 h3
  have l1 := of_decide_eq_true h2.1
  have l2 := of_decide_eq_true h3.1
  refine ⟨s1, b1, l1, l2, by simpa using h4, fun k hk => ?_⟩
  have r1 := of_decide_eq_true h2.2 k hk (Nat.zero_le _)
  have r2 := of_decide_eq_true h3.2 k hk (Nat.zero_le _)
  unfold polyB at r1 r2
  rw [Bool.and_eq_true] at r1 r2
  have e1 := of_decide_eq_true r1.1
  have e2 := of_decide_eq_true r2.1
  refine ⟨e1, e2, pm_bd (b2 k hk), fun i hi => ?_⟩
  have key : ∀ (xs : List Int) (p : Int), xs.all (fun x => resB x p) = true → ∀ i, i < xs.length → 0 ≤ xs.getD i 0 ∧ xs.getD i 0 < p := fun xs p ha i hi => by
    have := List.all_eq_true.1 ha (xs.getD i 0) (by simp [List.getD, hi])
    simpa [resB] using this
  exact ⟨key _ _ r1.2 i hi, key _ _ r2.2 i (by omega)⟩
end Go.Proofs.YtfgooclnohnkmaaGreatDoor
/- Proved: the model's AddRows. -/
namespace Go.Proofs.YtfgooclnohnkmaaGreatDoor
open Go.ChangeShapes Go.WideShapes Go.ChangeAt Go.RowKit
open M1
set_option linter.unusedVariables false
set_option linter.unusedSimpArgs false
/-- rows that are answered, and whether -/
def Rs (w : World) (n : Bool) (zss : List (List Int)) (ok : Bool) (e : Ending) (w' : World) : Prop := ∃ r0, e = .returned (.tuple #[.agg r0, .bool ok]) ∧ Old w w' ∧ XR n zss w' w.heap.size w'.heap.size r0
theorem st_put2 {w : World} {k : Nat} {x y : Value} {t : TypeId} (h : StW w k x y t) (x' y' : Value) : StW ((w.setCell ⟨k, 0, none⟩ x').setCell ⟨k, 1, none⟩ y') k x' y' t := by
  have h1 := heap_setCell_same w k 0 _ _ x' h
  have h2 := heap_setCell_same _ k 1 _ _ y' h1
  exact h2
theorem XR.nil (n : Bool) (W : World) (lo hi : Nat) (h : hi ≤ W.heap.size) : XR n [] W lo hi #[.bool n, .slice none 0 0] := ⟨none, 0, rfl, h, Or.inl ⟨rfl, rfl⟩⟩
end Go.Proofs.YtfgooclnohnkmaaGreatDoor
/- Proved: rows of rows that are made whole and filled row by row. -/
namespace Go.Proofs.YtfgooclnohnkmaaGreatDoor
open Go.ChangeShapes Go.WideShapes Go.ChangeAt Go.RowKit
set_option linter.unusedVariables false
set_option linter.unusedSimpArgs false
/-- the first k rows are filled -/
def MkS (zss : List (List Int)) (W : World) (lo p k : Nat) : Prop :=
  ∃ vs : List Value, W.ownsRow lo 23 1 (.slice (some ⟨p, 0, none⟩) zss.length zss.length) zss.length vs ∧ vs.length = zss.length
    ∧ (∀ j, j < k → ∃ a c, vs[j]? = some (.slice a (zss.getD j []).length c) ∧ (zss.getD j []).length ≤ c ∧ Own W lo (.slice a (zss.getD j []).length c) (zss.getD j []) ∧ (∀ b, (Value.slice a (zss.getD j []).length c).ownBlock = some b → b ≠ p))
    ∧ (∀ (i j : Nat) (x y : Value) (b : Nat), i < j → j < k → vs[i]? = some x → vs[j]? = some y → x.ownBlock = some b → y.ownBlock = some b → False)
theorem MkS.start {zss : List (List Int)} {W : World} {lo p : Nat} (h : W.ownsRow lo 23 1 (.slice (some ⟨p, 0, none⟩) zss.length zss.length) zss.length (List.replicate zss.length (Value.slice none 0 0))) : MkS zss W lo p 0 :=
  ⟨_, h, by simp, fun j hj => by omega, fun i j x y b h1 h2 => by omega⟩
theorem MkS.own_old {zss : List (List Int)} {W W' : World} {lo p k : Nat} (h : MkS zss W lo p k) (g : Old W W') : MkS zss W' lo p k := by
  obtain ⟨vs, ho, hl, hj, hd⟩ := h
  refine ⟨vs, ⟨ho.1, ?_⟩, hl, fun j hjk => ?_, hd⟩
  · rcases ho.2 with hn | ⟨q, cap', cur, e, hb', hgg, rest⟩
    · exact .inl hn
    · refine .inr ⟨q, cap', cur, e, hb', ?_, rest⟩
      rw [g.block q (Array.getElem?_eq_some_iff.1 hgg).1]
      exact hgg
  · obtain ⟨a, c, h1, h2, h3, h4⟩ := hj j hjk
    exact ⟨a, c, h1, h2, h3.old g, h4⟩
theorem MkS.cell {zss : List (List Int)} {W : World} {lo p k : Nat} (h : MkS zss W lo p k) (j : Nat) (hj : j < zss.length) : (∃ y, W.cell? ⟨p, j, none⟩ = some y) ∧ W.frozen? ⟨p, j, none⟩ = false := by
  obtain ⟨vs, ho, hl, _, _⟩ := h
  refine ⟨⟨vs[j]'(by omega), ?_⟩, World.ownsRow.frozenAt ho j⟩
  rw [World.ownsRow.cellAt ho j (by omega)]
  exact List.getElem?_eq_getElem _
theorem MkS.step {zss : List (List Int)} {W W' : World} {lo p k g : Nat} {n c : Nat} (h : MkS zss W lo p k) (hk : k < zss.length) (q : Old W W') (hlo : lo ≤ W.heap.size) (hp : p < W.heap.size) (hn : (zss.getD k []).length = n) (hc : n ≤ c) (o : Own W' W.heap.size (.slice (some ⟨g, 0, none⟩) n c) (zss.getD k [])) (hg : W.heap.size ≤ g) :
    MkS zss (W'.setCell ⟨p, k, none⟩ (.slice (some ⟨g, 0, none⟩) n c)) lo p (k + 1) := by
  subst hn
  obtain ⟨vs, ho, hl, hj, hd⟩ := h.own_old q
  obtain ⟨vs0, ho0, hl0, hj0, hd0⟩ := h
  have hbw : ∀ i x b, i < k → vs[i]? = some x → x.ownBlock = some b → b < W.heap.size := fun i x b hi hx hb => by
    have e : vs0 = vs := by
      have e1 := fun i (hi : i < zss.length) => World.ownsRow.cellAt ho0 i (by omega)
      have e2 := fun i (hi : i < zss.length) => World.ownsRow.cellAt ho i (by omega)
      apply List.ext_getElem?
      intro i
      rcases Nat.lt_or_ge i zss.length with h1 | h1
      · rw [← e1 i h1, ← e2 i h1]
        exact (q.cell (p := ⟨p, i, none⟩) hp).symm
      · rw [List.getElem?_eq_none (by omega), List.getElem?_eq_none (by omega)]
    obtain ⟨a, c, h1, h2, h3, h4⟩ := hj0 i hi
    rw [← e, h1] at hx
    obtain rfl := Option.some.inj hx
    exact (h3.lt b hb).2
  refine ⟨vs.set k (.slice (some ⟨g, 0, none⟩) (zss.getD k []).length c), (World.ownsRow.stored ho k _).1, by simp [hl], fun j hjk => ?_, fun i j x y b hij hjk hx hy hbx hby => ?_⟩
  · rcases Nat.lt_or_ge j k with h1 | h1
    · obtain ⟨a, c2, e1, e2, e3, e4⟩ := hj j h1
      refine ⟨a, c2, ?_, e2, ?_, e4⟩
      · rw [List.getElem?_set_ne (by omega)]
        exact e1
      · exact ownsRow_setCell_other e3 (fun e => e4 _ e rfl) _
    · obtain rfl : j = k := by omega
      refine ⟨_, _, by rw [List.getElem?_set_self (by omega)], hc, Own.low (ownsRow_setCell_other o (by simp [Value.ownBlock]; omega) _) hlo, fun b hb => ?_⟩
      simp [Value.ownBlock] at hb
      omega
  · rcases Nat.lt_or_ge j k with h1 | h1
    · rw [List.getElem?_set_ne (by omega)] at hx hy
      exact hd i j x y b hij h1 hx hy hbx hby
    · obtain rfl : j = k := by omega
      rw [List.getElem?_set_ne (by omega)] at hx
      rw [List.getElem?_set_self (by omega)] at hy
      obtain rfl := Option.some.inj hy
      simp [Value.ownBlock] at hby
      have := hbw i x b hij hx hbx
      omega
theorem MkS.done {zss : List (List Int)} {W : World} {lo p : Nat} (h : MkS zss W lo p zss.length) (hlo : lo ≤ p) (hp : p < W.heap.size) : OwS zss W lo W.heap.size (.slice (some ⟨p, 0, none⟩) zss.length zss.length) := by
  obtain ⟨vs, ho, hl, hj, hd⟩ := h
  refine ⟨Nat.le_refl _, Or.inr ⟨p, zss.length, vs, rfl, Nat.le_refl _, hlo, hp, ho, hl, fun j hjl => ?_, fun i j x y b hij hx hy => ?_⟩⟩
  · obtain ⟨a, c, h1, h2, h3, h4⟩ := hj j hjl
    exact ⟨a, c, h1, h2, ⟨h3, Nat.le_refl _, fun b hb => (h3.lt b hb).2⟩, h4⟩
  · have hjl := (List.getElem?_eq_some_iff.1 hy).1
    exact hd i j x y b hij (by omega) hx hy
theorem Row.recap {W : World} {a : Option Addr} {n c c' : Nat} {xs : List Int} (h : Row W (.slice a n c) xs) (h0 : xs ≠ []) : Row W (.slice a n c') xs := by
  rcases h with ⟨_, _, e, e'⟩ | ⟨b, o, cap, e, r⟩
  · exact absurd e' h0
  · simp only [Value.slice.injEq] at e
    obtain ⟨rfl, rfl, rfl⟩ := e
    exact Or.inr ⟨b, o, c', rfl, r⟩
end Go.Proofs.YtfgooclnohnkmaaGreatDoor
/- Proved: the program's AddRows. -/
namespace Go.Proofs.YtfgooclnohnkmaaGreatDoor
open Go.ChangeShapes Go.WideShapes Go.ChangeAt Go.RowKit
open M1
set_option linter.unusedVariables false
set_option linter.unusedSimpArgs false
theorem two_of {N : Int} {ps : List Int} {a b : Bool} {xss yss : List (List Int)} : twoB N ps a b xss yss = true ↔ (grB N ps xss = true ∧ grB N ps yss = true ∧ a = b) := by
  unfold twoB grB
  cases spB N ps <;> cases rwB N ps xss <;> cases rwB N ps yss <;> cases a <;> cases b <;> simp
theorem OwS.ats {xss : List (List Int)} {W : World} {lo hi : Nat} {v : Value} (ps : List Int) (h : OwS xss W lo hi v) : ∃ us cs, 0 < xss.length → RowsAt W v ps xss us cs := by
  rcases Nat.eq_zero_or_pos xss.length with h0 | h0
  · exact ⟨fun _ => none, fun _ => 0, fun h => by omega⟩
  · obtain ⟨us, cs, h⟩ := h.at ps h0
    exact ⟨us, cs, fun _ => h⟩
end Go.Proofs.YtfgooclnohnkmaaGreatDoor
/- Proved: the program's AheadRows and BackRows, out of eachRow. -/
namespace Go.Proofs.YtfgooclnohnkmaaGreatDoor
open Go.ChangeShapes Go.WideShapes Go.ChangeAt Go.RowKit
set_option linter.unusedVariables false
set_option linter.unusedSimpArgs false
set_option maxRecDepth 100000 in
set_option maxHeartbeats 4000000 in
theorem impl_BackRows_of (N : Int) (ps : List Int) (xss : List (List Int)) (a : Bool) (a0 a1 : Option Addr) (cap0 cap1 : Nat) (w : World) (n : Bool) (zss : List (List Int)) (ok : Bool)
    (c : ∀ W, Old w W → Calls Tryz.prog 156 #[.agg #[.int .i64 N, .slice a0 ps.length cap0], .agg #[.bool a, .slice a1 xss.length cap1], .bool false, .func (.func 157) #[] #[]] W (Rs W n zss ok)) :
    Calls Tryz.prog 87 #[.agg #[.int .i64 N, .slice a0 ps.length cap0], .agg #[.bool a, .slice a1 xss.length cap1]] w (Rs w n zss ok) := by
  have HA : Hid (Old w (((w.alloc (.cells #[.int .i64 N, .slice a0 ps.length cap0] 56)).alloc (.cells #[.bool a, .slice a1 xss.length cap1] 58)).alloc (.cells #[.bool false, .slice none 0 0] 58))) := (((Old.refl w).alloc _).alloc _).alloc _
  have HS : Hid (StW (((w.alloc (.cells #[.int .i64 N, .slice a0 ps.length cap0] 56)).alloc (.cells #[.bool a, .slice a1 xss.length cap1] 58)).alloc (.cells #[.bool false, .slice none 0 0] 58)) (w.heap.size + 1 + 1) (.bool false) (.slice none 0 0) 58) := by
    have := StW.new ((w.alloc (.cells #[.int .i64 N, .slice a0 ps.length cap0] 56)).alloc (.cells #[.bool a, .slice a1 xss.length cap1] 58)) (.bool false) (.slice none 0 0) 58
    simp at this
    exact this
  have HBX : Hid (∀ W', Old (((w.alloc (.cells #[.int .i64 N, .slice a0 ps.length cap0] 56)).alloc (.cells #[.bool a, .slice a1 xss.length cap1] 58)).alloc (.cells #[.bool false, .slice none 0 0] 58)) W' → StW W' w.heap.size (.int .i64 N) (.slice a0 ps.length cap0) 56 ∧ StW W' (w.heap.size + 1) (.bool a) (.slice a1 xss.length cap1) 58) := fun W' g => by
    have g1 := Old.trans ((Old.refl _).alloc _) g
    have g0 := Old.trans ((Old.refl _).alloc _) g1
    refine ⟨(StW.new w (.int .i64 N) (.slice a0 ps.length cap0) 56).old g0, ?_⟩
    have h := (StW.new (w.alloc (.cells #[.int .i64 N, .slice a0 ps.length cap0] 56)) (.bool a) (.slice a1 xss.length cap1) 58).old g1
    simp at h
    exact h
  go_enter Tryz.func87, Tryz.ntmps87
  go_wp2_with fail
  refine (c _ HA.out).mono ?_
  rintro e w2 ⟨r0, rfl, g2, xr⟩
  obtain ⟨ax, cx, rfl, ox⟩ := xr
  have HG2 : Hid (Old w w2) := Old.trans HA.out g2
  have S2 : Hid (StW w2 (w.heap.size + 1 + 1) (.bool false) (.slice none 0 0) 58) := HS.out.old g2
  have OX : Hid (OwS zss w2 (((w.alloc (.cells #[.int .i64 N, .slice a0 ps.length cap0] 56)).alloc (.cells #[.bool a, .slice a1 xss.length cap1] 58)).alloc (.cells #[.bool false, .slice none 0 0] 58)).heap.size w2.heap.size (.slice ax zss.length cx)) := ox
  have HSZ : Hid ((((w.alloc (.cells #[.int .i64 N, .slice a0 ps.length cap0] 56)).alloc (.cells #[.bool a, .slice a1 xss.length cap1] 58)).alloc (.cells #[.bool false, .slice none 0 0] 58)).heap.size = w.heap.size + 1 + 1 + 1) := by show _ = _; simp
  have q0 := S2.out.c0
  have q1 := S2.out.c1
  have f0 := S2.out.f0
  have f1 := S2.out.f1
  clear g2 ox
  go_wp2_with fail
  have hs3 := HSZ.out
  refine bodyPost_ret (ret_rb Tryz.results87 _ _ rfl rfl (st_put2 S2.out _ _)) rfl ⟨_, rfl, ?_, ax, cx, rfl, ?_⟩
  · exact (HG2.out.own (p := ⟨w.heap.size + 1 + 1, 0, none⟩) (by simp; omega) _).own (p := ⟨w.heap.size + 1 + 1, 1, none⟩) (by simp; omega) _
  · have h2 := (OX.out.put (k := w.heap.size + 1 + 1) (j := 0) (x := .bool n) (by omega)).put (k := w.heap.size + 1 + 1) (j := 1) (x := .slice ax zss.length cx) (by omega)
    have h3 := h2.low (lo' := w.heap.size) (by omega)
    exact h3.high (by simp) (Nat.le_refl _)
end Go.Proofs.YtfgooclnohnkmaaGreatDoor
/- Proved: what a split of a part of a row does to the row, in place. -/
namespace Go.Proofs.YtfgooclnohnkmaaGreatDoor
open Go.ChangeShapes Go.WideShapes Go.ChangeAt Go.RowKit
set_option linter.unusedVariables false
set_option linter.unusedSimpArgs false
theorem gby_trans {a b c : World} {o : Option Nat} (h : a.grownBy b o) (k : b.grownBy c o) : a.grownBy c o :=
  ⟨k.os.trans h.os, k.tape.trans h.tape, k.output.trans h.output, Nat.le_trans h.size k.size, fun p hp hne => (k.block p (Nat.lt_of_lt_of_le hp h.size) hne).trans (h.block p hp hne)⟩
theorem gby_drewN {a b : World} {o : Option Nat} (h : a.grownBy b o) (n : Nat) : a.grownBy (b.drewN n) o := ⟨h.os, h.tape, h.output, h.size, h.block⟩
theorem OwnI.gby {w : World} {base g n : Nat} {xs : List Int} (h : OwnI w base g n xs) (j : Nat) (y : Int) : w.grownBy (w.setCell ⟨g, j, none⟩ (.int .i64 y)) (some g) := (World.ownsRow.stored h j (.int .i64 y)).2
theorem set_lt {P : Nat} {xs : List Nat} (h : ∀ x ∈ xs, x < P) (i y : Nat) (hy : y < P) : ∀ x ∈ xs.set i y, x < P := fun x hx => by
  rcases List.mem_or_eq_of_mem_set hx with h1 | h1
  · exact h x h1
  · rw [h1]; exact hy
theorem toZ_set (xs : List Nat) (i y : Nat) : toZ (xs.set i y) = (toZ xs).set i (y : Int) := by simp [toZ, List.map_set]
end Go.Proofs.YtfgooclnohnkmaaGreatDoor
/- Proved: how many noughts a ring's size has, the exponents of its points and their places, by the program and by the model. -/
namespace Go.Proofs.YtfgooclnohnkmaaGreatDoor
open Go.ChangeShapes Go.WideShapes Go.ChangeAt Go.RowKit
set_option linter.unusedVariables false
set_option linter.unusedSimpArgs false
abbrev Sz4 (N : Nat) : Prop := N = 2 ∨ N = 4 ∨ N = 8 ∨ N = 16
def lg (N : Nat) : Nat := if N = 2 then 1 else if N = 4 then 2 else if N = 8 then 3 else 4
theorem lg_pow {N : Nat} (h : Sz4 N) : 2 ^ lg N = N ∧ 1 ≤ lg N ∧ lg N ≤ 4 := by rcases h with rfl | rfl | rfl | rfl <;> decide
theorem lg_ctz {N : Nat} (h : Sz4 N) : Lib.ctz 64 N = lg N := by rcases h with rfl | rfl | rfl | rfl <;> decide +kernel
theorem sz_bd {N : Nat} (h : Sz4 N) : 2 ≤ N ∧ N ≤ 16 := by omega
theorem back_lt (b : Nat) : ∀ (s k o : Nat), o < 2 ^ b → backN s k o < 2 ^ (b + s)
  | 0, k, o, h => h
  | s + 1, k, o, h => by
    have := back_lt (b + 1) s (k / 2) (2 * o + k % 2) (by rw [Nat.pow_succ]; omega)
    rw [show b + 1 + s = b + (s + 1) by omega] at this
    exact this
theorem back_lt0 {N : Nat} (h : Sz4 N) (k : Nat) : backN (lg N) k 0 < N := by
  have := back_lt 0 (lg N) k 0 (by decide)
  rw [Nat.zero_add, (lg_pow h).1] at this
  exact this
theorem impl_noughts (N : Nat) (w : World) (h : Sz4 N) (hT : TabW w) :
    Calls Tryz.prog 210 #[.int .i64 N] w fun e w' => e = .returned (.int .i64 (lg N)) ∧ w' = w := by
  have hb := sz_bd h
  have c := fun W (hT : TabW W) => bits_tz N (by omega) (by omega) W hT
  rw [lg_ctz h] at c
  have HT : Hid (TabW w) := hT
  generalize lg N = L at *
  clear hT h
  go_enter Tryz.func210, Tryz.ntmps210
  go_wp2_with fail
  refine (c _ HT.out).mono ?_
  rintro e w1 ⟨rfl, rfl⟩
  go_wp2_with fail
  go_ret
  exact ⟨rfl, rfl⟩
theorem impl_backN (N k : Nat) (w : World) (h : Sz4 N) (hk : k < N) :
    Calls Tryz.prog 213 #[.int .i64 k, .int .i64 (lg N)] w fun e w' => e = .returned (.int .i64 (backN (lg N) k 0)) ∧ w' = w :=
  back_impl_yes k (lg N) w (by have := lg_pow h; omega) (by rw [(lg_pow h).1]; exact hk)
theorem spec_bits (N : Nat) (w : World) (h : Sz4 N) :
    Calls Tryz.prog 207 #[.int .i64 N] w fun e w' => e = .returned (.int .i64 ((lg N + 1 : Nat) : Int)) ∧ w' = w := by
  rcases h with rfl | rfl | rfl | rfl
  all_goals
    go_enter Tryz.func207, Tryz.ntmps207
    go_wp2_with fail
    refine wp_loop_rounds 6 ?_
    repeat (rw [rounds_succ]; go_wp2_with fail; try (first | (go_ret; exact ⟨rfl, rfl⟩)))
def ptsN (N : Nat) : List Nat := (List.range N).map (fun k => 2 * backN (lg N) k 0 + 1)
theorem ptsN_len (N : Nat) : (ptsN N).length = N := by simp [ptsN]
theorem ptsN_get (N k : Nat) (h : k < N) : (ptsN N).getD k 0 = 2 * backN (lg N) k 0 + 1 := by simp [ptsN, List.getD, h]
set_option maxRecDepth 100000 in
set_option maxHeartbeats 1000000 in
theorem spec_points (N : Nat) (w : World) (h : Sz4 N) :
    Calls Tryz.prog 186 #[.int .i64 N] w fun e w' => ∃ v', e = .returned v' ∧ Old w w' ∧ Own w' w.heap.size v' (toZ (ptsN N)) := by
  obtain ⟨i0, hi, hz0, hz1, hz2⟩ := info_parts Tryz.infoInt
  have c1 := fun W => spec_bits N W h
  have hs := sz_bd h
  have hL := lg_pow h
  have HB : Hid (∀ k, k < N → ∀ W, Calls Tryz.prog 208 #[.int .i64 k, .int .i64 (lg N)] W fun e w' => e = .returned (.int .i64 (backN (lg N) k 0)) ∧ w' = W) := fun k hk W => back_spec k (lg N) W (by omega) (by omega)
  have HE : Hid (∀ k, k < N → (toZ (ptsN N)).take (k + 1) = (toZ (ptsN N)).take k ++ [((2 * backN (lg N) k 0 + 1 : Nat) : Int)]) := fun k hk => by
    rw [take_succI _ k (by rw [toZ_len, ptsN_len]; exact hk), toZ_get, ptsN_get N k hk]
  have hzl : (toZ (ptsN N)).length = N := by rw [toZ_len, ptsN_len]
  have HBL : Hid (∀ k, backN (lg N) k 0 < N) := fun k => back_lt0 h k
  have eL : ((lg N + 1 : Nat) : Int) - 1 = (lg N : Int) := by omega
  have hL4 : lg N ≤ 4 := hL.2.2
  generalize toZ (ptsN N) = zs at *
  clear hL h
  generalize lg N = L at *
  have eL2 : (((L + 1 : Nat) : Int)) = (L : Int) + 1 := by omega
  rw [eL2] at c1
  clear eL eL2
  go_enter Tryz.func186, Tryz.ntmps186
  go_wp2_with fail
  refine (c1 _).mono ?_
  rintro e w1 ⟨rfl, hw⟩
  obtain rfl : w = w1 := hw.symm
  go_wp2_with fail
  go_loopw [3, 5] (fun v i W => ∃ (k : Nat) (a : Option Addr) (cap : Nat), k ≤ N ∧ i = .int .i64 k ∧ v = .slice a k cap ∧ Hid (Own W w.heap.size (.slice a k cap) (zs.take k)) ∧ Hid (Old w W)) (fun _ i _ => N - (intOf i).toNat)
  case atStart => exact ⟨0, none, 0, by omega, rfl, rfl, (by exact own_nil _ _), Old.refl _⟩
  case round =>
    obtain ⟨k, a, cap, hk, rfl, rfl, HO1, HG4⟩ := hrel
    have hs4 := HG4.out.size
    by_cases hlt : k < N
    · have d1 : decide ((k : Int) < (N : Int)) = true := by simp; omega
      have cb := HB.out k hlt
      have HT1 := HE.out k hlt
      have hx := HBL.out k
      generalize backN L k 0 = x at *
      have e2 : ((2 * x + 1 : Nat) : Int) = 2 * (x : Int) + 1 := by omega
      rw [e2] at HT1
      have HT2 : Hid (zs.take (k + 1) = zs.take k ++ [2 * (x : Int) + 1]) := HT1
      have htk : (zs.take k).length = k := by rw [List.length_take]; omega
      clear e2 HT1
      go_wp2_with fail
      refine (cb _).mono ?_
      rintro e w2 ⟨rfl, hw⟩
      obtain rfl : wr = w2 := hw.symm
      go_wp2_with (at_builtin; refine wpList_append_own _ rfl _ _ 23 rfl w.heap.size 3 i0 (.int .i64 0) 1 8 Tryz.underlying23 hi hz0 hz1 hz2 rfl (by decide) _ _ _ rfl (by have := HO1.out.alloc (.cells #[.int .i64 (2 * (x : Int) + 1)] 3); unfold Own at this; rw [htk] at this; exact this) ⟨wr.heap.size, 0, none⟩ 1 1 [.int .i64 (2 * (x : Int) + 1)] rfl rfl (one_cell _ _ _) (one_one _) (by unfold maxLen; omega) (by omega) (by simp; omega) ?_; intro v5 w5 o5 g5 x5; have O5 : Hid (Own w5 w.heap.size v5 (zs.take (k + 1))) := (by have := HT2.out; show Own _ _ _ _; rw [this]; exact Own.snoc (by rw [htk]; exact o5)); have G5 : Hid (Old w w5) := Below.grown (HG4.out.alloc (.cells #[.int .i64 (2 * (x : Int) + 1)] 3)) g5 (HG4.out.alloc (.cells #[.int .i64 (2 * (x : Int) + 1)] 3)).size (fun j hj => (HO1.out.lt j hj).1); clear o5 g5 x5)
      obtain ⟨a5, cap5, rfl⟩ := (Own.row O5.out).slice
      have htk1 : (zs.take (k + 1)).length = k + 1 := by rw [List.length_take]; omega
      rw [htk1] at O5 ⊢
      exact ⟨⟨k + 1, _, _, by omega, by go_num, rfl, O5, G5⟩, by simp [intOf]; omega⟩
    · have d1 : decide ((k : Int) < (N : Int)) = false := by simp; omega
      obtain rfl : k = N := by omega
      have HF : Hid (Own wr w.heap.size (.slice a k cap) zs) := by
        have := HO1.out
        rw [List.take_of_length_le (by omega)] at this
        exact this
      go_wp2_with fail
      go_ret
      exact ⟨_, rfl, HG4.out, HF.out⟩
end Go.Proofs.YtfgooclnohnkmaaGreatDoor
/- Proved: the model's transform: the polynomial's value at each point, by Horner's rule. -/
namespace Go.Proofs.YtfgooclnohnkmaaGreatDoor
open Go.ChangeShapes Go.WideShapes Go.ChangeAt Go.RowKit
open M1
set_option linter.unusedVariables false
set_option linter.unusedSimpArgs false
theorem pts_bd' {N : Nat} (h : Sz4 N) (k : Nat) : (ptsN N).getD k 0 < 2 * N + 1 := by
  by_cases hk : k < N
  · rw [ptsN_get N k hk]
    have := back_lt0 h k
    omega
  · have e : (ptsN N).getD k 0 = 0 := by simp [List.getD, List.getElem?_eq_none (show (ptsN N).length ≤ k by rw [ptsN_len]; omega)]
    omega
theorem spec_powN (a e p : Nat) (W : World) (ha : a < p) (he : e ≤ 1000000) (hp : 2 ≤ p) (hp' : p ≤ 268435456) :
    Calls Tryz.prog 187 #[.int .i64 a, .int .i64 e, .int .i64 p] W fun en w' => en = .returned (.int .i64 ((a ^ e % p : Nat) : Int)) ∧ w' = W := by
  have c := spec_pow a e p W ⟨by omega, by omega⟩ ⟨by omega, by omega⟩ ⟨by omega, by omega⟩
  have e1 : ((a : Int) % (p : Int)).toNat = a := by rw [← Int.natCast_emod, Int.toNat_natCast, Nat.mod_eq_of_lt ha]
  rw [e1, Int.toNat_natCast, Int.toNat_natCast] at c
  exact c
end Go.Proofs.YtfgooclnohnkmaaGreatDoor
/- Proved: splitting again and again gives a polynomial's values at the points; no program in sight but its lists. -/
namespace Go.Proofs.YtfgooclnohnkmaaGreatDoor
set_option linter.unusedVariables false
/-- the same but for multiples of P -/
def Cg (P a b : Int) : Prop := ∃ c : Int, a = b + P * c
theorem Cg.refl (P a : Int) : Cg P a a := ⟨0, by simp⟩
theorem Cg.symm {P a b : Int} (h : Cg P a b) : Cg P b a := by
  obtain ⟨c, h⟩ := h
  exact ⟨-c, by rw [h]; grind⟩
theorem Cg.trans {P a b c : Int} (h : Cg P a b) (k : Cg P b c) : Cg P a c := by
  obtain ⟨x, h⟩ := h
  obtain ⟨y, k⟩ := k
  exact ⟨x + y, by rw [h, k]; grind⟩
theorem Cg.add {P a b c d : Int} (h : Cg P a b) (k : Cg P c d) : Cg P (a + c) (b + d) := by
  obtain ⟨x, h⟩ := h
  obtain ⟨y, k⟩ := k
  exact ⟨x + y, by rw [h, k]; grind⟩
theorem Cg.mul {P a b c d : Int} (h : Cg P a b) (k : Cg P c d) : Cg P (a * c) (b * d) := by
  obtain ⟨x, h⟩ := h
  obtain ⟨y, k⟩ := k
  exact ⟨x * d + b * y + P * x * y, by rw [h, k]; grind⟩
theorem Cg.neg {P a b : Int} (h : Cg P a b) : Cg P (-a) (-b) := by
  obtain ⟨x, h⟩ := h
  exact ⟨-x, by rw [h]; grind⟩
theorem Cg.pow {P a b : Int} (h : Cg P a b) : ∀ n : Nat, Cg P (a ^ n) (b ^ n)
  | 0 => by simp; exact Cg.refl _ _
  | n + 1 => by rw [Int.pow_succ, Int.pow_succ]; exact (Cg.pow h n).mul h
theorem Cg.mod (P a : Nat) : Cg P ((a % P : Nat) : Int) (a : Int) := by
  refine ⟨-((a / P : Nat) : Int), ?_⟩
  have := Nat.div_add_mod a P
  have e : ((a : Nat) : Int) = (P : Int) * ((a / P : Nat) : Int) + ((a % P : Nat) : Int) := by exact_mod_cast this.symm
  rw [e]
  grind
theorem Cg.eq_of_lt {P a b : Nat} (h : Cg P a b) (ha : a < P) (hb : b < P) : a = b := by
  obtain ⟨c, h⟩ := h
  have : (a : Int) % (P : Int) = (b : Int) % (P : Int) := by rw [h]; exact Int.add_mul_emod_self_left _ _ _
  rw [Int.emod_eq_of_lt (by omega) (by omega), Int.emod_eq_of_lt (by omega) (by omega)] at this
  omega
theorem gset (l : List Nat) (i v m : Nat) (hi : i < l.length) : (l.set i v).getD m 0 = if m = i then v else l.getD m 0 := by
  by_cases h : m = i
  · subst h
    simp [List.getD, hi]
  · rw [if_neg h]
    simp only [List.getD]
    rw [List.getElem?_set_ne (by omega)]
end Go.Proofs.YtfgooclnohnkmaaGreatDoor
/- Proved: after all steps of splitting there stands at each place the polynomial's value at the place's point. -/
namespace Go.Proofs.YtfgooclnohnkmaaGreatDoor
set_option linter.unusedVariables false
theorem dv {m D J : Nat} (h1 : J * D ≤ m) (h2 : m < J * D + D) : m / D = J := by
  have hD : 0 < D := by omega
  apply Nat.div_eq_of_lt_le
  · exact h1
  · rw [Nat.add_mul, Nat.one_mul]; exact h2
theorem dv_lo (m D : Nat) (hD : 0 < D) : m / D * D ≤ m ∧ m < m / D * D + D ∧ m % D = m - m / D * D := by
  have h1 := Nat.div_add_mod m D
  have h2 := Nat.mod_lt m hD
  rw [Nat.mul_comm] at h1
  omega
theorem fact2 : ∀ s, s < 1 → ∀ k, k < 2 → ((2 * backN 1 k 0 + 1) * (2 / 2 ^ s / 2)) % 4 = if k % (2 / 2 ^ s) < 2 / 2 ^ s / 2 then backN 1 (2 ^ s + k / (2 / 2 ^ s)) 0 else backN 1 (2 ^ s + k / (2 / 2 ^ s)) 0 + 2 := by decide
theorem fact4 : ∀ s, s < 2 → ∀ k, k < 4 → ((2 * backN 2 k 0 + 1) * (4 / 2 ^ s / 2)) % 8 = if k % (4 / 2 ^ s) < 4 / 2 ^ s / 2 then backN 2 (2 ^ s + k / (4 / 2 ^ s)) 0 else backN 2 (2 ^ s + k / (4 / 2 ^ s)) 0 + 4 := by decide +kernel
theorem fact8 : ∀ s, s < 3 → ∀ k, k < 8 → ((2 * backN 3 k 0 + 1) * (8 / 2 ^ s / 2)) % 16 = if k % (8 / 2 ^ s) < 8 / 2 ^ s / 2 then backN 3 (2 ^ s + k / (8 / 2 ^ s)) 0 else backN 3 (2 ^ s + k / (8 / 2 ^ s)) 0 + 8 := by decide +kernel
theorem fact16 : ∀ s, s < 4 → ∀ k, k < 16 → ((2 * backN 4 k 0 + 1) * (16 / 2 ^ s / 2)) % 32 = if k % (16 / 2 ^ s) < 16 / 2 ^ s / 2 then backN 4 (2 ^ s + k / (16 / 2 ^ s)) 0 else backN 4 (2 ^ s + k / (16 / 2 ^ s)) 0 + 16 := by decide +kernel
theorem fact {N : Nat} (h : Sz4 N) (s : Nat) (hs : s < lg N) (k : Nat) (hk : k < N) : ((2 * backN (lg N) k 0 + 1) * (N / 2 ^ s / 2)) % (2 * N) = if k % (N / 2 ^ s) < N / 2 ^ s / 2 then backN (lg N) (2 ^ s + k / (N / 2 ^ s)) 0 else backN (lg N) (2 ^ s + k / (N / 2 ^ s)) 0 + N := by
  rcases h with rfl | rfl | rfl | rfl
  · exact fact2 s hs k hk
  · exact fact4 s hs k hk
  · exact fact8 s hs k hk
  · exact fact16 s hs k hk
/-- the power of a root of 1 by what is left of the exponent -/
theorem pow_per {P N R : Nat} (h1 : Cg P ((R : Int) ^ (2 * N)) 1) (e b : Nat) (he : e % (2 * N) = b) : Cg P ((R : Int) ^ e) ((R : Int) ^ b) := by
  have h := Nat.div_add_mod e (2 * N)
  rw [he] at h
  rw [← h, Int.pow_add, Int.pow_mul]
  have := (h1.pow (e / (2 * N))).mul (Cg.refl (P : Int) ((R : Int) ^ b))
  rw [Int.one_pow, Int.one_mul] at this
  exact this
end Go.Proofs.YtfgooclnohnkmaaGreatDoor
/- Proved: the list that the program's steps make is the model's list of values, where the root's N-th power is -1. -/
namespace Go.Proofs.YtfgooclnohnkmaaGreatDoor
set_option linter.unusedVariables false
set_option linter.unusedSimpArgs false
theorem list_eq {a b : List Nat} (hl : a.length = b.length) (h : ∀ k, k < b.length → a.getD k 0 = b.getD k 0) : a = b := by
  refine List.ext_getElem hl (fun k h1 h2 => ?_)
  have := h k h2
  simpa [List.getD, h1, h2] using this
/-- a root of 1 gives both powers -/
theorem Rt.cg {P N R : Nat} (h : Rt P (2 * N) R) (hP : 2 ≤ P) : Cg P ((R : Int) ^ (2 * N)) 1 ∧ Cg P ((R : Int) ^ N) (-1) := by
  have h1 := (Cg.mod P (R ^ (2 * N))).symm
  have h2 := (Cg.mod P (R ^ N)).symm
  rw [h.one] at h1
  have hn := h.neg
  rw [show 2 * N / 2 = N by omega] at hn
  rw [hn] at h2
  push_cast at h1 h2
  refine ⟨h1, h2.trans ⟨1, by omega⟩⟩
end Go.Proofs.YtfgooclnohnkmaaGreatDoor
/- Proved: the powers of a root, once round, in an array of 32 numbers. -/
namespace Go.Proofs.YtfgooclnohnkmaaGreatDoor
open Go.ChangeShapes Go.WideShapes Go.ChangeAt Go.RowKit
set_option linter.unusedVariables false
set_option linter.unusedSimpArgs false
/-- the cells of 32 numbers -/
def pwA (ls : List Nat) : Array Value := (ls.map (fun n : Nat => Value.int .i64 (n : Int))).toArray
theorem pwA_size {ls : List Nat} (h : ls.length = 32) : (pwA ls).size = 32 := by simp [pwA, h]
theorem pwA_at {ls : List Nat} (h : ls.length = 32) {j : Nat} (hj : j < 32) : (pwA ls)[j]? = some (.int .i64 ((ls.getD j 0 : Nat) : Int)) := by
  simp [pwA, h, hj, List.getD]
theorem pwA_set {ls : List Nat} (h : ls.length = 32) {j : Nat} (hj : j < 32) (y : Nat) : (pwA ls).setIfInBounds j (.int .i64 (y : Int)) = pwA (ls.set j y) := by
  simp only [pwA, List.setIfInBounds_toArray]
  congr 1
  simp [List.map_set]
theorem pwA_one (ls : List Nat) : (pwA ls).all (·.oneCell') = true := by
  simp [pwA, Value.oneCell']
theorem infoPw : (Tryz.prog.info? 217).map (·.size) = some 32 := by kernel_rfl
/-- 32 numbers lie at block g -/
structure Pw (w : World) (g : Nat) (ls : List Nat) : Prop where
  blk : w.heap[g]? = some (.cells (pwA ls) 217 (0, 0))
  len : ls.length = 32
theorem Pw.lt {w : World} {g : Nat} {ls : List Nat} (h : Pw w g ls) : g < w.heap.size := (Array.getElem?_eq_some_iff.1 h.blk).1
theorem Pw.at {w : World} {g : Nat} {ls : List Nat} (h : Pw w g ls) {j : Nat} (hj : j < 32) : w.cell? ⟨g, j, none⟩ = some (.int .i64 ((ls.getD j 0 : Nat) : Int)) := by
  rw [cell_of_row _ _ _ _ _ _ h.blk, pwA_at h.len hj]
theorem Pw.fro {w : World} {g : Nat} {ls : List Nat} (h : Pw w g ls) (j : Nat) : w.frozen? ⟨g, j, none⟩ = false := frozen_of_row _ _ _ _ _ h.blk
theorem Pw.old {w w' : World} {g : Nat} {ls : List Nat} (h : Pw w g ls) (o : Old w w') : Pw w' g ls := ⟨by rw [o.block g h.lt]; exact h.blk, h.len⟩
theorem Pw.by_ {w w' : World} {g : Nat} {ls : List Nat} {ob : Option Nat} (h : Pw w g ls) (o : w.grownBy w' ob) (hne : ∀ k, ob = some k → k ≠ g) : Pw w' g ls := ⟨(o.block g h.lt (fun e => hne g e.symm rfl)).trans h.blk, h.len⟩
theorem Pw.set {w : World} {g : Nat} {ls : List Nat} (h : Pw w g ls) {j : Nat} (hj : j < 32) (y : Nat) : Pw (w.setCell ⟨g, j, none⟩ (.int .i64 (y : Int))) g (ls.set j y) :=
  ⟨by rw [heap_setCell_same w g j _ _ _ h.blk, pwA_set h.len hj y], by rw [List.length_set, h.len]⟩
theorem Pw.other {w : World} {g : Nat} {ls : List Nat} (h : Pw w g ls) (p : Addr) (hp : g ≠ p.block) (v : Value) : Pw (w.setCell p v) g ls :=
  ⟨by rw [heap_setCell_other w p g v hp]; exact h.blk, h.len⟩
theorem Pw.row {w : World} {g : Nat} {ls : List Nat} (h : Pw w g ls) (ls' : List Nat) (hl : ls'.length = 32) : Pw (w.setRow g (pwA ls')) g ls' :=
  ⟨setRow_heap w g _ _ _ _ h.blk, hl⟩
theorem Pw.new' (w : World) (ls : List Nat) (g : Nat) (hl : ls.length = 32) (hg : g = w.heap.size) : Pw (w.alloc (.cells (pwA ls) 217)) g ls := by subst hg; exact ⟨heap_alloc_new w _, hl⟩
theorem Old.rowP {a b : World} (h : Old a b) {g : Nat} (hg : a.heap.size ≤ g) (cs : Array Value) : Old a (b.setRow g cs) :=
  ⟨h.os, h.tape, h.output, by rw [setRow_size]; exact h.size, fun k hk => by rw [setRow_other b g k cs (by omega)]; exact h.block k hk⟩
section
variable {ops : Array Oper} {rest : List Oper} {a : Act} {w : World} {Q : Exit → Act → World → Prop} {ty : TypeId} {pos : String} {d : Option Tmp} {x y : Operand}
theorem load_pw {af : Array Edge} {g : Nat} {ls : List Nat} (hs : Pw w g ls) (hx : a.eval x = .pointer (some ⟨g, 0, none⟩))
    (h : wpList Tryz.prog ops Q rest (a.put d (.agg (pwA ls))) w) : wpList Tryz.prog ops Q (⟨d, .load 217 x, ty, pos, af, none⟩ :: rest) a w :=
  wpList_load_row rfl 217 x rfl g hx 217 (pwA ls) (0, 0) _ hs.blk Tryz.underlying217 rfl (by rw [pwA_size hs.len]; exact infoPw) h
theorem store_pw {af : Array Edge} {g : Nat} {ls : List Nat} (hs : Pw w g ls) (ls' : List Nat) (hl : ls'.length = 32) (hx : a.eval x = .pointer (some ⟨g, 0, none⟩)) (hy : a.eval y = .agg (pwA ls'))
    (h : wpList Tryz.prog ops Q rest (a.put d undef) (w.setRow g (pwA ls'))) : wpList Tryz.prog ops Q (⟨d, .store 217 x y, ty, pos, af, none⟩ :: rest) a w := by
  refine wpList_store_row rfl 217 x y rfl g (pwA ls') hx hy 217 (pwA ls) hs.blk (by rw [pwA_size hl]; exact infoPw) (by rw [pwA_size hs.len, pwA_size hl]) (pwA_one _) h
end
theorem ret_pw {fn : Func} {p : Tmp} (h : fn.results = #[.cell p 217]) (tmps : Array Value) (w : World) {g : Nat} {ls : List Nat} (hp : tmps.getD p undef = .pointer (some ⟨g, 0, none⟩)) (hs : Pw w g ls) :
    (results fn tmps).run Tryz.prog w = .ok (.agg (pwA ls)) w :=
  results_cell_row h tmps w g 217 (pwA ls) (0, 0) _ hp hs.blk Tryz.underlying217 rfl (by rw [pwA_size hs.len]; exact infoPw)
/-- the powers, the first k laid -/
def pwS (P R : Nat) : Nat → List Nat
  | 0 => List.replicate 32 0
  | k + 1 => (pwS P R k).set k (R ^ k % P)
theorem pwS_len (P R : Nat) : ∀ k, (pwS P R k).length = 32
  | 0 => by simp [pwS]
  | k + 1 => by rw [pwS, List.length_set, pwS_len P R k]
theorem pwS_get (P R : Nat) : ∀ k j, j < k → k ≤ 32 → (pwS P R k).getD j 0 = R ^ j % P
  | 0, j, h, _ => by omega
  | k + 1, j, h, h2 => by
    rw [pwS]
    by_cases hj : j = k
    · subst hj
      simp [List.getD, pwS_len, show j < 32 by omega]
    · have := pwS_get P R k j (by omega) (by omega)
      simp only [List.getD] at this ⊢
      rw [List.getElem?_set_ne (by omega)]
      exact this
set_option maxRecDepth 100000 in
set_option maxHeartbeats 2000000 in
theorem impl_powers (P N R : Nat) (w : World) (hP : 2 ≤ P ∧ P ≤ 268435456) (hN : 2 ≤ N ∧ N ≤ 16) (hR : R < P) :
    Calls Tryz.prog 209 #[.agg #[.int .i64 P, .int .i64 N, .int .i64 R]] w fun e w' => e = .returned (.agg (pwA (pwS P R (2 * N)))) ∧ Old w w' := by
  have HM : Hid (∀ k, R ^ k % P * R % P = R ^ (k + 1) % P) := fun k => by rw [Nat.pow_succ, Nat.mul_mod, Nat.mod_mod, ← Nat.mul_mod]
  have HXL : Hid (∀ k, R ^ k % P < P) := fun k => Nat.mod_lt _ (by omega)
  have H1 : Hid (1 = R ^ 0 % P) := by rw [Nat.pow_zero, Nat.mod_eq_of_lt (by omega)]; rfl
  have HS : Hid (∀ k, pwS P R (k + 1) = (pwS P R k).set k (R ^ k % P)) := fun k => rfl
  have HL : Hid (∀ k, (pwS P R k).length = 32) := fun k => pwS_len P R k
  have H0 : Hid (pwS P R 0 = List.replicate 32 0) := rfl
  generalize pwS P R = F at *
  obtain ⟨E, eE⟩ : ∃ E : Nat → Nat, E = fun k => R ^ k % P := ⟨_, rfl⟩
  have HM' : Hid (∀ k, E k * R % P = E (k + 1)) := by rw [eE]; exact HM
  have HXL' : Hid (∀ k, E k < P) := by rw [eE]; exact HXL
  have H1' : Hid (1 = E 0) := by rw [eE]; exact H1
  have HS' : Hid (∀ k, F (k + 1) = (F k).set k (E k)) := by rw [eE]; exact HS
  clear HM HXL H1 HS eE
  obtain ⟨M, hM⟩ : ∃ M, M = 2 * N := ⟨_, rfl⟩
  have eM : 2 * (N : Int) = (M : Int) := by omega
  rw [← hM]
  have hM2 : M ≤ 32 := by omega
  have hpn : ¬ (P : Int) = 0 := by omega
  have hpn2 : ¬ P = 0 := by omega
  have HZ : Hid (pwA (List.replicate 32 0) = #[.int .i64 0, .int .i64 0, .int .i64 0, .int .i64 0, .int .i64 0, .int .i64 0, .int .i64 0, .int .i64 0, .int .i64 0, .int .i64 0, .int .i64 0, .int .i64 0, .int .i64 0, .int .i64 0, .int .i64 0, .int .i64 0, .int .i64 0, .int .i64 0, .int .i64 0, .int .i64 0, .int .i64 0, .int .i64 0, .int .i64 0, .int .i64 0, .int .i64 0, .int .i64 0, .int .i64 0, .int .i64 0, .int .i64 0, .int .i64 0, .int .i64 0, .int .i64 0]) := rfl
  have HPA : Hid (Pw (((w.alloc (.cells #[.int .i64 P, .int .i64 N, .int .i64 R] 151)).alloc (.cells (pwA (List.replicate 32 0)) 217)).alloc (.cells (pwA (List.replicate 32 0)) 217)) (w.heap.size + 1) (List.replicate 32 0)) := (Pw.new' (w.alloc (.cells #[.int .i64 P, .int .i64 N, .int .i64 R] 151)) (List.replicate 32 0) _ (by simp) (by simp)).old ((Old.refl _).alloc _)
  have HPB : Hid (Pw (((w.alloc (.cells #[.int .i64 P, .int .i64 N, .int .i64 R] 151)).alloc (.cells (pwA (List.replicate 32 0)) 217)).alloc (.cells (pwA (List.replicate 32 0)) 217)) (w.heap.size + 1 + 1) (F 0)) := by rw [H0.out]; exact (Pw.new' ((w.alloc (.cells #[.int .i64 P, .int .i64 N, .int .i64 R] 151)).alloc (.cells (pwA (List.replicate 32 0)) 217)) (List.replicate 32 0) _ (by simp) (by simp))
  have HRC : Hid (Rc (((w.alloc (.cells #[.int .i64 P, .int .i64 N, .int .i64 R] 151)).alloc (.cells (pwA (List.replicate 32 0)) 217)).alloc (.cells (pwA (List.replicate 32 0)) 217)) w.heap.size P N R) := (Rc.new w P N R).old (((Old.refl _).alloc _).alloc _)
  rw [HZ.out] at HPA HPB HRC
  clear hM HZ H0
  go_enter Tryz.func209, Tryz.ntmps209
  go_wp2_with fail
  go_loopw [4, 5, 9] (fun x y i W => ∃ k : Nat, k ≤ M ∧ i = .int .i64 k ∧ x = .int .i64 ((E k : Nat) : Int) ∧ Hid (Pw W (w.heap.size + 1) (List.replicate 32 0)) ∧ Hid (Pw W (w.heap.size + 1 + 1) (F k)) ∧ Hid (Rc W w.heap.size P N R) ∧ Hid (Old w W)) (fun _ _ i _ => M - (intOf i).toNat)
  case atStart => exact ⟨0, by omega, rfl, by rw [← H1'.out]; rfl, HPA, HPB, HRC, (((Old.refl _).alloc _).alloc _).alloc _⟩
  case round =>
    obtain ⟨k, hk, rfl, rfl, PA, PB, RC, HG⟩ := hrel
    clear HPA HPB HRC
    by_cases hlt : k < M
    · have d1 : decide ((k : Int) < (M : Int)) = true := by simp; omega
      have i1 : (k : Int) < 32 := by omega
      have c1 := PB.out.at (show k < 32 by omega)
      have c2 := PB.out.fro k
      have HP2 : Hid (Pw (wr.setCell ⟨w.heap.size + 1 + 1, k, none⟩ (.int .i64 ((E k : Nat) : Int))) (w.heap.size + 1 + 1) (F (k + 1))) := by rw [HS'.out]; exact PB.out.set (by omega) _
      have HA2 : Hid (Pw (wr.setCell ⟨w.heap.size + 1 + 1, k, none⟩ (.int .i64 ((E k : Nat) : Int))) (w.heap.size + 1) (List.replicate 32 0)) := PA.out.other _ (by simp) _
      have HG2 : Hid (Old w (wr.setCell ⟨w.heap.size + 1 + 1, k, none⟩ (.int .i64 ((E k : Nat) : Int)))) := HG.out.own (by simp; omega) _
      have HR2 : Hid (Rc (wr.setCell ⟨w.heap.size + 1 + 1, k, none⟩ (.int .i64 ((E k : Nat) : Int))) w.heap.size P N R) := ⟨by have := RC.out.lt; simpa using this, by rw [World.cell?_of_block (w := wr) (heap_setCell_other wr ⟨w.heap.size + 1 + 1, k, none⟩ w.heap.size _ (by simp; omega))]; exact RC.out.c0, by rw [World.cell?_of_block (w := wr) (heap_setCell_other wr ⟨w.heap.size + 1 + 1, k, none⟩ w.heap.size _ (by simp; omega))]; exact RC.out.c1, by rw [World.cell?_of_block (w := wr) (heap_setCell_other wr ⟨w.heap.size + 1 + 1, k, none⟩ w.heap.size _ (by simp; omega))]; exact RC.out.c2⟩
      have z0 := HR2.out.c0
      have z2 := HR2.out.c2
      have hx := HXL'.out k
      have HN : Hid (E k * R % P = E (k + 1)) := HM'.out k
      generalize (F k).getD k 0 = oldv at *
      generalize E k = x at *
      have hmul := mul_lt28 x R P hx hR hP.2
      have e1 : (x : Int) * (R : Int) = ((x * R : Nat) : Int) := by simp
      have e2 : ((x * R : Nat) : Int) % (P : Int) = ((x * R % P : Nat) : Int) := by simp
      generalize x * R = s at *
      generalize s % P = q at *
      go_wp2_with fail
      exact ⟨⟨k + 1, by omega, by go_num, by rw [← HN.out, e2], HA2, HP2, HR2, HG2⟩, by simp [intOf]; omega⟩
    · have d1 : decide ((k : Int) < (M : Int)) = false := by simp; omega
      obtain rfl : k = M := by omega
      have HL2 : Hid ((F k).length = 32) := HL.out k
      go_wp2_with (first | ((with_reducible refine load_pw PB.out ?_ ?_); exact rfl; simp only [Act.put, List.setIfInBounds_toArray, List.set_cons_succ, List.set_cons_zero]) | ((with_reducible refine store_pw PA.out (F k) HL2.out ?_ ?_ ?_); exact rfl; exact rfl; simp only [Act.put]) | ((with_reducible refine bodyPost_ret (ret_pw Tryz.results209 _ _ ?_ (PA.out.row (F k) HL2.out)) ?_ ?_); exact rfl; exact rfl; exact ⟨rfl, HG.out.rowP (by omega) _⟩))
end Go.Proofs.YtfgooclnohnkmaaGreatDoor
/- Proved: a part of a row, cut out of it. -/
namespace Go.Proofs.YtfgooclnohnkmaaGreatDoor
open Go.ChangeShapes Go.WideShapes Go.ChangeAt Go.RowKit
set_option linter.unusedVariables false
set_option linter.unusedSimpArgs false
theorem impl_partOf (g N part parts size : Nat) (w : World) (hN : 2 ≤ N ∧ N ≤ 16) (hp : N = parts * size) (h1 : 1 ≤ parts) (h2 : 1 ≤ size) (hlt : part < parts) :
    Calls Tryz.prog 212 #[.slice (some ⟨g, 0, none⟩) N N, .int .i64 part, .int .i64 parts] w fun e w' => e = .returned (.slice (some ⟨g, part * size, none⟩) size (N - part * size)) ∧ w' = w := by
  have hd : N / parts = size := by rw [hp]; exact Nat.mul_div_cancel_left _ (by omega)
  have e0 : (N : Int) / (parts : Int) = (size : Int) := by rw [← hd]; simp
  have hle : (part + 1) * size ≤ N := by rw [hp]; exact Nat.mul_le_mul_right _ (by omega)
  have e1 : (part : Int) * (size : Int) = ((part * size : Nat) : Int) := by simp
  have e2 : ((part : Int) + 1) * (size : Int) = (((part + 1) * size : Nat) : Int) := by simp
  have e3 : (part + 1) * size = part * size + size := by rw [Nat.add_mul, Nat.one_mul]
  have hpt : part ≤ 16 := by
    have := Nat.mul_le_mul_right size hlt
    have : parts ≤ parts * size := Nat.le_mul_of_pos_right _ (by omega)
    omega
  have hpp : parts ≤ 16 := by
    have : parts ≤ parts * size := Nat.le_mul_of_pos_right _ (by omega)
    omega
  have hsz : size ≤ 16 := by
    have : size ≤ parts * size := Nat.le_mul_of_pos_left _ (by omega)
    omega
  rw [e3] at e2 hle
  generalize part * size = lo at *
  obtain ⟨hi, hhi⟩ : ∃ hi, hi = lo + size := ⟨_, rfl⟩
  rw [← hhi] at e2 hle
  have es : hi - lo = size := by omega
  have hlh : lo ≤ hi := by omega
  have hlh2 : lo < hi := by omega
  have hle' : (lo : Int) ≤ (hi : Int) := by omega
  have hle2 : (hi : Int) ≤ (N : Int) := by omega
  have hpn : ¬ (parts : Int) = 0 := by omega
  have hpn2 : ¬ parts = 0 := by omega
  rw [← es]
  clear hp hd e3 hhi es
  go_enter Tryz.func212, Tryz.ntmps212
  go_wp2_with fail
  all_goals
    go_ret
    first
      | (exfalso; omega)
      | exact ⟨rfl, rfl⟩
end Go.Proofs.YtfgooclnohnkmaaGreatDoor
/- Proved: a row copied whole into a row of the call's own. -/
namespace Go.Proofs.YtfgooclnohnkmaaGreatDoor
open Go.ChangeShapes Go.WideShapes Go.ChangeAt Go.RowKit
set_option linter.unusedVariables false
set_option linter.unusedSimpArgs false
theorem infoIntSize : (Tryz.prog.info? 3).map (·.size) = some 1 := by kernel_rfl
theorem splice_full (cur cs : List Value) (h : cur.length = cs.length) : splice cur 0 cs = cs := by
  simp [splice, h]
theorem copy_row {ops : Array Oper} {rest : List Oper} {a : Act} {w : World} {Q : Exit → Act → World → Prop} {ty : TypeId} {pos : String} {d : Option Tmp} {x y : Operand} {af : Array Edge}
    (g base N b o cap : Nat) (us xs : List Int) (hx : a.eval x = .slice (some ⟨g, 0, none⟩) N N) (hy : a.eval y = .slice (some ⟨b, o, none⟩) N cap) (hO : OwnI w base g N us) (hu : us.length = N) (hl : xs.length = N)
    (hsrc : ∀ j, j < N → w.cell? ⟨b, o + j, none⟩ = some (.int .i64 (xs.getD j 0)))
    (h : ∀ w', OwnI w' base g N xs → Below g w w' → wpList Tryz.prog ops Q rest (a.put d (goInt N)) w') :
    wpList Tryz.prog ops Q (⟨d, .call { callee := .builtin .copy, args := #[x, y], argTypes := #[23, 23] }, ty, pos, af, none⟩ :: rest) a w := by
  rcases hO.2 with ⟨e, _⟩ | ⟨g', cap', cur, e, hb, hg, h1, h2, h3, h4⟩
  · cases e
  · injection e with e1 e2 e3
    injection e1 with e4
    injection e4 with e5
    subst e5 e3
    have hcl : cur.toList.length = (xs.map (Value.int .i64)).length := by simp [h3, hl]
    refine wpList_copy_splice rfl x y 23 23 rfl 3 Tryz.underlying23 infoIntSize _ _ _ _ _ _ hx hy g 0 cur.toList 3 (by rw [Array.toArray_toList]; exact hg) (xs.map (Value.int .i64)) (by simp [hl]) (fun _ => ⟨rfl, _, rfl, ?_⟩) (by rw [hcl]; omega) (by simp [Value.oneCell']) g w (Below.refl _ _) (Nat.le_refl _) ?_
    · intro j v hj
      have hjl : j < N := by
        have := (List.getElem?_eq_some_iff.1 hj).1
        simpa [hl] using this
      have e1 : v = .int .i64 (xs.getD j 0) := by
        have hjx : j < xs.length := by omega
        simp [List.getElem?_map, hjx] at hj
        rw [← hj]
        simp [List.getD, hjx]
      have e2 : (⟨b, o, none⟩ : Addr).add j = ⟨b, o + j, none⟩ := by
        unfold Addr.add
        split
        · rename_i h; simp [h]
        · rfl
      rw [e2, e1]
      exact hsrc j hjl
    · intro w' hg' hb'
      rw [show (xs.map (Value.int .i64)).length = N by simp [hl]]
      refine h w' ⟨by simp [hl], Or.inr ⟨g, N, _, rfl, hb, hg'.out, Nat.le_refl _, h2, ?_, ?_⟩⟩ hb'
      · rw [splice_full _ _ hcl]; simp [hl]
      · rw [splice_full _ _ hcl, List.toList_toArray, Nat.mul_one]
        exact List.take_of_length_le (by simp [hl])
end Go.Proofs.YtfgooclnohnkmaaGreatDoor
