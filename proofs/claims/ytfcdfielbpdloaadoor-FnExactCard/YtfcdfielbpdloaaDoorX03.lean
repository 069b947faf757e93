/- Proved: several texts in one: what each proves is said ahead of it. -/
import Derived.Test.YtfcdfielbpdloaaDoorX00
import Derived.Deep.RegionWith
import Derived.Test.YtfcdfielbpdloaaDoorX16
/- Proved: the walk of the statement on GoodWhole, under the contract of the program's own function. -/
namespace Go.Proofs.YtfcdfielbpdloaaDoor
open Go.ChangeShapes Go.WideShapes Go.ChangeAt Go.RowKit
open M2
set_option linter.unusedVariables false
set_option linter.unusedSimpArgs false
abbrev StW (w : World) (k : Nat) (x y : Value) (t : TypeId) : Prop := w.heap[k]? = some (.cells #[x, y] t (0, 0))
theorem StW.c0 {w : World} {k : Nat} {x y : Value} {t : TypeId} (h : StW w k x y t) : w.cell? ⟨k, 0, none⟩ = some x := cell_of_row w k 0 _ t (0, 0) h
theorem StW.c1 {w : World} {k : Nat} {x y : Value} {t : TypeId} (h : StW w k x y t) : w.cell? ⟨k, 1, none⟩ = some y := cell_of_row w k 1 _ t (0, 0) h
theorem StW.f0 {w : World} {k : Nat} {x y : Value} {t : TypeId} (h : StW w k x y t) : w.frozen? ⟨k, 0, none⟩ = false := frozen_of_row w k 0 _ t h
theorem StW.f1 {w : World} {k : Nat} {x y : Value} {t : TypeId} (h : StW w k x y t) : w.frozen? ⟨k, 1, none⟩ = false := frozen_of_row w k 1 _ t h
theorem StW.lt {w : World} {k : Nat} {x y : Value} {t : TypeId} (h : StW w k x y t) : k < w.heap.size := (Array.getElem?_eq_some_iff.1 h).1
theorem StW.old {w w' : World} {k : Nat} {x y : Value} {t : TypeId} (h : StW w k x y t) (g : Old w w') : StW w' k x y t := (g.block k h.lt).trans h
theorem StW.new (w : World) (x y : Value) (t : TypeId) : StW (w.alloc (.cells #[x, y] t)) w.heap.size x y t := heap_alloc_new w _
end Go.Proofs.YtfcdfielbpdloaaDoor
/- Proved: structs of two cells under writes into other blocks; no function of the program. -/
namespace Go.Proofs.YtfcdfielbpdloaaDoor
open Go.ChangeShapes Go.WideShapes Go.ChangeAt Go.RowKit
set_option linter.unusedVariables false
set_option linter.unusedSimpArgs false
theorem StW.at2 (w : World) (x y x' y' : Value) (t t' : TypeId) : StW ((w.alloc (.cells #[x, y] t)).alloc (.cells #[x', y'] t')) (w.heap.size + 1) x' y' t' := heap_alloc2_new w _ _
structure Made (w0 : World) (rb : Bool) (rl : List Nat) (W : World) (k : Nat) (a : Option Addr) (cap : Nat) : Prop where
  old : Old w0 W
  st : StW W k (.bool rb) (.slice a (toI rl).length cap) 27
  own : Own W w0.heap.size (.slice a (toI rl).length cap) (toI rl)
  lo : w0.heap.size ≤ k
theorem two_made {w0 w5 : World} {rb : Bool} {rl : List Nat} {a : Option Addr} {cap base k : Nat} (g : Old w0 w5) (o : Own w5 base (.slice a (toI rl).length cap) (toI rl)) (s : StW w5 k (.bool false) (.slice none 0 0) 27) (hb : w0.heap.size ≤ base) (hk : w0.heap.size ≤ k) (hne : k < base) :
    Made w0 rb rl ((w5.setCell ⟨k, 0, none⟩ (.bool rb)).setCell ⟨k, 1, none⟩ (.slice a (toI rl).length cap)) k a cap := by
  refine ⟨(g.own (p := ⟨k, 0, none⟩) hk _).own (p := ⟨k, 1, none⟩) hk _, ?_, ?_, hk⟩
  · have h1 := heap_setCell_same w5 k 0 _ _ (.bool rb) s
    have h2 := heap_setCell_same _ k 1 _ _ (.slice a (toI rl).length cap) h1
    exact h2
  · refine Own.low (base := base) (ownsRow_setCell_other (ownsRow_setCell_other o (fun e => ?_) _) (fun e => ?_) _) hb
    · have := (o.lt k e).1; omega
    · have := (o.lt k e).1; omega
end Go.Proofs.YtfcdfielbpdloaaDoor
/- Proved: a struct in a block of its own stays where only others are written; no function of the program. -/
namespace Go.Proofs.YtfcdfielbpdloaaDoor
open Go.ChangeShapes Go.WideShapes Go.ChangeAt Go.RowKit
set_option linter.unusedVariables false
set_option linter.unusedSimpArgs false
def Bk (w : World) (k : Nat) (cs : Array Value) (t : TypeId) : Prop := w.heap[k]? = some (.cells cs t (0, 0))
theorem Bk.lt {w : World} {k : Nat} {cs : Array Value} {t : TypeId} (h : Bk w k cs t) : k < w.heap.size := (Array.getElem?_eq_some_iff.1 h).1
theorem Bk.old {w w' : World} {k : Nat} {cs : Array Value} {t : TypeId} (h : Bk w k cs t) (g : Old w w') : Bk w' k cs t := (g.block k h.lt).trans h
theorem Bk.chg {w w' : World} {k : Nat} {cs : Array Value} {t : TypeId} {lo hi : Nat} (h : Bk w k cs t) (c : Chg w w' lo hi) (hk : k < lo ∨ hi ≤ k) : Bk w' k cs t := (c.block k h.lt hk).trans h
theorem Bk.new' (w : World) {k : Nat} (cs : Array Value) (t : TypeId) (hk : w.heap.size = k) : Bk (w.alloc (.cells cs t)) k cs t := by
  subst hk
  exact heap_alloc_new w _
theorem Bk.c {w : World} {k : Nat} {cs : Array Value} {t : TypeId} (h : Bk w k cs t) {i : Nat} {v : Value} (hi : cs[i]? = some v) : w.cell? ⟨k, i, none⟩ = some v := by
  rw [← hi]
  exact cell_of_row w k i cs t (0, 0) h
end Go.Proofs.YtfcdfielbpdloaaDoor
/- Proved: contracts of the model's functions on whole numbers of any length. -/
namespace Go.Proofs.YtfcdfielbpdloaaDoor
open Go.ChangeShapes Go.WideShapes Go.ChangeAt Go.RowKit
open M2
set_option linter.unusedVariables false
set_option linter.unusedSimpArgs false
def sv (neg : Bool) (xs : List Nat) : Int := if neg then -(val xs : Int) else (val xs : Int)
def Gw (neg : Bool) (xs : List Nat) : Prop := Nrm xs ∧ (neg = true → xs ≠ [])
def ng (z : Int) : Bool := decide (z < 0)
def dg (z : Int) : List Nat := dig z.natAbs
theorem Gw.pos {neg : Bool} {xs : List Nat} (h : Gw neg xs) (hn : neg = true) : 0 < val xs := by
  rcases Nat.eq_zero_or_pos (val xs) with h0 | h0
  · exact absurd (val_zero_of h.1 h0) (h.2 hn)
  · exact h0
theorem gw_of (z : Int) : Gw (ng z) (dg z) := by
  refine ⟨dig_nrm _, fun h => dig_ne ?_⟩
  simp [ng] at h
  omega
theorem sv_of (z : Int) : sv (ng z) (dg z) = z := by
  unfold sv ng dg
  rw [val_dig]
  by_cases h : z < 0
  · simp [h]; omega
  · simp [h]; omega
set_option maxHeartbeats 4000000 in
theorem plus_same (n : Bool) (xs ys : List Nat) (v u : Value) (w : World) (hv : Row w v (toI xs)) (hu : Row w u (toI ys)) (ha : Lim xs) (hb : Lim ys) (la : xs.length ≤ 1048576) (lb : ys.length ≤ 1048576) :
    Calls Tryd.prog 47 #[.agg #[.bool n, v], .agg #[.bool n, u]] w fun e w' => ∃ v', e = .returned (.agg #[.bool n, v']) ∧ Old w w' ∧ Own w' w.heap.size v' (toI (dig (val xs + val ys))) := by
  have HV : Hid (Row w v (toI xs)) := hv
  have HU : Hid (Row w u (toI ys)) := hu
  obtain ⟨a0, cap0, rfl⟩ := hv.sliceN
  obtain ⟨a1, cap1, rfl⟩ := hu.sliceN
  clear hv hu
  have dn : (n == n) = true := by simp
  go_enter Tryd.func47, Tryd.ntmps47
  go_wp2_with fail
  have HA : Hid (∀ t1 t2 t3 xs1 xs2 xs3, Old w (((w.alloc (.cells xs1 t1)).alloc (.cells xs2 t2)).alloc (.cells xs3 t3))) := fun t1 t2 t3 xs1 xs2 xs3 => (((Old.refl w).alloc _).alloc _).alloc _
  go_region_with (go_at_call 62; refine (add_any xs ys _ _ _ (HV.out.old ((HA.out _ _ _ _ _ _).drewN 1)) (HU.out.old ((HA.out _ _ _ _ _ _).drewN 1)) ha hb la lb).mono ?_; rintro e w5 ⟨v5, rfl, g5, o5⟩; obtain ⟨a5, cap5, rfl⟩ := (Own.row o5).sliceN; have a0_ : w5.cell? ⟨w.heap.size, 0, none⟩ = some (Value.bool n) := (g5.cell (p := ⟨w.heap.size, 0, none⟩) (by simp; try omega)).trans (c3_0 _ _ _ _ _ _ _ _ ); have a1_ : w5.cell? ⟨w.heap.size, 1, none⟩ = some (Value.slice a0 xs.length cap0) := (g5.cell (p := ⟨w.heap.size, 1, none⟩) (by simp; try omega)).trans (c3_0 _ _ _ _ _ _ _ _ ); have b0_ : w5.cell? ⟨w.heap.size + 1, 0, none⟩ = some (Value.bool n) := (g5.cell (p := ⟨w.heap.size + 1, 0, none⟩) (by simp; try omega)).trans (c3_1 _ _ _ _ _ _ _ _ ); have b1_ : w5.cell? ⟨w.heap.size + 1, 1, none⟩ = some (Value.slice a1 ys.length cap1) := (g5.cell (p := ⟨w.heap.size + 1, 1, none⟩) (by simp; try omega)).trans (c3_1 _ _ _ _ _ _ _ _ ); have q0 : w5.cell? ⟨w.heap.size + 1 + 1, 0, none⟩ = some (Value.bool false) := (g5.cell (p := ⟨w.heap.size + 1 + 1, 0, none⟩) (by simp; try omega)).trans (c3_2 _ _ _ _ _ _ _ _ ); have q1 : w5.cell? ⟨w.heap.size + 1 + 1, 1, none⟩ = some (Value.slice none 0 0) := (g5.cell (p := ⟨w.heap.size + 1 + 1, 1, none⟩) (by simp; try omega)).trans (c3_2 _ _ _ _ _ _ _ _ ); have f0 : w5.frozen? ⟨w.heap.size + 1 + 1, 0, none⟩ = false := (g5.frozen (p := ⟨w.heap.size + 1 + 1, 0, none⟩) (by simp; try omega)).trans (f3_2 _ _ _ _ _ _ _ _ ); have f1 : w5.frozen? ⟨w.heap.size + 1 + 1, 1, none⟩ = false := (g5.frozen (p := ⟨w.heap.size + 1 + 1, 1, none⟩) (by simp; try omega)).trans (f3_2 _ _ _ _ _ _ _ _ ); have HG5 : Hid (Old w w5) := Old.trans ((HA.out _ _ _ _ _ _).drewN 1) g5; have HO5 : Hid (Own w5 (w.heap.size + 3) (.slice a5 (dig (val xs + val ys)).length cap5) (toI (dig (val xs + val ys)))) := Own.low o5 (by simp); clear g5 o5)
  all_goals
    go_wp2_with fail
    refine bodyPost_ret (v := .agg #[.bool n, .slice a5 (dig (val xs + val ys)).length cap5]) (by simp [results, Tryd.results47, go_sem, q0, q1]) rfl ⟨_, rfl, ?_, ?_⟩
    · exact (HG5.out.own (p := ⟨w.heap.size + 1 + 1, 0, none⟩) (by simp; omega) _).own (p := ⟨w.heap.size + 1 + 1, 1, none⟩) (by simp; omega) _
    · refine Own.low (base := w.heap.size + 3) (ownsRow_setCell_other (ownsRow_setCell_other HO5.out (fun e => ?_) _) (fun e => ?_) _) (by omega)
      · have := (HO5.out.lt (w.heap.size + 1 + 1) e).1; omega
      · have := (HO5.out.lt (w.heap.size + 1 + 1) e).1; omega
end Go.Proofs.YtfcdfielbpdloaaDoor
/- Proved: contracts of the model's sum of whole numbers of two signs. -/
namespace Go.Proofs.YtfcdfielbpdloaaDoor
open Go.ChangeShapes Go.WideShapes Go.ChangeAt Go.RowKit
open M2
set_option linter.unusedVariables false
set_option linter.unusedSimpArgs false
set_option maxHeartbeats 4000000 in
theorem plus_more (n m : Bool) (xs ys : List Nat) (v u : Value) (w : World) (hv : Row w v (toI xs)) (hu : Row w u (toI ys)) (ha : Nrm xs) (hb : Nrm ys) (la : xs.length ≤ 1048576) (lb : ys.length ≤ 1048576) (hnm : (n == m) = false) (hc : val ys < val xs) :
    Calls Tryd.prog 47 #[.agg #[.bool n, v], .agg #[.bool m, u]] w fun e w' => ∃ v', e = .returned (.agg #[.bool n, v']) ∧ Old w w' ∧ Own w' w.heap.size v' (toI (dig (val xs - val ys))) := by
  have HV : Hid (Row w v (toI xs)) := hv
  have HU : Hid (Row w u (toI ys)) := hu
  obtain ⟨a0, cap0, rfl⟩ := hv.sliceN
  obtain ⟨a1, cap1, rfl⟩ := hu.sliceN
  have HCV : Hid (cmpN (val xs) (val ys) = 1) := by unfold cmpN; rw [if_neg (by omega), if_pos hc]; rfl
  have HLE : Hid (val ys ≤ val xs) := Nat.le_of_lt hc
  clear hv hu hc
  go_enter Tryd.func47, Tryd.ntmps47
  go_wp2_with fail
  have HA : Hid (∀ t1 t2 t3 xs1 xs2 xs3, Old w (((w.alloc (.cells xs1 t1)).alloc (.cells xs2 t2)).alloc (.cells xs3 t3))) := fun t1 t2 t3 xs1 xs2 xs3 => (((Old.refl w).alloc _).alloc _).alloc _
  refine (cmp_any xs ys _ _ _ (HV.out.old (HA.out _ _ _ _ _ _)) (HU.out.old (HA.out _ _ _ _ _ _)) ha hb (by omega) (by omega)).mono ?_
  rintro e w2 ⟨rfl, g2⟩
  have HG2 : Hid (Old w w2) := Old.trans (HA.out _ _ _ _ _ _) g2
  have a0_ : w2.cell? ⟨w.heap.size, 0, none⟩ = some (Value.bool n) := (g2.cell (p := ⟨w.heap.size, 0, none⟩) (by simp; try omega)).trans (c3_0 _ _ _ _ _ _ _ _ )
  have a1_ : w2.cell? ⟨w.heap.size, 1, none⟩ = some (Value.slice a0 xs.length cap0) := (g2.cell (p := ⟨w.heap.size, 1, none⟩) (by simp; try omega)).trans (c3_0 _ _ _ _ _ _ _ _ )
  have b0_ : w2.cell? ⟨w.heap.size + 1, 0, none⟩ = some (Value.bool m) := (g2.cell (p := ⟨w.heap.size + 1, 0, none⟩) (by simp; try omega)).trans (c3_1 _ _ _ _ _ _ _ _ )
  have b1_ : w2.cell? ⟨w.heap.size + 1, 1, none⟩ = some (Value.slice a1 ys.length cap1) := (g2.cell (p := ⟨w.heap.size + 1, 1, none⟩) (by simp; try omega)).trans (c3_1 _ _ _ _ _ _ _ _ )
  have q0_ : w2.cell? ⟨w.heap.size + 1 + 1, 0, none⟩ = some (Value.bool false) := (g2.cell (p := ⟨w.heap.size + 1 + 1, 0, none⟩) (by simp; try omega)).trans (c3_2 _ _ _ _ _ _ _ _ )
  have q1_ : w2.cell? ⟨w.heap.size + 1 + 1, 1, none⟩ = some (Value.slice none 0 0) := (g2.cell (p := ⟨w.heap.size + 1 + 1, 1, none⟩) (by simp; try omega)).trans (c3_2 _ _ _ _ _ _ _ _ )
  have f0_ : w2.frozen? ⟨w.heap.size + 1 + 1, 0, none⟩ = false := (g2.frozen (p := ⟨w.heap.size + 1 + 1, 0, none⟩) (by simp; try omega)).trans (f3_2 _ _ _ _ _ _ _ _ )
  have f1_ : w2.frozen? ⟨w.heap.size + 1 + 1, 1, none⟩ = false := (g2.frozen (p := ⟨w.heap.size + 1 + 1, 1, none⟩) (by simp; try omega)).trans (f3_2 _ _ _ _ _ _ _ _ )
  have hsz : w.heap.size + 3 ≤ w2.heap.size := by have := g2.size; simp at this; omega
  rw [HCV.out]
  clear g2 HA
  go_wp2_with fail
  go_region_with (go_at_call 60; refine (sub_any xs ys _ _ _ (HV.out.old (HG2.out.drewN 1)) (HU.out.old (HG2.out.drewN 1)) ha hb la lb HLE.out).mono ?_; rintro e w5 ⟨v5, rfl, g5, o5⟩; obtain ⟨a5, cap5, rfl⟩ := (Own.row o5).sliceN; have a0z := (g5.cell (p := ⟨w.heap.size, 0, none⟩) (by show w.heap.size < w2.heap.size; omega)).trans a0_; have a1z := (g5.cell (p := ⟨w.heap.size, 1, none⟩) (by show w.heap.size < w2.heap.size; omega)).trans a1_; have b0z := (g5.cell (p := ⟨w.heap.size + 1, 0, none⟩) (by show w.heap.size + 1 < w2.heap.size; omega)).trans b0_; have b1z := (g5.cell (p := ⟨w.heap.size + 1, 1, none⟩) (by show w.heap.size + 1 < w2.heap.size; omega)).trans b1_; have q0z := (g5.cell (p := ⟨w.heap.size + 1 + 1, 0, none⟩) (by show w.heap.size + 1 + 1 < w2.heap.size; omega)).trans q0_; have q1z := (g5.cell (p := ⟨w.heap.size + 1 + 1, 1, none⟩) (by show w.heap.size + 1 + 1 < w2.heap.size; omega)).trans q1_; have f0z := (g5.frozen (p := ⟨w.heap.size + 1 + 1, 0, none⟩) (by show w.heap.size + 1 + 1 < w2.heap.size; omega)).trans f0_; have f1z := (g5.frozen (p := ⟨w.heap.size + 1 + 1, 1, none⟩) (by show w.heap.size + 1 + 1 < w2.heap.size; omega)).trans f1_; have HG5 : Hid (Old w w5) := Old.trans (HG2.out.drewN 1) g5; have HO5 : Hid (Own w5 (w.heap.size + 3) (.slice a5 (dig (val xs - val ys)).length cap5) (toI (dig (val xs - val ys)))) := Own.low o5 (by show w.heap.size + 3 ≤ w2.heap.size; omega); clear g5 o5)
  all_goals
    go_wp2_with fail
    refine bodyPost_ret (v := .agg #[.bool n, .slice a5 (dig (val xs - val ys)).length cap5]) (by simp [results, Tryd.results47, go_sem, q0z, q1z]) rfl ⟨_, rfl, ?_, ?_⟩
    · exact (HG5.out.own (p := ⟨w.heap.size + 1 + 1, 0, none⟩) (by simp; omega) _).own (p := ⟨w.heap.size + 1 + 1, 1, none⟩) (by simp; omega) _
    · refine Own.low (base := w.heap.size + 3) (ownsRow_setCell_other (ownsRow_setCell_other HO5.out (fun e => ?_) _) (fun e => ?_) _) (by omega)
      · have := (HO5.out.lt (w.heap.size + 1 + 1) e).1; omega
      · have := (HO5.out.lt (w.heap.size + 1 + 1) e).1; omega
set_option maxHeartbeats 4000000 in
theorem plus_less (n m : Bool) (xs ys : List Nat) (v u : Value) (w : World) (hv : Row w v (toI xs)) (hu : Row w u (toI ys)) (ha : Nrm xs) (hb : Nrm ys) (la : xs.length ≤ 1048576) (lb : ys.length ≤ 1048576) (hnm : (n == m) = false) (hc : val xs < val ys) :
    Calls Tryd.prog 47 #[.agg #[.bool n, v], .agg #[.bool m, u]] w fun e w' => ∃ v', e = .returned (.agg #[.bool m, v']) ∧ Old w w' ∧ Own w' w.heap.size v' (toI (dig (val ys - val xs))) := by
  have HV : Hid (Row w v (toI xs)) := hv
  have HU : Hid (Row w u (toI ys)) := hu
  obtain ⟨a0, cap0, rfl⟩ := hv.sliceN
  obtain ⟨a1, cap1, rfl⟩ := hu.sliceN
  have HCV : Hid (cmpN (val xs) (val ys) = -1) := by unfold cmpN; rw [if_pos hc]; rfl
  have HLE : Hid (val xs ≤ val ys) := Nat.le_of_lt hc
  clear hv hu hc
  go_enter Tryd.func47, Tryd.ntmps47
  go_wp2_with fail
  have HA : Hid (∀ t1 t2 t3 xs1 xs2 xs3, Old w (((w.alloc (.cells xs1 t1)).alloc (.cells xs2 t2)).alloc (.cells xs3 t3))) := fun t1 t2 t3 xs1 xs2 xs3 => (((Old.refl w).alloc _).alloc _).alloc _
  refine (cmp_any xs ys _ _ _ (HV.out.old (HA.out _ _ _ _ _ _)) (HU.out.old (HA.out _ _ _ _ _ _)) ha hb (by omega) (by omega)).mono ?_
  rintro e w2 ⟨rfl, g2⟩
  have HG2 : Hid (Old w w2) := Old.trans (HA.out _ _ _ _ _ _) g2
  have a0_ : w2.cell? ⟨w.heap.size, 0, none⟩ = some (Value.bool n) := (g2.cell (p := ⟨w.heap.size, 0, none⟩) (by simp; try omega)).trans (c3_0 _ _ _ _ _ _ _ _ )
  have a1_ : w2.cell? ⟨w.heap.size, 1, none⟩ = some (Value.slice a0 xs.length cap0) := (g2.cell (p := ⟨w.heap.size, 1, none⟩) (by simp; try omega)).trans (c3_0 _ _ _ _ _ _ _ _ )
  have b0_ : w2.cell? ⟨w.heap.size + 1, 0, none⟩ = some (Value.bool m) := (g2.cell (p := ⟨w.heap.size + 1, 0, none⟩) (by simp; try omega)).trans (c3_1 _ _ _ _ _ _ _ _ )
  have b1_ : w2.cell? ⟨w.heap.size + 1, 1, none⟩ = some (Value.slice a1 ys.length cap1) := (g2.cell (p := ⟨w.heap.size + 1, 1, none⟩) (by simp; try omega)).trans (c3_1 _ _ _ _ _ _ _ _ )
  have q0_ : w2.cell? ⟨w.heap.size + 1 + 1, 0, none⟩ = some (Value.bool false) := (g2.cell (p := ⟨w.heap.size + 1 + 1, 0, none⟩) (by simp; try omega)).trans (c3_2 _ _ _ _ _ _ _ _ )
  have q1_ : w2.cell? ⟨w.heap.size + 1 + 1, 1, none⟩ = some (Value.slice none 0 0) := (g2.cell (p := ⟨w.heap.size + 1 + 1, 1, none⟩) (by simp; try omega)).trans (c3_2 _ _ _ _ _ _ _ _ )
  have f0_ : w2.frozen? ⟨w.heap.size + 1 + 1, 0, none⟩ = false := (g2.frozen (p := ⟨w.heap.size + 1 + 1, 0, none⟩) (by simp; try omega)).trans (f3_2 _ _ _ _ _ _ _ _ )
  have f1_ : w2.frozen? ⟨w.heap.size + 1 + 1, 1, none⟩ = false := (g2.frozen (p := ⟨w.heap.size + 1 + 1, 1, none⟩) (by simp; try omega)).trans (f3_2 _ _ _ _ _ _ _ _ )
  have hsz : w.heap.size + 3 ≤ w2.heap.size := by have := g2.size; simp at this; omega
  rw [HCV.out]
  clear g2 HA
  go_wp2_with fail
  go_region_with (go_at_call 60; refine (sub_any ys xs _ _ _ (HU.out.old (HG2.out.drewN 1)) (HV.out.old (HG2.out.drewN 1)) hb ha lb la HLE.out).mono ?_; rintro e w5 ⟨v5, rfl, g5, o5⟩; obtain ⟨a5, cap5, rfl⟩ := (Own.row o5).sliceN; have a0z := (g5.cell (p := ⟨w.heap.size, 0, none⟩) (by show w.heap.size < w2.heap.size; omega)).trans a0_; have a1z := (g5.cell (p := ⟨w.heap.size, 1, none⟩) (by show w.heap.size < w2.heap.size; omega)).trans a1_; have b0z := (g5.cell (p := ⟨w.heap.size + 1, 0, none⟩) (by show w.heap.size + 1 < w2.heap.size; omega)).trans b0_; have b1z := (g5.cell (p := ⟨w.heap.size + 1, 1, none⟩) (by show w.heap.size + 1 < w2.heap.size; omega)).trans b1_; have q0z := (g5.cell (p := ⟨w.heap.size + 1 + 1, 0, none⟩) (by show w.heap.size + 1 + 1 < w2.heap.size; omega)).trans q0_; have q1z := (g5.cell (p := ⟨w.heap.size + 1 + 1, 1, none⟩) (by show w.heap.size + 1 + 1 < w2.heap.size; omega)).trans q1_; have f0z := (g5.frozen (p := ⟨w.heap.size + 1 + 1, 0, none⟩) (by show w.heap.size + 1 + 1 < w2.heap.size; omega)).trans f0_; have f1z := (g5.frozen (p := ⟨w.heap.size + 1 + 1, 1, none⟩) (by show w.heap.size + 1 + 1 < w2.heap.size; omega)).trans f1_; have HG5 : Hid (Old w w5) := Old.trans (HG2.out.drewN 1) g5; have HO5 : Hid (Own w5 (w.heap.size + 3) (.slice a5 (dig (val ys - val xs)).length cap5) (toI (dig (val ys - val xs)))) := Own.low o5 (by show w.heap.size + 3 ≤ w2.heap.size; omega); clear g5 o5)
  all_goals
    go_wp2_with fail
    refine bodyPost_ret (v := .agg #[.bool m, .slice a5 (dig (val ys - val xs)).length cap5]) (by simp [results, Tryd.results47, go_sem, q0z, q1z]) rfl ⟨_, rfl, ?_, ?_⟩
    · exact (HG5.out.own (p := ⟨w.heap.size + 1 + 1, 0, none⟩) (by simp; omega) _).own (p := ⟨w.heap.size + 1 + 1, 1, none⟩) (by simp; omega) _
    · refine Own.low (base := w.heap.size + 3) (ownsRow_setCell_other (ownsRow_setCell_other HO5.out (fun e => ?_) _) (fun e => ?_) _) (by omega)
      · have := (HO5.out.lt (w.heap.size + 1 + 1) e).1; omega
      · have := (HO5.out.lt (w.heap.size + 1 + 1) e).1; omega
set_option maxHeartbeats 4000000 in
theorem plus_zero (n m : Bool) (xs ys : List Nat) (v u : Value) (w : World) (hv : Row w v (toI xs)) (hu : Row w u (toI ys)) (ha : Nrm xs) (hb : Nrm ys) (la : xs.length ≤ 1048576) (lb : ys.length ≤ 1048576) (hnm : (n == m) = false) (hc : val xs = val ys) :
    Calls Tryd.prog 47 #[.agg #[.bool n, v], .agg #[.bool m, u]] w fun e w' => ∃ v', e = .returned (.agg #[.bool false, v']) ∧ Old w w' ∧ Own w' w.heap.size v' (toI (dig 0)) := by
  have HV : Hid (Row w v (toI xs)) := hv
  have HU : Hid (Row w u (toI ys)) := hu
  obtain ⟨a0, cap0, rfl⟩ := hv.sliceN
  obtain ⟨a1, cap1, rfl⟩ := hu.sliceN
  have HCV : Hid (cmpN (val xs) (val ys) = 0) := by unfold cmpN; rw [hc, if_neg (by omega), if_neg (by omega)]; rfl
  clear hv hu hc
  go_enter Tryd.func47, Tryd.ntmps47
  go_wp2_with fail
  have HA : Hid (∀ t1 t2 t3 xs1 xs2 xs3, Old w (((w.alloc (.cells xs1 t1)).alloc (.cells xs2 t2)).alloc (.cells xs3 t3))) := fun t1 t2 t3 xs1 xs2 xs3 => (((Old.refl w).alloc _).alloc _).alloc _
  refine (cmp_any xs ys _ _ _ (HV.out.old (HA.out _ _ _ _ _ _)) (HU.out.old (HA.out _ _ _ _ _ _)) ha hb (by omega) (by omega)).mono ?_
  rintro e w2 ⟨rfl, g2⟩
  have HG2 : Hid (Old w w2) := Old.trans (HA.out _ _ _ _ _ _) g2
  have a0_ : w2.cell? ⟨w.heap.size, 0, none⟩ = some (Value.bool n) := (g2.cell (p := ⟨w.heap.size, 0, none⟩) (by simp; try omega)).trans (c3_0 _ _ _ _ _ _ _ _ )
  have a1_ : w2.cell? ⟨w.heap.size, 1, none⟩ = some (Value.slice a0 xs.length cap0) := (g2.cell (p := ⟨w.heap.size, 1, none⟩) (by simp; try omega)).trans (c3_0 _ _ _ _ _ _ _ _ )
  have b0_ : w2.cell? ⟨w.heap.size + 1, 0, none⟩ = some (Value.bool m) := (g2.cell (p := ⟨w.heap.size + 1, 0, none⟩) (by simp; try omega)).trans (c3_1 _ _ _ _ _ _ _ _ )
  have b1_ : w2.cell? ⟨w.heap.size + 1, 1, none⟩ = some (Value.slice a1 ys.length cap1) := (g2.cell (p := ⟨w.heap.size + 1, 1, none⟩) (by simp; try omega)).trans (c3_1 _ _ _ _ _ _ _ _ )
  have q0_ : w2.cell? ⟨w.heap.size + 1 + 1, 0, none⟩ = some (Value.bool false) := (g2.cell (p := ⟨w.heap.size + 1 + 1, 0, none⟩) (by simp; try omega)).trans (c3_2 _ _ _ _ _ _ _ _ )
  have q1_ : w2.cell? ⟨w.heap.size + 1 + 1, 1, none⟩ = some (Value.slice none 0 0) := (g2.cell (p := ⟨w.heap.size + 1 + 1, 1, none⟩) (by simp; try omega)).trans (c3_2 _ _ _ _ _ _ _ _ )
  have f0_ : w2.frozen? ⟨w.heap.size + 1 + 1, 0, none⟩ = false := (g2.frozen (p := ⟨w.heap.size + 1 + 1, 0, none⟩) (by simp; try omega)).trans (f3_2 _ _ _ _ _ _ _ _ )
  have f1_ : w2.frozen? ⟨w.heap.size + 1 + 1, 1, none⟩ = false := (g2.frozen (p := ⟨w.heap.size + 1 + 1, 1, none⟩) (by simp; try omega)).trans (f3_2 _ _ _ _ _ _ _ _ )
  have hsz : w.heap.size + 3 ≤ w2.heap.size := by have := g2.size; simp at this; omega
  rw [HCV.out]
  clear g2 HA
  go_wp2_with fail
  refine bodyPost_ret (v := .agg #[.bool false, .slice none 0 0]) (by simp [results, Tryd.results47, go_sem, q0_, q1_]) rfl ⟨_, rfl, ?_, ?_⟩
  · exact (HG2.out.own (p := ⟨w.heap.size + 1 + 1, 0, none⟩) (by simp; omega) _).own (p := ⟨w.heap.size + 1 + 1, 1, none⟩) (by simp; omega) _
  · rw [dig_zero]; exact World.ownsRow_nil _ _ _ _
end Go.Proofs.YtfcdfielbpdloaaDoor
/- Proved: contracts of the model's sums, products and quotients of whole numbers, by what the numbers are worth. -/
namespace Go.Proofs.YtfcdfielbpdloaaDoor
open Go.ChangeShapes Go.WideShapes Go.ChangeAt Go.RowKit
open M2
set_option linter.unusedVariables false
set_option linter.unusedSimpArgs false
theorem ng_plus (n : Bool) (xs ys : List Nat) (ha : Gw n xs) (hb : Gw n ys) : n = ng (sv n xs + sv n ys) ∧ dig (val xs + val ys) = dg (sv n xs + sv n ys) := by
  cases n
  · unfold sv ng dg
    refine ⟨by simp; omega, ?_⟩
    congr 1
  · have := ha.pos rfl
    unfold sv ng dg
    refine ⟨by simp; omega, ?_⟩
    congr 1
    simp
    omega
theorem ng_more (n m : Bool) (xs ys : List Nat) (h : (n == m) = false) (hc : val ys < val xs) : n = ng (sv n xs + sv m ys) ∧ dig (val xs - val ys) = dg (sv n xs + sv m ys) := by
  cases n <;> cases m <;> simp at h
  · unfold sv ng dg
    refine ⟨by simp; omega, ?_⟩
    congr 1
    simp
    omega
  · unfold sv ng dg
    refine ⟨by simp; omega, ?_⟩
    congr 1
    simp
    omega
theorem ng_less (n m : Bool) (xs ys : List Nat) (h : (n == m) = false) (hc : val xs < val ys) : m = ng (sv n xs + sv m ys) ∧ dig (val ys - val xs) = dg (sv n xs + sv m ys) := by
  have := ng_more m n ys xs (by cases n <;> cases m <;> simp_all) hc
  rw [Int.add_comm] at this
  exact this
theorem ng_zero (n m : Bool) (xs ys : List Nat) (h : (n == m) = false) (hc : val xs = val ys) : false = ng (sv n xs + sv m ys) ∧ dig 0 = dg (sv n xs + sv m ys) := by
  have e : sv n xs + sv m ys = 0 := by
    cases n <;> cases m <;> simp at h <;> unfold sv <;> simp <;> omega
  rw [e]
  exact ⟨rfl, rfl⟩
theorem plus_any (n m : Bool) (xs ys : List Nat) (v u : Value) (w : World) (hv : Row w v (toI xs)) (hu : Row w u (toI ys)) (ha : Gw n xs) (hb : Gw m ys) (la : xs.length ≤ 1048576) (lb : ys.length ≤ 1048576) :
    Calls Tryd.prog 47 #[.agg #[.bool n, v], .agg #[.bool m, u]] w fun e w' => ∃ v', e = .returned (.agg #[.bool (ng (sv n xs + sv m ys)), v']) ∧ Old w w' ∧ Own w' w.heap.size v' (toI (dg (sv n xs + sv m ys))) := by
  cases hnm : n == m with
  | true =>
    have e : n = m := by simpa using hnm
    subst e
    obtain ⟨e1, e2⟩ := ng_plus n xs ys ha hb
    rw [← e1, ← e2]
    exact plus_same n xs ys v u w hv hu ha.1.1 hb.1.1 la lb
  | false =>
    rcases Nat.lt_trichotomy (val xs) (val ys) with hc | hc | hc
    · obtain ⟨e1, e2⟩ := ng_less n m xs ys hnm hc
      rw [← e1, ← e2]
      exact plus_less n m xs ys v u w hv hu ha.1 hb.1 la lb hnm hc
    · obtain ⟨e1, e2⟩ := ng_zero n m xs ys hnm hc
      rw [← e1, ← e2]
      exact plus_zero n m xs ys v u w hv hu ha.1 hb.1 la lb hnm hc
    · obtain ⟨e1, e2⟩ := ng_more n m xs ys hnm hc
      rw [← e1, ← e2]
      exact plus_more n m xs ys v u w hv hu ha.1 hb.1 la lb hnm hc
theorem div_any (xs ys : List Nat) (v u : Value) (w : World) (hv : Row w v (toI xs)) (hu : Row w u (toI ys)) (ha : Lim xs) (hb : Nrm ys) (hl : ys ≠ []) (la : xs.length ≤ 1048576) (lb : ys.length ≤ 1048000) :
    Calls Tryd.prog 65 #[v, u] w fun e w' => ∃ v1 v2, e = .returned (.tuple #[v1, v2]) ∧ Old w w' ∧ Own w' w.heap.size v1 (toI (dig (val xs / val ys))) ∧ Own w' w.heap.size v2 (toI (dig (val xs % val ys))) := by
  by_cases h1 : ys.length = 1
  · obtain ⟨d, rfl⟩ := List.length_eq_one_iff.1 h1
    have hd : d ≠ 0 := by have := hb.2 (by simp); simpa using this
    have hd2 := hb.1.head
    have e : val [d] = d := by simp [val]
    rw [e]
    exact div1_any xs d v u w hv hu ha (by omega) hd2 la
  · have h0 : ys.length ≠ 0 := fun h => hl (List.length_eq_zero_iff.1 h)
    exact div2_any xs ys v u w hv hu ha hb (by omega) la lb
theorem ng_times (n m : Bool) (xs ys : List Nat) : (decide (0 < (dig (val xs * val ys)).length) && (n != m)) = ng (sv n xs * sv m ys) ∧ dig (val xs * val ys) = dg (sv n xs * sv m ys) := by
  have e : (sv n xs * sv m ys).natAbs = val xs * val ys := by
    rw [Int.natAbs_mul]
    congr 1
    · cases n <;> simp [sv]
    · cases m <;> simp [sv]
  have e2 : dig (val xs * val ys) = dg (sv n xs * sv m ys) := by unfold dg; rw [e]
  refine ⟨?_, e2⟩
  have hl : 0 < (dig (val xs * val ys)).length ↔ 0 < val xs * val ys := by
    constructor
    · intro h
      rcases Nat.eq_zero_or_pos (val xs * val ys) with h0 | h0
      · rw [h0, dig_zero] at h; simp at h
      · exact h0
    · intro h
      have := dig_ne (n := val xs * val ys) (by omega)
      rcases Nat.eq_zero_or_pos (dig (val xs * val ys)).length with h0 | h0
      · exact absurd (List.length_eq_zero_iff.1 h0) this
      · exact h0
  have hp : (0 : Int) ≤ (val xs : Int) * (val ys : Int) := Int.mul_nonneg (by omega) (by omega)
  have hp2 : ((val xs * val ys : Nat) : Int) = (val xs : Int) * (val ys : Int) := by simp
  have hd : decide (0 < (dig (val xs * val ys)).length) = decide (0 < val xs * val ys) := by rw [decide_eq_decide]; exact hl
  rw [hd]
  cases n <;> cases m <;> simp only [sv, ng, Bool.false_eq_true, if_false, if_true, Int.neg_mul, Int.mul_neg, Int.neg_neg, bne_self_eq_false, Bool.and_false, Bool.false_bne, Bool.true_bne, Bool.not_false, Bool.and_true] <;> rw [← hp2]
  · simp; exact hp
  · rw [decide_eq_decide]; omega
  · rw [decide_eq_decide]; omega
  · simp; exact hp
set_option maxHeartbeats 4000000 in
theorem times_any (n m : Bool) (xs ys : List Nat) (v u : Value) (w : World) (hv : Row w v (toI xs)) (hu : Row w u (toI ys)) (ha : Lim xs) (hb : Lim ys) (la : xs.length ≤ 1000) (lb : ys.length ≤ 1000) :
    Calls Tryd.prog 49 #[.agg #[.bool n, v], .agg #[.bool m, u]] w fun e w' => ∃ v', e = .returned (.agg #[.bool (ng (sv n xs * sv m ys)), v']) ∧ Old w w' ∧ Own w' w.heap.size v' (toI (dg (sv n xs * sv m ys))) := by
  obtain ⟨e1, e2⟩ := ng_times n m xs ys
  rw [← e1, ← e2]
  have HV : Hid (Row w v (toI xs)) := hv
  have HU : Hid (Row w u (toI ys)) := hu
  obtain ⟨a0, cap0, rfl⟩ := hv.sliceN
  obtain ⟨a1, cap1, rfl⟩ := hu.sliceN
  clear hv hu e1 e2
  have hlen : (dig (val xs * val ys)).length ≤ 2000 := by
    refine Nat.le_trans (dig_len_le (k := xs.length + ys.length) ?_) (by omega)
    rw [Nat.pow_add]
    exact Nat.mul_lt_mul'' (val_lt ha) (val_lt hb)
  obtain ⟨zs, hz⟩ : ∃ zs, dig (val xs * val ys) = zs := ⟨_, rfl⟩
  rw [hz] at hlen ⊢
  have HZ : Hid (dig (val xs * val ys) = zs) := hz
  clear hz
  go_enter Tryd.func49, Tryd.ntmps49
  go_wp2_with fail
  have HA : Hid (∀ t1 t2 t3 xs1 xs2 xs3, Old w (((w.alloc (.cells xs1 t1)).alloc (.cells xs2 t2)).alloc (.cells xs3 t3))) := fun t1 t2 t3 xs1 xs2 xs3 => (((Old.refl w).alloc _).alloc _).alloc _
  refine (mul_any xs ys _ _ _ (HV.out.old (HA.out _ _ _ _ _ _)) (HU.out.old (HA.out _ _ _ _ _ _)) ha hb (by omega) (by omega)).mono ?_
  rintro e w5 ⟨v5, rfl, g5, o5⟩
  rw [HZ.out] at o5
  obtain ⟨a5, cap5, rfl⟩ := (Own.row o5).sliceN
  have a0_ : w5.cell? ⟨w.heap.size, 0, none⟩ = some (Value.bool n) := (g5.cell (p := ⟨w.heap.size, 0, none⟩) (by simp; try omega)).trans (c3_0 _ _ _ _ _ _ _ _ )
  have b0_ : w5.cell? ⟨w.heap.size + 1, 0, none⟩ = some (Value.bool m) := (g5.cell (p := ⟨w.heap.size + 1, 0, none⟩) (by simp; try omega)).trans (c3_1 _ _ _ _ _ _ _ _ )
  have q0 : w5.cell? ⟨w.heap.size + 1 + 1, 0, none⟩ = some (Value.bool false) := (g5.cell (p := ⟨w.heap.size + 1 + 1, 0, none⟩) (by simp; try omega)).trans (c3_2 _ _ _ _ _ _ _ _ )
  have q1 : w5.cell? ⟨w.heap.size + 1 + 1, 1, none⟩ = some (Value.slice none 0 0) := (g5.cell (p := ⟨w.heap.size + 1 + 1, 1, none⟩) (by simp; try omega)).trans (c3_2 _ _ _ _ _ _ _ _ )
  have f0 : w5.frozen? ⟨w.heap.size + 1 + 1, 0, none⟩ = false := (g5.frozen (p := ⟨w.heap.size + 1 + 1, 0, none⟩) (by simp; try omega)).trans (f3_2 _ _ _ _ _ _ _ _ )
  have f1 : w5.frozen? ⟨w.heap.size + 1 + 1, 1, none⟩ = false := (g5.frozen (p := ⟨w.heap.size + 1 + 1, 1, none⟩) (by simp; try omega)).trans (f3_2 _ _ _ _ _ _ _ _ )
  have HG5 : Hid (Old w w5) := Old.trans (HA.out _ _ _ _ _ _) g5
  have HO5 : Hid (Own w5 (w.heap.size + 3) (.slice a5 zs.length cap5) (toI zs)) := Own.low o5 (by simp)
  clear g5 o5 HA
  by_cases h0 : 0 < zs.length
  · have d0 : decide (0 < zs.length) = true := decide_eq_true h0
    go_wp2_with fail
    refine bodyPost_ret (v := .agg #[.bool (decide (0 < zs.length) && (n != m)), .slice a5 zs.length cap5]) (by simp [results, Tryd.results49, go_sem, q0, q1, d0]; cases n <;> cases m <;> rfl) rfl ⟨_, rfl, ?_, ?_⟩
    · exact (HG5.out.own (p := ⟨w.heap.size + 1 + 1, 0, none⟩) (by simp; omega) _).own (p := ⟨w.heap.size + 1 + 1, 1, none⟩) (by simp; omega) _
    · refine Own.low (base := w.heap.size + 3) (ownsRow_setCell_other (ownsRow_setCell_other HO5.out (fun e => ?_) _) (fun e => ?_) _) (by omega)
      · have := (HO5.out.lt (w.heap.size + 1 + 1) e).1; omega
      · have := (HO5.out.lt (w.heap.size + 1 + 1) e).1; omega
  · have d0 : decide (0 < zs.length) = false := decide_eq_false h0
    go_wp2_with fail
    refine bodyPost_ret (v := .agg #[.bool (decide (0 < zs.length) && (n != m)), .slice a5 zs.length cap5]) (by simp [results, Tryd.results49, go_sem, q0, q1, d0]) rfl ⟨_, rfl, ?_, ?_⟩
    · exact (HG5.out.own (p := ⟨w.heap.size + 1 + 1, 0, none⟩) (by simp; omega) _).own (p := ⟨w.heap.size + 1 + 1, 1, none⟩) (by simp; omega) _
    · refine Own.low (base := w.heap.size + 3) (ownsRow_setCell_other (ownsRow_setCell_other HO5.out (fun e => ?_) _) (fun e => ?_) _) (by omega)
      · have := (HO5.out.lt (w.heap.size + 1 + 1) e).1; omega
      · have := (HO5.out.lt (w.heap.size + 1 + 1) e).1; omega
end Go.Proofs.YtfcdfielbpdloaaDoor
/- Proved: contracts of the model's quotients down, of the nearest quotient, of words and of what is left, by what the numbers are worth. -/
namespace Go.Proofs.YtfcdfielbpdloaaDoor
open Go.ChangeShapes Go.WideShapes Go.ChangeAt Go.RowKit
open M2
set_option linter.unusedVariables false
set_option linter.unusedSimpArgs false
theorem one_row (w : World) (t : TypeId) : Row (w.alloc (.cells #[.int .i64 1] t)) (.slice (some ⟨w.heap.size, 0, none⟩) 1 1) (toI [1]) :=
  Or.inr ⟨w.heap.size, 0, 1, rfl, by simp, by simp [toI], fun j hj => by
    have : j = 0 := by simp [toI] at hj; omega
    subst this
    rw [cell_at _ _ _ _ _ (by simp)]
    rfl⟩
theorem div_unique (a : Int) (b : Nat) (q : Int) (r : Nat) (hr : r < b) (h : (r : Int) + (b : Int) * q = a) : a / (b : Int) = q ∧ a % (b : Int) = (r : Int) :=
  (Int.ediv_emod_unique (by omega)).2 ⟨h, by omega, by omega⟩
theorem down_exact_eq (xs : List Nat) (D : Nat) (hD : 0 < D) (h0 : val xs % D = 0) : decide (0 < (dig (val xs / D)).length) = ng (sv true xs / (D : Int)) ∧ dig (val xs / D) = dg (sv true xs / (D : Int)) ∧ 0 = (sv true xs % (D : Int)).toNat := by
  obtain ⟨e1, e2⟩ := div_unique (sv true xs) D (-((val xs / D : Nat) : Int)) 0 hD (by
    have := Nat.mod_add_div (val xs) D
    rw [h0] at this
    unfold sv
    simp only [if_true]
    rw [Int.mul_neg, ← Int.natCast_mul]
    omega)
  rw [e1, e2]
  refine ⟨?_, by simp only [dg, Int.natAbs_neg, Int.natAbs_natCast], by simp⟩
  unfold ng
  rw [decide_eq_decide]
  constructor
  · intro h
    rcases Nat.eq_zero_or_pos (val xs / D) with h1 | h1
    · rw [h1, dig_zero] at h; simp at h
    · omega
  · intro h
    have := dig_ne (n := val xs / D) (by omega)
    rcases Nat.eq_zero_or_pos (dig (val xs / D)).length with h2 | h2
    · exact absurd (List.length_eq_zero_iff.1 h2) this
    · exact h2
theorem down_up_eq (xs : List Nat) (D : Nat) (hD : 0 < D) (h0 : 0 < val xs % D) : true = ng (sv true xs / (D : Int)) ∧ dig (val xs / D + 1) = dg (sv true xs / (D : Int)) ∧ D - val xs % D = (sv true xs % (D : Int)).toNat := by
  have hm := Nat.mod_lt (val xs) hD
  obtain ⟨e1, e2⟩ := div_unique (sv true xs) D (-((val xs / D + 1 : Nat) : Int)) (D - val xs % D) (by omega) (by
    have := Nat.mod_add_div (val xs) D
    have e : D * (val xs / D + 1) = D * (val xs / D) + D := by rw [Nat.mul_add, Nat.mul_one]
    unfold sv
    simp only [if_true]
    rw [Int.mul_neg, ← Int.natCast_mul, e]
    omega)
  rw [e1, e2]
  refine ⟨?_, by simp only [dg, Int.natAbs_neg, Int.natAbs_natCast], (Int.toNat_natCast _).symm⟩
  generalize val xs / D = k
  simp only [ng]; symm; apply decide_eq_true; omega
end Go.Proofs.YtfcdfielbpdloaaDoor
/- Proved: contracts of the model's nearest quotient, of words as whole numbers, of what is left by a word and of comparing, by what the numbers are worth. -/
namespace Go.Proofs.YtfcdfielbpdloaaDoor
open Go.ChangeShapes Go.WideShapes Go.ChangeAt Go.RowKit
open M2
set_option linter.unusedVariables false
set_option linter.unusedSimpArgs false
set_option maxHeartbeats 4000000 in
theorem modulo_any (n : Bool) (xs : List Nat) (m : Nat) (v : Value) (w : World) (hv : Row w v (toI xs)) (ha : Lim xs) (la : xs.length ≤ 2000) (hm : 1 ≤ m) (hm' : m ≤ 268435456) :
    Calls Tryd.prog 26 #[.agg #[.bool n, v], .int .i64 m] w fun e w' => e = .returned (.int .i64 (sv n xs % (m : Int))) ∧ Old w w' := by
  have HV : Hid (Row w v (toI xs)) := hv
  obtain ⟨a0, cap0, rfl⟩ := hv.sliceN
  clear hv
  have hlt : val xs % m < m := Nat.mod_lt _ (by omega)
  have e0 : sv false xs % (m : Int) = ((val xs % m : Nat) : Int) := by simp [sv]
  have e1 : 0 < val xs % m → sv true xs % (m : Int) = (m : Int) - ((val xs % m : Nat) : Int) := fun h => by
    have := (down_up_eq xs m (by omega) h).2.2
    have h2 := Int.emod_nonneg (sv true xs) (show (m : Int) ≠ 0 by omega)
    omega
  have e2 : val xs % m = 0 → sv true xs % (m : Int) = ((val xs % m : Nat) : Int) := fun h => by
    have := (down_exact_eq xs m (by omega) h).2.2
    have h2 := Int.emod_nonneg (sv true xs) (show (m : Int) ≠ 0 by omega)
    omega
  have c := fun W (h : Row W (.slice a0 xs.length cap0) (toI xs)) => word_any xs m _ W h ha (by omega) hm hm'
  generalize val xs % m = r at *
  have key : ∀ (z : Int), (n = false → z = (r : Int)) → (n = true → 0 < r → z = (m : Int) - (r : Int)) → (n = true → r = 0 → z = (r : Int)) →
      Calls Tryd.prog 26 #[.agg #[.bool n, .slice a0 xs.length cap0], .int .i64 m] w fun e w' => e = .returned (.int .i64 z) ∧ Old w w' := by
    intro z h1 h2 h3
    clear e0 e1 e2
    cases n with
    | false =>
      have := h1 rfl
      subst this
      clear h1 h2 h3
      go_enter Tryd.func26, Tryd.ntmps26
      go_wp2_with fail
      refine (c _ (HV.out.old ((Old.refl w).alloc _))).mono ?_
      rintro e w2 ⟨rfl, g2⟩
      have q0 : w2.cell? ⟨w.heap.size, 0, none⟩ = some (Value.bool false) := (g2.cell (p := ⟨w.heap.size, 0, none⟩) (by simp)).trans (cell_at _ _ _ _ _ rfl)
      have HG : Hid (Old w w2) := Old.trans ((Old.refl w).alloc _) g2
      clear g2
      go_wp2_with fail
      go_ret
      exact ⟨rfl, HG.out⟩
    | true =>
      rcases Nat.eq_zero_or_pos r with h0 | h0
      · have := h3 rfl h0
        subst this
        have d0 : decide (0 < r) = false := decide_eq_false (by omega)
        clear h1 h2 h3 h0
        go_enter Tryd.func26, Tryd.ntmps26
        go_wp2_with fail
        refine (c _ (HV.out.old ((Old.refl w).alloc _))).mono ?_
        rintro e w2 ⟨rfl, g2⟩
        have q0 : w2.cell? ⟨w.heap.size, 0, none⟩ = some (Value.bool true) := (g2.cell (p := ⟨w.heap.size, 0, none⟩) (by simp)).trans (cell_at _ _ _ _ _ rfl)
        have HG : Hid (Old w w2) := Old.trans ((Old.refl w).alloc _) g2
        clear g2
        go_wp2_with fail
        go_ret
        exact ⟨rfl, HG.out⟩
      · have := h2 rfl h0
        subst this
        have d0 : decide (0 < r) = true := decide_eq_true h0
        clear h1 h2 h3
        go_enter Tryd.func26, Tryd.ntmps26
        go_wp2_with fail
        refine (c _ (HV.out.old ((Old.refl w).alloc _))).mono ?_
        rintro e w2 ⟨rfl, g2⟩
        have q0 : w2.cell? ⟨w.heap.size, 0, none⟩ = some (Value.bool true) := (g2.cell (p := ⟨w.heap.size, 0, none⟩) (by simp)).trans (cell_at _ _ _ _ _ rfl)
        have HG : Hid (Old w w2) := Old.trans ((Old.refl w).alloc _) g2
        clear g2
        go_wp2_with fail
        go_ret
        exact ⟨rfl, HG.out⟩
  refine key _ (fun h => ?_) (fun h h0 => ?_) (fun h h0 => ?_)
  · subst h; exact e0
  · subst h; exact e1 h0
  · subst h; exact e2 h0
end Go.Proofs.YtfcdfielbpdloaaDoor
/- Proved: contracts of the model's whole number of a word and of its nearest quotient, by what the numbers are worth. -/
namespace Go.Proofs.YtfcdfielbpdloaaDoor
open Go.ChangeShapes Go.WideShapes Go.ChangeAt Go.RowKit
open M2
set_option linter.unusedVariables false
set_option linter.unusedSimpArgs false
set_option maxHeartbeats 4000000 in
theorem int_any (n : Int) (w : World) (h0 : -9223372036854775808 ≤ n) (h1 : n ≤ 9223372036854775807) :
    Calls Tryd.prog 50 #[.int .i64 n] w fun e w' => ∃ v', e = .returned (.agg #[.bool (ng n), v']) ∧ Old w w' ∧ Own w' w.heap.size v' (toI (dg n)) := by
  by_cases hn : 0 ≤ n
  · obtain ⟨k, rfl⟩ := Int.eq_ofNat_of_zero_le hn
    have e1 : ng (k : Int) = false := by unfold ng; exact decide_eq_false (by omega)
    have e2 : dg (k : Int) = dig k := by unfold dg; simp
    rw [e1, e2]
    clear e1 e2 hn
    obtain ⟨zs, hz⟩ : ∃ zs, dig k = zs := ⟨_, rfl⟩
    rw [hz]
    have HZ : Hid (dig k = zs) := hz
    clear hz
    go_enter Tryd.func50, Tryd.ntmps50
    go_wp2_with fail
    refine (of_any k _ (by omega)).mono ?_
    rintro e w5 ⟨v5, rfl, g5, o5⟩
    rw [HZ.out] at o5
    obtain ⟨a5, cap5, rfl⟩ := (Own.row o5).sliceN
    have q0 : w5.cell? ⟨w.heap.size, 0, none⟩ = some (Value.bool false) := (g5.cell (p := ⟨w.heap.size, 0, none⟩) (by simp)).trans (cell_at _ _ _ _ _ rfl)
    have q1 : w5.cell? ⟨w.heap.size, 1, none⟩ = some (Value.slice none 0 0) := (g5.cell (p := ⟨w.heap.size, 1, none⟩) (by simp)).trans (cell_at _ _ _ _ _ rfl)
    have f0 : w5.frozen? ⟨w.heap.size, 0, none⟩ = false := (g5.frozen (p := ⟨w.heap.size, 0, none⟩) (by simp)).trans (fro_at _ _ _ _ _ rfl)
    have f1 : w5.frozen? ⟨w.heap.size, 1, none⟩ = false := (g5.frozen (p := ⟨w.heap.size, 1, none⟩) (by simp)).trans (fro_at _ _ _ _ _ rfl)
    have HG5 : Hid (Old w w5) := Old.trans ((Old.refl w).alloc _) g5
    have HO5 : Hid (Own w5 (w.heap.size + 1) (.slice a5 zs.length cap5) (toI zs)) := Own.low o5 (by simp)
    clear g5 o5
    go_wp2_with fail
    refine bodyPost_ret (v := .agg #[.bool false, .slice a5 zs.length cap5]) (by simp [results, Tryd.results50, go_sem, q0, q1]) rfl ⟨_, rfl, ?_, ?_⟩
    · exact (HG5.out.own (p := ⟨w.heap.size, 0, none⟩) (by simp) _).own (p := ⟨w.heap.size, 1, none⟩) (by simp) _
    · refine Own.low (base := w.heap.size + 1) (ownsRow_setCell_other (ownsRow_setCell_other HO5.out (fun e => ?_) _) (fun e => ?_) _) (by omega)
      · have := (HO5.out.lt w.heap.size e).1; omega
      · have := (HO5.out.lt w.heap.size e).1; omega
  · obtain ⟨k, ek⟩ : ∃ k : Nat, -(n + 1) = (k : Int) := ⟨(-(n + 1)).toNat, by omega⟩
    have e1 : ng n = true := by unfold ng; exact decide_eq_true (by omega)
    have e2 : dg n = dig (k + 1) := by unfold dg; rw [show n.natAbs = k + 1 by omega]
    rw [e1, e2]
    obtain ⟨zs, hz⟩ : ∃ zs, dig (k + 1) = zs := ⟨_, rfl⟩
    rw [hz]
    have HZ : Hid (dig (k + 1) = zs) := hz
    have d0 : decide (0 ≤ n) = false := decide_eq_false (by omega)
    have hkl : (dig k).length ≤ 3 := dig_len_le (by unfold LB; omega)
    clear hz e1 e2
    go_enter Tryd.func50, Tryd.ntmps50
    go_wp2_with fail
    refine (of_any k _ (by omega)).mono ?_
    rintro e w5 ⟨v5, rfl, g5, o5⟩
    have q0 : w5.cell? ⟨w.heap.size, 0, none⟩ = some (Value.bool false) := (g5.cell (p := ⟨w.heap.size, 0, none⟩) (by simp)).trans (cell_at _ _ _ _ _ rfl)
    have q1 : w5.cell? ⟨w.heap.size, 1, none⟩ = some (Value.slice none 0 0) := (g5.cell (p := ⟨w.heap.size, 1, none⟩) (by simp)).trans (cell_at _ _ _ _ _ rfl)
    have f0 : w5.frozen? ⟨w.heap.size, 0, none⟩ = false := (g5.frozen (p := ⟨w.heap.size, 0, none⟩) (by simp)).trans (fro_at _ _ _ _ _ rfl)
    have f1 : w5.frozen? ⟨w.heap.size, 1, none⟩ = false := (g5.frozen (p := ⟨w.heap.size, 1, none⟩) (by simp)).trans (fro_at _ _ _ _ _ rfl)
    have hs5 : w.heap.size + 1 ≤ w5.heap.size := by have := g5.size; simp at this; omega
    have HG5 : Hid (Old w w5) := Old.trans ((Old.refl w).alloc _) g5
    have HR5 : Hid (Row w5 v5 (toI (dig k))) := Own.row o5
    clear g5 o5
    go_wp2_with fail
    refine (add_any (dig k) [1] _ _ _ (HR5.out.old ((Old.refl _).alloc _)) (one_row w5 _) (dig_lim _) (Lim.cons (by decide) Lim.nil) (by omega) (by simp)).mono ?_
    rintro e w6 ⟨v6, rfl, g6, o6⟩
    have e6 : dig (val (dig k) + val [1]) = zs := by rw [← HZ.out, val_dig]; simp [val]
    rw [e6] at o6
    obtain ⟨a6, cap6, rfl⟩ := (Own.row o6).sliceN
    have g56 : Old w5 w6 := Old.trans ((Old.refl _).alloc _) g6
    have q0z := (g56.cell (p := ⟨w.heap.size, 0, none⟩) (by show w.heap.size < w5.heap.size; omega)).trans q0
    have q1z := (g56.cell (p := ⟨w.heap.size, 1, none⟩) (by show w.heap.size < w5.heap.size; omega)).trans q1
    have f0z := (g56.frozen (p := ⟨w.heap.size, 0, none⟩) (by show w.heap.size < w5.heap.size; omega)).trans f0
    have f1z := (g56.frozen (p := ⟨w.heap.size, 1, none⟩) (by show w.heap.size < w5.heap.size; omega)).trans f1
    have HG6 : Hid (Old w w6) := Old.trans HG5.out g56
    have HO6 : Hid (Own w6 (w.heap.size + 1) (.slice a6 zs.length cap6) (toI zs)) := Own.low o6 (by simp; omega)
    clear g6 g56 o6 e6 HG5 HR5
    go_wp2_with fail
    refine bodyPost_ret (v := .agg #[.bool true, .slice a6 zs.length cap6]) (by simp [results, Tryd.results50, go_sem, q0z, q1z]) rfl ⟨_, rfl, ?_, ?_⟩
    · exact (HG6.out.own (p := ⟨w.heap.size, 0, none⟩) (by simp) _).own (p := ⟨w.heap.size, 1, none⟩) (by simp) _
    · refine Own.low (base := w.heap.size + 1) (ownsRow_setCell_other (ownsRow_setCell_other HO6.out (fun e => ?_) _) (fun e => ?_) _) (by omega)
      · have := (HO6.out.lt w.heap.size e).1; omega
      · have := (HO6.out.lt w.heap.size e).1; omega
theorem two_row (w : World) (t : TypeId) : Row (w.alloc (.cells #[.int .i64 2] t)) (.slice (some ⟨w.heap.size, 0, none⟩) 1 1) (toI [2]) :=
  Or.inr ⟨w.heap.size, 0, 1, rfl, by simp, by simp [toI], fun j hj => by
    have : j = 0 := by simp [toI] at hj; omega
    subst this
    rw [cell_at _ _ _ _ _ (by simp)]
    rfl⟩
end Go.Proofs.YtfcdfielbpdloaaDoor
