/- Proved: several texts in one: what each proves is said ahead of it. -/
import Derived.Test.YtimmcijoebmaiaaR00
import Derived.Deep.RegionWith
/- Proved: the walk of the statement on GoodWhole, under the contract of the program's own function. -/
namespace Go.Proofs.Ytimmcijoebmaiaa
open Go.ChangeShapes Go.WideShapes Go.ChangeAt Go.RowKit
open M2
set_option linter.unusedVariables false
set_option linter.unusedSimpArgs false
abbrev StW (w : World) (k : Nat) (x y : Value) (t : TypeId) : Prop := w.heap[k]? = some (.cells #[x, y] t (0, 0))
theorem StW.c0 {w : World} {k : Nat} {x y : Value} {t : TypeId} (h : StW w k x y t) : w.cell? ⟨k, 0, none⟩ = some x := cell_of_row w k 0 _ t (0, 0) h
theorem StW.c1 {w : World} {k : Nat} {x y : Value} {t : TypeId} (h : StW w k x y t) : w.cell? ⟨k, 1, none⟩ = some y := cell_of_row w k 1 _ t (0, 0) h
theorem StW.f0 {w : World} {k : Nat} {x y : Value} {t : TypeId} (h : StW w k x y t) : w.frozen? ⟨k, 0, none⟩ = false := frozen_of_row w k 0 _ t h
theorem StW.f1 {w : World} {k : Nat} {x y : Value} {t : TypeId} (h : StW w k x y t) : w.frozen? ⟨k, 1, none⟩ = false := frozen_of_row w k 1 _ t h
theorem StW.lt {w : World} {k : Nat} {x y : Value} {t : TypeId} (h : StW w k x y t) : k < w.heap.size := (Array.getElem?_eq_some_iff.1 h).1
theorem StW.old {w w' : World} {k : Nat} {x y : Value} {t : TypeId} (h : StW w k x y t) (g : Old w w') : StW w' k x y t := (g.block k h.lt).trans h
theorem StW.new (w : World) (x y : Value) (t : TypeId) : StW (w.alloc (.cells #[x, y] t)) w.heap.size x y t := heap_alloc_new w _
end Go.Proofs.Ytimmcijoebmaiaa
/- Proved: structs of two cells under writes into other blocks; no function of the program. -/
namespace Go.Proofs.Ytimmcijoebmaiaa
open Go.ChangeShapes Go.WideShapes Go.ChangeAt Go.RowKit
set_option linter.unusedVariables false
set_option linter.unusedSimpArgs false
theorem StW.at2 (w : World) (x y x' y' : Value) (t t' : TypeId) : StW ((w.alloc (.cells #[x, y] t)).alloc (.cells #[x', y'] t')) (w.heap.size + 1) x' y' t' := heap_alloc2_new w _ _
theorem StW.at1 (w : World) (x y x' y' : Value) (t t' : TypeId) : StW ((w.alloc (.cells #[x, y] t)).alloc (.cells #[x', y'] t')) w.heap.size x y t := heap_alloc2_old w _ _
end Go.Proofs.Ytimmcijoebmaiaa
/- Proved: a struct of two cells stays where only others are written; no function of the program. -/
namespace Go.Proofs.Ytimmcijoebmaiaa
open Go.ChangeShapes Go.WideShapes Go.ChangeAt Go.RowKit
set_option linter.unusedVariables false
set_option linter.unusedSimpArgs false
theorem StW.chg {w w' : World} {k : Nat} {x y : Value} {t : TypeId} {lo hi : Nat} (s : StW w k x y t) (c : Chg w w' lo hi) (hk : k < lo ∨ hi ≤ k) : StW w' k x y t := (c.block k s.lt hk).trans s
end Go.Proofs.Ytimmcijoebmaiaa
/- Proved: a struct in a block of its own stays where only others are written; no function of the program. -/
namespace Go.Proofs.Ytimmcijoebmaiaa
open Go.ChangeShapes Go.WideShapes Go.ChangeAt Go.RowKit
set_option linter.unusedVariables false
set_option linter.unusedSimpArgs false
def Bk (w : World) (k : Nat) (cs : Array Value) (t : TypeId) : Prop := w.heap[k]? = some (.cells cs t (0, 0))
theorem Bk.lt {w : World} {k : Nat} {cs : Array Value} {t : TypeId} (h : Bk w k cs t) : k < w.heap.size := (Array.getElem?_eq_some_iff.1 h).1
theorem Bk.old {w w' : World} {k : Nat} {cs : Array Value} {t : TypeId} (h : Bk w k cs t) (g : Old w w') : Bk w' k cs t := (g.block k h.lt).trans h
theorem Bk.chg {w w' : World} {k : Nat} {cs : Array Value} {t : TypeId} {lo hi : Nat} (h : Bk w k cs t) (c : Chg w w' lo hi) (hk : k < lo ∨ hi ≤ k) : Bk w' k cs t := (c.block k h.lt hk).trans h
theorem Bk.new' (w : World) {k : Nat} (cs : Array Value) (t : TypeId) (hk : w.heap.size = k) : Bk (w.alloc (.cells cs t)) k cs t := by
  subst hk
  exact heap_alloc_new w _
theorem Bk.alloc {w : World} {k : Nat} {cs : Array Value} {t : TypeId} (h : Bk w k cs t) (o : Obj) : Bk (w.alloc o) k cs t := h.old ((Old.refl w).alloc o)
theorem Bk.c {w : World} {k : Nat} {cs : Array Value} {t : TypeId} (h : Bk w k cs t) {i : Nat} {v : Value} (hi : cs[i]? = some v) : w.cell? ⟨k, i, none⟩ = some v := by
  rw [← hi]
  exact cell_of_row w k i cs t (0, 0) h
end Go.Proofs.Ytimmcijoebmaiaa
/- Proved: contracts of the model's functions on whole numbers of any length. -/
namespace Go.Proofs.Ytimmcijoebmaiaa
open Go.ChangeShapes Go.WideShapes Go.ChangeAt Go.RowKit
open M2
set_option linter.unusedVariables false
set_option linter.unusedSimpArgs false
def sv (neg : Bool) (xs : List Nat) : Int := if neg then -(val xs : Int) else (val xs : Int)
def Gw (neg : Bool) (xs : List Nat) : Prop := Nrm xs ∧ (neg = true → xs ≠ [])
def ng (z : Int) : Bool := decide (z < 0)
def dg (z : Int) : List Nat := dig z.natAbs
theorem Gw.pos {neg : Bool} {xs : List Nat} (h : Gw neg xs) (hn : neg = true) : 0 < val xs := by
  rcases Nat.eq_zero_or_pos (val xs) with h0 | h0
  · exact absurd (val_zero_of h.1 h0) (h.2 hn)
  · exact h0
theorem gw_of (z : Int) : Gw (ng z) (dg z) := by
  refine ⟨dig_nrm _, fun h => dig_ne ?_⟩
  simp [ng] at h
  omega
theorem sv_of (z : Int) : sv (ng z) (dg z) = z := by
  unfold sv ng dg
  rw [val_dig]
  by_cases h : z < 0
  · simp [h]; omega
  · simp [h]; omega
set_option maxHeartbeats 4000000 in
theorem plus_same (n : Bool) (xs ys : List Nat) (v u : Value) (w : World) (hv : Row w v (toI xs)) (hu : Row w u (toI ys)) (ha : Lim xs) (hb : Lim ys) (la : xs.length ≤ 1048576) (lb : ys.length ≤ 1048576) :
    Calls Try.prog 32 #[.agg #[.bool n, v], .agg #[.bool n, u]] w fun e w' => ∃ v', e = .returned (.agg #[.bool n, v']) ∧ Old w w' ∧ Own w' w.heap.size v' (toI (dig (val xs + val ys))) := by
  have HV : Hid (Row w v (toI xs)) := hv
  have HU : Hid (Row w u (toI ys)) := hu
  obtain ⟨a0, cap0, rfl⟩ := hv.sliceN
  obtain ⟨a1, cap1, rfl⟩ := hu.sliceN
  clear hv hu
  have dn : (n == n) = true := by simp
  go_enter Try.func32, Try.ntmps32
  go_wp2_with fail
  have HA : Hid (∀ t1 t2 t3 xs1 xs2 xs3, Old w (((w.alloc (.cells xs1 t1)).alloc (.cells xs2 t2)).alloc (.cells xs3 t3))) := fun t1 t2 t3 xs1 xs2 xs3 => (((Old.refl w).alloc _).alloc _).alloc _
  go_region_with (go_at_call 34; refine (add_any xs ys _ _ _ (HV.out.old ((HA.out _ _ _ _ _ _).drewN 1)) (HU.out.old ((HA.out _ _ _ _ _ _).drewN 1)) ha hb la lb).mono ?_; rintro e w5 ⟨v5, rfl, g5, o5⟩; obtain ⟨a5, cap5, rfl⟩ := (Own.row o5).sliceN; have a0_ : w5.cell? ⟨w.heap.size, 0, none⟩ = some (Value.bool n) := (g5.cell (p := ⟨w.heap.size, 0, none⟩) (by simp; try omega)).trans (c3_0 _ _ _ _ _ _ _ _ ); have a1_ : w5.cell? ⟨w.heap.size, 1, none⟩ = some (Value.slice a0 xs.length cap0) := (g5.cell (p := ⟨w.heap.size, 1, none⟩) (by simp; try omega)).trans (c3_0 _ _ _ _ _ _ _ _ ); have b0_ : w5.cell? ⟨w.heap.size + 1, 0, none⟩ = some (Value.bool n) := (g5.cell (p := ⟨w.heap.size + 1, 0, none⟩) (by simp; try omega)).trans (c3_1 _ _ _ _ _ _ _ _ ); have b1_ : w5.cell? ⟨w.heap.size + 1, 1, none⟩ = some (Value.slice a1 ys.length cap1) := (g5.cell (p := ⟨w.heap.size + 1, 1, none⟩) (by simp; try omega)).trans (c3_1 _ _ _ _ _ _ _ _ ); have q0 : w5.cell? ⟨w.heap.size + 1 + 1, 0, none⟩ = some (Value.bool false) := (g5.cell (p := ⟨w.heap.size + 1 + 1, 0, none⟩) (by simp; try omega)).trans (c3_2 _ _ _ _ _ _ _ _ ); have q1 : w5.cell? ⟨w.heap.size + 1 + 1, 1, none⟩ = some (Value.slice none 0 0) := (g5.cell (p := ⟨w.heap.size + 1 + 1, 1, none⟩) (by simp; try omega)).trans (c3_2 _ _ _ _ _ _ _ _ ); have f0 : w5.frozen? ⟨w.heap.size + 1 + 1, 0, none⟩ = false := (g5.frozen (p := ⟨w.heap.size + 1 + 1, 0, none⟩) (by simp; try omega)).trans (f3_2 _ _ _ _ _ _ _ _ ); have f1 : w5.frozen? ⟨w.heap.size + 1 + 1, 1, none⟩ = false := (g5.frozen (p := ⟨w.heap.size + 1 + 1, 1, none⟩) (by simp; try omega)).trans (f3_2 _ _ _ _ _ _ _ _ ); have HG5 : Hid (Old w w5) := Old.trans ((HA.out _ _ _ _ _ _).drewN 1) g5; have HO5 : Hid (Own w5 (w.heap.size + 3) (.slice a5 (dig (val xs + val ys)).length cap5) (toI (dig (val xs + val ys)))) := Own.low o5 (by simp); clear g5 o5)
  all_goals
    go_wp2_with fail
    refine bodyPost_ret (v := .agg #[.bool n, .slice a5 (dig (val xs + val ys)).length cap5]) (by simp [results, Try.results32, go_sem, q0, q1]) rfl ⟨_, rfl, ?_, ?_⟩
    · exact (HG5.out.own (p := ⟨w.heap.size + 1 + 1, 0, none⟩) (by simp; omega) _).own (p := ⟨w.heap.size + 1 + 1, 1, none⟩) (by simp; omega) _
    · refine Own.low (base := w.heap.size + 3) (ownsRow_setCell_other (ownsRow_setCell_other HO5.out (fun e => ?_) _) (fun e => ?_) _) (by omega)
      · have := (HO5.out.lt (w.heap.size + 1 + 1) e).1; omega
      · have := (HO5.out.lt (w.heap.size + 1 + 1) e).1; omega
end Go.Proofs.Ytimmcijoebmaiaa
/- Proved: contracts of the model's sum of whole numbers of two signs. -/
namespace Go.Proofs.Ytimmcijoebmaiaa
open Go.ChangeShapes Go.WideShapes Go.ChangeAt Go.RowKit
open M2
set_option linter.unusedVariables false
set_option linter.unusedSimpArgs false
set_option maxHeartbeats 4000000 in
theorem plus_more (n m : Bool) (xs ys : List Nat) (v u : Value) (w : World) (hv : Row w v (toI xs)) (hu : Row w u (toI ys)) (ha : Nrm xs) (hb : Nrm ys) (la : xs.length ≤ 1048576) (lb : ys.length ≤ 1048576) (hnm : (n == m) = false) (hc : val ys < val xs) :
    Calls Try.prog 32 #[.agg #[.bool n, v], .agg #[.bool m, u]] w fun e w' => ∃ v', e = .returned (.agg #[.bool n, v']) ∧ Old w w' ∧ Own w' w.heap.size v' (toI (dig (val xs - val ys))) := by
  have HV : Hid (Row w v (toI xs)) := hv
  have HU : Hid (Row w u (toI ys)) := hu
  obtain ⟨a0, cap0, rfl⟩ := hv.sliceN
  obtain ⟨a1, cap1, rfl⟩ := hu.sliceN
  have HCV : Hid (cmpN (val xs) (val ys) = 1) := by unfold cmpN; rw [if_neg (by omega), if_pos hc]; rfl
  have HLE : Hid (val ys ≤ val xs) := Nat.le_of_lt hc
  clear hv hu hc
  go_enter Try.func32, Try.ntmps32
  go_wp2_with fail
  have HA : Hid (∀ t1 t2 t3 xs1 xs2 xs3, Old w (((w.alloc (.cells xs1 t1)).alloc (.cells xs2 t2)).alloc (.cells xs3 t3))) := fun t1 t2 t3 xs1 xs2 xs3 => (((Old.refl w).alloc _).alloc _).alloc _
  refine (cmp_any xs ys _ _ _ (HV.out.old (HA.out _ _ _ _ _ _)) (HU.out.old (HA.out _ _ _ _ _ _)) ha hb (by omega) (by omega)).mono ?_
  rintro e w2 ⟨rfl, g2⟩
  have HG2 : Hid (Old w w2) := Old.trans (HA.out _ _ _ _ _ _) g2
  have a0_ : w2.cell? ⟨w.heap.size, 0, none⟩ = some (Value.bool n) := (g2.cell (p := ⟨w.heap.size, 0, none⟩) (by simp; try omega)).trans (c3_0 _ _ _ _ _ _ _ _ )
  have a1_ : w2.cell? ⟨w.heap.size, 1, none⟩ = some (Value.slice a0 xs.length cap0) := (g2.cell (p := ⟨w.heap.size, 1, none⟩) (by simp; try omega)).trans (c3_0 _ _ _ _ _ _ _ _ )
  have b0_ : w2.cell? ⟨w.heap.size + 1, 0, none⟩ = some (Value.bool m) := (g2.cell (p := ⟨w.heap.size + 1, 0, none⟩) (by simp; try omega)).trans (c3_1 _ _ _ _ _ _ _ _ )
  have b1_ : w2.cell? ⟨w.heap.size + 1, 1, none⟩ = some (Value.slice a1 ys.length cap1) := (g2.cell (p := ⟨w.heap.size + 1, 1, none⟩) (by simp; try omega)).trans (c3_1 _ _ _ _ _ _ _ _ )
  have q0_ : w2.cell? ⟨w.heap.size + 1 + 1, 0, none⟩ = some (Value.bool false) := (g2.cell (p := ⟨w.heap.size + 1 + 1, 0, none⟩) (by simp; try omega)).trans (c3_2 _ _ _ _ _ _ _ _ )
  have q1_ : w2.cell? ⟨w.heap.size + 1 + 1, 1, none⟩ = some (Value.slice none 0 0) := (g2.cell (p := ⟨w.heap.size + 1 + 1, 1, none⟩) (by simp; try omega)).trans (c3_2 _ _ _ _ _ _ _ _ )
  have f0_ : w2.frozen? ⟨w.heap.size + 1 + 1, 0, none⟩ = false := (g2.frozen (p := ⟨w.heap.size + 1 + 1, 0, none⟩) (by simp; try omega)).trans (f3_2 _ _ _ _ _ _ _ _ )
  have f1_ : w2.frozen? ⟨w.heap.size + 1 + 1, 1, none⟩ = false := (g2.frozen (p := ⟨w.heap.size + 1 + 1, 1, none⟩) (by simp; try omega)).trans (f3_2 _ _ _ _ _ _ _ _ )
  have hsz : w.heap.size + 3 ≤ w2.heap.size := by have := g2.size; simp at this; omega
  rw [HCV.out]
  clear g2 HA
  go_wp2_with fail
  go_region_with (go_at_call 56; refine (sub_any xs ys _ _ _ (HV.out.old (HG2.out.drewN 1)) (HU.out.old (HG2.out.drewN 1)) ha hb la lb HLE.out).mono ?_; rintro e w5 ⟨v5, rfl, g5, o5⟩; obtain ⟨a5, cap5, rfl⟩ := (Own.row o5).sliceN; have a0z := (g5.cell (p := ⟨w.heap.size, 0, none⟩) (by show w.heap.size < w2.heap.size; omega)).trans a0_; have a1z := (g5.cell (p := ⟨w.heap.size, 1, none⟩) (by show w.heap.size < w2.heap.size; omega)).trans a1_; have b0z := (g5.cell (p := ⟨w.heap.size + 1, 0, none⟩) (by show w.heap.size + 1 < w2.heap.size; omega)).trans b0_; have b1z := (g5.cell (p := ⟨w.heap.size + 1, 1, none⟩) (by show w.heap.size + 1 < w2.heap.size; omega)).trans b1_; have q0z := (g5.cell (p := ⟨w.heap.size + 1 + 1, 0, none⟩) (by show w.heap.size + 1 + 1 < w2.heap.size; omega)).trans q0_; have q1z := (g5.cell (p := ⟨w.heap.size + 1 + 1, 1, none⟩) (by show w.heap.size + 1 + 1 < w2.heap.size; omega)).trans q1_; have f0z := (g5.frozen (p := ⟨w.heap.size + 1 + 1, 0, none⟩) (by show w.heap.size + 1 + 1 < w2.heap.size; omega)).trans f0_; have f1z := (g5.frozen (p := ⟨w.heap.size + 1 + 1, 1, none⟩) (by show w.heap.size + 1 + 1 < w2.heap.size; omega)).trans f1_; have HG5 : Hid (Old w w5) := Old.trans (HG2.out.drewN 1) g5; have HO5 : Hid (Own w5 (w.heap.size + 3) (.slice a5 (dig (val xs - val ys)).length cap5) (toI (dig (val xs - val ys)))) := Own.low o5 (by show w.heap.size + 3 ≤ w2.heap.size; omega); clear g5 o5)
  all_goals
    go_wp2_with fail
    refine bodyPost_ret (v := .agg #[.bool n, .slice a5 (dig (val xs - val ys)).length cap5]) (by simp [results, Try.results32, go_sem, q0z, q1z]) rfl ⟨_, rfl, ?_, ?_⟩
    · exact (HG5.out.own (p := ⟨w.heap.size + 1 + 1, 0, none⟩) (by simp; omega) _).own (p := ⟨w.heap.size + 1 + 1, 1, none⟩) (by simp; omega) _
    · refine Own.low (base := w.heap.size + 3) (ownsRow_setCell_other (ownsRow_setCell_other HO5.out (fun e => ?_) _) (fun e => ?_) _) (by omega)
      · have := (HO5.out.lt (w.heap.size + 1 + 1) e).1; omega
      · have := (HO5.out.lt (w.heap.size + 1 + 1) e).1; omega
set_option maxHeartbeats 4000000 in
theorem plus_less (n m : Bool) (xs ys : List Nat) (v u : Value) (w : World) (hv : Row w v (toI xs)) (hu : Row w u (toI ys)) (ha : Nrm xs) (hb : Nrm ys) (la : xs.length ≤ 1048576) (lb : ys.length ≤ 1048576) (hnm : (n == m) = false) (hc : val xs < val ys) :
    Calls Try.prog 32 #[.agg #[.bool n, v], .agg #[.bool m, u]] w fun e w' => ∃ v', e = .returned (.agg #[.bool m, v']) ∧ Old w w' ∧ Own w' w.heap.size v' (toI (dig (val ys - val xs))) := by
  have HV : Hid (Row w v (toI xs)) := hv
  have HU : Hid (Row w u (toI ys)) := hu
  obtain ⟨a0, cap0, rfl⟩ := hv.sliceN
  obtain ⟨a1, cap1, rfl⟩ := hu.sliceN
  have HCV : Hid (cmpN (val xs) (val ys) = -1) := by unfold cmpN; rw [if_pos hc]; rfl
  have HLE : Hid (val xs ≤ val ys) := Nat.le_of_lt hc
  clear hv hu hc
  go_enter Try.func32, Try.ntmps32
  go_wp2_with fail
  have HA : Hid (∀ t1 t2 t3 xs1 xs2 xs3, Old w (((w.alloc (.cells xs1 t1)).alloc (.cells xs2 t2)).alloc (.cells xs3 t3))) := fun t1 t2 t3 xs1 xs2 xs3 => (((Old.refl w).alloc _).alloc _).alloc _
  refine (cmp_any xs ys _ _ _ (HV.out.old (HA.out _ _ _ _ _ _)) (HU.out.old (HA.out _ _ _ _ _ _)) ha hb (by omega) (by omega)).mono ?_
  rintro e w2 ⟨rfl, g2⟩
  have HG2 : Hid (Old w w2) := Old.trans (HA.out _ _ _ _ _ _) g2
  have a0_ : w2.cell? ⟨w.heap.size, 0, none⟩ = some (Value.bool n) := (g2.cell (p := ⟨w.heap.size, 0, none⟩) (by simp; try omega)).trans (c3_0 _ _ _ _ _ _ _ _ )
  have a1_ : w2.cell? ⟨w.heap.size, 1, none⟩ = some (Value.slice a0 xs.length cap0) := (g2.cell (p := ⟨w.heap.size, 1, none⟩) (by simp; try omega)).trans (c3_0 _ _ _ _ _ _ _ _ )
  have b0_ : w2.cell? ⟨w.heap.size + 1, 0, none⟩ = some (Value.bool m) := (g2.cell (p := ⟨w.heap.size + 1, 0, none⟩) (by simp; try omega)).trans (c3_1 _ _ _ _ _ _ _ _ )
  have b1_ : w2.cell? ⟨w.heap.size + 1, 1, none⟩ = some (Value.slice a1 ys.length cap1) := (g2.cell (p := ⟨w.heap.size + 1, 1, none⟩) (by simp; try omega)).trans (c3_1 _ _ _ _ _ _ _ _ )
  have q0_ : w2.cell? ⟨w.heap.size + 1 + 1, 0, none⟩ = some (Value.bool false) := (g2.cell (p := ⟨w.heap.size + 1 + 1, 0, none⟩) (by simp; try omega)).trans (c3_2 _ _ _ _ _ _ _ _ )
  have q1_ : w2.cell? ⟨w.heap.size + 1 + 1, 1, none⟩ = some (Value.slice none 0 0) := (g2.cell (p := ⟨w.heap.size + 1 + 1, 1, none⟩) (by simp; try omega)).trans (c3_2 _ _ _ _ _ _ _ _ )
  have f0_ : w2.frozen? ⟨w.heap.size + 1 + 1, 0, none⟩ = false := (g2.frozen (p := ⟨w.heap.size + 1 + 1, 0, none⟩) (by simp; try omega)).trans (f3_2 _ _ _ _ _ _ _ _ )
  have f1_ : w2.frozen? ⟨w.heap.size + 1 + 1, 1, none⟩ = false := (g2.frozen (p := ⟨w.heap.size + 1 + 1, 1, none⟩) (by simp; try omega)).trans (f3_2 _ _ _ _ _ _ _ _ )
  have hsz : w.heap.size + 3 ≤ w2.heap.size := by have := g2.size; simp at this; omega
  rw [HCV.out]
  clear g2 HA
  go_wp2_with fail
  go_region_with (go_at_call 56; refine (sub_any ys xs _ _ _ (HU.out.old (HG2.out.drewN 1)) (HV.out.old (HG2.out.drewN 1)) hb ha lb la HLE.out).mono ?_; rintro e w5 ⟨v5, rfl, g5, o5⟩; obtain ⟨a5, cap5, rfl⟩ := (Own.row o5).sliceN; have a0z := (g5.cell (p := ⟨w.heap.size, 0, none⟩) (by show w.heap.size < w2.heap.size; omega)).trans a0_; have a1z := (g5.cell (p := ⟨w.heap.size, 1, none⟩) (by show w.heap.size < w2.heap.size; omega)).trans a1_; have b0z := (g5.cell (p := ⟨w.heap.size + 1, 0, none⟩) (by show w.heap.size + 1 < w2.heap.size; omega)).trans b0_; have b1z := (g5.cell (p := ⟨w.heap.size + 1, 1, none⟩) (by show w.heap.size + 1 < w2.heap.size; omega)).trans b1_; have q0z := (g5.cell (p := ⟨w.heap.size + 1 + 1, 0, none⟩) (by show w.heap.size + 1 + 1 < w2.heap.size; omega)).trans q0_; have q1z := (g5.cell (p := ⟨w.heap.size + 1 + 1, 1, none⟩) (by show w.heap.size + 1 + 1 < w2.heap.size; omega)).trans q1_; have f0z := (g5.frozen (p := ⟨w.heap.size + 1 + 1, 0, none⟩) (by show w.heap.size + 1 + 1 < w2.heap.size; omega)).trans f0_; have f1z := (g5.frozen (p := ⟨w.heap.size + 1 + 1, 1, none⟩) (by show w.heap.size + 1 + 1 < w2.heap.size; omega)).trans f1_; have HG5 : Hid (Old w w5) := Old.trans (HG2.out.drewN 1) g5; have HO5 : Hid (Own w5 (w.heap.size + 3) (.slice a5 (dig (val ys - val xs)).length cap5) (toI (dig (val ys - val xs)))) := Own.low o5 (by show w.heap.size + 3 ≤ w2.heap.size; omega); clear g5 o5)
  all_goals
    go_wp2_with fail
    refine bodyPost_ret (v := .agg #[.bool m, .slice a5 (dig (val ys - val xs)).length cap5]) (by simp [results, Try.results32, go_sem, q0z, q1z]) rfl ⟨_, rfl, ?_, ?_⟩
    · exact (HG5.out.own (p := ⟨w.heap.size + 1 + 1, 0, none⟩) (by simp; omega) _).own (p := ⟨w.heap.size + 1 + 1, 1, none⟩) (by simp; omega) _
    · refine Own.low (base := w.heap.size + 3) (ownsRow_setCell_other (ownsRow_setCell_other HO5.out (fun e => ?_) _) (fun e => ?_) _) (by omega)
      · have := (HO5.out.lt (w.heap.size + 1 + 1) e).1; omega
      · have := (HO5.out.lt (w.heap.size + 1 + 1) e).1; omega
set_option maxHeartbeats 4000000 in
theorem plus_zero (n m : Bool) (xs ys : List Nat) (v u : Value) (w : World) (hv : Row w v (toI xs)) (hu : Row w u (toI ys)) (ha : Nrm xs) (hb : Nrm ys) (la : xs.length ≤ 1048576) (lb : ys.length ≤ 1048576) (hnm : (n == m) = false) (hc : val xs = val ys) :
    Calls Try.prog 32 #[.agg #[.bool n, v], .agg #[.bool m, u]] w fun e w' => ∃ v', e = .returned (.agg #[.bool false, v']) ∧ Old w w' ∧ Own w' w.heap.size v' (toI (dig 0)) := by
  have HV : Hid (Row w v (toI xs)) := hv
  have HU : Hid (Row w u (toI ys)) := hu
  obtain ⟨a0, cap0, rfl⟩ := hv.sliceN
  obtain ⟨a1, cap1, rfl⟩ := hu.sliceN
  have HCV : Hid (cmpN (val xs) (val ys) = 0) := by unfold cmpN; rw [hc, if_neg (by omega), if_neg (by omega)]; rfl
  clear hv hu hc
  go_enter Try.func32, Try.ntmps32
  go_wp2_with fail
  have HA : Hid (∀ t1 t2 t3 xs1 xs2 xs3, Old w (((w.alloc (.cells xs1 t1)).alloc (.cells xs2 t2)).alloc (.cells xs3 t3))) := fun t1 t2 t3 xs1 xs2 xs3 => (((Old.refl w).alloc _).alloc _).alloc _
  refine (cmp_any xs ys _ _ _ (HV.out.old (HA.out _ _ _ _ _ _)) (HU.out.old (HA.out _ _ _ _ _ _)) ha hb (by omega) (by omega)).mono ?_
  rintro e w2 ⟨rfl, g2⟩
  have HG2 : Hid (Old w w2) := Old.trans (HA.out _ _ _ _ _ _) g2
  have a0_ : w2.cell? ⟨w.heap.size, 0, none⟩ = some (Value.bool n) := (g2.cell (p := ⟨w.heap.size, 0, none⟩) (by simp; try omega)).trans (c3_0 _ _ _ _ _ _ _ _ )
  have a1_ : w2.cell? ⟨w.heap.size, 1, none⟩ = some (Value.slice a0 xs.length cap0) := (g2.cell (p := ⟨w.heap.size, 1, none⟩) (by simp; try omega)).trans (c3_0 _ _ _ _ _ _ _ _ )
  have b0_ : w2.cell? ⟨w.heap.size + 1, 0, none⟩ = some (Value.bool m) := (g2.cell (p := ⟨w.heap.size + 1, 0, none⟩) (by simp; try omega)).trans (c3_1 _ _ _ _ _ _ _ _ )
  have b1_ : w2.cell? ⟨w.heap.size + 1, 1, none⟩ = some (Value.slice a1 ys.length cap1) := (g2.cell (p := ⟨w.heap.size + 1, 1, none⟩) (by simp; try omega)).trans (c3_1 _ _ _ _ _ _ _ _ )
  have q0_ : w2.cell? ⟨w.heap.size + 1 + 1, 0, none⟩ = some (Value.bool false) := (g2.cell (p := ⟨w.heap.size + 1 + 1, 0, none⟩) (by simp; try omega)).trans (c3_2 _ _ _ _ _ _ _ _ )
  have q1_ : w2.cell? ⟨w.heap.size + 1 + 1, 1, none⟩ = some (Value.slice none 0 0) := (g2.cell (p := ⟨w.heap.size + 1 + 1, 1, none⟩) (by simp; try omega)).trans (c3_2 _ _ _ _ _ _ _ _ )
  have f0_ : w2.frozen? ⟨w.heap.size + 1 + 1, 0, none⟩ = false := (g2.frozen (p := ⟨w.heap.size + 1 + 1, 0, none⟩) (by simp; try omega)).trans (f3_2 _ _ _ _ _ _ _ _ )
  have f1_ : w2.frozen? ⟨w.heap.size + 1 + 1, 1, none⟩ = false := (g2.frozen (p := ⟨w.heap.size + 1 + 1, 1, none⟩) (by simp; try omega)).trans (f3_2 _ _ _ _ _ _ _ _ )
  have hsz : w.heap.size + 3 ≤ w2.heap.size := by have := g2.size; simp at this; omega
  rw [HCV.out]
  clear g2 HA
  go_wp2_with fail
  refine bodyPost_ret (v := .agg #[.bool false, .slice none 0 0]) (by simp [results, Try.results32, go_sem, q0_, q1_]) rfl ⟨_, rfl, ?_, ?_⟩
  · exact (HG2.out.own (p := ⟨w.heap.size + 1 + 1, 0, none⟩) (by simp; omega) _).own (p := ⟨w.heap.size + 1 + 1, 1, none⟩) (by simp; omega) _
  · rw [dig_zero]; exact World.ownsRow_nil _ _ _ _
end Go.Proofs.Ytimmcijoebmaiaa
/- Proved: contracts of the model's sums, products and quotients of whole numbers, by what the numbers are worth. -/
namespace Go.Proofs.Ytimmcijoebmaiaa
open Go.ChangeShapes Go.WideShapes Go.ChangeAt Go.RowKit
open M2
set_option linter.unusedVariables false
set_option linter.unusedSimpArgs false
theorem ng_plus (n : Bool) (xs ys : List Nat) (ha : Gw n xs) (hb : Gw n ys) : n = ng (sv n xs + sv n ys) ∧ dig (val xs + val ys) = dg (sv n xs + sv n ys) := by
  cases n
  · unfold sv ng dg
    refine ⟨by simp; omega, ?_⟩
    congr 1
  · have := ha.pos rfl
    unfold sv ng dg
    refine ⟨by simp; omega, ?_⟩
    congr 1
    simp
    omega
theorem ng_more (n m : Bool) (xs ys : List Nat) (h : (n == m) = false) (hc : val ys < val xs) : n = ng (sv n xs + sv m ys) ∧ dig (val xs - val ys) = dg (sv n xs + sv m ys) := by
  cases n <;> cases m <;> simp at h
  · unfold sv ng dg
    refine ⟨by simp; omega, ?_⟩
    congr 1
    simp
    omega
  · unfold sv ng dg
    refine ⟨by simp; omega, ?_⟩
    congr 1
    simp
    omega
theorem ng_less (n m : Bool) (xs ys : List Nat) (h : (n == m) = false) (hc : val xs < val ys) : m = ng (sv n xs + sv m ys) ∧ dig (val ys - val xs) = dg (sv n xs + sv m ys) := by
  have := ng_more m n ys xs (by cases n <;> cases m <;> simp_all) hc
  rw [Int.add_comm] at this
  exact this
theorem ng_zero (n m : Bool) (xs ys : List Nat) (h : (n == m) = false) (hc : val xs = val ys) : false = ng (sv n xs + sv m ys) ∧ dig 0 = dg (sv n xs + sv m ys) := by
  have e : sv n xs + sv m ys = 0 := by
    cases n <;> cases m <;> simp at h <;> unfold sv <;> simp <;> omega
  rw [e]
  exact ⟨rfl, rfl⟩
theorem plus_any (n m : Bool) (xs ys : List Nat) (v u : Value) (w : World) (hv : Row w v (toI xs)) (hu : Row w u (toI ys)) (ha : Gw n xs) (hb : Gw m ys) (la : xs.length ≤ 1048576) (lb : ys.length ≤ 1048576) :
    Calls Try.prog 32 #[.agg #[.bool n, v], .agg #[.bool m, u]] w fun e w' => ∃ v', e = .returned (.agg #[.bool (ng (sv n xs + sv m ys)), v']) ∧ Old w w' ∧ Own w' w.heap.size v' (toI (dg (sv n xs + sv m ys))) := by
  cases hnm : n == m with
  | true =>
    have e : n = m := by simpa using hnm
    subst e
    obtain ⟨e1, e2⟩ := ng_plus n xs ys ha hb
    rw [← e1, ← e2]
    exact plus_same n xs ys v u w hv hu ha.1.1 hb.1.1 la lb
  | false =>
    rcases Nat.lt_trichotomy (val xs) (val ys) with hc | hc | hc
    · obtain ⟨e1, e2⟩ := ng_less n m xs ys hnm hc
      rw [← e1, ← e2]
      exact plus_less n m xs ys v u w hv hu ha.1 hb.1 la lb hnm hc
    · obtain ⟨e1, e2⟩ := ng_zero n m xs ys hnm hc
      rw [← e1, ← e2]
      exact plus_zero n m xs ys v u w hv hu ha.1 hb.1 la lb hnm hc
    · obtain ⟨e1, e2⟩ := ng_more n m xs ys hnm hc
      rw [← e1, ← e2]
      exact plus_more n m xs ys v u w hv hu ha.1 hb.1 la lb hnm hc
theorem div_any (xs ys : List Nat) (v u : Value) (w : World) (hv : Row w v (toI xs)) (hu : Row w u (toI ys)) (ha : Lim xs) (hb : Nrm ys) (hl : ys ≠ []) (la : xs.length ≤ 1048576) (lb : ys.length ≤ 1048000) :
    Calls Try.prog 65 #[v, u] w fun e w' => ∃ v1 v2, e = .returned (.tuple #[v1, v2]) ∧ Old w w' ∧ Own w' w.heap.size v1 (toI (dig (val xs / val ys))) ∧ Own w' w.heap.size v2 (toI (dig (val xs % val ys))) := by
  by_cases h1 : ys.length = 1
  · obtain ⟨d, rfl⟩ := List.length_eq_one_iff.1 h1
    have hd : d ≠ 0 := by have := hb.2 (by simp); simpa using this
    have hd2 := hb.1.head
    have e : val [d] = d := by simp [val]
    rw [e]
    exact div1_any xs d v u w hv hu ha (by omega) hd2 la
  · have h0 : ys.length ≠ 0 := fun h => hl (List.length_eq_zero_iff.1 h)
    exact div2_any xs ys v u w hv hu ha hb (by omega) la lb
theorem ng_times (n m : Bool) (xs ys : List Nat) : (decide (0 < (dig (val xs * val ys)).length) && (n != m)) = ng (sv n xs * sv m ys) ∧ dig (val xs * val ys) = dg (sv n xs * sv m ys) := by
  have e : (sv n xs * sv m ys).natAbs = val xs * val ys := by
    rw [Int.natAbs_mul]
    congr 1
    · cases n <;> simp [sv]
    · cases m <;> simp [sv]
  have e2 : dig (val xs * val ys) = dg (sv n xs * sv m ys) := by unfold dg; rw [e]
  refine ⟨?_, e2⟩
  have hl : 0 < (dig (val xs * val ys)).length ↔ 0 < val xs * val ys := by
    constructor
    · intro h
      rcases Nat.eq_zero_or_pos (val xs * val ys) with h0 | h0
      · rw [h0, dig_zero] at h; simp at h
      · exact h0
    · intro h
      have := dig_ne (n := val xs * val ys) (by omega)
      rcases Nat.eq_zero_or_pos (dig (val xs * val ys)).length with h0 | h0
      · exact absurd (List.length_eq_zero_iff.1 h0) this
      · exact h0
  have hp : (0 : Int) ≤ (val xs : Int) * (val ys : Int) := Int.mul_nonneg (by omega) (by omega)
  have hp2 : ((val xs * val ys : Nat) : Int) = (val xs : Int) * (val ys : Int) := by simp
  have hd : decide (0 < (dig (val xs * val ys)).length) = decide (0 < val xs * val ys) := by rw [decide_eq_decide]; exact hl
  rw [hd]
  cases n <;> cases m <;> simp only [sv, ng, Bool.false_eq_true, if_false, if_true, Int.neg_mul, Int.mul_neg, Int.neg_neg, bne_self_eq_false, Bool.and_false, Bool.false_bne, Bool.true_bne, Bool.not_false, Bool.and_true] <;> rw [← hp2]
  · simp; exact hp
  · rw [decide_eq_decide]; omega
  · rw [decide_eq_decide]; omega
  · simp; exact hp
set_option maxHeartbeats 4000000 in
theorem times_any (n m : Bool) (xs ys : List Nat) (v u : Value) (w : World) (hv : Row w v (toI xs)) (hu : Row w u (toI ys)) (ha : Lim xs) (hb : Lim ys) (la : xs.length ≤ 1000) (lb : ys.length ≤ 1000) :
    Calls Try.prog 31 #[.agg #[.bool n, v], .agg #[.bool m, u]] w fun e w' => ∃ v', e = .returned (.agg #[.bool (ng (sv n xs * sv m ys)), v']) ∧ Old w w' ∧ Own w' w.heap.size v' (toI (dg (sv n xs * sv m ys))) := by
  obtain ⟨e1, e2⟩ := ng_times n m xs ys
  rw [← e1, ← e2]
  have HV : Hid (Row w v (toI xs)) := hv
  have HU : Hid (Row w u (toI ys)) := hu
  obtain ⟨a0, cap0, rfl⟩ := hv.sliceN
  obtain ⟨a1, cap1, rfl⟩ := hu.sliceN
  clear hv hu e1 e2
  have hlen : (dig (val xs * val ys)).length ≤ 2000 := by
    refine Nat.le_trans (dig_len_le (k := xs.length + ys.length) ?_) (by omega)
    rw [Nat.pow_add]
    exact Nat.mul_lt_mul'' (val_lt ha) (val_lt hb)
  obtain ⟨zs, hz⟩ : ∃ zs, dig (val xs * val ys) = zs := ⟨_, rfl⟩
  rw [hz] at hlen ⊢
  have HZ : Hid (dig (val xs * val ys) = zs) := hz
  clear hz
  go_enter Try.func31, Try.ntmps31
  go_wp2_with fail
  have HA : Hid (∀ t1 t2 t3 xs1 xs2 xs3, Old w (((w.alloc (.cells xs1 t1)).alloc (.cells xs2 t2)).alloc (.cells xs3 t3))) := fun t1 t2 t3 xs1 xs2 xs3 => (((Old.refl w).alloc _).alloc _).alloc _
  refine (mul_any xs ys _ _ _ (HV.out.old (HA.out _ _ _ _ _ _)) (HU.out.old (HA.out _ _ _ _ _ _)) ha hb (by omega) (by omega)).mono ?_
  rintro e w5 ⟨v5, rfl, g5, o5⟩
  rw [HZ.out] at o5
  obtain ⟨a5, cap5, rfl⟩ := (Own.row o5).sliceN
  have a0_ : w5.cell? ⟨w.heap.size, 0, none⟩ = some (Value.bool n) := (g5.cell (p := ⟨w.heap.size, 0, none⟩) (by simp; try omega)).trans (c3_0 _ _ _ _ _ _ _ _ )
  have b0_ : w5.cell? ⟨w.heap.size + 1, 0, none⟩ = some (Value.bool m) := (g5.cell (p := ⟨w.heap.size + 1, 0, none⟩) (by simp; try omega)).trans (c3_1 _ _ _ _ _ _ _ _ )
  have q0 : w5.cell? ⟨w.heap.size + 1 + 1, 0, none⟩ = some (Value.bool false) := (g5.cell (p := ⟨w.heap.size + 1 + 1, 0, none⟩) (by simp; try omega)).trans (c3_2 _ _ _ _ _ _ _ _ )
  have q1 : w5.cell? ⟨w.heap.size + 1 + 1, 1, none⟩ = some (Value.slice none 0 0) := (g5.cell (p := ⟨w.heap.size + 1 + 1, 1, none⟩) (by simp; try omega)).trans (c3_2 _ _ _ _ _ _ _ _ )
  have f0 : w5.frozen? ⟨w.heap.size + 1 + 1, 0, none⟩ = false := (g5.frozen (p := ⟨w.heap.size + 1 + 1, 0, none⟩) (by simp; try omega)).trans (f3_2 _ _ _ _ _ _ _ _ )
  have f1 : w5.frozen? ⟨w.heap.size + 1 + 1, 1, none⟩ = false := (g5.frozen (p := ⟨w.heap.size + 1 + 1, 1, none⟩) (by simp; try omega)).trans (f3_2 _ _ _ _ _ _ _ _ )
  have HG5 : Hid (Old w w5) := Old.trans (HA.out _ _ _ _ _ _) g5
  have HO5 : Hid (Own w5 (w.heap.size + 3) (.slice a5 zs.length cap5) (toI zs)) := Own.low o5 (by simp)
  clear g5 o5 HA
  by_cases h0 : 0 < zs.length
  · have d0 : decide (0 < zs.length) = true := decide_eq_true h0
    go_wp2_with fail
    refine bodyPost_ret (v := .agg #[.bool (decide (0 < zs.length) && (n != m)), .slice a5 zs.length cap5]) (by simp [results, Try.results31, go_sem, q0, q1, d0]; cases n <;> cases m <;> rfl) rfl ⟨_, rfl, ?_, ?_⟩
    · exact (HG5.out.own (p := ⟨w.heap.size + 1 + 1, 0, none⟩) (by simp; omega) _).own (p := ⟨w.heap.size + 1 + 1, 1, none⟩) (by simp; omega) _
    · refine Own.low (base := w.heap.size + 3) (ownsRow_setCell_other (ownsRow_setCell_other HO5.out (fun e => ?_) _) (fun e => ?_) _) (by omega)
      · have := (HO5.out.lt (w.heap.size + 1 + 1) e).1; omega
      · have := (HO5.out.lt (w.heap.size + 1 + 1) e).1; omega
  · have d0 : decide (0 < zs.length) = false := decide_eq_false h0
    go_wp2_with fail
    refine bodyPost_ret (v := .agg #[.bool (decide (0 < zs.length) && (n != m)), .slice a5 zs.length cap5]) (by simp [results, Try.results31, go_sem, q0, q1, d0]) rfl ⟨_, rfl, ?_, ?_⟩
    · exact (HG5.out.own (p := ⟨w.heap.size + 1 + 1, 0, none⟩) (by simp; omega) _).own (p := ⟨w.heap.size + 1 + 1, 1, none⟩) (by simp; omega) _
    · refine Own.low (base := w.heap.size + 3) (ownsRow_setCell_other (ownsRow_setCell_other HO5.out (fun e => ?_) _) (fun e => ?_) _) (by omega)
      · have := (HO5.out.lt (w.heap.size + 1 + 1) e).1; omega
      · have := (HO5.out.lt (w.heap.size + 1 + 1) e).1; omega
end Go.Proofs.Ytimmcijoebmaiaa
/- Proved: contracts of the model's quotients down, of the nearest quotient, of words and of what is left, by what the numbers are worth. -/
namespace Go.Proofs.Ytimmcijoebmaiaa
open Go.ChangeShapes Go.WideShapes Go.ChangeAt Go.RowKit
open M2
set_option linter.unusedVariables false
set_option linter.unusedSimpArgs false
theorem one_row (w : World) (t : TypeId) : Row (w.alloc (.cells #[.int .i64 1] t)) (.slice (some ⟨w.heap.size, 0, none⟩) 1 1) (toI [1]) :=
  Or.inr ⟨w.heap.size, 0, 1, rfl, by simp, by simp [toI], fun j hj => by
    have : j = 0 := by simp [toI] at hj; omega
    subst this
    rw [cell_at _ _ _ _ _ (by simp)]
    rfl⟩
theorem div_unique (a : Int) (b : Nat) (q : Int) (r : Nat) (hr : r < b) (h : (r : Int) + (b : Int) * q = a) : a / (b : Int) = q ∧ a % (b : Int) = (r : Int) :=
  (Int.ediv_emod_unique (by omega)).2 ⟨h, by omega, by omega⟩
theorem down_pos_eq (xs : List Nat) (D : Nat) (hD : 0 < D) : false = ng (sv false xs / (D : Int)) ∧ dig (val xs / D) = dg (sv false xs / (D : Int)) ∧ val xs % D = (sv false xs % (D : Int)).toNat := by
  obtain ⟨e1, e2⟩ := div_unique (sv false xs) D ((val xs / D : Nat) : Int) (val xs % D) (Nat.mod_lt _ hD) (by
    have := Nat.mod_add_div (val xs) D
    unfold sv
    simp only [Bool.false_eq_true, if_false]
    rw [← Int.natCast_mul]
    omega)
  rw [e1, e2]
  refine ⟨?_, ?_, (Int.toNat_natCast _).symm⟩
  · generalize val xs / D = k
    simp only [ng]; symm; apply decide_eq_false; omega
  · simp only [dg, Int.natAbs_natCast]
theorem down_exact_eq (xs : List Nat) (D : Nat) (hD : 0 < D) (h0 : val xs % D = 0) : decide (0 < (dig (val xs / D)).length) = ng (sv true xs / (D : Int)) ∧ dig (val xs / D) = dg (sv true xs / (D : Int)) ∧ 0 = (sv true xs % (D : Int)).toNat := by
  obtain ⟨e1, e2⟩ := div_unique (sv true xs) D (-((val xs / D : Nat) : Int)) 0 hD (by
    have := Nat.mod_add_div (val xs) D
    rw [h0] at this
    unfold sv
    simp only [if_true]
    rw [Int.mul_neg, ← Int.natCast_mul]
    omega)
  rw [e1, e2]
  refine ⟨?_, by simp only [dg, Int.natAbs_neg, Int.natAbs_natCast], by simp⟩
  unfold ng
  rw [decide_eq_decide]
  constructor
  · intro h
    rcases Nat.eq_zero_or_pos (val xs / D) with h1 | h1
    · rw [h1, dig_zero] at h; simp at h
    · omega
  · intro h
    have := dig_ne (n := val xs / D) (by omega)
    rcases Nat.eq_zero_or_pos (dig (val xs / D)).length with h2 | h2
    · exact absurd (List.length_eq_zero_iff.1 h2) this
    · exact h2
theorem down_up_eq (xs : List Nat) (D : Nat) (hD : 0 < D) (h0 : 0 < val xs % D) : true = ng (sv true xs / (D : Int)) ∧ dig (val xs / D + 1) = dg (sv true xs / (D : Int)) ∧ D - val xs % D = (sv true xs % (D : Int)).toNat := by
  have hm := Nat.mod_lt (val xs) hD
  obtain ⟨e1, e2⟩ := div_unique (sv true xs) D (-((val xs / D + 1 : Nat) : Int)) (D - val xs % D) (by omega) (by
    have := Nat.mod_add_div (val xs) D
    have e : D * (val xs / D + 1) = D * (val xs / D) + D := by rw [Nat.mul_add, Nat.mul_one]
    unfold sv
    simp only [if_true]
    rw [Int.mul_neg, ← Int.natCast_mul, e]
    omega)
  rw [e1, e2]
  refine ⟨?_, by simp only [dg, Int.natAbs_neg, Int.natAbs_natCast], (Int.toNat_natCast _).symm⟩
  generalize val xs / D = k
  simp only [ng]; symm; apply decide_eq_true; omega
set_option maxHeartbeats 4000000 in
theorem down_pos (xs ys : List Nat) (v u : Value) (w : World) (hv : Row w v (toI xs)) (hu : Row w u (toI ys)) (ha : Lim xs) (hb : Nrm ys) (hl : ys ≠ []) (la : xs.length ≤ 2000) (lb : ys.length ≤ 2000) :
    Calls Try.prog 53 #[.agg #[.bool false, v], u] w fun e w' => ∃ v1 v2, e = .returned (.tuple #[.agg #[.bool false, v1], v2]) ∧ Old w w' ∧ Own w' w.heap.size v1 (toI (dig (val xs / val ys))) ∧ Own w' w.heap.size v2 (toI (dig (val xs % val ys))) := by
  have HV : Hid (Row w v (toI xs)) := hv
  have HU : Hid (Row w u (toI ys)) := hu
  obtain ⟨a0, cap0, rfl⟩ := hv.sliceN
  obtain ⟨a1, cap1, rfl⟩ := hu.sliceN
  clear hv hu
  have hD : 0 < val ys := by
    rcases Nat.eq_zero_or_pos (val ys) with h | h
    · exact absurd (val_zero_of hb h) hl
    · exact h
  have hql : (dig (val xs / val ys)).length ≤ 2000 := Nat.le_trans (dig_len_le (Nat.lt_of_le_of_lt (Nat.div_le_self _ _) (val_lt ha))) la
  have hrl : (dig (val xs % val ys)).length ≤ 2000 := Nat.le_trans (dig_len_le (Nat.lt_trans (Nat.mod_lt _ hD) (val_lt hb.1))) lb
  obtain ⟨qs, hq⟩ : ∃ qs, dig (val xs / val ys) = qs := ⟨_, rfl⟩
  obtain ⟨rs, hr⟩ : ∃ rs, dig (val xs % val ys) = rs := ⟨_, rfl⟩
  rw [hq, hr]
  rw [hq] at hql
  rw [hr] at hrl
  have HQ : Hid (dig (val xs / val ys) = qs) := hq
  have HR : Hid (dig (val xs % val ys) = rs) := hr
  clear hq hr
  go_enter Try.func53, Try.ntmps53
  go_wp2_with fail
  have HA : Hid (∀ t1 t2 xs1 xs2, Old w ((w.alloc (.cells xs1 t1)).alloc (.cells xs2 t2))) := fun t1 t2 xs1 xs2 => ((Old.refl w).alloc _).alloc _
  refine (div_any xs ys _ _ _ (HV.out.old (HA.out _ _ _ _)) (HU.out.old (HA.out _ _ _ _)) ha hb hl (by omega) (by omega)).mono ?_
  rintro e w2 ⟨v1, v2, rfl, g2, o1, o2⟩
  rw [HQ.out] at o1
  rw [HR.out] at o2
  obtain ⟨c1, cap2, rfl⟩ := (Own.row o1).sliceN
  obtain ⟨c2, cap3, rfl⟩ := (Own.row o2).sliceN
  have a0_ : w2.cell? ⟨w.heap.size, 0, none⟩ = some (Value.bool false) := (g2.cell (p := ⟨w.heap.size, 0, none⟩) (by simp; try omega)).trans (c2_0 _ _ _ _ _ _ )
  have q0_ : w2.cell? ⟨w.heap.size + 1, 0, none⟩ = some (Value.bool false) := (g2.cell (p := ⟨w.heap.size + 1, 0, none⟩) (by simp; try omega)).trans (c2_1 _ _ _ _ _ _ )
  have q1_ : w2.cell? ⟨w.heap.size + 1, 1, none⟩ = some (Value.slice none 0 0) := (g2.cell (p := ⟨w.heap.size + 1, 1, none⟩) (by simp; try omega)).trans (c2_1 _ _ _ _ _ _ )
  have f0_ : w2.frozen? ⟨w.heap.size + 1, 0, none⟩ = false := (g2.frozen (p := ⟨w.heap.size + 1, 0, none⟩) (by simp; try omega)).trans (f2_1 _ _ _ _ _ _ )
  have f1_ : w2.frozen? ⟨w.heap.size + 1, 1, none⟩ = false := (g2.frozen (p := ⟨w.heap.size + 1, 1, none⟩) (by simp; try omega)).trans (f2_1 _ _ _ _ _ _ )
  have HG2 : Hid (Old w w2) := Old.trans (HA.out _ _ _ _) g2
  have hsz : w.heap.size + 2 ≤ w2.heap.size := by have := g2.size; simp at this; omega
  have HO1 : Hid (Own w2 (w.heap.size + 2) (.slice c1 qs.length cap2) (toI qs)) := Own.low o1 (by simp)
  have HO2 : Hid (Own w2 (w.heap.size + 2) (.slice c2 rs.length cap3) (toI rs)) := Own.low o2 (by simp)
  clear g2 o1 o2 HA
  go_wp2_with fail
  refine bodyPost_ret (v := .tuple #[.agg #[.bool false, .slice c1 qs.length cap2], .slice c2 rs.length cap3]) (by simp [results, Try.results53, go_sem, q0_, q1_]) rfl ⟨_, _, rfl, ?_, ?_, ?_⟩
  · exact (HG2.out.own (p := ⟨w.heap.size + 1, 0, none⟩) (by simp) _).own (p := ⟨w.heap.size + 1, 1, none⟩) (by simp) _
  · refine Own.low (base := w.heap.size + 2) (ownsRow_setCell_other (ownsRow_setCell_other HO1.out (fun e => ?_) _) (fun e => ?_) _) (by omega)
    · have := (HO1.out.lt (w.heap.size + 1) e).1; omega
    · have := (HO1.out.lt (w.heap.size + 1) e).1; omega
  · refine Own.low (base := w.heap.size + 2) (ownsRow_setCell_other (ownsRow_setCell_other HO2.out (fun e => ?_) _) (fun e => ?_) _) (by omega)
    · have := (HO2.out.lt (w.heap.size + 1) e).1; omega
    · have := (HO2.out.lt (w.heap.size + 1) e).1; omega
set_option maxHeartbeats 4000000 in
theorem down_exact (xs ys : List Nat) (v u : Value) (w : World) (hv : Row w v (toI xs)) (hu : Row w u (toI ys)) (ha : Lim xs) (hb : Nrm ys) (hl : ys ≠ []) (la : xs.length ≤ 2000) (lb : ys.length ≤ 2000) (h0 : val xs % val ys = 0) :
    Calls Try.prog 53 #[.agg #[.bool true, v], u] w fun e w' => ∃ v1 v2, e = .returned (.tuple #[.agg #[.bool (decide (0 < (dig (val xs / val ys)).length)), v1], v2]) ∧ Old w w' ∧ Own w' w.heap.size v1 (toI (dig (val xs / val ys))) ∧ Own w' w.heap.size v2 (toI (dig 0)) := by
  have HV : Hid (Row w v (toI xs)) := hv
  have HU : Hid (Row w u (toI ys)) := hu
  obtain ⟨a0, cap0, rfl⟩ := hv.sliceN
  obtain ⟨a1, cap1, rfl⟩ := hu.sliceN
  clear hv hu
  have hD : 0 < val ys := by
    rcases Nat.eq_zero_or_pos (val ys) with h | h
    · exact absurd (val_zero_of hb h) hl
    · exact h
  have hql : (dig (val xs / val ys)).length ≤ 2000 := Nat.le_trans (dig_len_le (Nat.lt_of_le_of_lt (Nat.div_le_self _ _) (val_lt ha))) la
  have hrl : (dig (val xs % val ys)).length ≤ 2000 := Nat.le_trans (dig_len_le (Nat.lt_trans (Nat.mod_lt _ hD) (val_lt hb.1))) lb
  obtain ⟨qs, hq⟩ : ∃ qs, dig (val xs / val ys) = qs := ⟨_, rfl⟩
  obtain ⟨rs, hr⟩ : ∃ rs, dig (val xs % val ys) = rs := ⟨_, rfl⟩
  have e0 : dig 0 = rs := by rw [← hr, h0]
  rw [hq, e0]
  clear e0
  rw [hq] at hql
  rw [hr] at hrl
  have HQ : Hid (dig (val xs / val ys) = qs) := hq
  have HR : Hid (dig (val xs % val ys) = rs) := hr
  have hrs : rs = [] := by rw [← hr, h0, dig_zero]
  have hrs0 : rs.length = 0 := by rw [hrs]; rfl
  have HRS : Hid (rs.length = 0) := hrs0
  clear hq hr hrs h0
  have dr : decide (0 < rs.length) = false := decide_eq_false (by omega)
  clear hrs0
  go_enter Try.func53, Try.ntmps53
  go_wp2_with fail
  have HA : Hid (∀ t1 t2 xs1 xs2, Old w ((w.alloc (.cells xs1 t1)).alloc (.cells xs2 t2))) := fun t1 t2 xs1 xs2 => ((Old.refl w).alloc _).alloc _
  refine (div_any xs ys _ _ _ (HV.out.old (HA.out _ _ _ _)) (HU.out.old (HA.out _ _ _ _)) ha hb hl (by omega) (by omega)).mono ?_
  rintro e w2 ⟨v1, v2, rfl, g2, o1, o2⟩
  rw [HQ.out] at o1
  rw [HR.out] at o2
  obtain ⟨c1, cap2, rfl⟩ := (Own.row o1).sliceN
  obtain ⟨c2, cap3, rfl⟩ := (Own.row o2).sliceN
  have a0_ : w2.cell? ⟨w.heap.size, 0, none⟩ = some (Value.bool true) := (g2.cell (p := ⟨w.heap.size, 0, none⟩) (by simp; try omega)).trans (c2_0 _ _ _ _ _ _ )
  have q0_ : w2.cell? ⟨w.heap.size + 1, 0, none⟩ = some (Value.bool false) := (g2.cell (p := ⟨w.heap.size + 1, 0, none⟩) (by simp; try omega)).trans (c2_1 _ _ _ _ _ _ )
  have q1_ : w2.cell? ⟨w.heap.size + 1, 1, none⟩ = some (Value.slice none 0 0) := (g2.cell (p := ⟨w.heap.size + 1, 1, none⟩) (by simp; try omega)).trans (c2_1 _ _ _ _ _ _ )
  have f0_ : w2.frozen? ⟨w.heap.size + 1, 0, none⟩ = false := (g2.frozen (p := ⟨w.heap.size + 1, 0, none⟩) (by simp; try omega)).trans (f2_1 _ _ _ _ _ _ )
  have f1_ : w2.frozen? ⟨w.heap.size + 1, 1, none⟩ = false := (g2.frozen (p := ⟨w.heap.size + 1, 1, none⟩) (by simp; try omega)).trans (f2_1 _ _ _ _ _ _ )
  have HG2 : Hid (Old w w2) := Old.trans (HA.out _ _ _ _) g2
  have hsz : w.heap.size + 2 ≤ w2.heap.size := by have := g2.size; simp at this; omega
  have HO1 : Hid (Own w2 (w.heap.size + 2) (.slice c1 qs.length cap2) (toI qs)) := Own.low o1 (by simp)
  have HO2 : Hid (Own w2 (w.heap.size + 2) (.slice c2 rs.length cap3) (toI rs)) := Own.low o2 (by simp)
  clear g2 o1 o2 HA
  go_wp2_with fail
  refine bodyPost_ret (v := .tuple #[.agg #[.bool (decide (0 < qs.length)), .slice c1 qs.length cap2], .slice c2 rs.length cap3]) (by simp [results, Try.results53, go_sem, q0_, q1_]) rfl ⟨_, _, rfl, ?_, ?_, ?_⟩
  · exact (HG2.out.own (p := ⟨w.heap.size + 1, 0, none⟩) (by simp) _).own (p := ⟨w.heap.size + 1, 1, none⟩) (by simp) _
  · refine Own.low (base := w.heap.size + 2) (ownsRow_setCell_other (ownsRow_setCell_other HO1.out (fun e => ?_) _) (fun e => ?_) _) (by omega)
    · have := (HO1.out.lt (w.heap.size + 1) e).1; omega
    · have := (HO1.out.lt (w.heap.size + 1) e).1; omega
  · refine Own.low (base := w.heap.size + 2) (ownsRow_setCell_other (ownsRow_setCell_other HO2.out (fun e => ?_) _) (fun e => ?_) _) (by omega)
    · have := (HO2.out.lt (w.heap.size + 1) e).1; omega
    · have := (HO2.out.lt (w.heap.size + 1) e).1; omega
set_option maxHeartbeats 4000000 in
theorem down_up (xs ys : List Nat) (v u : Value) (w : World) (hv : Row w v (toI xs)) (hu : Row w u (toI ys)) (ha : Lim xs) (hb : Nrm ys) (hl : ys ≠ []) (la : xs.length ≤ 2000) (lb : ys.length ≤ 2000) (h0 : 0 < val xs % val ys) :
    Calls Try.prog 53 #[.agg #[.bool true, v], u] w fun e w' => ∃ v1 v2, e = .returned (.tuple #[.agg #[.bool true, v1], v2]) ∧ Old w w' ∧ Own w' w.heap.size v1 (toI (dig (val xs / val ys + 1))) ∧ Own w' w.heap.size v2 (toI (dig (val ys - val xs % val ys))) := by
  have HV : Hid (Row w v (toI xs)) := hv
  have HU : Hid (Row w u (toI ys)) := hu
  obtain ⟨a0, cap0, rfl⟩ := hv.sliceN
  obtain ⟨a1, cap1, rfl⟩ := hu.sliceN
  clear hv hu
  have hD : 0 < val ys := by
    rcases Nat.eq_zero_or_pos (val ys) with h | h
    · exact absurd (val_zero_of hb h) hl
    · exact h
  have hql : (dig (val xs / val ys)).length ≤ 2000 := Nat.le_trans (dig_len_le (Nat.lt_of_le_of_lt (Nat.div_le_self _ _) (val_lt ha))) la
  have hrl : (dig (val xs % val ys)).length ≤ 2000 := Nat.le_trans (dig_len_le (Nat.lt_trans (Nat.mod_lt _ hD) (val_lt hb.1))) lb
  obtain ⟨qs, hq⟩ : ∃ qs, dig (val xs / val ys) = qs := ⟨_, rfl⟩
  obtain ⟨rs, hr⟩ : ∃ rs, dig (val xs % val ys) = rs := ⟨_, rfl⟩
  rw [hq] at hql
  rw [hr] at hrl
  have HQ : Hid (dig (val xs / val ys) = qs) := hq
  have HR : Hid (dig (val xs % val ys) = rs) := hr
  have hrs : 0 < rs.length := by
    rcases Nat.eq_zero_or_pos rs.length with h | h
    · have := List.length_eq_zero_iff.1 h
      rw [← hr] at this
      have := dig_nil this
      omega
    · exact h
  have HQV : Hid (val qs = val xs / val ys ∧ Lim qs) := by rw [← hq]; exact ⟨val_dig _, dig_lim _⟩
  have HRV : Hid (val rs = val xs % val ys ∧ Nrm rs) := by rw [← hr]; exact ⟨val_dig _, dig_nrm _⟩
  have HLE : Hid (val rs ≤ val ys) := by have h1 := HRV.out.1; have h2 := Nat.mod_lt (val xs) hD; show val rs ≤ val ys; omega
  have dr : decide (0 < rs.length) = true := decide_eq_true hrs
  have hk1 : 0 < (dig (val xs / val ys + 1)).length := by
    rcases Nat.eq_zero_or_pos (dig (val xs / val ys + 1)).length with h | h
    · exact absurd (dig_nil (List.length_eq_zero_iff.1 h)) (Nat.succ_ne_zero _)
    · exact h
  have hk2 : (dig (val xs / val ys + 1)).length ≤ 2001 := by
    refine Nat.le_trans (dig_len_le (k := qs.length + 1) ?_) (by omega)
    have h1 := val_lt HQV.out.2
    have h2 := HQV.out.1
    have h4 : LB ^ qs.length * 2 ≤ LB ^ qs.length * LB := Nat.mul_le_mul (Nat.le_refl _) (by decide)
    rw [← h2, Nat.pow_succ]
    omega
  obtain ⟨ks, hk⟩ : ∃ ks, dig (val xs / val ys + 1) = ks := ⟨_, rfl⟩
  obtain ⟨ms, hm⟩ : ∃ ms, dig (val ys - val xs % val ys) = ms := ⟨_, rfl⟩
  rw [hk] at hk1 hk2 ⊢
  rw [hm]
  have HK : Hid (dig (val xs / val ys + 1) = ks) := hk
  have HM : Hid (dig (val ys - val xs % val ys) = ms) := hm
  have dk : decide (0 < ks.length) = true := decide_eq_true hk1
  clear hq hr hrs h0 hk hm hk1
  go_enter Try.func53, Try.ntmps53
  go_wp2_with fail
  have HA : Hid (∀ t1 t2 xs1 xs2, Old w ((w.alloc (.cells xs1 t1)).alloc (.cells xs2 t2))) := fun t1 t2 xs1 xs2 => ((Old.refl w).alloc _).alloc _
  refine (div_any xs ys _ _ _ (HV.out.old (HA.out _ _ _ _)) (HU.out.old (HA.out _ _ _ _)) ha hb hl (by omega) (by omega)).mono ?_
  rintro e w2 ⟨v1, v2, rfl, g2, o1, o2⟩
  rw [HQ.out] at o1
  rw [HR.out] at o2
  obtain ⟨c1, cap2, rfl⟩ := (Own.row o1).sliceN
  obtain ⟨c2, cap3, rfl⟩ := (Own.row o2).sliceN
  have a0_ : w2.cell? ⟨w.heap.size, 0, none⟩ = some (Value.bool true) := (g2.cell (p := ⟨w.heap.size, 0, none⟩) (by simp; try omega)).trans (c2_0 _ _ _ _ _ _ )
  have q0_ : w2.cell? ⟨w.heap.size + 1, 0, none⟩ = some (Value.bool false) := (g2.cell (p := ⟨w.heap.size + 1, 0, none⟩) (by simp; try omega)).trans (c2_1 _ _ _ _ _ _ )
  have q1_ : w2.cell? ⟨w.heap.size + 1, 1, none⟩ = some (Value.slice none 0 0) := (g2.cell (p := ⟨w.heap.size + 1, 1, none⟩) (by simp; try omega)).trans (c2_1 _ _ _ _ _ _ )
  have f0_ : w2.frozen? ⟨w.heap.size + 1, 0, none⟩ = false := (g2.frozen (p := ⟨w.heap.size + 1, 0, none⟩) (by simp; try omega)).trans (f2_1 _ _ _ _ _ _ )
  have f1_ : w2.frozen? ⟨w.heap.size + 1, 1, none⟩ = false := (g2.frozen (p := ⟨w.heap.size + 1, 1, none⟩) (by simp; try omega)).trans (f2_1 _ _ _ _ _ _ )
  have HG2 : Hid (Old w w2) := Old.trans (HA.out _ _ _ _) g2
  have hsz : w.heap.size + 2 ≤ w2.heap.size := by have := g2.size; simp at this; omega
  have HO1 : Hid (Own w2 (w.heap.size + 2) (.slice c1 qs.length cap2) (toI qs)) := Own.low o1 (by simp)
  have HO2 : Hid (Own w2 (w.heap.size + 2) (.slice c2 rs.length cap3) (toI rs)) := Own.low o2 (by simp)
  clear g2 o1 o2 HA
  go_wp2_with fail
  refine (add_any qs [1] _ _ _ ((Own.row HO1.out).old ((Old.refl _).alloc _)) (one_row w2 _) HQV.out.2 (Lim.cons (by decide) Lim.nil) (by omega) (by simp)).mono ?_
  rintro e w3 ⟨v3, rfl, g3, o3⟩
  have e3 : dig (val qs + val [1]) = ks := by rw [← HK.out, HQV.out.1]; simp [val]
  rw [e3] at o3
  obtain ⟨c3, cap4, rfl⟩ := (Own.row o3).sliceN
  have g23 : Old w2 w3 := Old.trans ((Old.refl _).alloc _) g3
  have HG3 : Hid (Old w w3) := Old.trans HG2.out g23
  have HO3 : Hid (Own w3 (w.heap.size + 2) (.slice c3 ks.length cap4) (toI ks)) := Own.low o3 (by simp; omega)
  have HO4 : Hid (Own w3 (w.heap.size + 2) (.slice c2 rs.length cap3) (toI rs)) := HO2.out.old g23
  have hsz3 : w.heap.size + 2 ≤ w3.heap.size := by have := g23.size; omega
  have q0y := (g23.cell (p := ⟨w.heap.size + 1, 0, none⟩) (by show w.heap.size + 1 < w2.heap.size; omega)).trans q0_
  have q1y := (g23.cell (p := ⟨w.heap.size + 1, 1, none⟩) (by show w.heap.size + 1 < w2.heap.size; omega)).trans q1_
  have f0y := (g23.frozen (p := ⟨w.heap.size + 1, 0, none⟩) (by show w.heap.size + 1 < w2.heap.size; omega)).trans f0_
  have f1y := (g23.frozen (p := ⟨w.heap.size + 1, 1, none⟩) (by show w.heap.size + 1 < w2.heap.size; omega)).trans f1_
  clear o3 g3 e3 HO1 HO2 HG2 g23
  go_wp2_with fail
  refine (sub_any ys rs _ _ _ (HU.out.old HG3.out) (Own.row HO4.out) hb HRV.out.2 (by omega) (by omega) HLE.out).mono ?_
  rintro e w4 ⟨v4, rfl, g4, o4⟩
  have e4 : dig (val ys - val rs) = ms := by rw [← HM.out, HRV.out.1]
  rw [e4] at o4
  obtain ⟨c4, cap5, rfl⟩ := (Own.row o4).sliceN
  have HG4 : Hid (Old w w4) := Old.trans HG3.out g4
  have HO5 : Hid (Own w4 (w.heap.size + 2) (.slice c3 ks.length cap4) (toI ks)) := HO3.out.old g4
  have HO6 : Hid (Own w4 (w.heap.size + 2) (.slice c4 ms.length cap5) (toI ms)) := Own.low o4 (by omega)
  have q0z := (g4.cell (p := ⟨w.heap.size + 1, 0, none⟩) (by show w.heap.size + 1 < w3.heap.size; omega)).trans q0y
  have q1z := (g4.cell (p := ⟨w.heap.size + 1, 1, none⟩) (by show w.heap.size + 1 < w3.heap.size; omega)).trans q1y
  have f0z := (g4.frozen (p := ⟨w.heap.size + 1, 0, none⟩) (by show w.heap.size + 1 < w3.heap.size; omega)).trans f0y
  have f1z := (g4.frozen (p := ⟨w.heap.size + 1, 1, none⟩) (by show w.heap.size + 1 < w3.heap.size; omega)).trans f1y
  clear o4 g4 e4 HO3 HO4 HG3
  go_wp2_with fail
  refine bodyPost_ret (v := .tuple #[.agg #[.bool true, .slice c3 ks.length cap4], .slice c4 ms.length cap5]) (by simp [results, Try.results53, go_sem, q0z, q1z]) rfl ⟨_, _, rfl, ?_, ?_, ?_⟩
  · exact (HG4.out.own (p := ⟨w.heap.size + 1, 0, none⟩) (by simp) _).own (p := ⟨w.heap.size + 1, 1, none⟩) (by simp) _
  · refine Own.low (base := w.heap.size + 2) (ownsRow_setCell_other (ownsRow_setCell_other HO5.out (fun e => ?_) _) (fun e => ?_) _) (by omega)
    · have := (HO5.out.lt (w.heap.size + 1) e).1; omega
    · have := (HO5.out.lt (w.heap.size + 1) e).1; omega
  · refine Own.low (base := w.heap.size + 2) (ownsRow_setCell_other (ownsRow_setCell_other HO6.out (fun e => ?_) _) (fun e => ?_) _) (by omega)
    · have := (HO6.out.lt (w.heap.size + 1) e).1; omega
    · have := (HO6.out.lt (w.heap.size + 1) e).1; omega
end Go.Proofs.Ytimmcijoebmaiaa
/- Proved: contracts of the model's nearest quotient, of words as whole numbers, of what is left by a word and of comparing, by what the numbers are worth. -/
namespace Go.Proofs.Ytimmcijoebmaiaa
open Go.ChangeShapes Go.WideShapes Go.ChangeAt Go.RowKit
open M2
set_option linter.unusedVariables false
set_option linter.unusedSimpArgs false
theorem nrm_pos {ys : List Nat} (hb : Nrm ys) (hl : ys ≠ []) : 0 < val ys := by
  rcases Nat.eq_zero_or_pos (val ys) with h | h
  · exact absurd (val_zero_of hb h) hl
  · exact h
theorem down_any (n : Bool) (xs ys : List Nat) (v u : Value) (w : World) (hv : Row w v (toI xs)) (hu : Row w u (toI ys)) (ha : Lim xs) (hb : Nrm ys) (hl : ys ≠ []) (la : xs.length ≤ 2000) (lb : ys.length ≤ 2000) :
    Calls Try.prog 53 #[.agg #[.bool n, v], u] w fun e w' => ∃ v1 v2, e = .returned (.tuple #[.agg #[.bool (ng (sv n xs / (val ys : Int))), v1], v2]) ∧ Old w w' ∧ Own w' w.heap.size v1 (toI (dg (sv n xs / (val ys : Int)))) ∧ Own w' w.heap.size v2 (toI (dig (sv n xs % (val ys : Int)).toNat)) := by
  have hD := nrm_pos hb hl
  cases n with
  | false =>
    obtain ⟨e1, e2, e3⟩ := down_pos_eq xs (val ys) hD
    rw [← e1, ← e2, ← e3]
    exact down_pos xs ys v u w hv hu ha hb hl la lb
  | true =>
    rcases Nat.eq_zero_or_pos (val xs % val ys) with h0 | h0
    · obtain ⟨e1, e2, e3⟩ := down_exact_eq xs (val ys) hD h0
      rw [← e1, ← e2, ← e3]
      exact down_exact xs ys v u w hv hu ha hb hl la lb h0
    · obtain ⟨e1, e2, e3⟩ := down_up_eq xs (val ys) hD h0
      rw [← e1, ← e2, ← e3]
      exact down_up xs ys v u w hv hu ha hb hl la lb h0
def cmpI (x y : Int) : Int := if x < y then -1 else if y < x then 1 else 0
set_option maxHeartbeats 4000000 in
theorem compare_any (n m : Bool) (xs ys : List Nat) (v u : Value) (w : World) (hv : Row w v (toI xs)) (hu : Row w u (toI ys)) (ha : Gw n xs) (hb : Gw m ys) (la : xs.length ≤ 2000) (lb : ys.length ≤ 2000) :
    Calls Try.prog 33 #[.agg #[.bool n, v], .agg #[.bool m, u]] w fun e w' => e = .returned (.int .i64 (cmpI (sv n xs) (sv m ys))) ∧ Old w w' := by
  have HV : Hid (Row w v (toI xs)) := hv
  have HU : Hid (Row w u (toI ys)) := hu
  obtain ⟨a0, cap0, rfl⟩ := hv.sliceN
  obtain ⟨a1, cap1, rfl⟩ := hu.sliceN
  clear hv hu
  have HA : Hid (∀ t1 t2 xs1 xs2, Old w ((w.alloc (.cells xs1 t1)).alloc (.cells xs2 t2))) := fun t1 t2 xs1 xs2 => ((Old.refl w).alloc _).alloc _
  have pa := ha.pos
  have pb := hb.pos
  cases n with
  | false =>
    cases m with
    | false =>
      have e : cmpI (sv false xs) (sv false ys) = cmpN (val xs) (val ys) := by unfold cmpI cmpN sv; simp
      rw [e]
      clear e
      go_enter Try.func33, Try.ntmps33
      go_wp2_with fail
      refine (cmp_any xs ys _ _ _ (HV.out.old (HA.out _ _ _ _)) (HU.out.old (HA.out _ _ _ _)) ha.1 hb.1 (by omega) (by omega)).mono ?_
      rintro e w2 ⟨rfl, g2⟩
      have HG : Hid (Old w w2) := Old.trans (HA.out _ _ _ _) g2
      clear g2
      go_wp2_with fail
      go_ret
      exact ⟨rfl, HG.out⟩
    | true =>
      have e : cmpI (sv false xs) (sv true ys) = 1 := by
        have := pb rfl
        unfold cmpI sv
        simp only [Bool.false_eq_true, if_false, if_true]
        rw [if_neg (by omega), if_pos (by omega)]
      rw [e]
      clear e
      go_enter Try.func33, Try.ntmps33
      go_wp2_with fail
      go_ret
      exact ⟨rfl, HA.out _ _ _ _⟩
  | true =>
    cases m with
    | false =>
      have e : cmpI (sv true xs) (sv false ys) = -1 := by
        have := pa rfl
        unfold cmpI sv
        simp only [Bool.false_eq_true, if_false, if_true]
        rw [if_pos (by omega)]
      rw [e]
      clear e
      go_enter Try.func33, Try.ntmps33
      go_wp2_with fail
      go_ret
      exact ⟨rfl, HA.out _ _ _ _⟩
    | true =>
      have e : cmpI (sv true xs) (sv true ys) = cmpN (val ys) (val xs) := by
        unfold cmpI cmpN sv
        simp only [if_true]
        rcases Nat.lt_trichotomy (val xs) (val ys) with h | h | h
        · rw [if_neg (by omega), if_pos (by omega), if_neg (by omega), if_pos h]
        · rw [if_neg (by omega), if_neg (by omega), if_neg (by omega), if_neg (by omega)]
        · rw [if_pos (by omega), if_pos h]
      rw [e]
      clear e
      go_enter Try.func33, Try.ntmps33
      go_wp2_with fail
      refine (cmp_any ys xs _ _ _ (HU.out.old (HA.out _ _ _ _)) (HV.out.old (HA.out _ _ _ _)) hb.1 ha.1 (by omega) (by omega)).mono ?_
      rintro e w2 ⟨rfl, g2⟩
      have HG : Hid (Old w w2) := Old.trans (HA.out _ _ _ _) g2
      clear g2
      go_wp2_with fail
      go_ret
      exact ⟨rfl, HG.out⟩
end Go.Proofs.Ytimmcijoebmaiaa
/- Proved: contracts of the model's whole number of a word and of its nearest quotient, by what the numbers are worth. -/
namespace Go.Proofs.Ytimmcijoebmaiaa
open Go.ChangeShapes Go.WideShapes Go.ChangeAt Go.RowKit
open M2
set_option linter.unusedVariables false
set_option linter.unusedSimpArgs false
theorem two_row (w : World) (t : TypeId) : Row (w.alloc (.cells #[.int .i64 2] t)) (.slice (some ⟨w.heap.size, 0, none⟩) 1 1) (toI [2]) :=
  Or.inr ⟨w.heap.size, 0, 1, rfl, by simp, by simp [toI], fun j hj => by
    have : j = 0 := by simp [toI] at hj; omega
    subst this
    rw [cell_at _ _ _ _ _ (by simp)]
    rfl⟩
theorem dg_len {z : Int} {k : Nat} (h : z.natAbs < LB ^ k) : (dg z).length ≤ k := dig_len_le h
theorem sv_abs (n : Bool) (xs : List Nat) : (sv n xs).natAbs = val xs := by cases n <;> simp [sv]
set_option maxHeartbeats 4000000 in
theorem near_any (n : Bool) (xs ys : List Nat) (v u : Value) (w : World) (hv : Row w v (toI xs)) (hu : Row w u (toI ys)) (ha : Gw n xs) (hb : Nrm ys) (hl : ys ≠ []) (la : xs.length ≤ 500) (lb : ys.length ≤ 500) :
    Calls Try.prog 27 #[.agg #[.bool n, v], u] w fun e w' => ∃ v', e = .returned (.agg #[.bool (ng ((2 * sv n xs + (val ys : Int)) / (2 * (val ys : Int)))), v']) ∧ Old w w' ∧ Own w' w.heap.size v' (toI (dg ((2 * sv n xs + (val ys : Int)) / (2 * (val ys : Int))))) := by
  have HV : Hid (Row w v (toI xs)) := hv
  have HU : Hid (Row w u (toI ys)) := hu
  obtain ⟨a0, cap0, rfl⟩ := hv.sliceN
  obtain ⟨a1, cap1, rfl⟩ := hu.sliceN
  clear hv hu
  have hD := nrm_pos hb hl
  -- the numbers on the way
  obtain ⟨z1, hz1⟩ : ∃ z1, z1 = sv n xs * sv false [2] := ⟨_, rfl⟩
  have ez1 : z1 = 2 * sv n xs := by rw [hz1]; simp [sv, val]; omega
  obtain ⟨z2, hz2⟩ : ∃ z2, z2 = sv (ng z1) (dg z1) + sv false ys := ⟨_, rfl⟩
  have ez2 : z2 = 2 * sv n xs + (val ys : Int) := by rw [hz2, sv_of, ez1]; simp [sv]
  have e2 : val [2] = 2 := by simp [val]
  have ed : (val (dig (val ys * val [2])) : Int) = 2 * (val ys : Int) := by rw [val_dig, e2]; simp; omega
  obtain ⟨z3, hz3⟩ : ∃ z3, z3 = sv (ng z2) (dg z2) / (val (dig (val ys * val [2])) : Int) := ⟨_, rfl⟩
  have ez3 : (2 * sv n xs + (val ys : Int)) / (2 * (val ys : Int)) = z3 := by rw [hz3, sv_of, ez2, ed]
  rw [ez3]
  have hpow : ∀ k, LB ^ k * 4 ≤ LB ^ (k + 1) := fun k => by rw [Nat.pow_succ]; exact Nat.mul_le_mul (Nat.le_refl _) (by decide)
  have hvx := val_lt ha.1.1
  have hvy := val_lt hb.1
  have hl1 : (dg z1).length ≤ 501 := by
    refine Nat.le_trans (dg_len (k := xs.length + 1) ?_) (by omega)
    have := hpow xs.length
    rw [ez1, Int.natAbs_mul, sv_abs]
    simp
    omega
  have hl2 : (dg z2).length ≤ 1002 := by
    refine Nat.le_trans (dg_len (k := (xs.length + ys.length) + 1) ?_) (by omega)
    have h1 := hpow (xs.length + ys.length)
    have h2 : LB ^ xs.length ≤ LB ^ (xs.length + ys.length) := Nat.pow_le_pow_right LB_pos (by omega)
    have h3 : LB ^ ys.length ≤ LB ^ (xs.length + ys.length) := Nat.pow_le_pow_right LB_pos (by omega)
    have h4 := sv_abs n xs
    rw [ez2]
    omega
  have hl3 : (dig (val ys * val [2])).length ≤ 501 := by
    refine Nat.le_trans (dig_len_le (k := ys.length + 1) ?_) (by omega)
    have := hpow ys.length
    rw [e2]
    omega
  have hne3 : dig (val ys * val [2]) ≠ [] := dig_ne (by rw [e2]; omega)
  have hl4 : (dg z3).length ≤ 1000000 := by
    refine Nat.le_trans (dg_len (k := ((xs.length + ys.length) + 1) + 1) ?_) (by omega)
    have h1 := hpow (xs.length + ys.length)
    have h2 : LB ^ xs.length ≤ LB ^ (xs.length + ys.length) := Nat.pow_le_pow_right LB_pos (by omega)
    have h3 : LB ^ ys.length ≤ LB ^ (xs.length + ys.length) := Nat.pow_le_pow_right LB_pos (by omega)
    have h4 := sv_abs n xs
    have h5 := hpow (xs.length + ys.length + 1)
    have h6 : z3.natAbs ≤ z2.natAbs + 1 := by
      rw [hz3, sv_of, ed]
      have hp : (0 : Int) < 2 * (val ys : Int) := by omega
      have a1 := Int.emod_nonneg z2 (show 2 * (val ys : Int) ≠ 0 by omega)
      have a2 := Int.emod_lt_of_pos z2 hp
      have a3 := Int.mul_ediv_add_emod z2 (2 * (val ys : Int))
      generalize z2 / (2 * (val ys : Int)) = q at *
      generalize z2 % (2 * (val ys : Int)) = r at *
      rcases Int.lt_trichotomy q 0 with hq | hq | hq
      · have : 2 * (val ys : Int) * q ≤ 2 * (val ys : Int) * (-1) := Int.mul_le_mul_of_nonneg_left (by omega) (by omega)
        have b1 : 2 * (val ys : Int) * (q + 1) ≤ 1 * (q + 1) := Int.mul_le_mul_of_nonpos_right (by omega) (by omega)
        rw [Int.mul_add] at b1
        omega
      · subst hq; omega
      · have b1 : 1 * q ≤ 2 * (val ys : Int) * q := Int.mul_le_mul_of_nonneg_right (by omega) (by omega)
        omega
    have h7 : z2.natAbs ≤ 2 * val xs + val ys := by rw [ez2]; omega
    omega
  have Z1 : Hid (z1 = sv n xs * sv false [2]) := hz1
  have Z2 : Hid (z2 = sv (ng z1) (dg z1) + sv false ys) := hz2
  have Z3 : Hid (z3 = sv (ng z2) (dg z2) / (val (dig (val ys * val [2])) : Int)) := hz3
  have HD3 : Hid (dig (val ys * val [2]) ≠ []) := hne3
  clear hz1 hz2 hz3 ez1 ez2 ez3 ed e2 hpow hvx hvy hne3
  obtain ⟨ds, hds⟩ : ∃ ds, ds = dig (val ys * val [2]) := ⟨_, rfl⟩
  have HDS : Hid (ds = dig (val ys * val [2])) := hds
  rw [← hds] at hl3
  clear hds
  go_enter Try.func27, Try.ntmps27
  go_wp2_with fail
  have HA : Hid (∀ t1 t2 t3 xs1 xs2 xs3, Old w (((w.alloc (.cells xs1 t1)).alloc (.cells xs2 t2)).alloc (.cells xs3 t3))) := fun t1 t2 t3 xs1 xs2 xs3 => (((Old.refl w).alloc _).alloc _).alloc _
  refine (times_any n false xs [2] _ _ _ (HV.out.old (HA.out _ _ _ _ _ _)) (by have := two_row ((w.alloc (.cells #[Value.bool n, Value.slice a0 xs.length cap0] 53)).alloc (.cells #[Value.bool false, Value.slice none 0 0] 53)) 3; simp at this; exact this) ha.1.1 (Lim.cons (by decide) Lim.nil) (by omega) (by simp)).mono ?_
  rw [← Z1.out]
  rintro e w5 ⟨v5, rfl, g5, o5⟩
  obtain ⟨a5, cap5, rfl⟩ := (Own.row o5).sliceN
  have q0 : w5.cell? ⟨w.heap.size + 1, 0, none⟩ = some (Value.bool false) := (g5.cell (p := ⟨w.heap.size + 1, 0, none⟩) (by simp; try omega)).trans (c3_1 _ _ _ _ _ _ _ _ )
  have q1 : w5.cell? ⟨w.heap.size + 1, 1, none⟩ = some (Value.slice none 0 0) := (g5.cell (p := ⟨w.heap.size + 1, 1, none⟩) (by simp; try omega)).trans (c3_1 _ _ _ _ _ _ _ _ )
  have f0 : w5.frozen? ⟨w.heap.size + 1, 0, none⟩ = false := (g5.frozen (p := ⟨w.heap.size + 1, 0, none⟩) (by simp; try omega)).trans (f3_1 _ _ _ _ _ _ _ _ )
  have f1 : w5.frozen? ⟨w.heap.size + 1, 1, none⟩ = false := (g5.frozen (p := ⟨w.heap.size + 1, 1, none⟩) (by simp; try omega)).trans (f3_1 _ _ _ _ _ _ _ _ )
  have hs5 : w.heap.size + 3 ≤ w5.heap.size := by have := g5.size; simp at this; omega
  have HG5 : Hid (Old w w5) := Old.trans (HA.out _ _ _ _ _ _) g5
  have HR5 : Hid (Row w5 (.slice a5 (dg z1).length cap5) (toI (dg z1))) := Own.row o5
  clear g5 o5 HA
  go_wp2_with fail
  refine (plus_any (ng z1) false (dg z1) ys _ _ _ (HR5.out.old ((Old.refl _).alloc _)) (HU.out.old (HG5.out.alloc _)) (gw_of z1) ⟨hb, fun h => by cases h⟩ (by omega) (by omega)).mono ?_
  rw [← Z2.out]
  rintro e w6 ⟨v6, rfl, g6, o6⟩
  obtain ⟨a6, cap6, rfl⟩ := (Own.row o6).sliceN
  have g56 : Old w5 w6 := Old.trans ((Old.refl _).alloc _) g6
  have q0f := (g56.cell (p := ⟨w.heap.size + 1, 0, none⟩) (by show w.heap.size + 1 < w5.heap.size; omega)).trans q0
  have q1f := (g56.cell (p := ⟨w.heap.size + 1, 1, none⟩) (by show w.heap.size + 1 < w5.heap.size; omega)).trans q1
  have f0f := (g56.frozen (p := ⟨w.heap.size + 1, 0, none⟩) (by show w.heap.size + 1 < w5.heap.size; omega)).trans f0
  have f1f := (g56.frozen (p := ⟨w.heap.size + 1, 1, none⟩) (by show w.heap.size + 1 < w5.heap.size; omega)).trans f1
  have HG6 : Hid (Old w w6) := Old.trans HG5.out g56
  have hs6 : w.heap.size + 3 ≤ w6.heap.size := by have := g56.size; omega
  have HR6 : Hid (Row w6 (.slice a6 (dg z2).length cap6) (toI (dg z2))) := Own.row o6
  clear g6 g56 o6 HR5 HG5
  go_wp2_with fail
  refine (mul_any ys [2] _ _ _ (HU.out.old (HG6.out.alloc _)) (two_row w6 _) hb.1 (Lim.cons (by decide) Lim.nil) (by omega) (by simp)).mono ?_
  rintro e w7 ⟨v7, rfl, g7, o7⟩
  rw [← HDS.out] at o7
  obtain ⟨a7, cap7, rfl⟩ := (Own.row o7).sliceN
  have g67 : Old w6 w7 := Old.trans ((Old.refl _).alloc _) g7
  have q0g := (g67.cell (p := ⟨w.heap.size + 1, 0, none⟩) (by show w.heap.size + 1 < w6.heap.size; omega)).trans q0f
  have q1g := (g67.cell (p := ⟨w.heap.size + 1, 1, none⟩) (by show w.heap.size + 1 < w6.heap.size; omega)).trans q1f
  have f0g := (g67.frozen (p := ⟨w.heap.size + 1, 0, none⟩) (by show w.heap.size + 1 < w6.heap.size; omega)).trans f0f
  have f1g := (g67.frozen (p := ⟨w.heap.size + 1, 1, none⟩) (by show w.heap.size + 1 < w6.heap.size; omega)).trans f1f
  have HG7 : Hid (Old w w7) := Old.trans HG6.out g67
  have hs7 : w.heap.size + 3 ≤ w7.heap.size := by have := g67.size; omega
  have HR7 : Hid (Row w7 (.slice a6 (dg z2).length cap6) (toI (dg z2))) := HR6.out.old g67
  have HD7 : Hid (Row w7 (.slice a7 ds.length cap7) (toI ds)) := Own.row o7
  clear g7 g67 o7 HR6 HG6
  go_wp2_with fail
  refine (down_any (ng z2) (dg z2) ds _ _ _ HR7.out HD7.out (gw_of z2).1.1 (by rw [HDS.out]; exact dig_nrm _) (by rw [HDS.out]; exact HD3.out) (by omega) (by omega)).mono ?_
  rw [HDS.out, ← Z3.out]
  rintro e w8 ⟨v8, v9, rfl, g8, o8, o9⟩
  obtain ⟨a8, cap8, rfl⟩ := (Own.row o8).sliceN
  obtain ⟨a9, cap9, rfl⟩ := (Own.row o9).sliceN
  have q0h := (g8.cell (p := ⟨w.heap.size + 1, 0, none⟩) (by show w.heap.size + 1 < w7.heap.size; omega)).trans q0g
  have q1h := (g8.cell (p := ⟨w.heap.size + 1, 1, none⟩) (by show w.heap.size + 1 < w7.heap.size; omega)).trans q1g
  have f0h := (g8.frozen (p := ⟨w.heap.size + 1, 0, none⟩) (by show w.heap.size + 1 < w7.heap.size; omega)).trans f0g
  have f1h := (g8.frozen (p := ⟨w.heap.size + 1, 1, none⟩) (by show w.heap.size + 1 < w7.heap.size; omega)).trans f1g
  have HG8 : Hid (Old w w8) := Old.trans HG7.out g8
  have hs8 : w.heap.size + 3 ≤ w8.heap.size := by have := g8.size; omega
  have HO8 : Hid (Own w8 (w.heap.size + 3) (.slice a8 (dg z3).length cap8) (toI (dg z3))) := Own.low o8 hs7
  clear g8 o8 o9 HR7 HD7 HG7
  have q0k : (w8.alloc (.cells #[Value.bool (ng z3), Value.slice a8 (dg z3).length cap8] 53)).cell? ⟨w.heap.size + 1, 0, none⟩ = some (Value.bool false) := (cell_lt _ _ _ _ (by omega)).trans q0h
  have q1k : (w8.alloc (.cells #[Value.bool (ng z3), Value.slice a8 (dg z3).length cap8] 53)).cell? ⟨w.heap.size + 1, 1, none⟩ = some (Value.slice none 0 0) := (cell_lt _ _ _ _ (by omega)).trans q1h
  have f0k : (w8.alloc (.cells #[Value.bool (ng z3), Value.slice a8 (dg z3).length cap8] 53)).frozen? ⟨w.heap.size + 1, 0, none⟩ = false := (fro_lt _ _ _ _ (by omega)).trans f0h
  have f1k : (w8.alloc (.cells #[Value.bool (ng z3), Value.slice a8 (dg z3).length cap8] 53)).frozen? ⟨w.heap.size + 1, 1, none⟩ = false := (fro_lt _ _ _ _ (by omega)).trans f1h
  go_wp2_with fail
  refine bodyPost_ret (v := .agg #[.bool (ng z3), .slice a8 (dg z3).length cap8]) (by simp [results, Try.results27, go_sem, q0k, q1k]) rfl ⟨_, rfl, ?_, ?_⟩
  · exact ((HG8.out.alloc _).own (p := ⟨w.heap.size + 1, 0, none⟩) (by simp) _).own (p := ⟨w.heap.size + 1, 1, none⟩) (by simp) _
  · refine Own.low (base := w.heap.size + 3) (ownsRow_setCell_other (ownsRow_setCell_other (HO8.out.alloc _) (fun e => ?_) _) (fun e => ?_) _) (by omega)
    · have := (HO8.out.lt (w.heap.size + 1) e).1; omega
    · have := (HO8.out.lt (w.heap.size + 1) e).1; omega
end Go.Proofs.Ytimmcijoebmaiaa
