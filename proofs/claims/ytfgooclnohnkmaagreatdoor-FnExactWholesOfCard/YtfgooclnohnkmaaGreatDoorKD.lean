/- Proved: several texts in one: what each proves is said ahead of it. -/
import Derived.Test.YtfgooclnohnkmaaGreatDoorNI
import Derived.Deep.RegionWith
import Derived.Test.YtfgooclnohnkmaaGreatDoorK0
import Derived.Deep.RegionLawGrows
/- Proved: contracts of the model's functions on whole numbers of any length. -/
namespace Go.Proofs.YtfgooclnohnkmaaGreatDoor
open Go.ChangeShapes Go.WideShapes Go.ChangeAt Go.RowKit
open M2
set_option linter.unusedVariables false
set_option linter.unusedSimpArgs false
/-- what a sign and limbs are worth -/
def sv (neg : Bool) (xs : List Nat) : Int := if neg then -(val xs : Int) else (val xs : Int)
/-- a sign and limbs as they should be -/
def Gw (neg : Bool) (xs : List Nat) : Prop := Nrm xs ∧ (neg = true → xs ≠ [])
def ng (z : Int) : Bool := decide (z < 0)
def dg (z : Int) : List Nat := dig z.natAbs
theorem Gw.pos {neg : Bool} {xs : List Nat} (h : Gw neg xs) (hn : neg = true) : 0 < val xs := by
  rcases Nat.eq_zero_or_pos (val xs) with h0 | h0
  · exact absurd (val_zero_of h.1 h0) (h.2 hn)
  · exact h0
theorem gw_of (z : Int) : Gw (ng z) (dg z) := by
  refine ⟨dig_nrm _, fun h => dig_ne ?_⟩
  simp [ng] at h
  omega
theorem sv_of (z : Int) : sv (ng z) (dg z) = z := by
  unfold sv ng dg
  rw [val_dig]
  by_cases h : z < 0
  · simp [h]; omega
  · simp [h]; omega
theorem of_sv {neg : Bool} {xs : List Nat} (h : Gw neg xs) : ng (sv neg xs) = neg ∧ dg (sv neg xs) = xs := by
  cases neg
  · unfold sv ng dg
    simp
    exact dig_val h.1
  · have := h.pos rfl
    unfold sv ng dg
    simp
    exact ⟨by omega, dig_val h.1⟩
set_option maxHeartbeats 4000000 in
theorem plus_same (n : Bool) (xs ys : List Nat) (v u : Value) (w : World) (hv : Row w v (toI xs)) (hu : Row w u (toI ys)) (ha : Lim xs) (hb : Lim ys) (la : xs.length ≤ 1048576) (lb : ys.length ≤ 1048576) :
    Calls Tryz.prog 80 #[.agg #[.bool n, v], .agg #[.bool n, u]] w fun e w' => ∃ v', e = .returned (.agg #[.bool n, v']) ∧ Old w w' ∧ Own w' w.heap.size v' (toI (dig (val xs + val ys))) := by
  have HV : Hid (Row w v (toI xs)) := hv
  have HU : Hid (Row w u (toI ys)) := hu
  obtain ⟨a0, cap0, rfl⟩ := hv.sliceN
  obtain ⟨a1, cap1, rfl⟩ := hu.sliceN
  clear hv hu
  have dn : (n == n) = true := by simp
  go_enter Tryz.func80, Tryz.ntmps80
  go_wp2_with fail
  have HA : Hid (∀ t1 t2 t3 xs1 xs2 xs3, Old w (((w.alloc (.cells xs1 t1)).alloc (.cells xs2 t2)).alloc (.cells xs3 t3))) := fun t1 t2 t3 xs1 xs2 xs3 => (((Old.refl w).alloc _).alloc _).alloc _
  go_region_with (go_at_call 123; refine (add_any xs ys _ _ _ (HV.out.old ((HA.out _ _ _ _ _ _).drewN 1)) (HU.out.old ((HA.out _ _ _ _ _ _).drewN 1)) ha hb la lb).mono ?_; rintro e w5 ⟨v5, rfl, g5, o5⟩; obtain ⟨a5, cap5, rfl⟩ := (Own.row o5).sliceN; have a0_ : w5.cell? ⟨w.heap.size, 0, none⟩ = some (Value.bool n) := (g5.cell (p := ⟨w.heap.size, 0, none⟩) (by simp; try omega)).trans (c3_0 _ _ _ _ _ _ _ _ ); have a1_ : w5.cell? ⟨w.heap.size, 1, none⟩ = some (Value.slice a0 xs.length cap0) := (g5.cell (p := ⟨w.heap.size, 1, none⟩) (by simp; try omega)).trans (c3_0 _ _ _ _ _ _ _ _ ); have b0_ : w5.cell? ⟨w.heap.size + 1, 0, none⟩ = some (Value.bool n) := (g5.cell (p := ⟨w.heap.size + 1, 0, none⟩) (by simp; try omega)).trans (c3_1 _ _ _ _ _ _ _ _ ); have b1_ : w5.cell? ⟨w.heap.size + 1, 1, none⟩ = some (Value.slice a1 ys.length cap1) := (g5.cell (p := ⟨w.heap.size + 1, 1, none⟩) (by simp; try omega)).trans (c3_1 _ _ _ _ _ _ _ _ ); have q0 : w5.cell? ⟨w.heap.size + 1 + 1, 0, none⟩ = some (Value.bool false) := (g5.cell (p := ⟨w.heap.size + 1 + 1, 0, none⟩) (by simp; try omega)).trans (c3_2 _ _ _ _ _ _ _ _ ); have q1 : w5.cell? ⟨w.heap.size + 1 + 1, 1, none⟩ = some (Value.slice none 0 0) := (g5.cell (p := ⟨w.heap.size + 1 + 1, 1, none⟩) (by simp; try omega)).trans (c3_2 _ _ _ _ _ _ _ _ ); have f0 : w5.frozen? ⟨w.heap.size + 1 + 1, 0, none⟩ = false := (g5.frozen (p := ⟨w.heap.size + 1 + 1, 0, none⟩) (by simp; try omega)).trans (f3_2 _ _ _ _ _ _ _ _ ); have f1 : w5.frozen? ⟨w.heap.size + 1 + 1, 1, none⟩ = false := (g5.frozen (p := ⟨w.heap.size + 1 + 1, 1, none⟩) (by simp; try omega)).trans (f3_2 _ _ _ _ _ _ _ _ ); have HG5 : Hid (Old w w5) := Old.trans ((HA.out _ _ _ _ _ _).drewN 1) g5; have HO5 : Hid (Own w5 (w.heap.size + 3) (.slice a5 (dig (val xs + val ys)).length cap5) (toI (dig (val xs + val ys)))) := Own.low o5 (by simp); clear g5 o5)
  all_goals
    go_wp2_with fail
    refine bodyPost_ret (v := .agg #[.bool n, .slice a5 (dig (val xs + val ys)).length cap5]) (by simp [results, Tryz.results80, go_sem, q0, q1]) rfl ⟨_, rfl, ?_, ?_⟩
    · exact (HG5.out.own (p := ⟨w.heap.size + 1 + 1, 0, none⟩) (by simp; omega) _).own (p := ⟨w.heap.size + 1 + 1, 1, none⟩) (by simp; omega) _
    · refine Own.low (base := w.heap.size + 3) (ownsRow_setCell_other (ownsRow_setCell_other HO5.out (fun e => ?_) _) (fun e => ?_) _) (by omega)
      · have := (HO5.out.lt (w.heap.size + 1 + 1) e).1; omega
      · have := (HO5.out.lt (w.heap.size + 1 + 1) e).1; omega
end Go.Proofs.YtfgooclnohnkmaaGreatDoor
/- Proved: contracts of the model's sum of whole numbers of two signs. -/
namespace Go.Proofs.YtfgooclnohnkmaaGreatDoor
open Go.ChangeShapes Go.WideShapes Go.ChangeAt Go.RowKit
open M2
set_option linter.unusedVariables false
set_option linter.unusedSimpArgs false
set_option maxHeartbeats 4000000 in
theorem plus_more (n m : Bool) (xs ys : List Nat) (v u : Value) (w : World) (hv : Row w v (toI xs)) (hu : Row w u (toI ys)) (ha : Nrm xs) (hb : Nrm ys) (la : xs.length ≤ 1048576) (lb : ys.length ≤ 1048576) (hnm : (n == m) = false) (hc : val ys < val xs) :
    Calls Tryz.prog 80 #[.agg #[.bool n, v], .agg #[.bool m, u]] w fun e w' => ∃ v', e = .returned (.agg #[.bool n, v']) ∧ Old w w' ∧ Own w' w.heap.size v' (toI (dig (val xs - val ys))) := by
  have HV : Hid (Row w v (toI xs)) := hv
  have HU : Hid (Row w u (toI ys)) := hu
  obtain ⟨a0, cap0, rfl⟩ := hv.sliceN
  obtain ⟨a1, cap1, rfl⟩ := hu.sliceN
  have HCV : Hid (cmpN (val xs) (val ys) = 1) := by unfold cmpN; rw [if_neg (by omega), if_pos hc]; rfl
  have HLE : Hid (val ys ≤ val xs) := Nat.le_of_lt hc
  clear hv hu hc
  go_enter Tryz.func80, Tryz.ntmps80
  go_wp2_with fail
  have HA : Hid (∀ t1 t2 t3 xs1 xs2 xs3, Old w (((w.alloc (.cells xs1 t1)).alloc (.cells xs2 t2)).alloc (.cells xs3 t3))) := fun t1 t2 t3 xs1 xs2 xs3 => (((Old.refl w).alloc _).alloc _).alloc _
  refine (cmp_any xs ys _ _ _ (HV.out.old (HA.out _ _ _ _ _ _)) (HU.out.old (HA.out _ _ _ _ _ _)) ha hb (by omega) (by omega)).mono ?_
  rintro e w2 ⟨rfl, g2⟩
  have HG2 : Hid (Old w w2) := Old.trans (HA.out _ _ _ _ _ _) g2
  have a0_ : w2.cell? ⟨w.heap.size, 0, none⟩ = some (Value.bool n) := (g2.cell (p := ⟨w.heap.size, 0, none⟩) (by simp; try omega)).trans (c3_0 _ _ _ _ _ _ _ _ )
  have a1_ : w2.cell? ⟨w.heap.size, 1, none⟩ = some (Value.slice a0 xs.length cap0) := (g2.cell (p := ⟨w.heap.size, 1, none⟩) (by simp; try omega)).trans (c3_0 _ _ _ _ _ _ _ _ )
  have b0_ : w2.cell? ⟨w.heap.size + 1, 0, none⟩ = some (Value.bool m) := (g2.cell (p := ⟨w.heap.size + 1, 0, none⟩) (by simp; try omega)).trans (c3_1 _ _ _ _ _ _ _ _ )
  have b1_ : w2.cell? ⟨w.heap.size + 1, 1, none⟩ = some (Value.slice a1 ys.length cap1) := (g2.cell (p := ⟨w.heap.size + 1, 1, none⟩) (by simp; try omega)).trans (c3_1 _ _ _ _ _ _ _ _ )
  have q0_ : w2.cell? ⟨w.heap.size + 1 + 1, 0, none⟩ = some (Value.bool false) := (g2.cell (p := ⟨w.heap.size + 1 + 1, 0, none⟩) (by simp; try omega)).trans (c3_2 _ _ _ _ _ _ _ _ )
  have q1_ : w2.cell? ⟨w.heap.size + 1 + 1, 1, none⟩ = some (Value.slice none 0 0) := (g2.cell (p := ⟨w.heap.size + 1 + 1, 1, none⟩) (by simp; try omega)).trans (c3_2 _ _ _ _ _ _ _ _ )
  have f0_ : w2.frozen? ⟨w.heap.size + 1 + 1, 0, none⟩ = false := (g2.frozen (p := ⟨w.heap.size + 1 + 1, 0, none⟩) (by simp; try omega)).trans (f3_2 _ _ _ _ _ _ _ _ )
  have f1_ : w2.frozen? ⟨w.heap.size + 1 + 1, 1, none⟩ = false := (g2.frozen (p := ⟨w.heap.size + 1 + 1, 1, none⟩) (by simp; try omega)).trans (f3_2 _ _ _ _ _ _ _ _ )
  have hsz : w.heap.size + 3 ≤ w2.heap.size := by have := g2.size; simp at this; omega
  rw [HCV.out]
  clear g2 HA
  go_wp2_with fail
  go_region_with (go_at_call 150; refine (sub_any xs ys _ _ _ (HV.out.old (HG2.out.drewN 1)) (HU.out.old (HG2.out.drewN 1)) ha hb la lb HLE.out).mono ?_; rintro e w5 ⟨v5, rfl, g5, o5⟩; obtain ⟨a5, cap5, rfl⟩ := (Own.row o5).sliceN; have a0z := (g5.cell (p := ⟨w.heap.size, 0, none⟩) (by show w.heap.size < w2.heap.size; omega)).trans a0_; have a1z := (g5.cell (p := ⟨w.heap.size, 1, none⟩) (by show w.heap.size < w2.heap.size; omega)).trans a1_; have b0z := (g5.cell (p := ⟨w.heap.size + 1, 0, none⟩) (by show w.heap.size + 1 < w2.heap.size; omega)).trans b0_; have b1z := (g5.cell (p := ⟨w.heap.size + 1, 1, none⟩) (by show w.heap.size + 1 < w2.heap.size; omega)).trans b1_; have q0z := (g5.cell (p := ⟨w.heap.size + 1 + 1, 0, none⟩) (by show w.heap.size + 1 + 1 < w2.heap.size; omega)).trans q0_; have q1z := (g5.cell (p := ⟨w.heap.size + 1 + 1, 1, none⟩) (by show w.heap.size + 1 + 1 < w2.heap.size; omega)).trans q1_; have f0z := (g5.frozen (p := ⟨w.heap.size + 1 + 1, 0, none⟩) (by show w.heap.size + 1 + 1 < w2.heap.size; omega)).trans f0_; have f1z := (g5.frozen (p := ⟨w.heap.size + 1 + 1, 1, none⟩) (by show w.heap.size + 1 + 1 < w2.heap.size; omega)).trans f1_; have HG5 : Hid (Old w w5) := Old.trans (HG2.out.drewN 1) g5; have HO5 : Hid (Own w5 (w.heap.size + 3) (.slice a5 (dig (val xs - val ys)).length cap5) (toI (dig (val xs - val ys)))) := Own.low o5 (by show w.heap.size + 3 ≤ w2.heap.size; omega); clear g5 o5)
  all_goals
    go_wp2_with fail
    refine bodyPost_ret (v := .agg #[.bool n, .slice a5 (dig (val xs - val ys)).length cap5]) (by simp [results, Tryz.results80, go_sem, q0z, q1z]) rfl ⟨_, rfl, ?_, ?_⟩
    · exact (HG5.out.own (p := ⟨w.heap.size + 1 + 1, 0, none⟩) (by simp; omega) _).own (p := ⟨w.heap.size + 1 + 1, 1, none⟩) (by simp; omega) _
    · refine Own.low (base := w.heap.size + 3) (ownsRow_setCell_other (ownsRow_setCell_other HO5.out (fun e => ?_) _) (fun e => ?_) _) (by omega)
      · have := (HO5.out.lt (w.heap.size + 1 + 1) e).1; omega
      · have := (HO5.out.lt (w.heap.size + 1 + 1) e).1; omega
set_option maxHeartbeats 4000000 in
theorem plus_less (n m : Bool) (xs ys : List Nat) (v u : Value) (w : World) (hv : Row w v (toI xs)) (hu : Row w u (toI ys)) (ha : Nrm xs) (hb : Nrm ys) (la : xs.length ≤ 1048576) (lb : ys.length ≤ 1048576) (hnm : (n == m) = false) (hc : val xs < val ys) :
    Calls Tryz.prog 80 #[.agg #[.bool n, v], .agg #[.bool m, u]] w fun e w' => ∃ v', e = .returned (.agg #[.bool m, v']) ∧ Old w w' ∧ Own w' w.heap.size v' (toI (dig (val ys - val xs))) := by
  have HV : Hid (Row w v (toI xs)) := hv
  have HU : Hid (Row w u (toI ys)) := hu
  obtain ⟨a0, cap0, rfl⟩ := hv.sliceN
  obtain ⟨a1, cap1, rfl⟩ := hu.sliceN
  have HCV : Hid (cmpN (val xs) (val ys) = -1) := by unfold cmpN; rw [if_pos hc]; rfl
  have HLE : Hid (val xs ≤ val ys) := Nat.le_of_lt hc
  clear hv hu hc
  go_enter Tryz.func80, Tryz.ntmps80
  go_wp2_with fail
  have HA : Hid (∀ t1 t2 t3 xs1 xs2 xs3, Old w (((w.alloc (.cells xs1 t1)).alloc (.cells xs2 t2)).alloc (.cells xs3 t3))) := fun t1 t2 t3 xs1 xs2 xs3 => (((Old.refl w).alloc _).alloc _).alloc _
  refine (cmp_any xs ys _ _ _ (HV.out.old (HA.out _ _ _ _ _ _)) (HU.out.old (HA.out _ _ _ _ _ _)) ha hb (by omega) (by omega)).mono ?_
  rintro e w2 ⟨rfl, g2⟩
  have HG2 : Hid (Old w w2) := Old.trans (HA.out _ _ _ _ _ _) g2
  have a0_ : w2.cell? ⟨w.heap.size, 0, none⟩ = some (Value.bool n) := (g2.cell (p := ⟨w.heap.size, 0, none⟩) (by simp; try omega)).trans (c3_0 _ _ _ _ _ _ _ _ )
  have a1_ : w2.cell? ⟨w.heap.size, 1, none⟩ = some (Value.slice a0 xs.length cap0) := (g2.cell (p := ⟨w.heap.size, 1, none⟩) (by simp; try omega)).trans (c3_0 _ _ _ _ _ _ _ _ )
  have b0_ : w2.cell? ⟨w.heap.size + 1, 0, none⟩ = some (Value.bool m) := (g2.cell (p := ⟨w.heap.size + 1, 0, none⟩) (by simp; try omega)).trans (c3_1 _ _ _ _ _ _ _ _ )
  have b1_ : w2.cell? ⟨w.heap.size + 1, 1, none⟩ = some (Value.slice a1 ys.length cap1) := (g2.cell (p := ⟨w.heap.size + 1, 1, none⟩) (by simp; try omega)).trans (c3_1 _ _ _ _ _ _ _ _ )
  have q0_ : w2.cell? ⟨w.heap.size + 1 + 1, 0, none⟩ = some (Value.bool false) := (g2.cell (p := ⟨w.heap.size + 1 + 1, 0, none⟩) (by simp; try omega)).trans (c3_2 _ _ _ _ _ _ _ _ )
  have q1_ : w2.cell? ⟨w.heap.size + 1 + 1, 1, none⟩ = some (Value.slice none 0 0) := (g2.cell (p := ⟨w.heap.size + 1 + 1, 1, none⟩) (by simp; try omega)).trans (c3_2 _ _ _ _ _ _ _ _ )
  have f0_ : w2.frozen? ⟨w.heap.size + 1 + 1, 0, none⟩ = false := (g2.frozen (p := ⟨w.heap.size + 1 + 1, 0, none⟩) (by simp; try omega)).trans (f3_2 _ _ _ _ _ _ _ _ )
  have f1_ : w2.frozen? ⟨w.heap.size + 1 + 1, 1, none⟩ = false := (g2.frozen (p := ⟨w.heap.size + 1 + 1, 1, none⟩) (by simp; try omega)).trans (f3_2 _ _ _ _ _ _ _ _ )
  have hsz : w.heap.size + 3 ≤ w2.heap.size := by have := g2.size; simp at this; omega
  rw [HCV.out]
  clear g2 HA
  go_wp2_with fail
  go_region_with (go_at_call 150; refine (sub_any ys xs _ _ _ (HU.out.old (HG2.out.drewN 1)) (HV.out.old (HG2.out.drewN 1)) hb ha lb la HLE.out).mono ?_; rintro e w5 ⟨v5, rfl, g5, o5⟩; obtain ⟨a5, cap5, rfl⟩ := (Own.row o5).sliceN; have a0z := (g5.cell (p := ⟨w.heap.size, 0, none⟩) (by show w.heap.size < w2.heap.size; omega)).trans a0_; have a1z := (g5.cell (p := ⟨w.heap.size, 1, none⟩) (by show w.heap.size < w2.heap.size; omega)).trans a1_; have b0z := (g5.cell (p := ⟨w.heap.size + 1, 0, none⟩) (by show w.heap.size + 1 < w2.heap.size; omega)).trans b0_; have b1z := (g5.cell (p := ⟨w.heap.size + 1, 1, none⟩) (by show w.heap.size + 1 < w2.heap.size; omega)).trans b1_; have q0z := (g5.cell (p := ⟨w.heap.size + 1 + 1, 0, none⟩) (by show w.heap.size + 1 + 1 < w2.heap.size; omega)).trans q0_; have q1z := (g5.cell (p := ⟨w.heap.size + 1 + 1, 1, none⟩) (by show w.heap.size + 1 + 1 < w2.heap.size; omega)).trans q1_; have f0z := (g5.frozen (p := ⟨w.heap.size + 1 + 1, 0, none⟩) (by show w.heap.size + 1 + 1 < w2.heap.size; omega)).trans f0_; have f1z := (g5.frozen (p := ⟨w.heap.size + 1 + 1, 1, none⟩) (by show w.heap.size + 1 + 1 < w2.heap.size; omega)).trans f1_; have HG5 : Hid (Old w w5) := Old.trans (HG2.out.drewN 1) g5; have HO5 : Hid (Own w5 (w.heap.size + 3) (.slice a5 (dig (val ys - val xs)).length cap5) (toI (dig (val ys - val xs)))) := Own.low o5 (by show w.heap.size + 3 ≤ w2.heap.size; omega); clear g5 o5)
  all_goals
    go_wp2_with fail
    refine bodyPost_ret (v := .agg #[.bool m, .slice a5 (dig (val ys - val xs)).length cap5]) (by simp [results, Tryz.results80, go_sem, q0z, q1z]) rfl ⟨_, rfl, ?_, ?_⟩
    · exact (HG5.out.own (p := ⟨w.heap.size + 1 + 1, 0, none⟩) (by simp; omega) _).own (p := ⟨w.heap.size + 1 + 1, 1, none⟩) (by simp; omega) _
    · refine Own.low (base := w.heap.size + 3) (ownsRow_setCell_other (ownsRow_setCell_other HO5.out (fun e => ?_) _) (fun e => ?_) _) (by omega)
      · have := (HO5.out.lt (w.heap.size + 1 + 1) e).1; omega
      · have := (HO5.out.lt (w.heap.size + 1 + 1) e).1; omega
set_option maxHeartbeats 4000000 in
theorem plus_zero (n m : Bool) (xs ys : List Nat) (v u : Value) (w : World) (hv : Row w v (toI xs)) (hu : Row w u (toI ys)) (ha : Nrm xs) (hb : Nrm ys) (la : xs.length ≤ 1048576) (lb : ys.length ≤ 1048576) (hnm : (n == m) = false) (hc : val xs = val ys) :
    Calls Tryz.prog 80 #[.agg #[.bool n, v], .agg #[.bool m, u]] w fun e w' => ∃ v', e = .returned (.agg #[.bool false, v']) ∧ Old w w' ∧ Own w' w.heap.size v' (toI (dig 0)) := by
  have HV : Hid (Row w v (toI xs)) := hv
  have HU : Hid (Row w u (toI ys)) := hu
  obtain ⟨a0, cap0, rfl⟩ := hv.sliceN
  obtain ⟨a1, cap1, rfl⟩ := hu.sliceN
  have HCV : Hid (cmpN (val xs) (val ys) = 0) := by unfold cmpN; rw [hc, if_neg (by omega), if_neg (by omega)]; rfl
  clear hv hu hc
  go_enter Tryz.func80, Tryz.ntmps80
  go_wp2_with fail
  have HA : Hid (∀ t1 t2 t3 xs1 xs2 xs3, Old w (((w.alloc (.cells xs1 t1)).alloc (.cells xs2 t2)).alloc (.cells xs3 t3))) := fun t1 t2 t3 xs1 xs2 xs3 => (((Old.refl w).alloc _).alloc _).alloc _
  refine (cmp_any xs ys _ _ _ (HV.out.old (HA.out _ _ _ _ _ _)) (HU.out.old (HA.out _ _ _ _ _ _)) ha hb (by omega) (by omega)).mono ?_
  rintro e w2 ⟨rfl, g2⟩
  have HG2 : Hid (Old w w2) := Old.trans (HA.out _ _ _ _ _ _) g2
  have a0_ : w2.cell? ⟨w.heap.size, 0, none⟩ = some (Value.bool n) := (g2.cell (p := ⟨w.heap.size, 0, none⟩) (by simp; try omega)).trans (c3_0 _ _ _ _ _ _ _ _ )
  have a1_ : w2.cell? ⟨w.heap.size, 1, none⟩ = some (Value.slice a0 xs.length cap0) := (g2.cell (p := ⟨w.heap.size, 1, none⟩) (by simp; try omega)).trans (c3_0 _ _ _ _ _ _ _ _ )
  have b0_ : w2.cell? ⟨w.heap.size + 1, 0, none⟩ = some (Value.bool m) := (g2.cell (p := ⟨w.heap.size + 1, 0, none⟩) (by simp; try omega)).trans (c3_1 _ _ _ _ _ _ _ _ )
  have b1_ : w2.cell? ⟨w.heap.size + 1, 1, none⟩ = some (Value.slice a1 ys.length cap1) := (g2.cell (p := ⟨w.heap.size + 1, 1, none⟩) (by simp; try omega)).trans (c3_1 _ _ _ _ _ _ _ _ )
  have q0_ : w2.cell? ⟨w.heap.size + 1 + 1, 0, none⟩ = some (Value.bool false) := (g2.cell (p := ⟨w.heap.size + 1 + 1, 0, none⟩) (by simp; try omega)).trans (c3_2 _ _ _ _ _ _ _ _ )
  have q1_ : w2.cell? ⟨w.heap.size + 1 + 1, 1, none⟩ = some (Value.slice none 0 0) := (g2.cell (p := ⟨w.heap.size + 1 + 1, 1, none⟩) (by simp; try omega)).trans (c3_2 _ _ _ _ _ _ _ _ )
  have f0_ : w2.frozen? ⟨w.heap.size + 1 + 1, 0, none⟩ = false := (g2.frozen (p := ⟨w.heap.size + 1 + 1, 0, none⟩) (by simp; try omega)).trans (f3_2 _ _ _ _ _ _ _ _ )
  have f1_ : w2.frozen? ⟨w.heap.size + 1 + 1, 1, none⟩ = false := (g2.frozen (p := ⟨w.heap.size + 1 + 1, 1, none⟩) (by simp; try omega)).trans (f3_2 _ _ _ _ _ _ _ _ )
  have hsz : w.heap.size + 3 ≤ w2.heap.size := by have := g2.size; simp at this; omega
  rw [HCV.out]
  clear g2 HA
  go_wp2_with fail
  refine bodyPost_ret (v := .agg #[.bool false, .slice none 0 0]) (by simp [results, Tryz.results80, go_sem, q0_, q1_]) rfl ⟨_, rfl, ?_, ?_⟩
  · exact (HG2.out.own (p := ⟨w.heap.size + 1 + 1, 0, none⟩) (by simp; omega) _).own (p := ⟨w.heap.size + 1 + 1, 1, none⟩) (by simp; omega) _
  · rw [dig_zero]; exact World.ownsRow_nil _ _ _ _
end Go.Proofs.YtfgooclnohnkmaaGreatDoor
/- Proved: contracts of the model's sums, products and quotients of whole numbers, by what the numbers are worth. -/
namespace Go.Proofs.YtfgooclnohnkmaaGreatDoor
open Go.ChangeShapes Go.WideShapes Go.ChangeAt Go.RowKit
open M2
set_option linter.unusedVariables false
set_option linter.unusedSimpArgs false
theorem ng_plus (n : Bool) (xs ys : List Nat) (ha : Gw n xs) (hb : Gw n ys) : n = ng (sv n xs + sv n ys) ∧ dig (val xs + val ys) = dg (sv n xs + sv n ys) := by
  cases n
  · unfold sv ng dg
    refine ⟨by simp; omega, ?_⟩
    congr 1
  · have := ha.pos rfl
    unfold sv ng dg
    refine ⟨by simp; omega, ?_⟩
    congr 1
    simp
    omega
theorem ng_more (n m : Bool) (xs ys : List Nat) (h : (n == m) = false) (hc : val ys < val xs) : n = ng (sv n xs + sv m ys) ∧ dig (val xs - val ys) = dg (sv n xs + sv m ys) := by
  cases n <;> cases m <;> simp at h
  · unfold sv ng dg
    refine ⟨by simp; omega, ?_⟩
    congr 1
    simp
    omega
  · unfold sv ng dg
    refine ⟨by simp; omega, ?_⟩
    congr 1
    simp
    omega
theorem ng_less (n m : Bool) (xs ys : List Nat) (h : (n == m) = false) (hc : val xs < val ys) : m = ng (sv n xs + sv m ys) ∧ dig (val ys - val xs) = dg (sv n xs + sv m ys) := by
  have := ng_more m n ys xs (by cases n <;> cases m <;> simp_all) hc
  rw [Int.add_comm] at this
  exact this
theorem ng_zero (n m : Bool) (xs ys : List Nat) (h : (n == m) = false) (hc : val xs = val ys) : false = ng (sv n xs + sv m ys) ∧ dig 0 = dg (sv n xs + sv m ys) := by
  have e : sv n xs + sv m ys = 0 := by
    cases n <;> cases m <;> simp at h <;> unfold sv <;> simp <;> omega
  rw [e]
  exact ⟨rfl, rfl⟩
theorem plus_any (n m : Bool) (xs ys : List Nat) (v u : Value) (w : World) (hv : Row w v (toI xs)) (hu : Row w u (toI ys)) (ha : Gw n xs) (hb : Gw m ys) (la : xs.length ≤ 1048576) (lb : ys.length ≤ 1048576) :
    Calls Tryz.prog 80 #[.agg #[.bool n, v], .agg #[.bool m, u]] w fun e w' => ∃ v', e = .returned (.agg #[.bool (ng (sv n xs + sv m ys)), v']) ∧ Old w w' ∧ Own w' w.heap.size v' (toI (dg (sv n xs + sv m ys))) := by
  cases hnm : n == m with
  | true =>
    have e : n = m := by simpa using hnm
    subst e
    obtain ⟨e1, e2⟩ := ng_plus n xs ys ha hb
    rw [← e1, ← e2]
    exact plus_same n xs ys v u w hv hu ha.1.1 hb.1.1 la lb
  | false =>
    rcases Nat.lt_trichotomy (val xs) (val ys) with hc | hc | hc
    · obtain ⟨e1, e2⟩ := ng_less n m xs ys hnm hc
      rw [← e1, ← e2]
      exact plus_less n m xs ys v u w hv hu ha.1 hb.1 la lb hnm hc
    · obtain ⟨e1, e2⟩ := ng_zero n m xs ys hnm hc
      rw [← e1, ← e2]
      exact plus_zero n m xs ys v u w hv hu ha.1 hb.1 la lb hnm hc
    · obtain ⟨e1, e2⟩ := ng_more n m xs ys hnm hc
      rw [← e1, ← e2]
      exact plus_more n m xs ys v u w hv hu ha.1 hb.1 la lb hnm hc
theorem div_any (xs ys : List Nat) (v u : Value) (w : World) (hv : Row w v (toI xs)) (hu : Row w u (toI ys)) (ha : Lim xs) (hb : Nrm ys) (hl : ys ≠ []) (la : xs.length ≤ 1048576) (lb : ys.length ≤ 1048000) :
    Calls Tryz.prog 127 #[v, u] w fun e w' => ∃ v1 v2, e = .returned (.tuple #[v1, v2]) ∧ Old w w' ∧ Own w' w.heap.size v1 (toI (dig (val xs / val ys))) ∧ Own w' w.heap.size v2 (toI (dig (val xs % val ys))) := by
  by_cases h1 : ys.length = 1
  · obtain ⟨d, rfl⟩ := List.length_eq_one_iff.1 h1
    have hd : d ≠ 0 := by have := hb.2 (by simp); simpa using this
    have hd2 := hb.1.head
    have e : val [d] = d := by simp [val]
    rw [e]
    exact div1_any xs d v u w hv hu ha (by omega) hd2 la
  · have h0 : ys.length ≠ 0 := fun h => hl (List.length_eq_zero_iff.1 h)
    exact div2_any xs ys v u w hv hu ha hb (by omega) la lb
theorem ng_times (n m : Bool) (xs ys : List Nat) : (decide (0 < (dig (val xs * val ys)).length) && (n != m)) = ng (sv n xs * sv m ys) ∧ dig (val xs * val ys) = dg (sv n xs * sv m ys) := by
  have e : (sv n xs * sv m ys).natAbs = val xs * val ys := by
    rw [Int.natAbs_mul]
    congr 1
    · cases n <;> simp [sv]
    · cases m <;> simp [sv]
  have e2 : dig (val xs * val ys) = dg (sv n xs * sv m ys) := by unfold dg; rw [e]
  refine ⟨?_, e2⟩
  have hl : 0 < (dig (val xs * val ys)).length ↔ 0 < val xs * val ys := by
    constructor
    · intro h
      rcases Nat.eq_zero_or_pos (val xs * val ys) with h0 | h0
      · rw [h0, dig_zero] at h; simp at h
      · exact h0
    · intro h
      have := dig_ne (n := val xs * val ys) (by omega)
      rcases Nat.eq_zero_or_pos (dig (val xs * val ys)).length with h0 | h0
      · exact absurd (List.length_eq_zero_iff.1 h0) this
      · exact h0
  have hp : (0 : Int) ≤ (val xs : Int) * (val ys : Int) := Int.mul_nonneg (by omega) (by omega)
  have hp2 : ((val xs * val ys : Nat) : Int) = (val xs : Int) * (val ys : Int) := by simp
  have hd : decide (0 < (dig (val xs * val ys)).length) = decide (0 < val xs * val ys) := by rw [decide_eq_decide]; exact hl
  rw [hd]
  cases n <;> cases m <;> simp only [sv, ng, Bool.false_eq_true, if_false, if_true, Int.neg_mul, Int.mul_neg, Int.neg_neg, bne_self_eq_false, Bool.and_false, Bool.false_bne, Bool.true_bne, Bool.not_false, Bool.and_true] <;> rw [← hp2]
  · simp; exact hp
  · rw [decide_eq_decide]; omega
  · rw [decide_eq_decide]; omega
  · simp; exact hp
end Go.Proofs.YtfgooclnohnkmaaGreatDoor
/- Proved: contracts of the model's quotients down, of the nearest quotient, of words and of what is left, by what the numbers are worth. -/
namespace Go.Proofs.YtfgooclnohnkmaaGreatDoor
open Go.ChangeShapes Go.WideShapes Go.ChangeAt Go.RowKit
open M2
set_option linter.unusedVariables false
set_option linter.unusedSimpArgs false
theorem one_row (w : World) (t : TypeId) : Row (w.alloc (.cells #[.int .i64 1] t)) (.slice (some ⟨w.heap.size, 0, none⟩) 1 1) (toI [1]) :=
  Or.inr ⟨w.heap.size, 0, 1, rfl, by simp, by simp [toI], fun j hj => by
    have : j = 0 := by simp [toI] at hj; omega
    subst this
    rw [cell_at _ _ _ _ _ (by simp)]
    rfl⟩
theorem div_unique (a : Int) (b : Nat) (q : Int) (r : Nat) (hr : r < b) (h : (r : Int) + (b : Int) * q = a) : a / (b : Int) = q ∧ a % (b : Int) = (r : Int) :=
  (Int.ediv_emod_unique (by omega)).2 ⟨h, by omega, by omega⟩
theorem down_pos_eq (xs : List Nat) (D : Nat) (hD : 0 < D) : false = ng (sv false xs / (D : Int)) ∧ dig (val xs / D) = dg (sv false xs / (D : Int)) ∧ val xs % D = (sv false xs % (D : Int)).toNat := by
  obtain ⟨e1, e2⟩ := div_unique (sv false xs) D ((val xs / D : Nat) : Int) (val xs % D) (Nat.mod_lt _ hD) (by
    have := Nat.mod_add_div (val xs) D
    unfold sv
    simp only [Bool.false_eq_true, if_false]
    rw [← Int.natCast_mul]
    omega)
  rw [e1, e2]
  refine ⟨?_, ?_, (Int.toNat_natCast _).symm⟩
  · generalize val xs / D = k
    simp only [ng]; symm; apply decide_eq_false; omega
  · simp only [dg, Int.natAbs_natCast]
theorem down_exact_eq (xs : List Nat) (D : Nat) (hD : 0 < D) (h0 : val xs % D = 0) : decide (0 < (dig (val xs / D)).length) = ng (sv true xs / (D : Int)) ∧ dig (val xs / D) = dg (sv true xs / (D : Int)) ∧ 0 = (sv true xs % (D : Int)).toNat := by
  obtain ⟨e1, e2⟩ := div_unique (sv true xs) D (-((val xs / D : Nat) : Int)) 0 hD (by
    have := Nat.mod_add_div (val xs) D
    rw [h0] at this
    unfold sv
    simp only [if_true]
    rw [Int.mul_neg, ← Int.natCast_mul]
    omega)
  rw [e1, e2]
  refine ⟨?_, by simp only [dg, Int.natAbs_neg, Int.natAbs_natCast], by simp⟩
  unfold ng
  rw [decide_eq_decide]
  constructor
  · intro h
    rcases Nat.eq_zero_or_pos (val xs / D) with h1 | h1
    · rw [h1, dig_zero] at h; simp at h
    · omega
  · intro h
    have := dig_ne (n := val xs / D) (by omega)
    rcases Nat.eq_zero_or_pos (dig (val xs / D)).length with h2 | h2
    · exact absurd (List.length_eq_zero_iff.1 h2) this
    · exact h2
theorem down_up_eq (xs : List Nat) (D : Nat) (hD : 0 < D) (h0 : 0 < val xs % D) : true = ng (sv true xs / (D : Int)) ∧ dig (val xs / D + 1) = dg (sv true xs / (D : Int)) ∧ D - val xs % D = (sv true xs % (D : Int)).toNat := by
  have hm := Nat.mod_lt (val xs) hD
  obtain ⟨e1, e2⟩ := div_unique (sv true xs) D (-((val xs / D + 1 : Nat) : Int)) (D - val xs % D) (by omega) (by
    have := Nat.mod_add_div (val xs) D
    have e : D * (val xs / D + 1) = D * (val xs / D) + D := by rw [Nat.mul_add, Nat.mul_one]
    unfold sv
    simp only [if_true]
    rw [Int.mul_neg, ← Int.natCast_mul, e]
    omega)
  rw [e1, e2]
  refine ⟨?_, by simp only [dg, Int.natAbs_neg, Int.natAbs_natCast], (Int.toNat_natCast _).symm⟩
  generalize val xs / D = k
  simp only [ng]; symm; apply decide_eq_true; omega
end Go.Proofs.YtfgooclnohnkmaaGreatDoor
/- Proved: contracts of the model's nearest quotient, of words as whole numbers, of what is left by a word and of comparing, by what the numbers are worth. -/
namespace Go.Proofs.YtfgooclnohnkmaaGreatDoor
open Go.ChangeShapes Go.WideShapes Go.ChangeAt Go.RowKit
open M2
set_option linter.unusedVariables false
set_option linter.unusedSimpArgs false
theorem nrm_pos {ys : List Nat} (hb : Nrm ys) (hl : ys ≠ []) : 0 < val ys := by
  rcases Nat.eq_zero_or_pos (val ys) with h | h
  · exact absurd (val_zero_of hb h) hl
  · exact h
set_option maxHeartbeats 4000000 in
theorem modulo_any (n : Bool) (xs : List Nat) (m : Nat) (v : Value) (w : World) (hv : Row w v (toI xs)) (ha : Lim xs) (la : xs.length ≤ 2000) (hm : 1 ≤ m) (hm' : m ≤ 268435456) :
    Calls Tryz.prog 137 #[.agg #[.bool n, v], .int .i64 m] w fun e w' => e = .returned (.int .i64 (sv n xs % (m : Int))) ∧ Old w w' := by
  have HV : Hid (Row w v (toI xs)) := hv
  obtain ⟨a0, cap0, rfl⟩ := hv.sliceN
  clear hv
  have hlt : val xs % m < m := Nat.mod_lt _ (by omega)
  have e0 : sv false xs % (m : Int) = ((val xs % m : Nat) : Int) := by simp [sv]
  have e1 : 0 < val xs % m → sv true xs % (m : Int) = (m : Int) - ((val xs % m : Nat) : Int) := fun h => by
    have := (down_up_eq xs m (by omega) h).2.2
    have h2 := Int.emod_nonneg (sv true xs) (show (m : Int) ≠ 0 by omega)
    omega
  have e2 : val xs % m = 0 → sv true xs % (m : Int) = ((val xs % m : Nat) : Int) := fun h => by
    have := (down_exact_eq xs m (by omega) h).2.2
    have h2 := Int.emod_nonneg (sv true xs) (show (m : Int) ≠ 0 by omega)
    omega
  have c := fun W (h : Row W (.slice a0 xs.length cap0) (toI xs)) => word_any xs m _ W h ha (by omega) hm hm'
  generalize val xs % m = r at *
  have key : ∀ (z : Int), (n = false → z = (r : Int)) → (n = true → 0 < r → z = (m : Int) - (r : Int)) → (n = true → r = 0 → z = (r : Int)) →
      Calls Tryz.prog 137 #[.agg #[.bool n, .slice a0 xs.length cap0], .int .i64 m] w fun e w' => e = .returned (.int .i64 z) ∧ Old w w' := by
    intro z h1 h2 h3
    clear e0 e1 e2
    cases n with
    | false =>
      have := h1 rfl
      subst this
      clear h1 h2 h3
      go_enter Tryz.func137, Tryz.ntmps137
      go_wp2_with fail
      refine (c _ (HV.out.old ((Old.refl w).alloc _))).mono ?_
      rintro e w2 ⟨rfl, g2⟩
      have q0 : w2.cell? ⟨w.heap.size, 0, none⟩ = some (Value.bool false) := (g2.cell (p := ⟨w.heap.size, 0, none⟩) (by simp)).trans (cell_at _ _ _ _ _ rfl)
      have HG : Hid (Old w w2) := Old.trans ((Old.refl w).alloc _) g2
      clear g2
      go_wp2_with fail
      go_ret
      exact ⟨rfl, HG.out⟩
    | true =>
      rcases Nat.eq_zero_or_pos r with h0 | h0
      · have := h3 rfl h0
        subst this
        have d0 : decide (0 < r) = false := decide_eq_false (by omega)
        clear h1 h2 h3 h0
        go_enter Tryz.func137, Tryz.ntmps137
        go_wp2_with fail
        refine (c _ (HV.out.old ((Old.refl w).alloc _))).mono ?_
        rintro e w2 ⟨rfl, g2⟩
        have q0 : w2.cell? ⟨w.heap.size, 0, none⟩ = some (Value.bool true) := (g2.cell (p := ⟨w.heap.size, 0, none⟩) (by simp)).trans (cell_at _ _ _ _ _ rfl)
        have HG : Hid (Old w w2) := Old.trans ((Old.refl w).alloc _) g2
        clear g2
        go_wp2_with fail
        go_ret
        exact ⟨rfl, HG.out⟩
      · have := h2 rfl h0
        subst this
        have d0 : decide (0 < r) = true := decide_eq_true h0
        clear h1 h2 h3
        go_enter Tryz.func137, Tryz.ntmps137
        go_wp2_with fail
        refine (c _ (HV.out.old ((Old.refl w).alloc _))).mono ?_
        rintro e w2 ⟨rfl, g2⟩
        have q0 : w2.cell? ⟨w.heap.size, 0, none⟩ = some (Value.bool true) := (g2.cell (p := ⟨w.heap.size, 0, none⟩) (by simp)).trans (cell_at _ _ _ _ _ rfl)
        have HG : Hid (Old w w2) := Old.trans ((Old.refl w).alloc _) g2
        clear g2
        go_wp2_with fail
        go_ret
        exact ⟨rfl, HG.out⟩
  refine key _ (fun h => ?_) (fun h h0 => ?_) (fun h h0 => ?_)
  · subst h; exact e0
  · subst h; exact e1 h0
  · subst h; exact e2 h0
/-- how two whole numbers lie, as -1, 0, 1 -/
def cmpI (x y : Int) : Int := if x < y then -1 else if y < x then 1 else 0
end Go.Proofs.YtfgooclnohnkmaaGreatDoor
/- Proved: contracts of the model's whole number of a word and of its nearest quotient, by what the numbers are worth. -/
namespace Go.Proofs.YtfgooclnohnkmaaGreatDoor
open Go.ChangeShapes Go.WideShapes Go.ChangeAt Go.RowKit
open M2
set_option linter.unusedVariables false
set_option linter.unusedSimpArgs false
theorem two_row (w : World) (t : TypeId) : Row (w.alloc (.cells #[.int .i64 2] t)) (.slice (some ⟨w.heap.size, 0, none⟩) 1 1) (toI [2]) :=
  Or.inr ⟨w.heap.size, 0, 1, rfl, by simp, by simp [toI], fun j hj => by
    have : j = 0 := by simp [toI] at hj; omega
    subst this
    rw [cell_at _ _ _ _ _ (by simp)]
    rfl⟩
theorem dg_len {z : Int} {k : Nat} (h : z.natAbs < LB ^ k) : (dg z).length ≤ k := dig_len_le h
theorem sv_abs (n : Bool) (xs : List Nat) : (sv n xs).natAbs = val xs := by cases n <;> simp [sv]
end Go.Proofs.YtfgooclnohnkmaaGreatDoor
/- Proved: append onto an empty slice of what lies in a slice of a named type, as one step of a region that draws its order. -/
namespace Go.Proofs.YtfgooclnohnkmaaGreatDoor
open Go.ChangeShapes Go.WideShapes Go.ChangeAt Go.RowKit
set_option linter.unusedVariables false
set_option linter.unusedSimpArgs false
theorem append_two {P : Program} (t u ty e e' : TypeId) (ht : P.underlying t = some (.slice e)) (hu : P.underlying u = some (.slice e')) (x1 x2 : Option Addr) (n1 c1 n2 c2 : Nat) (w : World) :
    (Builtin.append_ #[t, u] ty #[.slice x1 n1 c1, .slice x2 n2 c2]).run P w = (Builtin.append_ #[t, t] ty #[.slice x1 n1 c1, .slice x2 n2 c2]).run P w := by
  simp [Builtin.append_, run_underlying ht, run_underlying hu]
theorem step_append_two {P : Program} {ops : Array Oper} {o : Oper} {a : Act} {w : World} {K : Act → World → Prop} {Q : Exit → Act → World → Prop} {E : Prop}
    (hg : o.guard = none) (s x : Operand) (t u : TypeId) (hop : o.op = Op.call { callee := Callee.builtin Builtin.append, args := #[s, x], argTypes := #[t, u] })
    (e e' : TypeId) (i : TypeInfo) (z : Value) (size bytes : Nat) (h1 : P.underlying t = some (.slice e)) (h1' : P.underlying u = some (.slice e')) (h2 : P.info? e = some i) (h3 : i.zero = some z) (h4 : i.size = size) (h5 : i.bytes = bytes) (h6 : z.cells.size = size) (h7 : 0 < size)
    (b : Addr) (hs : a.eval s = .slice (some b) 0 0)
    (ad : Addr) (m c : Nat) (news : List Value) (hx : a.eval x = .slice (some ad) m c) (hn : news.length = m * size) (hc : ∀ j u, news[j]? = some u → w.cell? (ad.add j) = some u)
    (hfull : 0 < m) (b1 : m ≤ maxLen) (b2 : m * bytes ≤ 140737488355328)
    (hK : ∀ v' w', w'.ownsRow w.heap.size e size v' m news → w.grownBy w' none → K (a.put o.dst v') w') :
    if Region.wanted o (yielded ops a.tmps) = true then Oper.wp P o a w K Q else E := by
  have hw : Region.wanted o (yielded ops a.tmps) = true := by simp [Region.wanted, hg]
  rw [if_pos hw]
  obtain ⟨v', w', hrun, r1, r2⟩ := run_append_arg_grows (P := P) w t o.type e i z size bytes h1 h2 h3 h4 h5 h6 h7 b 0 0 [] (by simp) (fun j u h => by simp at h) ad m c news hn hc (by omega) (by simpa using b1) (by simpa using b2)
  rw [← append_two t u o.type e e' h1 h1'] at hrun
  unfold Oper.wp
  simp [execOp, hop, resolve, invoke, builtin, hs, hx, hrun, Result.andThen]
  exact hK v' w' (by simpa using r1) r2
theorem append_none {P : Program} (w : World) (t u ty e e' : TypeId) (i : TypeInfo) (ht : P.underlying t = some (.slice e)) (hu : P.underlying u = some (.slice e')) (hi : P.info? e = some i) (b : Addr) (a : Option Addr) (c : Nat) :
    (Builtin.append_ #[t, u] ty #[.slice (some b) 0 0, .slice a 0 c]).run P w = .ok (.slice (some b) 0 0) w := by
  cases a <;> simp [Builtin.append_, run_underlying ht, run_underlying hu, sizeOf, typeInfo, hi, Builtin.lenOf, Builtin.firstCells, storeCells, loadCells, loadCellsFrom, Result.andThen]
theorem step_append_none {P : Program} {ops : Array Oper} {o : Oper} {a : Act} {w : World} {K : Act → World → Prop} {Q : Exit → Act → World → Prop} {E : Prop}
    (hg : o.guard = none) (s x : Operand) (t u : TypeId) (hop : o.op = Op.call { callee := Callee.builtin Builtin.append, args := #[s, x], argTypes := #[t, u] })
    (e e' : TypeId) (i : TypeInfo) (h1 : P.underlying t = some (.slice e)) (h1' : P.underlying u = some (.slice e')) (h2 : P.info? e = some i)
    (b : Addr) (hs : a.eval s = .slice (some b) 0 0) (ad : Option Addr) (c : Nat) (hx : a.eval x = .slice ad 0 c)
    (hK : K (a.put o.dst (.slice (some b) 0 0)) w) :
    if Region.wanted o (yielded ops a.tmps) = true then Oper.wp P o a w K Q else E := by
  have hw : Region.wanted o (yielded ops a.tmps) = true := by simp [Region.wanted, hg]
  rw [if_pos hw]
  have hrun := append_none (P := P) w t u o.type e e' i h1 h1' h2 b ad c
  unfold Oper.wp
  simp [execOp, hop, resolve, invoke, builtin, hs, hx, hrun, Result.andThen]
  exact hK
end Go.Proofs.YtfgooclnohnkmaaGreatDoor
/- Proved: contracts of the model's doors: a whole number in, and out where it is not too long. -/
namespace Go.Proofs.YtfgooclnohnkmaaGreatDoor
open Go.ChangeShapes Go.WideShapes Go.ChangeAt Go.RowKit
open M2
set_option linter.unusedVariables false
set_option linter.unusedSimpArgs false
theorem cell_heap {w w' : World} (h : w.heap = w'.heap) (p : Addr) : w.cell? p = w'.cell? p := World.cell?_of_block (by rw [h])
theorem fro_heap {w w' : World} (h : w.heap = w'.heap) (p : Addr) : w.frozen? p = w'.frozen? p := World.frozen?_of_block (by rw [h])
theorem Own_low' {w : World} {base base' n : Nat} {v : Value} {xs : List Value} (h : w.ownsRow base 3 1 v n xs) (hb : base' ≤ base) : w.ownsRow base' 3 1 v n xs := by
  refine ⟨h.1, ?_⟩
  rcases h.2 with hn | ⟨p, cap, cur, rfl, hb1, rest⟩
  · exact .inl hn
  · exact .inr ⟨p, cap, cur, rfl, Nat.le_trans hb hb1, rest⟩
theorem in_anyW (n : Bool) (a : Option Addr) (len cap : Nat) (w : World) :
    Calls Tryz.prog 68 #[.agg #[.bool n, .slice a len cap]] w fun e w' => e = .returned (.agg #[.bool n, .slice a len cap]) ∧ Old w w' := by
  go_enter Tryz.func68, Tryz.ntmps68
  go_wp2_with fail
  refine bodyPost_ret (v := .agg #[.bool n, .slice a len cap]) (by simp [results, Tryz.results68, go_sem]) rfl ⟨rfl, ?_⟩
  exact ((Old.refl w).alloc _).alloc _
set_option maxHeartbeats 4000000 in
theorem out_no (n : Bool) (a : Option Addr) (len cap : Nat) (w : World) (h : 40 < len) (hl : len ≤ 1048576) :
    Calls Tryz.prog 59 #[.agg #[.bool n, .slice a len cap]] w fun e w' => e = .returned (.tuple #[.agg #[.bool false, .slice none 0 0], .bool false]) ∧ Old w w' := by
  go_enter Tryz.func59, Tryz.ntmps59
  go_wp2_with fail
  refine bodyPost_ret (v := .tuple #[.agg #[.bool false, .slice none 0 0], .bool false]) (by simp [results, Tryz.results59, go_sem]) rfl ⟨rfl, ?_⟩
  exact ((Old.refl w).alloc _).alloc _
set_option maxHeartbeats 4000000 in
theorem out_none (n : Bool) (a : Option Addr) (cap : Nat) (w : World) :
    Calls Tryz.prog 59 #[.agg #[.bool n, .slice a 0 cap]] w fun e w' => ∃ v', e = .returned (.tuple #[.agg #[.bool n, v'], .bool true]) ∧ Old w w' ∧ Own w' w.heap.size v' [] := by
  obtain ⟨i0, hi, hz0, hz1, hz2⟩ := info_parts Tryz.infoInt
  go_enter Tryz.func59, Tryz.ntmps59
  go_wp2_with fail
  go_region_law (refine step_append_none rfl (.tmp 11) (.tmp 13) 23 98 rfl 3 3 i0 Tryz.underlying23 Tryz.underlying98 hi ⟨w.heap.size + 1 + 1, 0, none⟩ (by simp [Act.eval, Act.put]) a cap (by simp [Act.eval, Act.put]) ?_)
  all_goals
    go_wp2_with fail
    refine bodyPost_ret (v := .tuple #[.agg #[.bool n, .slice (some ⟨w.heap.size + 1 + 1, 0, none⟩) 0 0], .bool true]) (by simp [results, Tryz.results59, go_sem]) rfl ⟨_, rfl, ?_, ?_⟩
    · exact Below.drew ((((Old.refl w).alloc _).alloc _).alloc _)
    · have := World.ownsRow_lit (base := w.heap.size) (e := 3) (size := 1) ((w.alloc (Obj.cells #[Value.bool n, Value.slice a 0 cap] 101)).alloc (Obj.cells #[Value.bool n, Value.slice (some { block := w.heap.size + 1 + 1, off := 0 }) 0 0] 27)) #[] 0 (by simp; omega) (by unfold maxLen; omega) (by simp)
      simp at this
      exact this
set_option maxHeartbeats 4000000 in
theorem out_some (n : Bool) (xs : List Nat) (b o cap : Nat) (w : World) (h0 : 0 < xs.length) (h40 : xs.length ≤ 40) (hc : ∀ j, j < xs.length → w.cell? ⟨b, o + j, none⟩ = some (.int .i64 ((xs.getD j 0 : Nat) : Int))) (hb : b < w.heap.size) :
    Calls Tryz.prog 59 #[.agg #[.bool n, .slice (some ⟨b, o, none⟩) xs.length cap]] w fun e w' => ∃ v', e = .returned (.tuple #[.agg #[.bool n, v'], .bool true]) ∧ Old w w' ∧ Own w' w.heap.size v' (toI xs) := by
  obtain ⟨i0, hi, hz0, hz1, hz2⟩ := info_parts Tryz.infoInt
  have HC : Hid (∀ j, j < xs.length → w.cell? ⟨b, o + j, none⟩ = some (.int .i64 ((xs.getD j 0 : Nat) : Int))) := hc
  clear hc
  have d0 : decide ((40 : Int) < (xs.length : Int)) = false := dlt_no (by omega)
  go_enter Tryz.func59, Tryz.ntmps59
  go_wp2_with fail
  have HN : Hid (∀ W, Old w W → ∀ j u, ((toI xs).map (Value.int .i64))[j]? = some u → W.cell? ((⟨b, o, none⟩ : Addr).add j) = some u) := by
    intro W g j u hj
    have hjl : j < xs.length := by
      have := (List.getElem?_eq_some_iff.1 hj).1
      simpa [toI] using this
    have e1 := HC.out j hjl
    have e2 : u = .int .i64 ((xs.getD j 0 : Nat) : Int) := by
      simp [toI, hjl] at hj
      rw [← hj]
      simp [List.getD, hjl]
    rw [e2, ← e1]
    have : (⟨b, o, none⟩ : Addr).add j = ⟨b, o + j, none⟩ := by
      unfold Addr.add
      split
      · rename_i h; simp [h]
      · rfl
    rw [this]
    exact g.cell (p := ⟨b, o + j, none⟩) hb
  have HA : Hid (∀ t1 t2 t3 xs1 xs2 xs3 k, Old w ((((w.alloc (.cells xs1 t1)).alloc (.cells xs2 t2)).drewN k).alloc (.cells xs3 t3))) := fun t1 t2 t3 xs1 xs2 xs3 k => ((((Old.refl w).alloc _).alloc _).drewN _).alloc _
  go_region_law (refine step_append_two rfl (.tmp 11) (.tmp 13) 23 98 rfl 3 3 i0 (.int .i64 0) 1 8 Tryz.underlying23 Tryz.underlying98 hi hz0 hz1 hz2 rfl (by decide) ⟨w.heap.size + 1 + 1, 0, none⟩ (by simp [Act.eval, Act.put]) ⟨b, o, none⟩ xs.length cap ((toI xs).map (Value.int .i64)) (by simp [Act.eval, Act.put]) (by simp [toI]) (HN.out _ (HA.out _ _ _ _ _ _ 1)) h0 (by unfold maxLen; omega) (by omega) ?_; intro v5 w5 o5 g5; have gg := grownBy_old g5; have a0_ : w5.cell? ⟨w.heap.size, 0, none⟩ = some (Value.bool n) := (gg.cell (p := ⟨w.heap.size, 0, none⟩) (by simp; try omega)).trans ((cell_heap rfl _).trans (c3_0 w #[Value.bool n, Value.slice (some ⟨b, o, none⟩) xs.length cap] #[Value.bool false, Value.slice none 0 0] #[] 101 27 3 0)); have a1_ : w5.cell? ⟨w.heap.size, 1, none⟩ = some (Value.slice (some ⟨b, o, none⟩) xs.length cap) := (gg.cell (p := ⟨w.heap.size, 1, none⟩) (by simp; try omega)).trans ((cell_heap rfl _).trans (c3_0 w #[Value.bool n, Value.slice (some ⟨b, o, none⟩) xs.length cap] #[Value.bool false, Value.slice none 0 0] #[] 101 27 3 1)); have q0_ : w5.cell? ⟨w.heap.size + 1, 0, none⟩ = some (Value.bool false) := (gg.cell (p := ⟨w.heap.size + 1, 0, none⟩) (by simp; try omega)).trans ((cell_heap rfl _).trans (c3_1 w #[Value.bool n, Value.slice (some ⟨b, o, none⟩) xs.length cap] #[Value.bool false, Value.slice none 0 0] #[] 101 27 3 0)); have q1_ : w5.cell? ⟨w.heap.size + 1, 1, none⟩ = some (Value.slice none 0 0) := (gg.cell (p := ⟨w.heap.size + 1, 1, none⟩) (by simp; try omega)).trans ((cell_heap rfl _).trans (c3_1 w #[Value.bool n, Value.slice (some ⟨b, o, none⟩) xs.length cap] #[Value.bool false, Value.slice none 0 0] #[] 101 27 3 1)); have f0_ : w5.frozen? ⟨w.heap.size + 1, 0, none⟩ = false := (gg.frozen (p := ⟨w.heap.size + 1, 0, none⟩) (by simp; try omega)).trans ((fro_heap rfl _).trans (f3_1 w #[Value.bool n, Value.slice (some ⟨b, o, none⟩) xs.length cap] #[Value.bool false, Value.slice none 0 0] #[] 101 27 3 0)); have f1_ : w5.frozen? ⟨w.heap.size + 1, 1, none⟩ = false := (gg.frozen (p := ⟨w.heap.size + 1, 1, none⟩) (by simp; try omega)).trans ((fro_heap rfl _).trans (f3_1 w #[Value.bool n, Value.slice (some ⟨b, o, none⟩) xs.length cap] #[Value.bool false, Value.slice none 0 0] #[] 101 27 3 1)); have O5 : Own w5 (w.heap.size + 3) v5 (toI xs) := by { unfold Own; rw [toI_len]; exact Own_low' o5 (by simp) }; obtain ⟨a5, cap5, rfl⟩ := (Own.row O5).sliceN; have HG5 : Hid (Old w w5) := Old.trans (HA.out _ _ _ _ _ _ 1) gg; have HO5 : Hid (Own w5 (w.heap.size + 3) (.slice a5 xs.length cap5) (toI xs)) := O5; clear gg g5 o5 O5)
  all_goals
    go_wp2_with fail
    refine bodyPost_ret (v := .tuple #[.agg #[.bool n, .slice a5 xs.length cap5], .bool true]) (by simp [results, Tryz.results59, go_sem, q0_, q1_]) rfl ⟨_, rfl, ?_, ?_⟩
    · exact (HG5.out.own (p := ⟨w.heap.size + 1, 0, none⟩) (by simp) _).own (p := ⟨w.heap.size + 1, 1, none⟩) (by simp) _
    · refine Own.low (base := w.heap.size + 3) (ownsRow_setCell_other (ownsRow_setCell_other HO5.out (fun e => ?_) _) (fun e => ?_) _) (by omega)
      · have := (HO5.out.lt (w.heap.size + 1) e).1; omega
      · have := (HO5.out.lt (w.heap.size + 1) e).1; omega
theorem out_any (n : Bool) (xs : List Nat) (v : Value) (w : World) (hv : Row w v (toI xs)) (h40 : xs.length ≤ 40) :
    Calls Tryz.prog 59 #[.agg #[.bool n, v]] w fun e w' => ∃ v', e = .returned (.tuple #[.agg #[.bool n, v'], .bool true]) ∧ Old w w' ∧ Own w' w.heap.size v' (toI xs) := by
  obtain ⟨a0, cap0, rfl⟩ := hv.sliceN
  rcases Nat.eq_zero_or_pos xs.length with h0 | h0
  · obtain rfl := List.length_eq_zero_iff.1 h0
    exact out_none n a0 cap0 w
  · obtain ⟨b, o, rfl, hb, hc⟩ := Row.at hv h0
    exact out_some n xs b o cap0 w h0 h40 hc hb
end Go.Proofs.YtfgooclnohnkmaaGreatDoor
