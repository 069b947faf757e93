/- Proved: contracts of the model's sum of whole numbers of two signs. -/
import Derived.Test.YtdpcahphbjdhaaaWide
namespace Go.Proofs.Ytdpcahphbjdhaaa
open Go.ChangeShapes Go.WideShapes Go.ChangeAt Go.RowKit
open M2
set_option linter.unusedVariables false
set_option linter.unusedSimpArgs false
set_option maxHeartbeats 4000000 in
theorem plus_more (n m : Bool) (xs ys : List Nat) (v u : Value) (w : World) (hv : Row w v (toI xs)) (hu : Row w u (toI ys)) (ha : Nrm xs) (hb : Nrm ys) (la : xs.length ≤ 1048576) (lb : ys.length ≤ 1048576) (hnm : (n == m) = false) (hc : val ys < val xs) :
    Calls Try.prog 52 #[.agg #[.bool n, v], .agg #[.bool m, u]] w fun e w' => ∃ v', e = .returned (.agg #[.bool n, v']) ∧ Old w w' ∧ Own w' w.heap.size v' (toI (dig (val xs - val ys))) := by
  have HV : Hid (Row w v (toI xs)) := hv
  have HU : Hid (Row w u (toI ys)) := hu
  obtain ⟨a0, cap0, rfl⟩ := hv.sliceN
  obtain ⟨a1, cap1, rfl⟩ := hu.sliceN
  have HCV : Hid (cmpN (val xs) (val ys) = 1) := by unfold cmpN; rw [if_neg (by omega), if_pos hc]; rfl
  have HLE : Hid (val ys ≤ val xs) := Nat.le_of_lt hc
  clear hv hu hc
  go_enter Try.func52, Try.ntmps52
  go_wp2_with fail
  have HA : Hid (∀ t1 t2 t3 xs1 xs2 xs3, Old w (((w.alloc (.cells xs1 t1)).alloc (.cells xs2 t2)).alloc (.cells xs3 t3))) := fun t1 t2 t3 xs1 xs2 xs3 => (((Old.refl w).alloc _).alloc _).alloc _
  refine (cmp_any xs ys _ _ _ (HV.out.old (HA.out _ _ _ _ _ _)) (HU.out.old (HA.out _ _ _ _ _ _)) ha hb (by omega) (by omega)).mono ?_
  rintro e w2 ⟨rfl, g2⟩
  have HG2 : Hid (Old w w2) := Old.trans (HA.out _ _ _ _ _ _) g2
  have a0_ : w2.cell? ⟨w.heap.size, 0, none⟩ = some (Value.bool n) := (g2.cell (p := ⟨w.heap.size, 0, none⟩) (by simp; try omega)).trans (c3_0 _ _ _ _ _ _ _ _ )
  have a1_ : w2.cell? ⟨w.heap.size, 1, none⟩ = some (Value.slice a0 xs.length cap0) := (g2.cell (p := ⟨w.heap.size, 1, none⟩) (by simp; try omega)).trans (c3_0 _ _ _ _ _ _ _ _ )
  have b0_ : w2.cell? ⟨w.heap.size + 1, 0, none⟩ = some (Value.bool m) := (g2.cell (p := ⟨w.heap.size + 1, 0, none⟩) (by simp; try omega)).trans (c3_1 _ _ _ _ _ _ _ _ )
  have b1_ : w2.cell? ⟨w.heap.size + 1, 1, none⟩ = some (Value.slice a1 ys.length cap1) := (g2.cell (p := ⟨w.heap.size + 1, 1, none⟩) (by simp; try omega)).trans (c3_1 _ _ _ _ _ _ _ _ )
  have q0_ : w2.cell? ⟨w.heap.size + 1 + 1, 0, none⟩ = some (Value.bool false) := (g2.cell (p := ⟨w.heap.size + 1 + 1, 0, none⟩) (by simp; try omega)).trans (c3_2 _ _ _ _ _ _ _ _ )
  have q1_ : w2.cell? ⟨w.heap.size + 1 + 1, 1, none⟩ = some (Value.slice none 0 0) := (g2.cell (p := ⟨w.heap.size + 1 + 1, 1, none⟩) (by simp; try omega)).trans (c3_2 _ _ _ _ _ _ _ _ )
  have f0_ : w2.frozen? ⟨w.heap.size + 1 + 1, 0, none⟩ = false := (g2.frozen (p := ⟨w.heap.size + 1 + 1, 0, none⟩) (by simp; try omega)).trans (f3_2 _ _ _ _ _ _ _ _ )
  have f1_ : w2.frozen? ⟨w.heap.size + 1 + 1, 1, none⟩ = false := (g2.frozen (p := ⟨w.heap.size + 1 + 1, 1, none⟩) (by simp; try omega)).trans (f3_2 _ _ _ _ _ _ _ _ )
  have hsz : w.heap.size + 3 ≤ w2.heap.size := by have := g2.size; simp at this; omega
  rw [HCV.out]
  clear g2 HA
  go_wp2_with fail
  go_region_with (go_at_call 86; refine (sub_any xs ys _ _ _ (HV.out.old (HG2.out.drewN 1)) (HU.out.old (HG2.out.drewN 1)) ha hb la lb HLE.out).mono ?_; rintro e w5 ⟨v5, rfl, g5, o5⟩; obtain ⟨a5, cap5, rfl⟩ := (Own.row o5).sliceN; have a0z := (g5.cell (p := ⟨w.heap.size, 0, none⟩) (by show w.heap.size < w2.heap.size; omega)).trans a0_; have a1z := (g5.cell (p := ⟨w.heap.size, 1, none⟩) (by show w.heap.size < w2.heap.size; omega)).trans a1_; have b0z := (g5.cell (p := ⟨w.heap.size + 1, 0, none⟩) (by show w.heap.size + 1 < w2.heap.size; omega)).trans b0_; have b1z := (g5.cell (p := ⟨w.heap.size + 1, 1, none⟩) (by show w.heap.size + 1 < w2.heap.size; omega)).trans b1_; have q0z := (g5.cell (p := ⟨w.heap.size + 1 + 1, 0, none⟩) (by show w.heap.size + 1 + 1 < w2.heap.size; omega)).trans q0_; have q1z := (g5.cell (p := ⟨w.heap.size + 1 + 1, 1, none⟩) (by show w.heap.size + 1 + 1 < w2.heap.size; omega)).trans q1_; have f0z := (g5.frozen (p := ⟨w.heap.size + 1 + 1, 0, none⟩) (by show w.heap.size + 1 + 1 < w2.heap.size; omega)).trans f0_; have f1z := (g5.frozen (p := ⟨w.heap.size + 1 + 1, 1, none⟩) (by show w.heap.size + 1 + 1 < w2.heap.size; omega)).trans f1_; have HG5 : Hid (Old w w5) := Old.trans (HG2.out.drewN 1) g5; have HO5 : Hid (Own w5 (w.heap.size + 3) (.slice a5 (dig (val xs - val ys)).length cap5) (toI (dig (val xs - val ys)))) := Own.low o5 (by show w.heap.size + 3 ≤ w2.heap.size; omega); clear g5 o5)
  all_goals
    go_wp2_with fail
    refine bodyPost_ret (v := .agg #[.bool n, .slice a5 (dig (val xs - val ys)).length cap5]) (by simp [results, Try.results52, go_sem, q0z, q1z]) rfl ⟨_, rfl, ?_, ?_⟩
    · exact (HG5.out.own (p := ⟨w.heap.size + 1 + 1, 0, none⟩) (by simp; omega) _).own (p := ⟨w.heap.size + 1 + 1, 1, none⟩) (by simp; omega) _
    · refine Own.low (base := w.heap.size + 3) (ownsRow_setCell_other (ownsRow_setCell_other HO5.out (fun e => ?_) _) (fun e => ?_) _) (by omega)
      · have := (HO5.out.lt (w.heap.size + 1 + 1) e).1; omega
      · have := (HO5.out.lt (w.heap.size + 1 + 1) e).1; omega
set_option maxHeartbeats 4000000 in
theorem plus_less (n m : Bool) (xs ys : List Nat) (v u : Value) (w : World) (hv : Row w v (toI xs)) (hu : Row w u (toI ys)) (ha : Nrm xs) (hb : Nrm ys) (la : xs.length ≤ 1048576) (lb : ys.length ≤ 1048576) (hnm : (n == m) = false) (hc : val xs < val ys) :
    Calls Try.prog 52 #[.agg #[.bool n, v], .agg #[.bool m, u]] w fun e w' => ∃ v', e = .returned (.agg #[.bool m, v']) ∧ Old w w' ∧ Own w' w.heap.size v' (toI (dig (val ys - val xs))) := by
  have HV : Hid (Row w v (toI xs)) := hv
  have HU : Hid (Row w u (toI ys)) := hu
  obtain ⟨a0, cap0, rfl⟩ := hv.sliceN
  obtain ⟨a1, cap1, rfl⟩ := hu.sliceN
  have HCV : Hid (cmpN (val xs) (val ys) = -1) := by unfold cmpN; rw [if_pos hc]; rfl
  have HLE : Hid (val xs ≤ val ys) := Nat.le_of_lt hc
  clear hv hu hc
  go_enter Try.func52, Try.ntmps52
  go_wp2_with fail
  have HA : Hid (∀ t1 t2 t3 xs1 xs2 xs3, Old w (((w.alloc (.cells xs1 t1)).alloc (.cells xs2 t2)).alloc (.cells xs3 t3))) := fun t1 t2 t3 xs1 xs2 xs3 => (((Old.refl w).alloc _).alloc _).alloc _
  refine (cmp_any xs ys _ _ _ (HV.out.old (HA.out _ _ _ _ _ _)) (HU.out.old (HA.out _ _ _ _ _ _)) ha hb (by omega) (by omega)).mono ?_
  rintro e w2 ⟨rfl, g2⟩
  have HG2 : Hid (Old w w2) := Old.trans (HA.out _ _ _ _ _ _) g2
  have a0_ : w2.cell? ⟨w.heap.size, 0, none⟩ = some (Value.bool n) := (g2.cell (p := ⟨w.heap.size, 0, none⟩) (by simp; try omega)).trans (c3_0 _ _ _ _ _ _ _ _ )
  have a1_ : w2.cell? ⟨w.heap.size, 1, none⟩ = some (Value.slice a0 xs.length cap0) := (g2.cell (p := ⟨w.heap.size, 1, none⟩) (by simp; try omega)).trans (c3_0 _ _ _ _ _ _ _ _ )
  have b0_ : w2.cell? ⟨w.heap.size + 1, 0, none⟩ = some (Value.bool m) := (g2.cell (p := ⟨w.heap.size + 1, 0, none⟩) (by simp; try omega)).trans (c3_1 _ _ _ _ _ _ _ _ )
  have b1_ : w2.cell? ⟨w.heap.size + 1, 1, none⟩ = some (Value.slice a1 ys.length cap1) := (g2.cell (p := ⟨w.heap.size + 1, 1, none⟩) (by simp; try omega)).trans (c3_1 _ _ _ _ _ _ _ _ )
  have q0_ : w2.cell? ⟨w.heap.size + 1 + 1, 0, none⟩ = some (Value.bool false) := (g2.cell (p := ⟨w.heap.size + 1 + 1, 0, none⟩) (by simp; try omega)).trans (c3_2 _ _ _ _ _ _ _ _ )
  have q1_ : w2.cell? ⟨w.heap.size + 1 + 1, 1, none⟩ = some (Value.slice none 0 0) := (g2.cell (p := ⟨w.heap.size + 1 + 1, 1, none⟩) (by simp; try omega)).trans (c3_2 _ _ _ _ _ _ _ _ )
  have f0_ : w2.frozen? ⟨w.heap.size + 1 + 1, 0, none⟩ = false := (g2.frozen (p := ⟨w.heap.size + 1 + 1, 0, none⟩) (by simp; try omega)).trans (f3_2 _ _ _ _ _ _ _ _ )
  have f1_ : w2.frozen? ⟨w.heap.size + 1 + 1, 1, none⟩ = false := (g2.frozen (p := ⟨w.heap.size + 1 + 1, 1, none⟩) (by simp; try omega)).trans (f3_2 _ _ _ _ _ _ _ _ )
  have hsz : w.heap.size + 3 ≤ w2.heap.size := by have := g2.size; simp at this; omega
  rw [HCV.out]
  clear g2 HA
  go_wp2_with fail
  go_region_with (go_at_call 86; refine (sub_any ys xs _ _ _ (HU.out.old (HG2.out.drewN 1)) (HV.out.old (HG2.out.drewN 1)) hb ha lb la HLE.out).mono ?_; rintro e w5 ⟨v5, rfl, g5, o5⟩; obtain ⟨a5, cap5, rfl⟩ := (Own.row o5).sliceN; have a0z := (g5.cell (p := ⟨w.heap.size, 0, none⟩) (by show w.heap.size < w2.heap.size; omega)).trans a0_; have a1z := (g5.cell (p := ⟨w.heap.size, 1, none⟩) (by show w.heap.size < w2.heap.size; omega)).trans a1_; have b0z := (g5.cell (p := ⟨w.heap.size + 1, 0, none⟩) (by show w.heap.size + 1 < w2.heap.size; omega)).trans b0_; have b1z := (g5.cell (p := ⟨w.heap.size + 1, 1, none⟩) (by show w.heap.size + 1 < w2.heap.size; omega)).trans b1_; have q0z := (g5.cell (p := ⟨w.heap.size + 1 + 1, 0, none⟩) (by show w.heap.size + 1 + 1 < w2.heap.size; omega)).trans q0_; have q1z := (g5.cell (p := ⟨w.heap.size + 1 + 1, 1, none⟩) (by show w.heap.size + 1 + 1 < w2.heap.size; omega)).trans q1_; have f0z := (g5.frozen (p := ⟨w.heap.size + 1 + 1, 0, none⟩) (by show w.heap.size + 1 + 1 < w2.heap.size; omega)).trans f0_; have f1z := (g5.frozen (p := ⟨w.heap.size + 1 + 1, 1, none⟩) (by show w.heap.size + 1 + 1 < w2.heap.size; omega)).trans f1_; have HG5 : Hid (Old w w5) := Old.trans (HG2.out.drewN 1) g5; have HO5 : Hid (Own w5 (w.heap.size + 3) (.slice a5 (dig (val ys - val xs)).length cap5) (toI (dig (val ys - val xs)))) := Own.low o5 (by show w.heap.size + 3 ≤ w2.heap.size; omega); clear g5 o5)
  all_goals
    go_wp2_with fail
    refine bodyPost_ret (v := .agg #[.bool m, .slice a5 (dig (val ys - val xs)).length cap5]) (by simp [results, Try.results52, go_sem, q0z, q1z]) rfl ⟨_, rfl, ?_, ?_⟩
    · exact (HG5.out.own (p := ⟨w.heap.size + 1 + 1, 0, none⟩) (by simp; omega) _).own (p := ⟨w.heap.size + 1 + 1, 1, none⟩) (by simp; omega) _
    · refine Own.low (base := w.heap.size + 3) (ownsRow_setCell_other (ownsRow_setCell_other HO5.out (fun e => ?_) _) (fun e => ?_) _) (by omega)
      · have := (HO5.out.lt (w.heap.size + 1 + 1) e).1; omega
      · have := (HO5.out.lt (w.heap.size + 1 + 1) e).1; omega
set_option maxHeartbeats 4000000 in
theorem plus_zero (n m : Bool) (xs ys : List Nat) (v u : Value) (w : World) (hv : Row w v (toI xs)) (hu : Row w u (toI ys)) (ha : Nrm xs) (hb : Nrm ys) (la : xs.length ≤ 1048576) (lb : ys.length ≤ 1048576) (hnm : (n == m) = false) (hc : val xs = val ys) :
    Calls Try.prog 52 #[.agg #[.bool n, v], .agg #[.bool m, u]] w fun e w' => ∃ v', e = .returned (.agg #[.bool false, v']) ∧ Old w w' ∧ Own w' w.heap.size v' (toI (dig 0)) := by
  have HV : Hid (Row w v (toI xs)) := hv
  have HU : Hid (Row w u (toI ys)) := hu
  obtain ⟨a0, cap0, rfl⟩ := hv.sliceN
  obtain ⟨a1, cap1, rfl⟩ := hu.sliceN
  have HCV : Hid (cmpN (val xs) (val ys) = 0) := by unfold cmpN; rw [hc, if_neg (by omega), if_neg (by omega)]; rfl
  clear hv hu hc
  go_enter Try.func52, Try.ntmps52
  go_wp2_with fail
  have HA : Hid (∀ t1 t2 t3 xs1 xs2 xs3, Old w (((w.alloc (.cells xs1 t1)).alloc (.cells xs2 t2)).alloc (.cells xs3 t3))) := fun t1 t2 t3 xs1 xs2 xs3 => (((Old.refl w).alloc _).alloc _).alloc _
  refine (cmp_any xs ys _ _ _ (HV.out.old (HA.out _ _ _ _ _ _)) (HU.out.old (HA.out _ _ _ _ _ _)) ha hb (by omega) (by omega)).mono ?_
  rintro e w2 ⟨rfl, g2⟩
  have HG2 : Hid (Old w w2) := Old.trans (HA.out _ _ _ _ _ _) g2
  have a0_ : w2.cell? ⟨w.heap.size, 0, none⟩ = some (Value.bool n) := (g2.cell (p := ⟨w.heap.size, 0, none⟩) (by simp; try omega)).trans (c3_0 _ _ _ _ _ _ _ _ )
  have a1_ : w2.cell? ⟨w.heap.size, 1, none⟩ = some (Value.slice a0 xs.length cap0) := (g2.cell (p := ⟨w.heap.size, 1, none⟩) (by simp; try omega)).trans (c3_0 _ _ _ _ _ _ _ _ )
  have b0_ : w2.cell? ⟨w.heap.size + 1, 0, none⟩ = some (Value.bool m) := (g2.cell (p := ⟨w.heap.size + 1, 0, none⟩) (by simp; try omega)).trans (c3_1 _ _ _ _ _ _ _ _ )
  have b1_ : w2.cell? ⟨w.heap.size + 1, 1, none⟩ = some (Value.slice a1 ys.length cap1) := (g2.cell (p := ⟨w.heap.size + 1, 1, none⟩) (by simp; try omega)).trans (c3_1 _ _ _ _ _ _ _ _ )
  have q0_ : w2.cell? ⟨w.heap.size + 1 + 1, 0, none⟩ = some (Value.bool false) := (g2.cell (p := ⟨w.heap.size + 1 + 1, 0, none⟩) (by simp; try omega)).trans (c3_2 _ _ _ _ _ _ _ _ )
  have q1_ : w2.cell? ⟨w.heap.size + 1 + 1, 1, none⟩ = some (Value.slice none 0 0) := (g2.cell (p := ⟨w.heap.size + 1 + 1, 1, none⟩) (by simp; try omega)).trans (c3_2 _ _ _ _ _ _ _ _ )
  have f0_ : w2.frozen? ⟨w.heap.size + 1 + 1, 0, none⟩ = false := (g2.frozen (p := ⟨w.heap.size + 1 + 1, 0, none⟩) (by simp; try omega)).trans (f3_2 _ _ _ _ _ _ _ _ )
  have f1_ : w2.frozen? ⟨w.heap.size + 1 + 1, 1, none⟩ = false := (g2.frozen (p := ⟨w.heap.size + 1 + 1, 1, none⟩) (by simp; try omega)).trans (f3_2 _ _ _ _ _ _ _ _ )
  have hsz : w.heap.size + 3 ≤ w2.heap.size := by have := g2.size; simp at this; omega
  rw [HCV.out]
  clear g2 HA
  go_wp2_with fail
  refine bodyPost_ret (v := .agg #[.bool false, .slice none 0 0]) (by simp [results, Try.results52, go_sem, q0_, q1_]) rfl ⟨_, rfl, ?_, ?_⟩
  · exact (HG2.out.own (p := ⟨w.heap.size + 1 + 1, 0, none⟩) (by simp; omega) _).own (p := ⟨w.heap.size + 1 + 1, 1, none⟩) (by simp; omega) _
  · rw [dig_zero]; exact World.ownsRow_nil _ _ _ _
end Go.Proofs.Ytdpcahphbjdhaaa
