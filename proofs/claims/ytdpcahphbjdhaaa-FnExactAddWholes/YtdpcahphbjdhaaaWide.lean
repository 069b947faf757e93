/- Proved: contracts of the model's functions on whole numbers of any length. -/
import Derived.Test.YtdpcahphbjdhaaaLimbsG
import Derived.Deep.RegionWith
namespace Go.Proofs.Ytdpcahphbjdhaaa
open Go.ChangeShapes Go.WideShapes Go.ChangeAt Go.RowKit
open M2
set_option linter.unusedVariables false
set_option linter.unusedSimpArgs false
/-- what a sign and limbs are worth -/
def sv (neg : Bool) (xs : List Nat) : Int := if neg then -(val xs : Int) else (val xs : Int)
/-- a sign and limbs as they should be -/
def Gw (neg : Bool) (xs : List Nat) : Prop := Nrm xs ∧ (neg = true → xs ≠ [])
def ng (z : Int) : Bool := decide (z < 0)
def dg (z : Int) : List Nat := dig z.natAbs
theorem Gw.pos {neg : Bool} {xs : List Nat} (h : Gw neg xs) (hn : neg = true) : 0 < val xs := by
  rcases Nat.eq_zero_or_pos (val xs) with h0 | h0
  · exact absurd (val_zero_of h.1 h0) (h.2 hn)
  · exact h0
theorem gw_of (z : Int) : Gw (ng z) (dg z) := by
  refine ⟨dig_nrm _, fun h => dig_ne ?_⟩
  simp [ng] at h
  omega
theorem sv_of (z : Int) : sv (ng z) (dg z) = z := by
  unfold sv ng dg
  rw [val_dig]
  by_cases h : z < 0
  · simp [h]; omega
  · simp [h]; omega
theorem of_sv {neg : Bool} {xs : List Nat} (h : Gw neg xs) : ng (sv neg xs) = neg ∧ dg (sv neg xs) = xs := by
  cases neg
  · unfold sv ng dg
    simp
    exact dig_val h.1
  · have := h.pos rfl
    unfold sv ng dg
    simp
    exact ⟨by omega, dig_val h.1⟩
set_option maxHeartbeats 4000000 in
theorem plus_same (n : Bool) (xs ys : List Nat) (v u : Value) (w : World) (hv : Row w v (toI xs)) (hu : Row w u (toI ys)) (ha : Lim xs) (hb : Lim ys) (la : xs.length ≤ 1048576) (lb : ys.length ≤ 1048576) :
    Calls Try.prog 52 #[.agg #[.bool n, v], .agg #[.bool n, u]] w fun e w' => ∃ v', e = .returned (.agg #[.bool n, v']) ∧ Old w w' ∧ Own w' w.heap.size v' (toI (dig (val xs + val ys))) := by
  have HV : Hid (Row w v (toI xs)) := hv
  have HU : Hid (Row w u (toI ys)) := hu
  obtain ⟨a0, cap0, rfl⟩ := hv.sliceN
  obtain ⟨a1, cap1, rfl⟩ := hu.sliceN
  clear hv hu
  have dn : (n == n) = true := by simp
  go_enter Try.func52, Try.ntmps52
  go_wp2_with fail
  have HA : Hid (∀ t1 t2 t3 xs1 xs2 xs3, Old w (((w.alloc (.cells xs1 t1)).alloc (.cells xs2 t2)).alloc (.cells xs3 t3))) := fun t1 t2 t3 xs1 xs2 xs3 => (((Old.refl w).alloc _).alloc _).alloc _
  go_region_with (go_at_call 76; refine (add_any xs ys _ _ _ (HV.out.old ((HA.out _ _ _ _ _ _).drewN 1)) (HU.out.old ((HA.out _ _ _ _ _ _).drewN 1)) ha hb la lb).mono ?_; rintro e w5 ⟨v5, rfl, g5, o5⟩; obtain ⟨a5, cap5, rfl⟩ := (Own.row o5).sliceN; have a0_ : w5.cell? ⟨w.heap.size, 0, none⟩ = some (Value.bool n) := (g5.cell (p := ⟨w.heap.size, 0, none⟩) (by simp; try omega)).trans (c3_0 _ _ _ _ _ _ _ _ ); have a1_ : w5.cell? ⟨w.heap.size, 1, none⟩ = some (Value.slice a0 xs.length cap0) := (g5.cell (p := ⟨w.heap.size, 1, none⟩) (by simp; try omega)).trans (c3_0 _ _ _ _ _ _ _ _ ); have b0_ : w5.cell? ⟨w.heap.size + 1, 0, none⟩ = some (Value.bool n) := (g5.cell (p := ⟨w.heap.size + 1, 0, none⟩) (by simp; try omega)).trans (c3_1 _ _ _ _ _ _ _ _ ); have b1_ : w5.cell? ⟨w.heap.size + 1, 1, none⟩ = some (Value.slice a1 ys.length cap1) := (g5.cell (p := ⟨w.heap.size + 1, 1, none⟩) (by simp; try omega)).trans (c3_1 _ _ _ _ _ _ _ _ ); have q0 : w5.cell? ⟨w.heap.size + 1 + 1, 0, none⟩ = some (Value.bool false) := (g5.cell (p := ⟨w.heap.size + 1 + 1, 0, none⟩) (by simp; try omega)).trans (c3_2 _ _ _ _ _ _ _ _ ); have q1 : w5.cell? ⟨w.heap.size + 1 + 1, 1, none⟩ = some (Value.slice none 0 0) := (g5.cell (p := ⟨w.heap.size + 1 + 1, 1, none⟩) (by simp; try omega)).trans (c3_2 _ _ _ _ _ _ _ _ ); have f0 : w5.frozen? ⟨w.heap.size + 1 + 1, 0, none⟩ = false := (g5.frozen (p := ⟨w.heap.size + 1 + 1, 0, none⟩) (by simp; try omega)).trans (f3_2 _ _ _ _ _ _ _ _ ); have f1 : w5.frozen? ⟨w.heap.size + 1 + 1, 1, none⟩ = false := (g5.frozen (p := ⟨w.heap.size + 1 + 1, 1, none⟩) (by simp; try omega)).trans (f3_2 _ _ _ _ _ _ _ _ ); have HG5 : Hid (Old w w5) := Old.trans ((HA.out _ _ _ _ _ _).drewN 1) g5; have HO5 : Hid (Own w5 (w.heap.size + 3) (.slice a5 (dig (val xs + val ys)).length cap5) (toI (dig (val xs + val ys)))) := Own.low o5 (by simp); clear g5 o5)
  all_goals
    go_wp2_with fail
    refine bodyPost_ret (v := .agg #[.bool n, .slice a5 (dig (val xs + val ys)).length cap5]) (by simp [results, Try.results52, go_sem, q0, q1]) rfl ⟨_, rfl, ?_, ?_⟩
    · exact (HG5.out.own (p := ⟨w.heap.size + 1 + 1, 0, none⟩) (by simp; omega) _).own (p := ⟨w.heap.size + 1 + 1, 1, none⟩) (by simp; omega) _
    · refine Own.low (base := w.heap.size + 3) (ownsRow_setCell_other (ownsRow_setCell_other HO5.out (fun e => ?_) _) (fun e => ?_) _) (by omega)
      · have := (HO5.out.lt (w.heap.size + 1 + 1) e).1; omega
      · have := (HO5.out.lt (w.heap.size + 1 + 1) e).1; omega
end Go.Proofs.Ytdpcahphbjdhaaa
