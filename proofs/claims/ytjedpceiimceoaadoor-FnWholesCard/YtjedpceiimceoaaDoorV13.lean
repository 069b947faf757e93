/- Proved: several texts in one: what each proves is said ahead of it. -/
import Derived.Test.YtjedpceiimceoaaDoorV12
import Derived.Deep.RegionWith
import Derived.Test.YtjedpceiimceoaaDoorV02
/- Proved: contracts of the model's functions on whole numbers of any length. -/
namespace Go.Proofs.YtjedpceiimceoaaDoor
open Go.ChangeShapes Go.WideShapes Go.ChangeAt Go.RowKit
open M2
set_option linter.unusedVariables false
set_option linter.unusedSimpArgs false
def sv (neg : Bool) (xs : List Nat) : Int := if neg then -(val xs : Int) else (val xs : Int)
def Gw (neg : Bool) (xs : List Nat) : Prop := Nrm xs ∧ (neg = true → xs ≠ [])
def ng (z : Int) : Bool := decide (z < 0)
def dg (z : Int) : List Nat := dig z.natAbs
theorem Gw.pos {neg : Bool} {xs : List Nat} (h : Gw neg xs) (hn : neg = true) : 0 < val xs := by
  rcases Nat.eq_zero_or_pos (val xs) with h0 | h0
  · exact absurd (val_zero_of h.1 h0) (h.2 hn)
  · exact h0
theorem gw_of (z : Int) : Gw (ng z) (dg z) := by
  refine ⟨dig_nrm _, fun h => dig_ne ?_⟩
  simp [ng] at h
  omega
theorem sv_of (z : Int) : sv (ng z) (dg z) = z := by
  unfold sv ng dg
  rw [val_dig]
  by_cases h : z < 0
  · simp [h]; omega
  · simp [h]; omega
theorem of_sv {neg : Bool} {xs : List Nat} (h : Gw neg xs) : ng (sv neg xs) = neg ∧ dg (sv neg xs) = xs := by
  cases neg
  · unfold sv ng dg
    simp
    exact dig_val h.1
  · have := h.pos rfl
    unfold sv ng dg
    simp
    exact ⟨by omega, dig_val h.1⟩
end Go.Proofs.YtjedpceiimceoaaDoor
/- Proved: contracts of the model's sums, products and quotients of whole numbers, by what the numbers are worth. -/
namespace Go.Proofs.YtjedpceiimceoaaDoor
open Go.ChangeShapes Go.WideShapes Go.ChangeAt Go.RowKit
open M2
set_option linter.unusedVariables false
set_option linter.unusedSimpArgs false
theorem div_any (xs ys : List Nat) (v u : Value) (w : World) (hv : Row w v (toI xs)) (hu : Row w u (toI ys)) (ha : Lim xs) (hb : Nrm ys) (hl : ys ≠ []) (la : xs.length ≤ 1048576) (lb : ys.length ≤ 1048000) :
    Calls Tryd.prog 39 #[v, u] w fun e w' => ∃ v1 v2, e = .returned (.tuple #[v1, v2]) ∧ Old w w' ∧ Own w' w.heap.size v1 (toI (dig (val xs / val ys))) ∧ Own w' w.heap.size v2 (toI (dig (val xs % val ys))) := by
  by_cases h1 : ys.length = 1
  · obtain ⟨d, rfl⟩ := List.length_eq_one_iff.1 h1
    have hd : d ≠ 0 := by have := hb.2 (by simp); simpa using this
    have hd2 := hb.1.head
    have e : val [d] = d := by simp [val]
    rw [e]
    exact div1_any xs d v u w hv hu ha (by omega) hd2 la
  · have h0 : ys.length ≠ 0 := fun h => hl (List.length_eq_zero_iff.1 h)
    exact div2_any xs ys v u w hv hu ha hb (by omega) la lb
end Go.Proofs.YtjedpceiimceoaaDoor
/- Proved: contracts of the model's quotients down, of the nearest quotient, of words and of what is left, by what the numbers are worth. -/
namespace Go.Proofs.YtjedpceiimceoaaDoor
open Go.ChangeShapes Go.WideShapes Go.ChangeAt Go.RowKit
open M2
set_option linter.unusedVariables false
set_option linter.unusedSimpArgs false
theorem one_row (w : World) (t : TypeId) : Row (w.alloc (.cells #[.int .i64 1] t)) (.slice (some ⟨w.heap.size, 0, none⟩) 1 1) (toI [1]) :=
  Or.inr ⟨w.heap.size, 0, 1, rfl, by simp, by simp [toI], fun j hj => by
    have : j = 0 := by simp [toI] at hj; omega
    subst this
    rw [cell_at _ _ _ _ _ (by simp)]
    rfl⟩
theorem div_unique (a : Int) (b : Nat) (q : Int) (r : Nat) (hr : r < b) (h : (r : Int) + (b : Int) * q = a) : a / (b : Int) = q ∧ a % (b : Int) = (r : Int) :=
  (Int.ediv_emod_unique (by omega)).2 ⟨h, by omega, by omega⟩
theorem down_pos_eq (xs : List Nat) (D : Nat) (hD : 0 < D) : false = ng (sv false xs / (D : Int)) ∧ dig (val xs / D) = dg (sv false xs / (D : Int)) ∧ val xs % D = (sv false xs % (D : Int)).toNat := by
  obtain ⟨e1, e2⟩ := div_unique (sv false xs) D ((val xs / D : Nat) : Int) (val xs % D) (Nat.mod_lt _ hD) (by
    have := Nat.mod_add_div (val xs) D
    unfold sv
    simp only [Bool.false_eq_true, if_false]
    rw [← Int.natCast_mul]
    omega)
  rw [e1, e2]
  refine ⟨?_, ?_, (Int.toNat_natCast _).symm⟩
  · generalize val xs / D = k
    simp only [ng]; symm; apply decide_eq_false; omega
  · simp only [dg, Int.natAbs_natCast]
theorem down_exact_eq (xs : List Nat) (D : Nat) (hD : 0 < D) (h0 : val xs % D = 0) : decide (0 < (dig (val xs / D)).length) = ng (sv true xs / (D : Int)) ∧ dig (val xs / D) = dg (sv true xs / (D : Int)) ∧ 0 = (sv true xs % (D : Int)).toNat := by
  obtain ⟨e1, e2⟩ := div_unique (sv true xs) D (-((val xs / D : Nat) : Int)) 0 hD (by
    have := Nat.mod_add_div (val xs) D
    rw [h0] at this
    unfold sv
    simp only [if_true]
    rw [Int.mul_neg, ← Int.natCast_mul]
    omega)
  rw [e1, e2]
  refine ⟨?_, by simp only [dg, Int.natAbs_neg, Int.natAbs_natCast], by simp⟩
  unfold ng
  rw [decide_eq_decide]
  constructor
  · intro h
    rcases Nat.eq_zero_or_pos (val xs / D) with h1 | h1
    · rw [h1, dig_zero] at h; simp at h
    · omega
  · intro h
    have := dig_ne (n := val xs / D) (by omega)
    rcases Nat.eq_zero_or_pos (dig (val xs / D)).length with h2 | h2
    · exact absurd (List.length_eq_zero_iff.1 h2) this
    · exact h2
theorem down_up_eq (xs : List Nat) (D : Nat) (hD : 0 < D) (h0 : 0 < val xs % D) : true = ng (sv true xs / (D : Int)) ∧ dig (val xs / D + 1) = dg (sv true xs / (D : Int)) ∧ D - val xs % D = (sv true xs % (D : Int)).toNat := by
  have hm := Nat.mod_lt (val xs) hD
  obtain ⟨e1, e2⟩ := div_unique (sv true xs) D (-((val xs / D + 1 : Nat) : Int)) (D - val xs % D) (by omega) (by
    have := Nat.mod_add_div (val xs) D
    have e : D * (val xs / D + 1) = D * (val xs / D) + D := by rw [Nat.mul_add, Nat.mul_one]
    unfold sv
    simp only [if_true]
    rw [Int.mul_neg, ← Int.natCast_mul, e]
    omega)
  rw [e1, e2]
  refine ⟨?_, by simp only [dg, Int.natAbs_neg, Int.natAbs_natCast], (Int.toNat_natCast _).symm⟩
  generalize val xs / D = k
  simp only [ng]; symm; apply decide_eq_true; omega
set_option maxHeartbeats 4000000 in
theorem down_pos (xs ys : List Nat) (v u : Value) (w : World) (hv : Row w v (toI xs)) (hu : Row w u (toI ys)) (ha : Lim xs) (hb : Nrm ys) (hl : ys ≠ []) (la : xs.length ≤ 2000) (lb : ys.length ≤ 2000) :
    Calls Tryd.prog 29 #[.agg #[.bool false, v], u] w fun e w' => ∃ v1 v2, e = .returned (.tuple #[.agg #[.bool false, v1], v2]) ∧ Old w w' ∧ Own w' w.heap.size v1 (toI (dig (val xs / val ys))) ∧ Own w' w.heap.size v2 (toI (dig (val xs % val ys))) := by
  have HV : Hid (Row w v (toI xs)) := hv
  have HU : Hid (Row w u (toI ys)) := hu
  obtain ⟨a0, cap0, rfl⟩ := hv.sliceN
  obtain ⟨a1, cap1, rfl⟩ := hu.sliceN
  clear hv hu
  have hD : 0 < val ys := by
    rcases Nat.eq_zero_or_pos (val ys) with h | h
    · exact absurd (val_zero_of hb h) hl
    · exact h
  have hql : (dig (val xs / val ys)).length ≤ 2000 := Nat.le_trans (dig_len_le (Nat.lt_of_le_of_lt (Nat.div_le_self _ _) (val_lt ha))) la
  have hrl : (dig (val xs % val ys)).length ≤ 2000 := Nat.le_trans (dig_len_le (Nat.lt_trans (Nat.mod_lt _ hD) (val_lt hb.1))) lb
  obtain ⟨qs, hq⟩ : ∃ qs, dig (val xs / val ys) = qs := ⟨_, rfl⟩
  obtain ⟨rs, hr⟩ : ∃ rs, dig (val xs % val ys) = rs := ⟨_, rfl⟩
  rw [hq, hr]
  rw [hq] at hql
  rw [hr] at hrl
  have HQ : Hid (dig (val xs / val ys) = qs) := hq
  have HR : Hid (dig (val xs % val ys) = rs) := hr
  clear hq hr
  go_enter Tryd.func29, Tryd.ntmps29
  go_wp2_with fail
  have HA : Hid (∀ t1 t2 xs1 xs2, Old w ((w.alloc (.cells xs1 t1)).alloc (.cells xs2 t2))) := fun t1 t2 xs1 xs2 => ((Old.refl w).alloc _).alloc _
  refine (div_any xs ys _ _ _ (HV.out.old (HA.out _ _ _ _)) (HU.out.old (HA.out _ _ _ _)) ha hb hl (by omega) (by omega)).mono ?_
  rintro e w2 ⟨v1, v2, rfl, g2, o1, o2⟩
  rw [HQ.out] at o1
  rw [HR.out] at o2
  obtain ⟨c1, cap2, rfl⟩ := (Own.row o1).sliceN
  obtain ⟨c2, cap3, rfl⟩ := (Own.row o2).sliceN
  have a0_ : w2.cell? ⟨w.heap.size, 0, none⟩ = some (Value.bool false) := (g2.cell (p := ⟨w.heap.size, 0, none⟩) (by simp; try omega)).trans (c2_0 _ _ _ _ _ _ )
  have q0_ : w2.cell? ⟨w.heap.size + 1, 0, none⟩ = some (Value.bool false) := (g2.cell (p := ⟨w.heap.size + 1, 0, none⟩) (by simp; try omega)).trans (c2_1 _ _ _ _ _ _ )
  have q1_ : w2.cell? ⟨w.heap.size + 1, 1, none⟩ = some (Value.slice none 0 0) := (g2.cell (p := ⟨w.heap.size + 1, 1, none⟩) (by simp; try omega)).trans (c2_1 _ _ _ _ _ _ )
  have f0_ : w2.frozen? ⟨w.heap.size + 1, 0, none⟩ = false := (g2.frozen (p := ⟨w.heap.size + 1, 0, none⟩) (by simp; try omega)).trans (f2_1 _ _ _ _ _ _ )
  have f1_ : w2.frozen? ⟨w.heap.size + 1, 1, none⟩ = false := (g2.frozen (p := ⟨w.heap.size + 1, 1, none⟩) (by simp; try omega)).trans (f2_1 _ _ _ _ _ _ )
  have HG2 : Hid (Old w w2) := Old.trans (HA.out _ _ _ _) g2
  have hsz : w.heap.size + 2 ≤ w2.heap.size := by have := g2.size; simp at this; omega
  have HO1 : Hid (Own w2 (w.heap.size + 2) (.slice c1 qs.length cap2) (toI qs)) := Own.low o1 (by simp)
  have HO2 : Hid (Own w2 (w.heap.size + 2) (.slice c2 rs.length cap3) (toI rs)) := Own.low o2 (by simp)
  clear g2 o1 o2 HA
  go_wp2_with fail
  refine bodyPost_ret (v := .tuple #[.agg #[.bool false, .slice c1 qs.length cap2], .slice c2 rs.length cap3]) (by simp [results, Tryd.results29, go_sem, q0_, q1_]) rfl ⟨_, _, rfl, ?_, ?_, ?_⟩
  · exact (HG2.out.own (p := ⟨w.heap.size + 1, 0, none⟩) (by simp) _).own (p := ⟨w.heap.size + 1, 1, none⟩) (by simp) _
  · refine Own.low (base := w.heap.size + 2) (ownsRow_setCell_other (ownsRow_setCell_other HO1.out (fun e => ?_) _) (fun e => ?_) _) (by omega)
    · have := (HO1.out.lt (w.heap.size + 1) e).1; omega
    · have := (HO1.out.lt (w.heap.size + 1) e).1; omega
  · refine Own.low (base := w.heap.size + 2) (ownsRow_setCell_other (ownsRow_setCell_other HO2.out (fun e => ?_) _) (fun e => ?_) _) (by omega)
    · have := (HO2.out.lt (w.heap.size + 1) e).1; omega
    · have := (HO2.out.lt (w.heap.size + 1) e).1; omega
set_option maxHeartbeats 4000000 in
theorem down_exact (xs ys : List Nat) (v u : Value) (w : World) (hv : Row w v (toI xs)) (hu : Row w u (toI ys)) (ha : Lim xs) (hb : Nrm ys) (hl : ys ≠ []) (la : xs.length ≤ 2000) (lb : ys.length ≤ 2000) (h0 : val xs % val ys = 0) :
    Calls Tryd.prog 29 #[.agg #[.bool true, v], u] w fun e w' => ∃ v1 v2, e = .returned (.tuple #[.agg #[.bool (decide (0 < (dig (val xs / val ys)).length)), v1], v2]) ∧ Old w w' ∧ Own w' w.heap.size v1 (toI (dig (val xs / val ys))) ∧ Own w' w.heap.size v2 (toI (dig 0)) := by
  have HV : Hid (Row w v (toI xs)) := hv
  have HU : Hid (Row w u (toI ys)) := hu
  obtain ⟨a0, cap0, rfl⟩ := hv.sliceN
  obtain ⟨a1, cap1, rfl⟩ := hu.sliceN
  clear hv hu
  have hD : 0 < val ys := by
    rcases Nat.eq_zero_or_pos (val ys) with h | h
    · exact absurd (val_zero_of hb h) hl
    · exact h
  have hql : (dig (val xs / val ys)).length ≤ 2000 := Nat.le_trans (dig_len_le (Nat.lt_of_le_of_lt (Nat.div_le_self _ _) (val_lt ha))) la
  have hrl : (dig (val xs % val ys)).length ≤ 2000 := Nat.le_trans (dig_len_le (Nat.lt_trans (Nat.mod_lt _ hD) (val_lt hb.1))) lb
  obtain ⟨qs, hq⟩ : ∃ qs, dig (val xs / val ys) = qs := ⟨_, rfl⟩
  obtain ⟨rs, hr⟩ : ∃ rs, dig (val xs % val ys) = rs := ⟨_, rfl⟩
  have e0 : dig 0 = rs := by rw [← hr, h0]
  rw [hq, e0]
  clear e0
  rw [hq] at hql
  rw [hr] at hrl
  have HQ : Hid (dig (val xs / val ys) = qs) := hq
  have HR : Hid (dig (val xs % val ys) = rs) := hr
  have hrs : rs = [] := by rw [← hr, h0, dig_zero]
  have hrs0 : rs.length = 0 := by rw [hrs]; rfl
  have HRS : Hid (rs.length = 0) := hrs0
  clear hq hr hrs h0
  have dr : decide (0 < rs.length) = false := decide_eq_false (by omega)
  clear hrs0
  go_enter Tryd.func29, Tryd.ntmps29
  go_wp2_with fail
  have HA : Hid (∀ t1 t2 xs1 xs2, Old w ((w.alloc (.cells xs1 t1)).alloc (.cells xs2 t2))) := fun t1 t2 xs1 xs2 => ((Old.refl w).alloc _).alloc _
  refine (div_any xs ys _ _ _ (HV.out.old (HA.out _ _ _ _)) (HU.out.old (HA.out _ _ _ _)) ha hb hl (by omega) (by omega)).mono ?_
  rintro e w2 ⟨v1, v2, rfl, g2, o1, o2⟩
  rw [HQ.out] at o1
  rw [HR.out] at o2
  obtain ⟨c1, cap2, rfl⟩ := (Own.row o1).sliceN
  obtain ⟨c2, cap3, rfl⟩ := (Own.row o2).sliceN
  have a0_ : w2.cell? ⟨w.heap.size, 0, none⟩ = some (Value.bool true) := (g2.cell (p := ⟨w.heap.size, 0, none⟩) (by simp; try omega)).trans (c2_0 _ _ _ _ _ _ )
  have q0_ : w2.cell? ⟨w.heap.size + 1, 0, none⟩ = some (Value.bool false) := (g2.cell (p := ⟨w.heap.size + 1, 0, none⟩) (by simp; try omega)).trans (c2_1 _ _ _ _ _ _ )
  have q1_ : w2.cell? ⟨w.heap.size + 1, 1, none⟩ = some (Value.slice none 0 0) := (g2.cell (p := ⟨w.heap.size + 1, 1, none⟩) (by simp; try omega)).trans (c2_1 _ _ _ _ _ _ )
  have f0_ : w2.frozen? ⟨w.heap.size + 1, 0, none⟩ = false := (g2.frozen (p := ⟨w.heap.size + 1, 0, none⟩) (by simp; try omega)).trans (f2_1 _ _ _ _ _ _ )
  have f1_ : w2.frozen? ⟨w.heap.size + 1, 1, none⟩ = false := (g2.frozen (p := ⟨w.heap.size + 1, 1, none⟩) (by simp; try omega)).trans (f2_1 _ _ _ _ _ _ )
  have HG2 : Hid (Old w w2) := Old.trans (HA.out _ _ _ _) g2
  have hsz : w.heap.size + 2 ≤ w2.heap.size := by have := g2.size; simp at this; omega
  have HO1 : Hid (Own w2 (w.heap.size + 2) (.slice c1 qs.length cap2) (toI qs)) := Own.low o1 (by simp)
  have HO2 : Hid (Own w2 (w.heap.size + 2) (.slice c2 rs.length cap3) (toI rs)) := Own.low o2 (by simp)
  clear g2 o1 o2 HA
  go_wp2_with fail
  refine bodyPost_ret (v := .tuple #[.agg #[.bool (decide (0 < qs.length)), .slice c1 qs.length cap2], .slice c2 rs.length cap3]) (by simp [results, Tryd.results29, go_sem, q0_, q1_]) rfl ⟨_, _, rfl, ?_, ?_, ?_⟩
  · exact (HG2.out.own (p := ⟨w.heap.size + 1, 0, none⟩) (by simp) _).own (p := ⟨w.heap.size + 1, 1, none⟩) (by simp) _
  · refine Own.low (base := w.heap.size + 2) (ownsRow_setCell_other (ownsRow_setCell_other HO1.out (fun e => ?_) _) (fun e => ?_) _) (by omega)
    · have := (HO1.out.lt (w.heap.size + 1) e).1; omega
    · have := (HO1.out.lt (w.heap.size + 1) e).1; omega
  · refine Own.low (base := w.heap.size + 2) (ownsRow_setCell_other (ownsRow_setCell_other HO2.out (fun e => ?_) _) (fun e => ?_) _) (by omega)
    · have := (HO2.out.lt (w.heap.size + 1) e).1; omega
    · have := (HO2.out.lt (w.heap.size + 1) e).1; omega
set_option maxHeartbeats 4000000 in
theorem down_up (xs ys : List Nat) (v u : Value) (w : World) (hv : Row w v (toI xs)) (hu : Row w u (toI ys)) (ha : Lim xs) (hb : Nrm ys) (hl : ys ≠ []) (la : xs.length ≤ 2000) (lb : ys.length ≤ 2000) (h0 : 0 < val xs % val ys) :
    Calls Tryd.prog 29 #[.agg #[.bool true, v], u] w fun e w' => ∃ v1 v2, e = .returned (.tuple #[.agg #[.bool true, v1], v2]) ∧ Old w w' ∧ Own w' w.heap.size v1 (toI (dig (val xs / val ys + 1))) ∧ Own w' w.heap.size v2 (toI (dig (val ys - val xs % val ys))) := by
  have HV : Hid (Row w v (toI xs)) := hv
  have HU : Hid (Row w u (toI ys)) := hu
  obtain ⟨a0, cap0, rfl⟩ := hv.sliceN
  obtain ⟨a1, cap1, rfl⟩ := hu.sliceN
  clear hv hu
  have hD : 0 < val ys := by
    rcases Nat.eq_zero_or_pos (val ys) with h | h
    · exact absurd (val_zero_of hb h) hl
    · exact h
  have hql : (dig (val xs / val ys)).length ≤ 2000 := Nat.le_trans (dig_len_le (Nat.lt_of_le_of_lt (Nat.div_le_self _ _) (val_lt ha))) la
  have hrl : (dig (val xs % val ys)).length ≤ 2000 := Nat.le_trans (dig_len_le (Nat.lt_trans (Nat.mod_lt _ hD) (val_lt hb.1))) lb
  obtain ⟨qs, hq⟩ : ∃ qs, dig (val xs / val ys) = qs := ⟨_, rfl⟩
  obtain ⟨rs, hr⟩ : ∃ rs, dig (val xs % val ys) = rs := ⟨_, rfl⟩
  rw [hq] at hql
  rw [hr] at hrl
  have HQ : Hid (dig (val xs / val ys) = qs) := hq
  have HR : Hid (dig (val xs % val ys) = rs) := hr
  have hrs : 0 < rs.length := by
    rcases Nat.eq_zero_or_pos rs.length with h | h
    · have := List.length_eq_zero_iff.1 h
      rw [← hr] at this
      have := dig_nil this
      omega
    · exact h
  have HQV : Hid (val qs = val xs / val ys ∧ Lim qs) := by rw [← hq]; exact ⟨val_dig _, dig_lim _⟩
  have HRV : Hid (val rs = val xs % val ys ∧ Nrm rs) := by rw [← hr]; exact ⟨val_dig _, dig_nrm _⟩
  have HLE : Hid (val rs ≤ val ys) := by have h1 := HRV.out.1; have h2 := Nat.mod_lt (val xs) hD; show val rs ≤ val ys; omega
  have dr : decide (0 < rs.length) = true := decide_eq_true hrs
  have hk1 : 0 < (dig (val xs / val ys + 1)).length := by
    rcases Nat.eq_zero_or_pos (dig (val xs / val ys + 1)).length with h | h
    · exact absurd (dig_nil (List.length_eq_zero_iff.1 h)) (Nat.succ_ne_zero _)
    · exact h
  have hk2 : (dig (val xs / val ys + 1)).length ≤ 2001 := by
    refine Nat.le_trans (dig_len_le (k := qs.length + 1) ?_) (by omega)
    have h1 := val_lt HQV.out.2
    have h2 := HQV.out.1
    have h4 : LB ^ qs.length * 2 ≤ LB ^ qs.length * LB := Nat.mul_le_mul (Nat.le_refl _) (by decide)
    rw [← h2, Nat.pow_succ]
    omega
  obtain ⟨ks, hk⟩ : ∃ ks, dig (val xs / val ys + 1) = ks := ⟨_, rfl⟩
  obtain ⟨ms, hm⟩ : ∃ ms, dig (val ys - val xs % val ys) = ms := ⟨_, rfl⟩
  rw [hk] at hk1 hk2 ⊢
  rw [hm]
  have HK : Hid (dig (val xs / val ys + 1) = ks) := hk
  have HM : Hid (dig (val ys - val xs % val ys) = ms) := hm
  have dk : decide (0 < ks.length) = true := decide_eq_true hk1
  clear hq hr hrs h0 hk hm hk1
  go_enter Tryd.func29, Tryd.ntmps29
  go_wp2_with fail
  have HA : Hid (∀ t1 t2 xs1 xs2, Old w ((w.alloc (.cells xs1 t1)).alloc (.cells xs2 t2))) := fun t1 t2 xs1 xs2 => ((Old.refl w).alloc _).alloc _
  refine (div_any xs ys _ _ _ (HV.out.old (HA.out _ _ _ _)) (HU.out.old (HA.out _ _ _ _)) ha hb hl (by omega) (by omega)).mono ?_
  rintro e w2 ⟨v1, v2, rfl, g2, o1, o2⟩
  rw [HQ.out] at o1
  rw [HR.out] at o2
  obtain ⟨c1, cap2, rfl⟩ := (Own.row o1).sliceN
  obtain ⟨c2, cap3, rfl⟩ := (Own.row o2).sliceN
  have a0_ : w2.cell? ⟨w.heap.size, 0, none⟩ = some (Value.bool true) := (g2.cell (p := ⟨w.heap.size, 0, none⟩) (by simp; try omega)).trans (c2_0 _ _ _ _ _ _ )
  have q0_ : w2.cell? ⟨w.heap.size + 1, 0, none⟩ = some (Value.bool false) := (g2.cell (p := ⟨w.heap.size + 1, 0, none⟩) (by simp; try omega)).trans (c2_1 _ _ _ _ _ _ )
  have q1_ : w2.cell? ⟨w.heap.size + 1, 1, none⟩ = some (Value.slice none 0 0) := (g2.cell (p := ⟨w.heap.size + 1, 1, none⟩) (by simp; try omega)).trans (c2_1 _ _ _ _ _ _ )
  have f0_ : w2.frozen? ⟨w.heap.size + 1, 0, none⟩ = false := (g2.frozen (p := ⟨w.heap.size + 1, 0, none⟩) (by simp; try omega)).trans (f2_1 _ _ _ _ _ _ )
  have f1_ : w2.frozen? ⟨w.heap.size + 1, 1, none⟩ = false := (g2.frozen (p := ⟨w.heap.size + 1, 1, none⟩) (by simp; try omega)).trans (f2_1 _ _ _ _ _ _ )
  have HG2 : Hid (Old w w2) := Old.trans (HA.out _ _ _ _) g2
  have hsz : w.heap.size + 2 ≤ w2.heap.size := by have := g2.size; simp at this; omega
  have HO1 : Hid (Own w2 (w.heap.size + 2) (.slice c1 qs.length cap2) (toI qs)) := Own.low o1 (by simp)
  have HO2 : Hid (Own w2 (w.heap.size + 2) (.slice c2 rs.length cap3) (toI rs)) := Own.low o2 (by simp)
  clear g2 o1 o2 HA
  go_wp2_with fail
  refine (add_any qs [1] _ _ _ ((Own.row HO1.out).old ((Old.refl _).alloc _)) (one_row w2 _) HQV.out.2 (Lim.cons (by decide) Lim.nil) (by omega) (by simp)).mono ?_
  rintro e w3 ⟨v3, rfl, g3, o3⟩
  have e3 : dig (val qs + val [1]) = ks := by rw [← HK.out, HQV.out.1]; simp [val]
  rw [e3] at o3
  obtain ⟨c3, cap4, rfl⟩ := (Own.row o3).sliceN
  have g23 : Old w2 w3 := Old.trans ((Old.refl _).alloc _) g3
  have HG3 : Hid (Old w w3) := Old.trans HG2.out g23
  have HO3 : Hid (Own w3 (w.heap.size + 2) (.slice c3 ks.length cap4) (toI ks)) := Own.low o3 (by simp; omega)
  have HO4 : Hid (Own w3 (w.heap.size + 2) (.slice c2 rs.length cap3) (toI rs)) := HO2.out.old g23
  have hsz3 : w.heap.size + 2 ≤ w3.heap.size := by have := g23.size; omega
  have q0y := (g23.cell (p := ⟨w.heap.size + 1, 0, none⟩) (by show w.heap.size + 1 < w2.heap.size; omega)).trans q0_
  have q1y := (g23.cell (p := ⟨w.heap.size + 1, 1, none⟩) (by show w.heap.size + 1 < w2.heap.size; omega)).trans q1_
  have f0y := (g23.frozen (p := ⟨w.heap.size + 1, 0, none⟩) (by show w.heap.size + 1 < w2.heap.size; omega)).trans f0_
  have f1y := (g23.frozen (p := ⟨w.heap.size + 1, 1, none⟩) (by show w.heap.size + 1 < w2.heap.size; omega)).trans f1_
  clear o3 g3 e3 HO1 HO2 HG2 g23
  go_wp2_with fail
  refine (sub_any ys rs _ _ _ (HU.out.old HG3.out) (Own.row HO4.out) hb HRV.out.2 (by omega) (by omega) HLE.out).mono ?_
  rintro e w4 ⟨v4, rfl, g4, o4⟩
  have e4 : dig (val ys - val rs) = ms := by rw [← HM.out, HRV.out.1]
  rw [e4] at o4
  obtain ⟨c4, cap5, rfl⟩ := (Own.row o4).sliceN
  have HG4 : Hid (Old w w4) := Old.trans HG3.out g4
  have HO5 : Hid (Own w4 (w.heap.size + 2) (.slice c3 ks.length cap4) (toI ks)) := HO3.out.old g4
  have HO6 : Hid (Own w4 (w.heap.size + 2) (.slice c4 ms.length cap5) (toI ms)) := Own.low o4 (by omega)
  have q0z := (g4.cell (p := ⟨w.heap.size + 1, 0, none⟩) (by show w.heap.size + 1 < w3.heap.size; omega)).trans q0y
  have q1z := (g4.cell (p := ⟨w.heap.size + 1, 1, none⟩) (by show w.heap.size + 1 < w3.heap.size; omega)).trans q1y
  have f0z := (g4.frozen (p := ⟨w.heap.size + 1, 0, none⟩) (by show w.heap.size + 1 < w3.heap.size; omega)).trans f0y
  have f1z := (g4.frozen (p := ⟨w.heap.size + 1, 1, none⟩) (by show w.heap.size + 1 < w3.heap.size; omega)).trans f1y
  clear o4 g4 e4 HO3 HO4 HG3
  go_wp2_with fail
  refine bodyPost_ret (v := .tuple #[.agg #[.bool true, .slice c3 ks.length cap4], .slice c4 ms.length cap5]) (by simp [results, Tryd.results29, go_sem, q0z, q1z]) rfl ⟨_, _, rfl, ?_, ?_, ?_⟩
  · exact (HG4.out.own (p := ⟨w.heap.size + 1, 0, none⟩) (by simp) _).own (p := ⟨w.heap.size + 1, 1, none⟩) (by simp) _
  · refine Own.low (base := w.heap.size + 2) (ownsRow_setCell_other (ownsRow_setCell_other HO5.out (fun e => ?_) _) (fun e => ?_) _) (by omega)
    · have := (HO5.out.lt (w.heap.size + 1) e).1; omega
    · have := (HO5.out.lt (w.heap.size + 1) e).1; omega
  · refine Own.low (base := w.heap.size + 2) (ownsRow_setCell_other (ownsRow_setCell_other HO6.out (fun e => ?_) _) (fun e => ?_) _) (by omega)
    · have := (HO6.out.lt (w.heap.size + 1) e).1; omega
    · have := (HO6.out.lt (w.heap.size + 1) e).1; omega
end Go.Proofs.YtjedpceiimceoaaDoor
/- Proved: contracts of the model's nearest quotient, of words as whole numbers, of what is left by a word and of comparing, by what the numbers are worth. -/
namespace Go.Proofs.YtjedpceiimceoaaDoor
open Go.ChangeShapes Go.WideShapes Go.ChangeAt Go.RowKit
open M2
set_option linter.unusedVariables false
set_option linter.unusedSimpArgs false
theorem nrm_pos {ys : List Nat} (hb : Nrm ys) (hl : ys ≠ []) : 0 < val ys := by
  rcases Nat.eq_zero_or_pos (val ys) with h | h
  · exact absurd (val_zero_of hb h) hl
  · exact h
theorem down_any (n : Bool) (xs ys : List Nat) (v u : Value) (w : World) (hv : Row w v (toI xs)) (hu : Row w u (toI ys)) (ha : Lim xs) (hb : Nrm ys) (hl : ys ≠ []) (la : xs.length ≤ 2000) (lb : ys.length ≤ 2000) :
    Calls Tryd.prog 29 #[.agg #[.bool n, v], u] w fun e w' => ∃ v1 v2, e = .returned (.tuple #[.agg #[.bool (ng (sv n xs / (val ys : Int))), v1], v2]) ∧ Old w w' ∧ Own w' w.heap.size v1 (toI (dg (sv n xs / (val ys : Int)))) ∧ Own w' w.heap.size v2 (toI (dig (sv n xs % (val ys : Int)).toNat)) := by
  have hD := nrm_pos hb hl
  cases n with
  | false =>
    obtain ⟨e1, e2, e3⟩ := down_pos_eq xs (val ys) hD
    rw [← e1, ← e2, ← e3]
    exact down_pos xs ys v u w hv hu ha hb hl la lb
  | true =>
    rcases Nat.eq_zero_or_pos (val xs % val ys) with h0 | h0
    · obtain ⟨e1, e2, e3⟩ := down_exact_eq xs (val ys) hD h0
      rw [← e1, ← e2, ← e3]
      exact down_exact xs ys v u w hv hu ha hb hl la lb h0
    · obtain ⟨e1, e2, e3⟩ := down_up_eq xs (val ys) hD h0
      rw [← e1, ← e2, ← e3]
      exact down_up xs ys v u w hv hu ha hb hl la lb h0
def cmpI (x y : Int) : Int := if x < y then -1 else if y < x then 1 else 0
end Go.Proofs.YtjedpceiimceoaaDoor
/- Proved: contracts of the model's whole number of a word and of its nearest quotient, by what the numbers are worth. -/
namespace Go.Proofs.YtjedpceiimceoaaDoor
open Go.ChangeShapes Go.WideShapes Go.ChangeAt Go.RowKit
open M2
set_option linter.unusedVariables false
set_option linter.unusedSimpArgs false
theorem dg_len {z : Int} {k : Nat} (h : z.natAbs < LB ^ k) : (dg z).length ≤ k := dig_len_le h
theorem sv_abs (n : Bool) (xs : List Nat) : (sv n xs).natAbs = val xs := by cases n <;> simp [sv]
end Go.Proofs.YtjedpceiimceoaaDoor
/- Proved: the walk of the statement on GoodWhole, under the contract of the program's own function. -/
namespace Go.Proofs.YtjedpceiimceoaaDoor
open Go.ChangeShapes Go.WideShapes Go.ChangeAt Go.RowKit
open M2
set_option linter.unusedVariables false
set_option linter.unusedSimpArgs false
abbrev StW (w : World) (k : Nat) (x y : Value) (t : TypeId) : Prop := w.heap[k]? = some (.cells #[x, y] t (0, 0))
theorem StW.c0 {w : World} {k : Nat} {x y : Value} {t : TypeId} (h : StW w k x y t) : w.cell? ⟨k, 0, none⟩ = some x := cell_of_row w k 0 _ t (0, 0) h
theorem StW.c1 {w : World} {k : Nat} {x y : Value} {t : TypeId} (h : StW w k x y t) : w.cell? ⟨k, 1, none⟩ = some y := cell_of_row w k 1 _ t (0, 0) h
theorem StW.f0 {w : World} {k : Nat} {x y : Value} {t : TypeId} (h : StW w k x y t) : w.frozen? ⟨k, 0, none⟩ = false := frozen_of_row w k 0 _ t h
theorem StW.f1 {w : World} {k : Nat} {x y : Value} {t : TypeId} (h : StW w k x y t) : w.frozen? ⟨k, 1, none⟩ = false := frozen_of_row w k 1 _ t h
theorem StW.lt {w : World} {k : Nat} {x y : Value} {t : TypeId} (h : StW w k x y t) : k < w.heap.size := (Array.getElem?_eq_some_iff.1 h).1
theorem StW.old {w w' : World} {k : Nat} {x y : Value} {t : TypeId} (h : StW w k x y t) (g : Old w w') : StW w' k x y t := (g.block k h.lt).trans h
theorem StW.new (w : World) (x y : Value) (t : TypeId) : StW (w.alloc (.cells #[x, y] t)) w.heap.size x y t := heap_alloc_new w _
end Go.Proofs.YtjedpceiimceoaaDoor
/- Proved: structs of two cells under writes into other blocks; no function of the program. -/
namespace Go.Proofs.YtjedpceiimceoaaDoor
open Go.ChangeShapes Go.WideShapes Go.ChangeAt Go.RowKit
set_option linter.unusedVariables false
set_option linter.unusedSimpArgs false
theorem StW.at2 (w : World) (x y x' y' : Value) (t t' : TypeId) : StW ((w.alloc (.cells #[x, y] t)).alloc (.cells #[x', y'] t')) (w.heap.size + 1) x' y' t' := heap_alloc2_new w _ _
theorem StW.at1 (w : World) (x y x' y' : Value) (t t' : TypeId) : StW ((w.alloc (.cells #[x, y] t)).alloc (.cells #[x', y'] t')) w.heap.size x y t := heap_alloc2_old w _ _
end Go.Proofs.YtjedpceiimceoaaDoor
/- Proved: a struct in a block of its own stays where only others are written; no function of the program. -/
namespace Go.Proofs.YtjedpceiimceoaaDoor
open Go.ChangeShapes Go.WideShapes Go.ChangeAt Go.RowKit
set_option linter.unusedVariables false
set_option linter.unusedSimpArgs false
def Bk (w : World) (k : Nat) (cs : Array Value) (t : TypeId) : Prop := w.heap[k]? = some (.cells cs t (0, 0))
theorem Bk.lt {w : World} {k : Nat} {cs : Array Value} {t : TypeId} (h : Bk w k cs t) : k < w.heap.size := (Array.getElem?_eq_some_iff.1 h).1
theorem Bk.old {w w' : World} {k : Nat} {cs : Array Value} {t : TypeId} (h : Bk w k cs t) (g : Old w w') : Bk w' k cs t := (g.block k h.lt).trans h
theorem Bk.chg {w w' : World} {k : Nat} {cs : Array Value} {t : TypeId} {lo hi : Nat} (h : Bk w k cs t) (c : Chg w w' lo hi) (hk : k < lo ∨ hi ≤ k) : Bk w' k cs t := (c.block k h.lt hk).trans h
theorem Bk.new' (w : World) {k : Nat} (cs : Array Value) (t : TypeId) (hk : w.heap.size = k) : Bk (w.alloc (.cells cs t)) k cs t := by
  subst hk
  exact heap_alloc_new w _
theorem Bk.alloc {w : World} {k : Nat} {cs : Array Value} {t : TypeId} (h : Bk w k cs t) (o : Obj) : Bk (w.alloc o) k cs t := h.old ((Old.refl w).alloc o)
theorem Bk.c {w : World} {k : Nat} {cs : Array Value} {t : TypeId} (h : Bk w k cs t) {i : Nat} {v : Value} (hi : cs[i]? = some v) : w.cell? ⟨k, i, none⟩ = some v := by
  rw [← hi]
  exact cell_of_row w k i cs t (0, 0) h
end Go.Proofs.YtjedpceiimceoaaDoor
