/- Proved: contracts of the model's sums, products and quotients of whole numbers, by what the numbers are worth. -/
import Derived.Test.YtdpcahphbjdhaaaWideB
namespace Go.Proofs.Ytdpcahphbjdhaaa
open Go.ChangeShapes Go.WideShapes Go.ChangeAt Go.RowKit
open M2
set_option linter.unusedVariables false
set_option linter.unusedSimpArgs false
theorem ng_plus (n : Bool) (xs ys : List Nat) (ha : Gw n xs) (hb : Gw n ys) : n = ng (sv n xs + sv n ys) ∧ dig (val xs + val ys) = dg (sv n xs + sv n ys) := by
  cases n
  · unfold sv ng dg
    refine ⟨by simp; omega, ?_⟩
    congr 1
  · have := ha.pos rfl
    unfold sv ng dg
    refine ⟨by simp; omega, ?_⟩
    congr 1
    simp
    omega
theorem ng_more (n m : Bool) (xs ys : List Nat) (h : (n == m) = false) (hc : val ys < val xs) : n = ng (sv n xs + sv m ys) ∧ dig (val xs - val ys) = dg (sv n xs + sv m ys) := by
  cases n <;> cases m <;> simp at h
  · unfold sv ng dg
    refine ⟨by simp; omega, ?_⟩
    congr 1
    simp
    omega
  · unfold sv ng dg
    refine ⟨by simp; omega, ?_⟩
    congr 1
    simp
    omega
theorem ng_less (n m : Bool) (xs ys : List Nat) (h : (n == m) = false) (hc : val xs < val ys) : m = ng (sv n xs + sv m ys) ∧ dig (val ys - val xs) = dg (sv n xs + sv m ys) := by
  have := ng_more m n ys xs (by cases n <;> cases m <;> simp_all) hc
  rw [Int.add_comm] at this
  exact this
theorem ng_zero (n m : Bool) (xs ys : List Nat) (h : (n == m) = false) (hc : val xs = val ys) : false = ng (sv n xs + sv m ys) ∧ dig 0 = dg (sv n xs + sv m ys) := by
  have e : sv n xs + sv m ys = 0 := by
    cases n <;> cases m <;> simp at h <;> unfold sv <;> simp <;> omega
  rw [e]
  exact ⟨rfl, rfl⟩
theorem plus_any (n m : Bool) (xs ys : List Nat) (v u : Value) (w : World) (hv : Row w v (toI xs)) (hu : Row w u (toI ys)) (ha : Gw n xs) (hb : Gw m ys) (la : xs.length ≤ 1048576) (lb : ys.length ≤ 1048576) :
    Calls Try.prog 52 #[.agg #[.bool n, v], .agg #[.bool m, u]] w fun e w' => ∃ v', e = .returned (.agg #[.bool (ng (sv n xs + sv m ys)), v']) ∧ Old w w' ∧ Own w' w.heap.size v' (toI (dg (sv n xs + sv m ys))) := by
  cases hnm : n == m with
  | true =>
    have e : n = m := by simpa using hnm
    subst e
    obtain ⟨e1, e2⟩ := ng_plus n xs ys ha hb
    rw [← e1, ← e2]
    exact plus_same n xs ys v u w hv hu ha.1.1 hb.1.1 la lb
  | false =>
    rcases Nat.lt_trichotomy (val xs) (val ys) with hc | hc | hc
    · obtain ⟨e1, e2⟩ := ng_less n m xs ys hnm hc
      rw [← e1, ← e2]
      exact plus_less n m xs ys v u w hv hu ha.1 hb.1 la lb hnm hc
    · obtain ⟨e1, e2⟩ := ng_zero n m xs ys hnm hc
      rw [← e1, ← e2]
      exact plus_zero n m xs ys v u w hv hu ha.1 hb.1 la lb hnm hc
    · obtain ⟨e1, e2⟩ := ng_more n m xs ys hnm hc
      rw [← e1, ← e2]
      exact plus_more n m xs ys v u w hv hu ha.1 hb.1 la lb hnm hc
theorem div_any (xs ys : List Nat) (v u : Value) (w : World) (hv : Row w v (toI xs)) (hu : Row w u (toI ys)) (ha : Lim xs) (hb : Nrm ys) (hl : ys ≠ []) (la : xs.length ≤ 1048576) (lb : ys.length ≤ 1048000) :
    Calls Try.prog 87 #[v, u] w fun e w' => ∃ v1 v2, e = .returned (.tuple #[v1, v2]) ∧ Old w w' ∧ Own w' w.heap.size v1 (toI (dig (val xs / val ys))) ∧ Own w' w.heap.size v2 (toI (dig (val xs % val ys))) := by
  by_cases h1 : ys.length = 1
  · obtain ⟨d, rfl⟩ := List.length_eq_one_iff.1 h1
    have hd : d ≠ 0 := by have := hb.2 (by simp); simpa using this
    have hd2 := hb.1.head
    have e : val [d] = d := by simp [val]
    rw [e]
    exact div1_any xs d v u w hv hu ha (by omega) hd2 la
  · have h0 : ys.length ≠ 0 := fun h => hl (List.length_eq_zero_iff.1 h)
    exact div2_any xs ys v u w hv hu ha hb (by omega) la lb
theorem ng_times (n m : Bool) (xs ys : List Nat) : (decide (0 < (dig (val xs * val ys)).length) && (n != m)) = ng (sv n xs * sv m ys) ∧ dig (val xs * val ys) = dg (sv n xs * sv m ys) := by
  have e : (sv n xs * sv m ys).natAbs = val xs * val ys := by
    rw [Int.natAbs_mul]
    congr 1
    · cases n <;> simp [sv]
    · cases m <;> simp [sv]
  have e2 : dig (val xs * val ys) = dg (sv n xs * sv m ys) := by unfold dg; rw [e]
  refine ⟨?_, e2⟩
  have hl : 0 < (dig (val xs * val ys)).length ↔ 0 < val xs * val ys := by
    constructor
    · intro h
      rcases Nat.eq_zero_or_pos (val xs * val ys) with h0 | h0
      · rw [h0, dig_zero] at h; simp at h
      · exact h0
    · intro h
      have := dig_ne (n := val xs * val ys) (by omega)
      rcases Nat.eq_zero_or_pos (dig (val xs * val ys)).length with h0 | h0
      · exact absurd (List.length_eq_zero_iff.1 h0) this
      · exact h0
  have hp : (0 : Int) ≤ (val xs : Int) * (val ys : Int) := Int.mul_nonneg (by omega) (by omega)
  have hp2 : ((val xs * val ys : Nat) : Int) = (val xs : Int) * (val ys : Int) := by simp
  have hd : decide (0 < (dig (val xs * val ys)).length) = decide (0 < val xs * val ys) := by rw [decide_eq_decide]; exact hl
  rw [hd]
  cases n <;> cases m <;> simp only [sv, ng, Bool.false_eq_true, if_false, if_true, Int.neg_mul, Int.mul_neg, Int.neg_neg, bne_self_eq_false, Bool.and_false, Bool.false_bne, Bool.true_bne, Bool.not_false, Bool.and_true] <;> rw [← hp2]
  · simp; exact hp
  · rw [decide_eq_decide]; omega
  · rw [decide_eq_decide]; omega
  · simp; exact hp
set_option maxHeartbeats 4000000 in
theorem times_any (n m : Bool) (xs ys : List Nat) (v u : Value) (w : World) (hv : Row w v (toI xs)) (hu : Row w u (toI ys)) (ha : Lim xs) (hb : Lim ys) (la : xs.length ≤ 1000) (lb : ys.length ≤ 1000) :
    Calls Try.prog 51 #[.agg #[.bool n, v], .agg #[.bool m, u]] w fun e w' => ∃ v', e = .returned (.agg #[.bool (ng (sv n xs * sv m ys)), v']) ∧ Old w w' ∧ Own w' w.heap.size v' (toI (dg (sv n xs * sv m ys))) := by
  obtain ⟨e1, e2⟩ := ng_times n m xs ys
  rw [← e1, ← e2]
  have HV : Hid (Row w v (toI xs)) := hv
  have HU : Hid (Row w u (toI ys)) := hu
  obtain ⟨a0, cap0, rfl⟩ := hv.sliceN
  obtain ⟨a1, cap1, rfl⟩ := hu.sliceN
  clear hv hu e1 e2
  have hlen : (dig (val xs * val ys)).length ≤ 2000 := by
    refine Nat.le_trans (dig_len_le (k := xs.length + ys.length) ?_) (by omega)
    rw [Nat.pow_add]
    exact Nat.mul_lt_mul'' (val_lt ha) (val_lt hb)
  obtain ⟨zs, hz⟩ : ∃ zs, dig (val xs * val ys) = zs := ⟨_, rfl⟩
  rw [hz] at hlen ⊢
  have HZ : Hid (dig (val xs * val ys) = zs) := hz
  clear hz
  go_enter Try.func51, Try.ntmps51
  go_wp2_with fail
  have HA : Hid (∀ t1 t2 t3 xs1 xs2 xs3, Old w (((w.alloc (.cells xs1 t1)).alloc (.cells xs2 t2)).alloc (.cells xs3 t3))) := fun t1 t2 t3 xs1 xs2 xs3 => (((Old.refl w).alloc _).alloc _).alloc _
  refine (mul_any xs ys _ _ _ (HV.out.old (HA.out _ _ _ _ _ _)) (HU.out.old (HA.out _ _ _ _ _ _)) ha hb (by omega) (by omega)).mono ?_
  rintro e w5 ⟨v5, rfl, g5, o5⟩
  rw [HZ.out] at o5
  obtain ⟨a5, cap5, rfl⟩ := (Own.row o5).sliceN
  have a0_ : w5.cell? ⟨w.heap.size, 0, none⟩ = some (Value.bool n) := (g5.cell (p := ⟨w.heap.size, 0, none⟩) (by simp; try omega)).trans (c3_0 _ _ _ _ _ _ _ _ )
  have b0_ : w5.cell? ⟨w.heap.size + 1, 0, none⟩ = some (Value.bool m) := (g5.cell (p := ⟨w.heap.size + 1, 0, none⟩) (by simp; try omega)).trans (c3_1 _ _ _ _ _ _ _ _ )
  have q0 : w5.cell? ⟨w.heap.size + 1 + 1, 0, none⟩ = some (Value.bool false) := (g5.cell (p := ⟨w.heap.size + 1 + 1, 0, none⟩) (by simp; try omega)).trans (c3_2 _ _ _ _ _ _ _ _ )
  have q1 : w5.cell? ⟨w.heap.size + 1 + 1, 1, none⟩ = some (Value.slice none 0 0) := (g5.cell (p := ⟨w.heap.size + 1 + 1, 1, none⟩) (by simp; try omega)).trans (c3_2 _ _ _ _ _ _ _ _ )
  have f0 : w5.frozen? ⟨w.heap.size + 1 + 1, 0, none⟩ = false := (g5.frozen (p := ⟨w.heap.size + 1 + 1, 0, none⟩) (by simp; try omega)).trans (f3_2 _ _ _ _ _ _ _ _ )
  have f1 : w5.frozen? ⟨w.heap.size + 1 + 1, 1, none⟩ = false := (g5.frozen (p := ⟨w.heap.size + 1 + 1, 1, none⟩) (by simp; try omega)).trans (f3_2 _ _ _ _ _ _ _ _ )
  have HG5 : Hid (Old w w5) := Old.trans (HA.out _ _ _ _ _ _) g5
  have HO5 : Hid (Own w5 (w.heap.size + 3) (.slice a5 zs.length cap5) (toI zs)) := Own.low o5 (by simp)
  clear g5 o5 HA
  by_cases h0 : 0 < zs.length
  · have d0 : decide (0 < zs.length) = true := decide_eq_true h0
    go_wp2_with fail
    refine bodyPost_ret (v := .agg #[.bool (decide (0 < zs.length) && (n != m)), .slice a5 zs.length cap5]) (by simp [results, Try.results51, go_sem, q0, q1, d0]; cases n <;> cases m <;> rfl) rfl ⟨_, rfl, ?_, ?_⟩
    · exact (HG5.out.own (p := ⟨w.heap.size + 1 + 1, 0, none⟩) (by simp; omega) _).own (p := ⟨w.heap.size + 1 + 1, 1, none⟩) (by simp; omega) _
    · refine Own.low (base := w.heap.size + 3) (ownsRow_setCell_other (ownsRow_setCell_other HO5.out (fun e => ?_) _) (fun e => ?_) _) (by omega)
      · have := (HO5.out.lt (w.heap.size + 1 + 1) e).1; omega
      · have := (HO5.out.lt (w.heap.size + 1 + 1) e).1; omega
  · have d0 : decide (0 < zs.length) = false := decide_eq_false h0
    go_wp2_with fail
    refine bodyPost_ret (v := .agg #[.bool (decide (0 < zs.length) && (n != m)), .slice a5 zs.length cap5]) (by simp [results, Try.results51, go_sem, q0, q1, d0]) rfl ⟨_, rfl, ?_, ?_⟩
    · exact (HG5.out.own (p := ⟨w.heap.size + 1 + 1, 0, none⟩) (by simp; omega) _).own (p := ⟨w.heap.size + 1 + 1, 1, none⟩) (by simp; omega) _
    · refine Own.low (base := w.heap.size + 3) (ownsRow_setCell_other (ownsRow_setCell_other HO5.out (fun e => ?_) _) (fun e => ?_) _) (by omega)
      · have := (HO5.out.lt (w.heap.size + 1 + 1) e).1; omega
      · have := (HO5.out.lt (w.heap.size + 1 + 1) e).1; omega
end Go.Proofs.Ytdpcahphbjdhaaa
