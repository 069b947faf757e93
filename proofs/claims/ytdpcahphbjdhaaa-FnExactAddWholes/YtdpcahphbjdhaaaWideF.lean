/- Proved: contracts of the model's whole number of a word and of its nearest quotient, by what the numbers are worth. -/
import Derived.Test.YtdpcahphbjdhaaaWideE
namespace Go.Proofs.Ytdpcahphbjdhaaa
open Go.ChangeShapes Go.WideShapes Go.ChangeAt Go.RowKit
open M2
set_option linter.unusedVariables false
set_option linter.unusedSimpArgs false
set_option maxHeartbeats 4000000 in
theorem int_any (n : Int) (w : World) (h0 : -9223372036854775808 ≤ n) (h1 : n ≤ 9223372036854775807) :
    Calls Try.prog 58 #[.int .i64 n] w fun e w' => ∃ v', e = .returned (.agg #[.bool (ng n), v']) ∧ Old w w' ∧ Own w' w.heap.size v' (toI (dg n)) := by
  by_cases hn : 0 ≤ n
  · obtain ⟨k, rfl⟩ := Int.eq_ofNat_of_zero_le hn
    have e1 : ng (k : Int) = false := by unfold ng; exact decide_eq_false (by omega)
    have e2 : dg (k : Int) = dig k := by unfold dg; simp
    rw [e1, e2]
    clear e1 e2 hn
    obtain ⟨zs, hz⟩ : ∃ zs, dig k = zs := ⟨_, rfl⟩
    rw [hz]
    have HZ : Hid (dig k = zs) := hz
    clear hz
    go_enter Try.func58, Try.ntmps58
    go_wp2_with fail
    refine (of_any k _ (by omega)).mono ?_
    rintro e w5 ⟨v5, rfl, g5, o5⟩
    rw [HZ.out] at o5
    obtain ⟨a5, cap5, rfl⟩ := (Own.row o5).sliceN
    have q0 : w5.cell? ⟨w.heap.size, 0, none⟩ = some (Value.bool false) := (g5.cell (p := ⟨w.heap.size, 0, none⟩) (by simp)).trans (cell_at _ _ _ _ _ rfl)
    have q1 : w5.cell? ⟨w.heap.size, 1, none⟩ = some (Value.slice none 0 0) := (g5.cell (p := ⟨w.heap.size, 1, none⟩) (by simp)).trans (cell_at _ _ _ _ _ rfl)
    have f0 : w5.frozen? ⟨w.heap.size, 0, none⟩ = false := (g5.frozen (p := ⟨w.heap.size, 0, none⟩) (by simp)).trans (fro_at _ _ _ _ _ rfl)
    have f1 : w5.frozen? ⟨w.heap.size, 1, none⟩ = false := (g5.frozen (p := ⟨w.heap.size, 1, none⟩) (by simp)).trans (fro_at _ _ _ _ _ rfl)
    have HG5 : Hid (Old w w5) := Old.trans ((Old.refl w).alloc _) g5
    have HO5 : Hid (Own w5 (w.heap.size + 1) (.slice a5 zs.length cap5) (toI zs)) := Own.low o5 (by simp)
    clear g5 o5
    go_wp2_with fail
    refine bodyPost_ret (v := .agg #[.bool false, .slice a5 zs.length cap5]) (by simp [results, Try.results58, go_sem, q0, q1]) rfl ⟨_, rfl, ?_, ?_⟩
    · exact (HG5.out.own (p := ⟨w.heap.size, 0, none⟩) (by simp) _).own (p := ⟨w.heap.size, 1, none⟩) (by simp) _
    · refine Own.low (base := w.heap.size + 1) (ownsRow_setCell_other (ownsRow_setCell_other HO5.out (fun e => ?_) _) (fun e => ?_) _) (by omega)
      · have := (HO5.out.lt w.heap.size e).1; omega
      · have := (HO5.out.lt w.heap.size e).1; omega
  · obtain ⟨k, ek⟩ : ∃ k : Nat, -(n + 1) = (k : Int) := ⟨(-(n + 1)).toNat, by omega⟩
    have e1 : ng n = true := by unfold ng; exact decide_eq_true (by omega)
    have e2 : dg n = dig (k + 1) := by unfold dg; rw [show n.natAbs = k + 1 by omega]
    rw [e1, e2]
    obtain ⟨zs, hz⟩ : ∃ zs, dig (k + 1) = zs := ⟨_, rfl⟩
    rw [hz]
    have HZ : Hid (dig (k + 1) = zs) := hz
    have d0 : decide (0 ≤ n) = false := decide_eq_false (by omega)
    have hkl : (dig k).length ≤ 3 := dig_len_le (by unfold LB; omega)
    clear hz e1 e2
    go_enter Try.func58, Try.ntmps58
    go_wp2_with fail
    refine (of_any k _ (by omega)).mono ?_
    rintro e w5 ⟨v5, rfl, g5, o5⟩
    have q0 : w5.cell? ⟨w.heap.size, 0, none⟩ = some (Value.bool false) := (g5.cell (p := ⟨w.heap.size, 0, none⟩) (by simp)).trans (cell_at _ _ _ _ _ rfl)
    have q1 : w5.cell? ⟨w.heap.size, 1, none⟩ = some (Value.slice none 0 0) := (g5.cell (p := ⟨w.heap.size, 1, none⟩) (by simp)).trans (cell_at _ _ _ _ _ rfl)
    have f0 : w5.frozen? ⟨w.heap.size, 0, none⟩ = false := (g5.frozen (p := ⟨w.heap.size, 0, none⟩) (by simp)).trans (fro_at _ _ _ _ _ rfl)
    have f1 : w5.frozen? ⟨w.heap.size, 1, none⟩ = false := (g5.frozen (p := ⟨w.heap.size, 1, none⟩) (by simp)).trans (fro_at _ _ _ _ _ rfl)
    have hs5 : w.heap.size + 1 ≤ w5.heap.size := by have := g5.size; simp at this; omega
    have HG5 : Hid (Old w w5) := Old.trans ((Old.refl w).alloc _) g5
    have HR5 : Hid (Row w5 v5 (toI (dig k))) := Own.row o5
    clear g5 o5
    go_wp2_with fail
    refine (add_any (dig k) [1] _ _ _ (HR5.out.old ((Old.refl _).alloc _)) (one_row w5 _) (dig_lim _) (Lim.cons (by decide) Lim.nil) (by omega) (by simp)).mono ?_
    rintro e w6 ⟨v6, rfl, g6, o6⟩
    have e6 : dig (val (dig k) + val [1]) = zs := by rw [← HZ.out, val_dig]; simp [val]
    rw [e6] at o6
    obtain ⟨a6, cap6, rfl⟩ := (Own.row o6).sliceN
    have g56 : Old w5 w6 := Old.trans ((Old.refl _).alloc _) g6
    have q0z := (g56.cell (p := ⟨w.heap.size, 0, none⟩) (by show w.heap.size < w5.heap.size; omega)).trans q0
    have q1z := (g56.cell (p := ⟨w.heap.size, 1, none⟩) (by show w.heap.size < w5.heap.size; omega)).trans q1
    have f0z := (g56.frozen (p := ⟨w.heap.size, 0, none⟩) (by show w.heap.size < w5.heap.size; omega)).trans f0
    have f1z := (g56.frozen (p := ⟨w.heap.size, 1, none⟩) (by show w.heap.size < w5.heap.size; omega)).trans f1
    have HG6 : Hid (Old w w6) := Old.trans HG5.out g56
    have HO6 : Hid (Own w6 (w.heap.size + 1) (.slice a6 zs.length cap6) (toI zs)) := Own.low o6 (by simp; omega)
    clear g6 g56 o6 e6 HG5 HR5
    go_wp2_with fail
    refine bodyPost_ret (v := .agg #[.bool true, .slice a6 zs.length cap6]) (by simp [results, Try.results58, go_sem, q0z, q1z]) rfl ⟨_, rfl, ?_, ?_⟩
    · exact (HG6.out.own (p := ⟨w.heap.size, 0, none⟩) (by simp) _).own (p := ⟨w.heap.size, 1, none⟩) (by simp) _
    · refine Own.low (base := w.heap.size + 1) (ownsRow_setCell_other (ownsRow_setCell_other HO6.out (fun e => ?_) _) (fun e => ?_) _) (by omega)
      · have := (HO6.out.lt w.heap.size e).1; omega
      · have := (HO6.out.lt w.heap.size e).1; omega
theorem two_row (w : World) (t : TypeId) : Row (w.alloc (.cells #[.int .i64 2] t)) (.slice (some ⟨w.heap.size, 0, none⟩) 1 1) (toI [2]) :=
  Or.inr ⟨w.heap.size, 0, 1, rfl, by simp, by simp [toI], fun j hj => by
    have : j = 0 := by simp [toI] at hj; omega
    subst this
    rw [cell_at _ _ _ _ _ (by simp)]
    rfl⟩
theorem dg_len {z : Int} {k : Nat} (h : z.natAbs < LB ^ k) : (dg z).length ≤ k := dig_len_le h
theorem sv_abs (n : Bool) (xs : List Nat) : (sv n xs).natAbs = val xs := by cases n <;> simp [sv]
set_option maxHeartbeats 4000000 in
theorem near_any (n : Bool) (xs ys : List Nat) (v u : Value) (w : World) (hv : Row w v (toI xs)) (hu : Row w u (toI ys)) (ha : Gw n xs) (hb : Nrm ys) (hl : ys ≠ []) (la : xs.length ≤ 500) (lb : ys.length ≤ 500) :
    Calls Try.prog 48 #[.agg #[.bool n, v], u] w fun e w' => ∃ v', e = .returned (.agg #[.bool (ng ((2 * sv n xs + (val ys : Int)) / (2 * (val ys : Int)))), v']) ∧ Old w w' ∧ Own w' w.heap.size v' (toI (dg ((2 * sv n xs + (val ys : Int)) / (2 * (val ys : Int))))) := by
  have HV : Hid (Row w v (toI xs)) := hv
  have HU : Hid (Row w u (toI ys)) := hu
  obtain ⟨a0, cap0, rfl⟩ := hv.sliceN
  obtain ⟨a1, cap1, rfl⟩ := hu.sliceN
  clear hv hu
  have hD := nrm_pos hb hl
  -- the numbers on the way
  obtain ⟨z1, hz1⟩ : ∃ z1, z1 = sv n xs * sv false [2] := ⟨_, rfl⟩
  have ez1 : z1 = 2 * sv n xs := by rw [hz1]; simp [sv, val]; omega
  obtain ⟨z2, hz2⟩ : ∃ z2, z2 = sv (ng z1) (dg z1) + sv false ys := ⟨_, rfl⟩
  have ez2 : z2 = 2 * sv n xs + (val ys : Int) := by rw [hz2, sv_of, ez1]; simp [sv]
  have e2 : val [2] = 2 := by simp [val]
  have ed : (val (dig (val ys * val [2])) : Int) = 2 * (val ys : Int) := by rw [val_dig, e2]; simp; omega
  obtain ⟨z3, hz3⟩ : ∃ z3, z3 = sv (ng z2) (dg z2) / (val (dig (val ys * val [2])) : Int) := ⟨_, rfl⟩
  have ez3 : (2 * sv n xs + (val ys : Int)) / (2 * (val ys : Int)) = z3 := by rw [hz3, sv_of, ez2, ed]
  rw [ez3]
  have hpow : ∀ k, LB ^ k * 4 ≤ LB ^ (k + 1) := fun k => by rw [Nat.pow_succ]; exact Nat.mul_le_mul (Nat.le_refl _) (by decide)
  have hvx := val_lt ha.1.1
  have hvy := val_lt hb.1
  have hl1 : (dg z1).length ≤ 501 := by
    refine Nat.le_trans (dg_len (k := xs.length + 1) ?_) (by omega)
    have := hpow xs.length
    rw [ez1, Int.natAbs_mul, sv_abs]
    simp
    omega
  have hl2 : (dg z2).length ≤ 1002 := by
    refine Nat.le_trans (dg_len (k := (xs.length + ys.length) + 1) ?_) (by omega)
    have h1 := hpow (xs.length + ys.length)
    have h2 : LB ^ xs.length ≤ LB ^ (xs.length + ys.length) := Nat.pow_le_pow_right LB_pos (by omega)
    have h3 : LB ^ ys.length ≤ LB ^ (xs.length + ys.length) := Nat.pow_le_pow_right LB_pos (by omega)
    have h4 := sv_abs n xs
    rw [ez2]
    omega
  have hl3 : (dig (val ys * val [2])).length ≤ 501 := by
    refine Nat.le_trans (dig_len_le (k := ys.length + 1) ?_) (by omega)
    have := hpow ys.length
    rw [e2]
    omega
  have hne3 : dig (val ys * val [2]) ≠ [] := dig_ne (by rw [e2]; omega)
  have hl4 : (dg z3).length ≤ 1000000 := by
    refine Nat.le_trans (dg_len (k := ((xs.length + ys.length) + 1) + 1) ?_) (by omega)
    have h1 := hpow (xs.length + ys.length)
    have h2 : LB ^ xs.length ≤ LB ^ (xs.length + ys.length) := Nat.pow_le_pow_right LB_pos (by omega)
    have h3 : LB ^ ys.length ≤ LB ^ (xs.length + ys.length) := Nat.pow_le_pow_right LB_pos (by omega)
    have h4 := sv_abs n xs
    have h5 := hpow (xs.length + ys.length + 1)
    have h6 : z3.natAbs ≤ z2.natAbs + 1 := by
      rw [hz3, sv_of, ed]
      have hp : (0 : Int) < 2 * (val ys : Int) := by omega
      have a1 := Int.emod_nonneg z2 (show 2 * (val ys : Int) ≠ 0 by omega)
      have a2 := Int.emod_lt_of_pos z2 hp
      have a3 := Int.mul_ediv_add_emod z2 (2 * (val ys : Int))
      generalize z2 / (2 * (val ys : Int)) = q at *
      generalize z2 % (2 * (val ys : Int)) = r at *
      rcases Int.lt_trichotomy q 0 with hq | hq | hq
      · have : 2 * (val ys : Int) * q ≤ 2 * (val ys : Int) * (-1) := Int.mul_le_mul_of_nonneg_left (by omega) (by omega)
        have b1 : 2 * (val ys : Int) * (q + 1) ≤ 1 * (q + 1) := Int.mul_le_mul_of_nonpos_right (by omega) (by omega)
        rw [Int.mul_add] at b1
        omega
      · subst hq; omega
      · have b1 : 1 * q ≤ 2 * (val ys : Int) * q := Int.mul_le_mul_of_nonneg_right (by omega) (by omega)
        omega
    have h7 : z2.natAbs ≤ 2 * val xs + val ys := by rw [ez2]; omega
    omega
  have Z1 : Hid (z1 = sv n xs * sv false [2]) := hz1
  have Z2 : Hid (z2 = sv (ng z1) (dg z1) + sv false ys) := hz2
  have Z3 : Hid (z3 = sv (ng z2) (dg z2) / (val (dig (val ys * val [2])) : Int)) := hz3
  have HD3 : Hid (dig (val ys * val [2]) ≠ []) := hne3
  clear hz1 hz2 hz3 ez1 ez2 ez3 ed e2 hpow hvx hvy hne3
  obtain ⟨ds, hds⟩ : ∃ ds, ds = dig (val ys * val [2]) := ⟨_, rfl⟩
  have HDS : Hid (ds = dig (val ys * val [2])) := hds
  rw [← hds] at hl3
  clear hds
  go_enter Try.func48, Try.ntmps48
  go_wp2_with fail
  have HA : Hid (∀ t1 t2 t3 xs1 xs2 xs3, Old w (((w.alloc (.cells xs1 t1)).alloc (.cells xs2 t2)).alloc (.cells xs3 t3))) := fun t1 t2 t3 xs1 xs2 xs3 => (((Old.refl w).alloc _).alloc _).alloc _
  refine (times_any n false xs [2] _ _ _ (HV.out.old (HA.out _ _ _ _ _ _)) (by have := two_row ((w.alloc (.cells #[Value.bool n, Value.slice a0 xs.length cap0] 61)).alloc (.cells #[Value.bool false, Value.slice none 0 0] 61)) 3; simp at this; exact this) ha.1.1 (Lim.cons (by decide) Lim.nil) (by omega) (by simp)).mono ?_
  rw [← Z1.out]
  rintro e w5 ⟨v5, rfl, g5, o5⟩
  obtain ⟨a5, cap5, rfl⟩ := (Own.row o5).sliceN
  have q0 : w5.cell? ⟨w.heap.size + 1, 0, none⟩ = some (Value.bool false) := (g5.cell (p := ⟨w.heap.size + 1, 0, none⟩) (by simp; try omega)).trans (c3_1 _ _ _ _ _ _ _ _ )
  have q1 : w5.cell? ⟨w.heap.size + 1, 1, none⟩ = some (Value.slice none 0 0) := (g5.cell (p := ⟨w.heap.size + 1, 1, none⟩) (by simp; try omega)).trans (c3_1 _ _ _ _ _ _ _ _ )
  have f0 : w5.frozen? ⟨w.heap.size + 1, 0, none⟩ = false := (g5.frozen (p := ⟨w.heap.size + 1, 0, none⟩) (by simp; try omega)).trans (f3_1 _ _ _ _ _ _ _ _ )
  have f1 : w5.frozen? ⟨w.heap.size + 1, 1, none⟩ = false := (g5.frozen (p := ⟨w.heap.size + 1, 1, none⟩) (by simp; try omega)).trans (f3_1 _ _ _ _ _ _ _ _ )
  have hs5 : w.heap.size + 3 ≤ w5.heap.size := by have := g5.size; simp at this; omega
  have HG5 : Hid (Old w w5) := Old.trans (HA.out _ _ _ _ _ _) g5
  have HR5 : Hid (Row w5 (.slice a5 (dg z1).length cap5) (toI (dg z1))) := Own.row o5
  clear g5 o5 HA
  go_wp2_with fail
  refine (plus_any (ng z1) false (dg z1) ys _ _ _ (HR5.out.old ((Old.refl _).alloc _)) (HU.out.old (HG5.out.alloc _)) (gw_of z1) ⟨hb, fun h => by cases h⟩ (by omega) (by omega)).mono ?_
  rw [← Z2.out]
  rintro e w6 ⟨v6, rfl, g6, o6⟩
  obtain ⟨a6, cap6, rfl⟩ := (Own.row o6).sliceN
  have g56 : Old w5 w6 := Old.trans ((Old.refl _).alloc _) g6
  have q0f := (g56.cell (p := ⟨w.heap.size + 1, 0, none⟩) (by show w.heap.size + 1 < w5.heap.size; omega)).trans q0
  have q1f := (g56.cell (p := ⟨w.heap.size + 1, 1, none⟩) (by show w.heap.size + 1 < w5.heap.size; omega)).trans q1
  have f0f := (g56.frozen (p := ⟨w.heap.size + 1, 0, none⟩) (by show w.heap.size + 1 < w5.heap.size; omega)).trans f0
  have f1f := (g56.frozen (p := ⟨w.heap.size + 1, 1, none⟩) (by show w.heap.size + 1 < w5.heap.size; omega)).trans f1
  have HG6 : Hid (Old w w6) := Old.trans HG5.out g56
  have hs6 : w.heap.size + 3 ≤ w6.heap.size := by have := g56.size; omega
  have HR6 : Hid (Row w6 (.slice a6 (dg z2).length cap6) (toI (dg z2))) := Own.row o6
  clear g6 g56 o6 HR5 HG5
  go_wp2_with fail
  refine (mul_any ys [2] _ _ _ (HU.out.old (HG6.out.alloc _)) (two_row w6 _) hb.1 (Lim.cons (by decide) Lim.nil) (by omega) (by simp)).mono ?_
  rintro e w7 ⟨v7, rfl, g7, o7⟩
  rw [← HDS.out] at o7
  obtain ⟨a7, cap7, rfl⟩ := (Own.row o7).sliceN
  have g67 : Old w6 w7 := Old.trans ((Old.refl _).alloc _) g7
  have q0g := (g67.cell (p := ⟨w.heap.size + 1, 0, none⟩) (by show w.heap.size + 1 < w6.heap.size; omega)).trans q0f
  have q1g := (g67.cell (p := ⟨w.heap.size + 1, 1, none⟩) (by show w.heap.size + 1 < w6.heap.size; omega)).trans q1f
  have f0g := (g67.frozen (p := ⟨w.heap.size + 1, 0, none⟩) (by show w.heap.size + 1 < w6.heap.size; omega)).trans f0f
  have f1g := (g67.frozen (p := ⟨w.heap.size + 1, 1, none⟩) (by show w.heap.size + 1 < w6.heap.size; omega)).trans f1f
  have HG7 : Hid (Old w w7) := Old.trans HG6.out g67
  have hs7 : w.heap.size + 3 ≤ w7.heap.size := by have := g67.size; omega
  have HR7 : Hid (Row w7 (.slice a6 (dg z2).length cap6) (toI (dg z2))) := HR6.out.old g67
  have HD7 : Hid (Row w7 (.slice a7 ds.length cap7) (toI ds)) := Own.row o7
  clear g7 g67 o7 HR6 HG6
  go_wp2_with fail
  refine (down_any (ng z2) (dg z2) ds _ _ _ HR7.out HD7.out (gw_of z2).1.1 (by rw [HDS.out]; exact dig_nrm _) (by rw [HDS.out]; exact HD3.out) (by omega) (by omega)).mono ?_
  rw [HDS.out, ← Z3.out]
  rintro e w8 ⟨v8, v9, rfl, g8, o8, o9⟩
  obtain ⟨a8, cap8, rfl⟩ := (Own.row o8).sliceN
  obtain ⟨a9, cap9, rfl⟩ := (Own.row o9).sliceN
  have q0h := (g8.cell (p := ⟨w.heap.size + 1, 0, none⟩) (by show w.heap.size + 1 < w7.heap.size; omega)).trans q0g
  have q1h := (g8.cell (p := ⟨w.heap.size + 1, 1, none⟩) (by show w.heap.size + 1 < w7.heap.size; omega)).trans q1g
  have f0h := (g8.frozen (p := ⟨w.heap.size + 1, 0, none⟩) (by show w.heap.size + 1 < w7.heap.size; omega)).trans f0g
  have f1h := (g8.frozen (p := ⟨w.heap.size + 1, 1, none⟩) (by show w.heap.size + 1 < w7.heap.size; omega)).trans f1g
  have HG8 : Hid (Old w w8) := Old.trans HG7.out g8
  have hs8 : w.heap.size + 3 ≤ w8.heap.size := by have := g8.size; omega
  have HO8 : Hid (Own w8 (w.heap.size + 3) (.slice a8 (dg z3).length cap8) (toI (dg z3))) := Own.low o8 hs7
  clear g8 o8 o9 HR7 HD7 HG7
  have q0k : (w8.alloc (.cells #[Value.bool (ng z3), Value.slice a8 (dg z3).length cap8] 61)).cell? ⟨w.heap.size + 1, 0, none⟩ = some (Value.bool false) := (cell_lt _ _ _ _ (by omega)).trans q0h
  have q1k : (w8.alloc (.cells #[Value.bool (ng z3), Value.slice a8 (dg z3).length cap8] 61)).cell? ⟨w.heap.size + 1, 1, none⟩ = some (Value.slice none 0 0) := (cell_lt _ _ _ _ (by omega)).trans q1h
  have f0k : (w8.alloc (.cells #[Value.bool (ng z3), Value.slice a8 (dg z3).length cap8] 61)).frozen? ⟨w.heap.size + 1, 0, none⟩ = false := (fro_lt _ _ _ _ (by omega)).trans f0h
  have f1k : (w8.alloc (.cells #[Value.bool (ng z3), Value.slice a8 (dg z3).length cap8] 61)).frozen? ⟨w.heap.size + 1, 1, none⟩ = false := (fro_lt _ _ _ _ (by omega)).trans f1h
  go_wp2_with fail
  refine bodyPost_ret (v := .agg #[.bool (ng z3), .slice a8 (dg z3).length cap8]) (by simp [results, Try.results48, go_sem, q0k, q1k]) rfl ⟨_, rfl, ?_, ?_⟩
  · exact ((HG8.out.alloc _).own (p := ⟨w.heap.size + 1, 0, none⟩) (by simp) _).own (p := ⟨w.heap.size + 1, 1, none⟩) (by simp) _
  · refine Own.low (base := w.heap.size + 3) (ownsRow_setCell_other (ownsRow_setCell_other (HO8.out.alloc _) (fun e => ?_) _) (fun e => ?_) _) (by omega)
    · have := (HO8.out.lt (w.heap.size + 1) e).1; omega
    · have := (HO8.out.lt (w.heap.size + 1) e).1; omega
end Go.Proofs.Ytdpcahphbjdhaaa
