/- Proved: several texts in one: what each proves is said ahead of it. -/
import Derived.Test.YtkggfljdbdfonaaGreatDoorWo10
import Derived.Lib.AppendZeros
import Derived.Deep.RegionHeld3
import Derived.Test.YtkggfljdbdfonaaGreatDoorRows
import Derived.WalkKit
import Derived.ProofKit
import Derived.OpenShut
import Derived.Test.YtkggfljdbdfonaaGreatDoorWo01
import Derived.Test.YtkggfljdbdfonaaGreatDoorWo07
import Derived.Test.YtkggfljdbdfonaaGreatDoorWo04
/- Proved: contracts of slices.Grow of no slice and of slices.Concat of two slices of ints. -/
namespace Go.Proofs.YtkggfljdbdfonaaGreatDoor
open Go.ChangeShapes Go.WideShapes Go.ChangeAt Go.RowKit
set_option linter.unusedVariables false
set_option linter.unusedSimpArgs false
theorem zeros_size (n : Nat) : (Builtin.zeroCells (Value.int .i64 0).cells n).size = n := by simp [Builtin.zeroCells, Value.cells]
theorem room_own (w : World) (n c : Nat) (h1 : n ≤ c) (h2 : c ≤ maxLen) : Own (w.drew.alloc (.cells (Builtin.zeroCells (Value.int .i64 0).cells n ++ Builtin.zeroCells (Value.int .i64 0).cells (c - n)) 3)) w.heap.size (.slice (some ⟨w.heap.size, 0, none⟩) 0 c) [] := by
  refine ⟨rfl, Or.inr ⟨w.heap.size, c, _, rfl, Nat.le_refl _, heap_alloc_new w.drew _, Nat.zero_le _, h2, ?_, by simp⟩⟩
  rw [Array.size_append, zeros_size, zeros_size]
  omega
set_option maxHeartbeats 1000000 in
theorem grow_any (n : Nat) (w : World) (hn : n ≤ 100) :
    Calls Tryz.prog 213 #[.slice none 0 0, .int .i64 n] w fun e w' => ∃ v', e = .returned v' ∧ Old w w' ∧ Own w' w.heap.size v' [] := by
  obtain ⟨i0, hi, hz0, hz1, hz2⟩ := info_parts Tryz.infoInt
  have d0 : decide ((n : Int) < 0) = false := decide_eq_false (by omega)
  rcases Nat.eq_zero_or_pos n with h0 | h0
  · subst h0
    go_enter Tryz.func213, Tryz.ntmps213
    go_wp2_with fail
    go_ret
    exact ⟨_, rfl, Old.refl _, ⟨rfl, Or.inl ⟨rfl, rfl⟩⟩⟩
  · have d1 : decide ((0 : Int) < (n : Int)) = true := decide_eq_true (by omega)
    have hr := Lib.run_append_nil_zeros (P := Tryz.prog) w 22 3 22 3 i0 (.int .i64 0) .i64 .i64 Tryz.underlying22 Tryz.underlying3 hi hz0 n h0 (by omega) (by omega) (by rw [hz2]; omega)
    have hc1 := grownCap_ge w n 0 3
    have hc2 := grownCap_le_maxLen w n 0 3 (by unfold maxLen; omega)
    have HO : Hid (Own (w.drew.alloc (.cells (Builtin.zeroCells (Value.int .i64 0).cells n ++ Builtin.zeroCells (Value.int .i64 0).cells (grownCap w n 0 3 - n)) 3)) w.heap.size (.slice (some ⟨w.heap.size, 0, none⟩) 0 (grownCap w n 0 3)) []) := room_own w n _ hc1 hc2
    have HG : Hid (Old w (w.drew.alloc (.cells (Builtin.zeroCells (Value.int .i64 0).cells n ++ Builtin.zeroCells (Value.int .i64 0).cells (grownCap w n 0 3 - n)) 3))) := Old.alloc (Below.drew (Old.refl w)) _
    generalize grownCap w n 0 3 = c at *
    generalize w.drew.alloc (.cells (Builtin.zeroCells (Value.int .i64 0).cells n ++ Builtin.zeroCells (Value.int .i64 0).cells (c - n)) 3) = w2 at *
    have HR : Hid ((Builtin.append_ #[22, 3] 22 #[.slice none 0 0, .int .i64 n]).run Tryz.prog w = .ok (.slice (some ⟨w.heap.size, 0, none⟩) n c) w2) := hr
    clear hr
    go_enter Tryz.func213, Tryz.ntmps213
    go_wp2_with (at_builtin; refine Lib.wpList_append_run _ rfl _ _ 22 3 rfl _ _ rfl rfl _ _ HR.out ?_)
    go_ret
    exact ⟨_, rfl, HG.out, HO.out⟩
/-- numbers lie at an address -/
def Lie (w : World) (ad : Addr) (xs : List Int) : Prop := ∀ j u, (xs.map (Value.int .i64))[j]? = some u → w.cell? (ad.add j) = some u
theorem Lie.old {w w' : World} {ad : Addr} {xs : List Int} (h : Lie w ad xs) (g : Old w w') : Lie w' ad xs := fun j u hj => by
  have h1 := h j u hj
  rw [g.cell (block_lt_of_cell h1)]
  exact h1
theorem Lie.nil (w : World) (ad : Addr) : Lie w ad [] := fun j u hj => by simp at hj
theorem ints_one (xs : List Int) : ∀ u ∈ xs.map (Value.int .i64), u.oneCell' = true := by
  intro u hu
  obtain ⟨x, _, rfl⟩ := List.mem_map.1 hu
  rfl
end Go.Proofs.YtkggfljdbdfonaaGreatDoor
/- Proved: the contract of slices.Concat of two slices of ints. -/
namespace Go.Proofs.YtkggfljdbdfonaaGreatDoor
open Go.ChangeShapes Go.WideShapes Go.ChangeAt Go.RowKit
set_option linter.unusedVariables false
set_option linter.unusedSimpArgs false
set_option maxRecDepth 100000 in
set_option maxHeartbeats 4000000 in
theorem concat_any (xs ys : List Int) (g : Nat) (a1 a2 : Addr) (c1 c2 : Nat) (w : World) (h1 : w.cell? ⟨g, 0, none⟩ = some (.slice (some a1) xs.length c1)) (h2 : w.cell? ⟨g, 1, none⟩ = some (.slice (some a2) ys.length c2))
    (l1 : Lie w a1 xs) (l2 : Lie w a2 ys) (hx : xs.length ≤ 50) (hy : ys.length ≤ 50) :
    Calls Tryz.prog 209 #[.slice (some ⟨g, 0, none⟩) 2 2] w fun e w' => ∃ v', e = .returned v' ∧ Old w w' ∧ Own w' w.heap.size v' (xs ++ ys) := by
  obtain ⟨i0, hi, hz0, hz1, hz2⟩ := info_parts Tryz.infoInt
  have L1 : Hid (Lie w a1 xs) := l1
  have L2 : Hid (Lie w a2 ys) := l2
  have H1 : Hid (w.cell? ⟨g, 0, none⟩ = some (.slice (some a1) xs.length c1)) := h1
  have H2 : Hid (w.cell? ⟨g, 1, none⟩ = some (.slice (some a2) ys.length c2)) := h2
  have hg : g < w.heap.size := block_lt_of_cell h1
  have HM1 : Hid ((xs.map (Value.int .i64)).length = xs.length * 1) := by show _ = _; simp
  have HM2 : Hid ((ys.map (Value.int .i64)).length = ys.length * 1) := by show _ = _; simp
  obtain ⟨n, hn⟩ : ∃ n : Nat, n = xs.length + ys.length := ⟨_, rfl⟩
  have en : (xs.length : Int) + (ys.length : Int) = (n : Int) := by omega
  have d1 : decide ((xs.length : Int) < 0) = false := decide_eq_false (by omega)
  have d2 : decide ((n : Int) < 0) = false := decide_eq_false (by omega)
  have cg := fun W => grow_any n W (by omega)
  clear l1 l2 hn
  go_enter Tryz.func209, Tryz.ntmps209
  go_wp2_with fail
  refine wp_loop_rounds 3 ?_
  rw [rounds_succ]
  go_wp2_with fail
  rw [rounds_succ]
  go_wp2_with fail
  rw [rounds_succ]
  go_wp2_with fail
  refine (cg _).mono ?_
  rintro e w1 ⟨v1, rfl, g1, o1⟩
  have HG1 : Hid (Old w w1) := g1
  have HO1 : Hid (Own w1 w.heap.size v1 []) := o1
  obtain ⟨va, vc, rfl⟩ := (Own.row o1).slice
  have q1 : w1.cell? ⟨g, 0, none⟩ = some (.slice (some a1) xs.length c1) := (g1.cell (p := ⟨g, 0, none⟩) hg).trans H1.out
  have hs1 := g1.size
  clear g1 o1 h1 h2
  go_wp2_with fail
  refine wp_loop_rounds 3 ?_
  rw [rounds_succ]
  go_wp2_with (at_builtin; refine wpList_append_own _ rfl _ _ 22 rfl w.heap.size 3 i0 (.int .i64 0) 1 8 Tryz.underlying22 hi hz0 hz1 hz2 rfl (by decide) _ 0 [] rfl HO1.out a1 xs.length c1 (xs.map (Value.int .i64)) rfl HM1.out (L1.out.old HG1.out) (ints_one xs) (by unfold maxLen; omega) (by omega) hs1 ?_; intro v2 w2 o2 g2 x2; have HO2 : Hid (Own w2 w.heap.size v2 xs) := (by rw [Nat.zero_add, List.nil_append] at o2; exact o2); have HG2 : Hid (Old w w2) := Below.grown HG1.out g2 hs1 (fun j hj => (HO1.out.lt j hj).1); clear o2 g2 x2)
  obtain ⟨va2, vc2, rfl⟩ := (Own.row HO2.out).slice
  have q2 : w2.cell? ⟨g, 1, none⟩ = some (.slice (some a2) ys.length c2) := (HG2.out.cell (p := ⟨g, 1, none⟩) hg).trans H2.out
  have hs2 := HG2.out.size
  rw [rounds_succ]
  go_wp2_with (at_builtin; refine wpList_append_own _ rfl _ _ 22 rfl w.heap.size 3 i0 (.int .i64 0) 1 8 Tryz.underlying22 hi hz0 hz1 hz2 rfl (by decide) _ xs.length (xs.map (Value.int .i64)) rfl HO2.out a2 ys.length c2 (ys.map (Value.int .i64)) rfl HM2.out (L2.out.old HG2.out) (ints_one ys) (by unfold maxLen; omega) (by omega) hs2 ?_; intro v3 w3 o3 g3 x3; have HO3 : Hid (Own w3 w.heap.size v3 (xs ++ ys)) := (by unfold Own; show w3.ownsRow _ _ _ _ _ _; rw [List.length_append, List.map_append]; exact o3); have HG3 : Hid (Old w w3) := Below.grown HG2.out g3 hs2 (fun j hj => (HO2.out.lt j hj).1); clear o3 g3 x3)
  obtain ⟨va3, vc3, rfl⟩ := (Own.row HO3.out).slice
  rw [rounds_succ]
  go_wp2_with fail
  go_ret
  exact ⟨_, rfl, HG3.out, HO3.out⟩
end Go.Proofs.YtkggfljdbdfonaaGreatDoor
/- Proved: the contract of the program's othersOf. -/
namespace Go.Proofs.YtkggfljdbdfonaaGreatDoor
open Go.ChangeShapes Go.WideShapes Go.ChangeAt Go.RowKit
set_option linter.unusedVariables false
set_option linter.unusedSimpArgs false
theorem concat_len (xs ys : List Int) (n1 n2 : Nat) (e1 : xs.length = n1) (e2 : ys.length = n2) (g : Nat) (a1 a2 : Addr) (c1 c2 : Nat) (w : World) (h1 : w.cell? ⟨g, 0, none⟩ = some (.slice (some a1) n1 c1)) (h2 : w.cell? ⟨g, 1, none⟩ = some (.slice (some a2) n2 c2))
    (l1 : Lie w a1 xs) (l2 : Lie w a2 ys) (hx : n1 ≤ 50) (hy : n2 ≤ 50) :
    Calls Tryz.prog 209 #[.slice (some ⟨g, 0, none⟩) 2 2] w fun e w' => ∃ v', e = .returned v' ∧ Old w w' ∧ Own w' w.heap.size v' (xs ++ ys) := by
  subst e1 e2
  exact concat_any xs ys g a1 a2 c1 c2 w h1 h2 l1 l2 hx hy
theorem add_at (b o j : Nat) : (⟨b, o, none⟩ : Addr).add j = ⟨b, o + j, none⟩ := by
  by_cases hj : j = 0
  · subst hj; simp [Addr.add]
  · simp [Addr.add, hj]
theorem lie_part {w : World} {b o : Nat} {xs : List Int} (hc : ∀ j, j < xs.length → w.cell? ⟨b, o + j, none⟩ = some (.int .i64 (xs.getD j 0))) (k n : Nat) : Lie w ⟨b, o + k, none⟩ ((xs.drop k).take n) := by
  intro j u hj
  rw [List.getElem?_map, List.getElem?_take] at hj
  by_cases h1 : j < n
  · rw [if_pos h1, List.getElem?_drop] at hj
    by_cases h2 : k + j < xs.length
    · rw [List.getElem?_eq_getElem h2] at hj
      simp only [Option.map_some, Option.some.injEq] at hj
      rw [add_at, Nat.add_assoc, hc (k + j) h2, ← hj]
      simp [List.getD, h2]
    · rw [List.getElem?_eq_none (by omega)] at hj
      cases hj
  · rw [if_neg h1] at hj
    cases hj
set_option maxRecDepth 100000 in
set_option maxHeartbeats 4000000 in
theorem others_any (xs : List Int) (v : Value) (i : Nat) (w : World) (hv : Row w v xs) (hf : Fit v) (hi : i < xs.length) (hl : xs.length ≤ 50) :
    Calls Tryz.prog 197 #[v, .int .i64 i] w fun e w' => ∃ v', e = .returned v' ∧ Old w w' ∧ Own w' w.heap.size v' (xs.take i ++ xs.drop (i + 1)) := by
  rcases hv with ⟨a, cap, rfl, rfl⟩ | ⟨b, o, cap, rfl, hb, h0, hc⟩
  · simp at hi
  have hcap : xs.length ≤ cap := hf
  obtain ⟨j, hj⟩ : ∃ j, j = i + 1 := ⟨_, rfl⟩
  rw [← hj]
  have k1 : i ≤ cap := by omega
  have e1 : IntKind.i64.wrap ((i : Int) + 1) = (j : Int) := by rw [IntKind.wrap_i64]; omega
  have k3 : j ≤ xs.length := by omega
  have k4 : j ≤ cap := by omega
  have HL1 : Hid (Lie w ⟨b, o, none⟩ (xs.take i)) := by
    have := lie_part hc 0 i
    rw [List.drop_zero, Nat.add_zero] at this
    exact this
  obtain ⟨a2, ha2, hl2⟩ : ∃ a2, (if cap = j then some (⟨b, o, none⟩ : Addr) else some ⟨b, o + j, none⟩) = some a2 ∧ Lie w a2 (xs.drop j) := by
    by_cases hcj : cap = j
    · rw [if_pos hcj]
      refine ⟨_, rfl, ?_⟩
      rw [List.drop_eq_nil_of_le (by omega)]
      exact Lie.nil _ _
    · rw [if_neg hcj]
      refine ⟨_, rfl, ?_⟩
      have := lie_part hc j (xs.length - j)
      rw [List.take_of_length_le (by simp)] at this
      exact this
  have HA2 : Hid ((if cap = j then some (⟨b, o, none⟩ : Addr) else some ⟨b, o + j, none⟩) = some a2) := ha2
  have HL2 : Hid (Lie w a2 (xs.drop j)) := hl2
  have HN1 : Hid ((xs.take i).length = i) := by show _ = _; rw [List.length_take]; omega
  have HN2 : Hid ((xs.drop j).length = xs.length - j) := by show _ = _; rw [List.length_drop]
  have HK : Hid (i ≤ 50 ∧ xs.length - j ≤ 50) := ⟨by omega, by omega⟩
  have tt : True := trivial
  generalize xs.take i = ys at *
  generalize xs.drop j = zs at *
  clear hj hc hf ha2 hl2 hi
  generalize xs.length = n at *
  obtain ⟨rs, hrs⟩ : ∃ rs, ys ++ zs = rs := ⟨_, rfl⟩
  rw [hrs]
  have HRS : Hid (ys ++ zs = rs) := hrs
  clear hrs
  go_enter Tryz.func197, Tryz.ntmps197
  go_wp2_with fail
  go_region_held3 (fun W' => W' = W') (first | exact rfl | fail) (first | (go_at_call 209; rw [HA2.out]; refine (concat_len ys zs i (n - j) HN1.out HN2.out w.heap.size ⟨b, o, none⟩ a2 cap (cap - j) _ (cell_at w _ _ _ 0 rfl) (cell_at w _ _ _ 1 rfl) (HL1.out.old (((Old.refl w).alloc _).drewN 1)) (HL2.out.old (((Old.refl w).alloc _).drewN 1)) HK.out.1 HK.out.2).mono ?_; rw [HRS.out]; rintro e w1 ⟨v1, rfl, g1, o1⟩; have HG : Hid (Old w w1) := Old.trans (((Old.refl w).alloc _).drewN 1) g1; have HO : Hid (Own w1 w.heap.size v1 rs) := o1.low (by show w.heap.size ≤ (w.alloc _).heap.size; simp); obtain ⟨va1, vc1, rfl⟩ := (Own.row o1).slice; clear g1 o1) | fail)
  all_goals
    go_wp2_with fail
    go_ret
    exact ⟨_, rfl, HG.out, HO.out⟩
end Go.Proofs.YtkggfljdbdfonaaGreatDoor
/- Proved: contracts of InvMod, of the program and of the model: both answer the inverse by Euclid, 0 where there is none or the modulus is out of bounds. -/
namespace Go.Proofs.YtkggfljdbdfonaaGreatDoor
open Go.ChangeShapes Go.WideShapes Go.ChangeAt Go.RowKit
open M1
theorem ret_int {k : IntKind} {a b : Int} (h : a = b) : Ending.returned (.int k a) = .returned (.int k b) := by rw [h]
set_option maxHeartbeats 1000000 in
theorem spec_inv (a m : Int) (w : World) (ha : -9223372036854775808 ≤ a ∧ a ≤ 9223372036854775807) (hm : 2 ≤ m ∧ m ≤ 268435456) :
    Calls Tryz.prog 142 #[.int .i64 a, .int .i64 m] w fun e w' => e = .returned (.int .i64 (invM (a % m).toNat m.toNat)) ∧ w' = w := by
  obtain ⟨h1, h2⟩ := hm
  obtain ⟨h3, h4⟩ := ha
  have r0 := Int.emod_nonneg a (show m ≠ 0 by omega)
  have r1 := Int.emod_lt_of_pos a (b := m) (by omega)
  have S := Eu.start (a % m) m r0 r1
  generalize hA : a % m = A at *
  have HA : Hid (a % m = A) := hA
  clear hA
  go_enter Tryz.func142, Tryz.ntmps142
  go_wp2_with (first | (go_at_call 103; refine (spec_mod _ _ _ ⟨h3, h4⟩ ⟨by omega, by omega⟩).mono ?_; rintro e w' ⟨rfl, rfl⟩; rw [HA.out]))
  go_loop [5, 6, 7, 8] (fun x y u v => ∃ x' y' u' v' : Int, Eu A m x' y' u' v' ∧ x = .int .i64 x' ∧ y = .int .i64 y' ∧ u = .int .i64 u' ∧ v = .int .i64 v') (fun x _ _ _ => (intOf x).toNat)
  case atStart => exact ⟨_, _, _, _, S, rfl, rfl, rfl, rfl⟩
  case round =>
    obtain ⟨x, y, u, v, E, rfl, rfl, rfl, rfl⟩ := hrel
    clear S
    obtain ⟨e1, e2, e3⟩ : 0 ≤ x ∧ x < y ∧ y ≤ m := ⟨E.x0, E.xy, E.ym⟩
    obtain ⟨b1, b2⟩ := E.bu
    obtain ⟨b3, b4⟩ := E.bv
    have HE : Hid (Eu A m x y u v) := E
    clear E
    by_cases hx : x = 0
    · subst hx
      by_cases hy : y = 1
      · subst hy
        have HD : Hid (v % m = (invM A.toNat m.toNat : Int)) := HE.out.done1 h1 r0
        go_wp2_with fail
        refine (spec_mod _ _ _ ⟨by omega, by omega⟩ ⟨by omega, by omega⟩).mono ?_
        rintro e w2 ⟨rfl, rfl⟩
        rw [HD.out]
        go_wp2_with fail
        go_ret
        exact ⟨rfl, rfl⟩
      · have HD : Hid ((0 : Int) = (invM A.toNat m.toNat : Int)) := HE.out.done0 h1 r0 hy
        have hy' : (y != 1) = true := by simp [hy]
        go_wp2_with fail
        go_ret
        exact ⟨ret_int HD.out, rfl⟩
    · obtain ⟨E', ⟨q1, q2⟩, ⟨q3, q4⟩, ⟨q5, q6⟩⟩ := HE.out.step hx
      have HE' : Hid (Eu A m (y - y / x * x) x (v - y / x * u) u) := E'
      have n1 : 0 ≤ y - y / x * x := E'.x0
      have n2 : y - y / x * x < x := E'.xy
      obtain ⟨n3, n4⟩ := E'.bu
      clear E' HE
      have hx' : (x != 0) = true := by simp [hx]
      go_wp2_with fail
      go_round
      case rel => exact ⟨_, _, _, _, HE'.out, rfl, rfl, rfl, rfl⟩
      case measure => simp [intOf]; omega
set_option maxHeartbeats 1000000 in
theorem impl_InvMod_yes (a m : Int) (w : World) (ha : -9223372036854775808 ≤ a ∧ a ≤ 9223372036854775807) (hm : modB m = true) :
    Calls Tryz.prog 180 #[.int .i64 a, .int .i64 m] w fun e w' => e = .returned (.int .i64 (invM (a % m).toNat m.toNat)) ∧ w' = w := by
  obtain ⟨h1, h2⟩ := modB_yes hm
  obtain ⟨h3, h4⟩ := ha
  have r0 := Int.emod_nonneg a (show m ≠ 0 by omega)
  have r1 := Int.emod_lt_of_pos a (b := m) (by omega)
  have S := Eu.start (a % m) m r0 r1
  generalize hA : a % m = A at *
  have HA : Hid (a % m = A) := hA
  clear hA
  go_enter Tryz.func180, Tryz.ntmps180
  go_wp2_with (first | (go_at_call 167; refine (impl_isModulus _ _).mono ?_; rintro e w' ⟨rfl, rfl⟩) | (go_at_call 114; refine (impl_residueOf _ _ _ ⟨h3, h4⟩ ⟨by omega, by omega⟩).mono ?_; rintro e w' ⟨rfl, rfl⟩; rw [HA.out]))
  go_loop [5, 6, 7, 8] (fun y x v u => ∃ x' y' u' v' : Int, Eu A m x' y' u' v' ∧ x = .int .i64 x' ∧ y = .int .i64 y' ∧ u = .int .i64 u' ∧ v = .int .i64 v') (fun _ x _ _ => (intOf x).toNat)
  case atStart => exact ⟨_, _, _, _, S, rfl, rfl, rfl, rfl⟩
  case round =>
    obtain ⟨x, y, u, v, E, rfl, rfl, rfl, rfl⟩ := hrel
    clear S
    obtain ⟨e1, e2, e3⟩ : 0 ≤ x ∧ x < y ∧ y ≤ m := ⟨E.x0, E.xy, E.ym⟩
    obtain ⟨b1, b2⟩ := E.bu
    obtain ⟨b3, b4⟩ := E.bv
    have HE : Hid (Eu A m x y u v) := E
    clear E
    by_cases hx : x = 0
    · subst hx
      by_cases hy : y = 1
      · subst hy
        have HD : Hid (v % m = (invM A.toNat m.toNat : Int)) := HE.out.done1 h1 r0
        go_wp2_with fail
        refine (impl_residueOf _ _ _ ⟨by omega, by omega⟩ ⟨by omega, by omega⟩).mono ?_
        rintro e w2 ⟨rfl, rfl⟩
        rw [HD.out]
        go_wp2_with fail
        go_ret
        exact ⟨rfl, rfl⟩
      · have HD : Hid ((0 : Int) = (invM A.toNat m.toNat : Int)) := HE.out.done0 h1 r0 hy
        have hy' : (y != 1) = true := by simp [hy]
        go_wp2_with fail
        go_ret
        exact ⟨ret_int HD.out, rfl⟩
    · obtain ⟨E', ⟨q1, q2⟩, ⟨q3, q4⟩, ⟨q5, q6⟩⟩ := HE.out.step hx
      have HE' : Hid (Eu A m (y - y / x * x) x (v - y / x * u) u) := E'
      have n1 : 0 ≤ y - y / x * x := E'.x0
      have n2 : y - y / x * x < x := E'.xy
      obtain ⟨n3, n4⟩ := E'.bu
      clear E' HE
      have hx' : (x != 0) = true := by simp [hx]
      go_wp2_with fail
      go_round
      case rel => exact ⟨_, _, _, _, HE'.out, rfl, rfl, rfl, rfl⟩
      case measure => simp [intOf]; omega
end Go.Proofs.YtkggfljdbdfonaaGreatDoor
/- Proved: the program's product modulo a word. -/
namespace Go.Proofs.YtkggfljdbdfonaaGreatDoor
open Go.ChangeShapes Go.WideShapes Go.ChangeAt Go.RowKit
open M1
set_option linter.unusedVariables false
set_option linter.unusedSimpArgs false
/-- a product modulo m, factor by factor -/
def pmN (m : Nat) (ps : List Nat) : Nat := ps.foldl (fun a p => a * p % m) 1
theorem pmN_snoc (m : Nat) (ps : List Nat) (p : Nat) : pmN m (ps ++ [p]) = pmN m ps * p % m := by simp [pmN, List.foldl_append]
theorem pmN_take (m : Nat) (ps : List Nat) (k : Nat) (h : k < ps.length) : pmN m (ps.take (k + 1)) = pmN m (ps.take k) * ps.getD k 0 % m := by
  rw [← pmN_snoc]
  congr 1
  rw [List.take_add_one]
  congr 1
  simp [List.getD, h]
theorem pmN_lt (m : Nat) (ps : List Nat) (hm : 2 ≤ m) : pmN m ps < m := by
  rcases List.eq_nil_or_concat ps with h | ⟨qs, p, h⟩
  · subst h; simp [pmN]; omega
  · rw [h, List.concat_eq_append, pmN_snoc]; exact Nat.mod_lt _ (by omega)
theorem by_any (m x y : Nat) (w : World) (hm : 2 ≤ m ∧ m ≤ 268435456) (hx : x < m) (hy : y ≤ 268435456) :
    Calls Tryz.prog 218 #[.iface 236 (.int .u64 m), .int .i64 x, .int .i64 y] w fun e w' => e = .returned (.int .i64 ((x * y % m : Nat) : Int)) ∧ ∃ n, w' = w.drewN n := by
  have hb : x * y ≤ 268435456 * 268435456 := Nat.mul_le_mul (by omega) hy
  have c := fun W => product_small m x y (by omega) (by omega) (by omega) (by omega) (by omega) W
  have hz : x * y % m < m := Nat.mod_lt _ (by omega)
  generalize x * y % m = z at *
  clear hb
  go_enter Tryz.func218, Tryz.ntmps218
  go_wp2_with (go_at_call 215; refine (c _).mono ?_; rintro e w1 ⟨rfl, k1, rfl⟩)
  go_ret
  exact ⟨rfl, _, rfl⟩
theorem timesM_any (m x y g : Nat) (w : World) (hm : 2 ≤ m ∧ m ≤ 268435456) (hx : x < m) (hy : y ≤ 268435456) (hc : w.cell? ⟨g, 0, none⟩ = some (.int .u64 (m : Int))) :
    Calls Tryz.prog 217 #[.int .i64 x, .int .i64 y, .pointer (some ⟨g, 0, none⟩)] w fun e w' => e = .returned (.int .i64 ((x * y % m : Nat) : Int)) ∧ ∃ n, w' = w.drewN n := by
  have c := fun W => by_any m x y W hm hx hy
  generalize x * y % m = z at *
  go_enter Tryz.func217, Tryz.ntmps217
  go_wp2_with (go_at_call 218; refine (c _).mono ?_; rintro e w1 ⟨rfl, k1, rfl⟩)
  go_ret
  exact ⟨rfl, _, rfl⟩
set_option maxHeartbeats 1000000 in
theorem allM_any (m g : Nat) (ps : List Nat) (v : Value) (w : World) (hm : 2 ≤ m ∧ m ≤ 268435456) (hg : w.cell? ⟨g, 0, none⟩ = some (.int .u64 (m : Int))) (hv : Row w v (toZ ps)) (hl : ps.length ≤ 50) (hb : ∀ p ∈ ps, p ≤ 268435456) :
    Calls Tryz.prog 216 #[.func (.func 217) #[] #[.pointer (some ⟨g, 0, none⟩)], .int .i64 1, v] w fun e w' => e = .returned (.int .i64 ((pmN m ps : Nat) : Int)) ∧ Old w w' := by
  have HB : Hid (∀ p ∈ ps, p ≤ 268435456) := hb
  have HV : Hid (Row w v (toZ ps)) := hv
  have HGC : Hid (w.cell? ⟨g, 0, none⟩ = some (.int .u64 (m : Int))) := hg
  have hgl : g < w.heap.size := block_lt_of_cell hg
  obtain ⟨r, hr⟩ : ∃ r, pmN m ps = r := ⟨_, rfl⟩
  rw [hr]
  have HRR : Hid (pmN m ps = r) := hr
  obtain ⟨va, vc, rfl⟩ : ∃ a c, v = .slice a ps.length c := by have := hv.slice; rwa [toZ_len] at this
  clear hb hv hg hr
  go_enter Tryz.func216, Tryz.ntmps216
  go_wp2_with fail
  go_loopw [7, 13] (fun x i W => ∃ k q : Nat, k ≤ ps.length ∧ i = .int .i64 k ∧ x = .int .i64 q ∧ q < m ∧ Hid (pmN m (ps.take k) = q) ∧ Hid (Old w W)) (fun _ i _ => ps.length - (intOf i).toNat)
  case atStart => exact ⟨0, 1, by omega, rfl, rfl, by omega, rfl, Old.refl _⟩
  case round =>
    obtain ⟨k, q, hk, rfl, rfl, hq, HQ, HG⟩ := hrel
    by_cases hlt : k < ps.length
    · have d1 : decide ((k : Int) < (ps.length : Int)) = true := by simp; omega
      obtain ⟨b, o, rfl, hb, hc⟩ : ∃ b o, va = some ⟨b, o, none⟩ ∧ b < w.heap.size ∧ ∀ j, j < ps.length → w.cell? ⟨b, o + j, none⟩ = some (.int .i64 ((ps.getD j 0 : Nat) : Int)) := by
        rcases HV.out with ⟨a', cap', e, e2⟩ | ⟨b, o, cap', e, hb, h0, hc⟩
        · have := congrArg List.length e2
          rw [toZ_len] at this
          simp only [List.length_nil] at this
          omega
        · simp only [Value.slice.injEq] at e
          rw [toZ_len] at hc
          exact ⟨b, o, e.1, hb, fun j hj => by rw [hc j hj, toZ_get]⟩
      have c1 : wr.cell? ⟨b, o + k, none⟩ = some (.int .i64 ((ps.getD k 0 : Nat) : Int)) := (HG.out.cell (p := ⟨b, o + k, none⟩) hb).trans (hc k hlt)
      have hpb : ps.getD k 0 ≤ 268435456 := HB.out _ (by simp [List.getD, hlt])
      have HE : Hid (pmN m (ps.take (k + 1)) = q * ps.getD k 0 % m) := by show _ = _; rw [pmN_take m ps k hlt, HQ.out]
      have HCC : Hid (wr.cell? ⟨g, 0, none⟩ = some (.int .u64 (m : Int))) := (HG.out.cell (p := ⟨g, 0, none⟩) hgl).trans HGC.out
      have ct := timesM_any m q (ps.getD k 0) g wr hm hq hpb HCC.out
      have hz : q * ps.getD k 0 % m < m := Nat.mod_lt _ (by omega)
      clear hc HQ
      generalize q * ps.getD k 0 % m = y at *
      generalize ps.getD k 0 = p at *
      go_wp2_with (go_at_call 217; refine ct.mono ?_; rintro e w5 ⟨rfl, k5, rfl⟩)
      exact ⟨⟨k + 1, y, by omega, by go_num, rfl, hz, HE, HG.out.drewN _⟩, by simp [intOf]; omega⟩
    · have d1 : decide ((k : Int) < (ps.length : Int)) = false := by simp; omega
      obtain rfl : k = ps.length := by omega
      obtain rfl : q = r := by
        have := HQ.out
        rw [List.take_length, HRR.out] at this
        exact this.symm
      go_wp2_with fail
      go_ret
      exact ⟨rfl, HG.out⟩
theorem pmod_any (m : Nat) (ps : List Nat) (v : Value) (w : World) (hm : 2 ≤ m ∧ m ≤ 268435456) (hv : Row w v (toZ ps)) (hl : ps.length ≤ 50) (hb : ∀ p ∈ ps, p ≤ 268435456) :
    Calls Tryz.prog 212 #[.int .i64 m, v] w fun e w' => e = .returned (.int .i64 ((pmN m ps : Nat) : Int)) ∧ Old w w' := by
  have HV : Hid (Row w v (toZ ps)) := hv
  obtain ⟨va, vc, rfl⟩ : ∃ a c, v = .slice a ps.length c := by have := hv.slice; rwa [toZ_len] at this
  have c := fun g W h1 h2 => allM_any m g ps (.slice va ps.length vc) W hm h1 h2 hl hb
  generalize pmN m ps = r at *
  have hmf : ∀ (fn : Fn) (first cap : Array Value) (w : World), (Instr.makeFunc fn first cap).run Tryz.prog w = .ok (.func fn first cap) w := fun _ _ _ _ => rfl
  clear hv hb
  go_enter Tryz.func212, Tryz.ntmps212
  go_wp2_with fail
  refine (c _ _ (cell_at w _ _ _ 0 rfl) (HV.out.old ((Old.refl w).alloc _))).mono ?_
  rintro e w1 ⟨rfl, g1⟩
  have HG : Hid (Old w w1) := Old.trans ((Old.refl w).alloc _) g1
  clear g1
  go_wp2_with fail
  go_ret
  exact ⟨rfl, HG.out⟩
end Go.Proofs.YtkggfljdbdfonaaGreatDoor
/- Proved: the contract of the program's inverseAt. -/
namespace Go.Proofs.YtkggfljdbdfonaaGreatDoor
open Go.ChangeShapes Go.WideShapes Go.ChangeAt Go.RowKit
open M1
set_option linter.unusedVariables false
set_option linter.unusedSimpArgs false
/-- all but the one at place i -/
def oth (ps : List Nat) (i : Nat) : List Nat := ps.take i ++ ps.drop (i + 1)
theorem oth_toZ (ps : List Nat) (i : Nat) : (toZ ps).take i ++ (toZ ps).drop (i + 1) = toZ (oth ps i) := by simp [oth, toZ, List.map_take, List.map_drop]
theorem oth_mem {ps : List Nat} {i p : Nat} (h : p ∈ oth ps i) : p ∈ ps := by
  rcases List.mem_append.1 h with h | h
  · exact List.mem_of_mem_take h
  · exact List.mem_of_mem_drop h
theorem oth_len (ps : List Nat) (i : Nat) : (oth ps i).length ≤ ps.length := by simp [oth]; omega
/-- the inverse of the product of all others -/
def ivN (ps : List Nat) (i : Nat) : Nat := invM (pmN (ps.getD i 0) (oth ps i)) (ps.getD i 0)
theorem Old.drwI {a b : World} (h : Old a b) : Old a b.drew := Below.drew h
set_option maxRecDepth 100000 in
set_option maxHeartbeats 4000000 in
theorem inverseAt_any (ps : List Nat) (v : Value) (i : Nat) (w : World) (hv : Row w v (toZ ps)) (hf : Fit v) (hi : i < ps.length) (hl : ps.length ≤ 50) (hlo : ∀ p ∈ ps, 2 ≤ p) (hhi : ∀ p ∈ ps, p ≤ 268435456) :
    Calls Tryz.prog 208 #[v, .int .i64 i] w fun e w' => e = .returned (.int .i64 ((ivN ps i : Nat) : Int)) ∧ Old w w' := by
  have hm : ps.getD i 0 ∈ ps := by simp [List.getD, hi]
  have m1 := hlo _ hm
  have m2 := hhi _ hm
  have co := fun W h3 => others_any (toZ ps) v i W h3 hf (by rw [toZ_len]; exact hi) (by rw [toZ_len]; exact hl)
  rw [oth_toZ] at co
  have cp := fun u W h3 => pmod_any (ps.getD i 0) (oth ps i) u W ⟨m1, m2⟩ h3 (Nat.le_trans (oth_len ps i) hl) (fun p hp => hhi p (oth_mem hp))
  have hlt := pmN_lt (ps.getD i 0) (oth ps i) m1
  have ci := fun W => impl_InvMod_yes ((pmN (ps.getD i 0) (oth ps i) : Nat) : Int) ((ps.getD i 0 : Nat) : Int) W (by omega) (decide_eq_true ⟨by omega, by omega⟩)
  have ei : ((((pmN (ps.getD i 0) (oth ps i) : Nat) : Int) % ((ps.getD i 0 : Nat) : Int)).toNat) = pmN (ps.getD i 0) (oth ps i) := by
    rw [← Int.natCast_emod, Nat.mod_eq_of_lt hlt, Int.toNat_natCast]
  rw [ei, Int.toNat_natCast] at ci
  have HIV : Hid (invM (pmN (ps.getD i 0) (oth ps i)) (ps.getD i 0) = ivN ps i) := rfl
  rw [HIV.out] at ci
  have HV : Hid (Row w v (toZ ps)) := hv
  obtain ⟨b, o, cap, rfl, hb, hc⟩ := hv.atZ (by omega)
  have HC : Hid (w.cell? ⟨b, o + i, none⟩ = some (.int .i64 ((ps.getD i 0 : Nat) : Int))) := hc i hi
  clear hv hf hc hm hlo hhi ei HIV
  generalize ivN ps i = z at *
  generalize pmN (ps.getD i 0) (oth ps i) = q at *
  generalize ps.getD i 0 = m at *
  have HAS : Hid (∀ W', Old w W' → W'.cell? ⟨b, o + i, none⟩ = some (.int .i64 (m : Int))) := fun W' g => (g.cell (p := ⟨b, o + i, none⟩) hb).trans HC.out
  have i1 : (i : Int) < (ps.length : Int) := by omega
  go_enter Tryz.func208, Tryz.ntmps208
  go_wp2_with fail
  go_region_held3 (fun W' => W'.cell? ⟨b, o + i, none⟩ = some (.int .i64 (m : Int))) (first | exact HAS.out _ (by repeat' (first | exact Old.refl _ | exact G3.out | exact G2.out | exact G1.out | refine Old.drwI ?_ | fail)) | fail) (first
    | (go_at_call 197; refine (co _ (HV.out.old (by repeat' (first | exact Old.refl _ | refine Old.drwI ?_ | fail)))).mono ?_; rintro e w1 ⟨v1, rfl, g1, o1⟩; have G1 : Hid (Old w w1) := Old.trans (by repeat' (first | exact Old.refl _ | refine Old.drwI ?_ | fail)) g1; have R1 : Hid (Row w1 v1 (toZ (oth ps i))) := Own.row o1; obtain ⟨va1, vc1, rfl⟩ : ∃ a c, v1 = .slice a (oth ps i).length c := (by have := (Own.row o1).slice; rwa [toZ_len] at this); clear g1 o1)
    | (go_at_call 212; refine (cp _ _ R1.out).mono ?_; rintro e w2 ⟨rfl, g2⟩; have G2 : Hid (Old w w2) := Old.trans G1.out g2; clear g2)
    | (go_at_call 180; refine (ci _).mono ?_; rintro e w3 ⟨rfl, hw3⟩; have G3 : Hid (Old w w3) := (by rw [hw3]; exact G2.out); clear hw3)
    | fail)
  all_goals
    go_wp2_with fail
    go_ret
    exact ⟨rfl, G3.out⟩
end Go.Proofs.YtkggfljdbdfonaaGreatDoor
/- Proved: the contract of the model's l4Inverse. -/
namespace Go.Proofs.YtkggfljdbdfonaaGreatDoor
open Go.ChangeShapes Go.WideShapes Go.ChangeAt Go.RowKit
open M1
set_option linter.unusedVariables false
set_option linter.unusedSimpArgs false
/-- of the first k all but the one at place i -/
def othK (ps : List Nat) (i k : Nat) : List Nat := (ps.take k).take i ++ (ps.take k).drop (i + 1)
theorem othK_zero (ps : List Nat) (i : Nat) : othK ps i 0 = [] := by simp [othK]
theorem othK_all (ps : List Nat) (i k : Nat) (h : ps.length ≤ k) : othK ps i k = oth ps i := by unfold othK oth; rw [List.take_of_length_le h]
theorem othK_same (ps : List Nat) (i : Nat) (h : i < ps.length) : othK ps i (i + 1) = othK ps i i := by
  unfold othK
  rw [List.take_take, List.take_take, List.drop_eq_nil_of_le (by simp; omega), List.drop_eq_nil_of_le (by simp; omega)]
  congr 2
  omega
theorem othK_step (ps : List Nat) (i k : Nat) (h : k < ps.length) (hk : k ≠ i) : othK ps i (k + 1) = othK ps i k ++ [ps.getD k 0] := by
  unfold othK
  have hl : (ps.take k).length = k := by rw [List.length_take]; omega
  have e : ps.take (k + 1) = ps.take k ++ [ps.getD k 0] := by
    rw [List.take_add_one]
    congr 1
    simp [List.getD, h]
  rw [e]
  generalize ps.take k = l at *
  rw [List.take_append, List.drop_append, hl]
  rcases Nat.lt_or_gt_of_ne hk with h1 | h1
  · obtain ⟨d, hd⟩ : ∃ d, i - k = d + 1 := ⟨i - k - 1, by omega⟩
    have e2 : i + 1 - k = d + 2 := by omega
    have e3 : l.drop (i + 1) = [] := List.drop_eq_nil_of_le (by omega)
    rw [hd, e2, e3]
    simp
  · rw [show i - k = 0 by omega, show i + 1 - k = 0 by omega, List.take_zero, List.drop_zero, List.append_nil, List.append_assoc]
theorem pmN_mod (m : Nat) (qs : List Nat) (p : Nat) : pmN m (qs ++ [p]) = pmN m qs * (p % m) % m := by
  rw [pmN_snoc, Nat.mul_mod, Nat.mul_mod (pmN m qs) (p % m), Nat.mod_mod]
set_option maxRecDepth 100000 in
set_option maxHeartbeats 4000000 in
theorem spec_inverse (ps : List Nat) (v : Value) (i : Nat) (w : World) (hv : Row w v (toZ ps)) (hi : i < ps.length) (hl : ps.length ≤ 50) (hlo : ∀ p ∈ ps, 2 ≤ p) (hhi : ∀ p ∈ ps, p ≤ 268435456) :
    Calls Tryz.prog 138 #[v, .int .i64 i] w fun e w' => e = .returned (.int .i64 ((ivN ps i : Nat) : Int)) ∧ Old w w' := by
  have hm : ps.getD i 0 ∈ ps := by simp [List.getD, hi]
  have m1 := hlo _ hm
  have m2 := hhi _ hm
  have hlt := pmN_lt (ps.getD i 0) (oth ps i) m1
  have ci := fun W => spec_inv ((pmN (ps.getD i 0) (oth ps i) : Nat) : Int) ((ps.getD i 0 : Nat) : Int) W (by omega) (by omega)
  have ei : ((((pmN (ps.getD i 0) (oth ps i) : Nat) : Int) % ((ps.getD i 0 : Nat) : Int)).toNat) = pmN (ps.getD i 0) (oth ps i) := by
    rw [← Int.natCast_emod, Nat.mod_eq_of_lt hlt, Int.toNat_natCast]
  rw [ei, Int.toNat_natCast] at ci
  have HIV : Hid (invM (pmN (ps.getD i 0) (oth ps i)) (ps.getD i 0) = ivN ps i) := rfl
  rw [HIV.out] at ci
  obtain ⟨b, o, cap, rfl, hb, hc⟩ := hv.atZ (by omega)
  have HC : Hid (∀ j, j < ps.length → w.cell? ⟨b, o + j, none⟩ = some (.int .i64 ((ps.getD j 0 : Nat) : Int))) := hc
  have HH : Hid (∀ k, k < ps.length → ps.getD k 0 ≤ 268435456) := fun k hk => hhi _ (by simp [List.getD, hk])
  have HS : Hid (∀ k, k < ps.length → k ≠ i → pmN (ps.getD i 0) (othK ps i (k + 1)) = pmN (ps.getD i 0) (othK ps i k) * (ps.getD k 0 % ps.getD i 0) % ps.getD i 0) := fun k h1 h2 => by rw [othK_step ps i k h1 h2, pmN_mod]
  have HS2 : Hid (pmN (ps.getD i 0) (othK ps i (i + 1)) = pmN (ps.getD i 0) (othK ps i i)) := by show _ = _; rw [othK_same ps i hi]
  have HS3 : Hid (pmN (ps.getD i 0) (othK ps i ps.length) = pmN (ps.getD i 0) (oth ps i)) := by show _ = _; rw [othK_all ps i _ (Nat.le_refl _)]
  have HS0 : Hid (pmN (ps.getD i 0) (othK ps i 0) = 1) := by show _ = _; rw [othK_zero]; rfl
  have HMI : Hid (w.cell? ⟨b, o + i, none⟩ = some (.int .i64 ((ps.getD i 0 : Nat) : Int))) := hc i hi
  have cmi := hc i hi
  clear hv hc hm hlo hhi ei HIV hlt
  generalize ivN ps i = z at *
  generalize pmN (ps.getD i 0) (oth ps i) = q at *
  generalize ps.getD i 0 = m at *
  have i1 : (i : Int) < (ps.length : Int) := by omega
  have e1 : (1 : Int) % (m : Int) = 1 := Int.emod_eq_of_lt (by omega) (by omega)
  have hm0 : ¬ m = 0 := by omega
  go_enter Tryz.func138, Tryz.ntmps138
  go_wp2_with fail
  clear cmi
  go_loopw [5, 15] (fun x j W => ∃ k y : Nat, k ≤ ps.length ∧ j = .int .i64 k ∧ x = .int .i64 y ∧ y < m ∧ Hid (pmN m (othK ps i k) = y) ∧ Hid (Old w W)) (fun _ j _ => ps.length - (intOf j).toNat)
  case atStart => exact ⟨0, 1, by omega, rfl, by rw [e1]; rfl, by omega, HS0, Old.refl _⟩
  case round =>
    obtain ⟨k, y, hk, rfl, rfl, hy, HY, HG⟩ := hrel
    have cm : wr.cell? ⟨b, o + i, none⟩ = some (.int .i64 (m : Int)) := (HG.out.cell (p := ⟨b, o + i, none⟩) hb).trans HMI.out
    by_cases hlt : k < ps.length
    · have d1 : decide ((k : Int) < (ps.length : Int)) = true := by simp; omega
      have c1 : wr.cell? ⟨b, o + k, none⟩ = some (.int .i64 ((ps.getD k 0 : Nat) : Int)) := (HG.out.cell (p := ⟨b, o + k, none⟩) hb).trans (HC.out k hlt)
      have hpb := HH.out k hlt
      by_cases hki : k = i
      · subst hki
        have HE : Hid (pmN m (othK ps k (k + 1)) = y) := by show _ = _; rw [HS2.out]; exact HY.out
        have dn : ((k : Int) != (k : Int)) = false := by simp
        clear HY
        generalize ps.getD k 0 = p at *
        go_wp2_with fail
        exact ⟨⟨k + 1, y, by omega, by go_num, rfl, hy, HE, HG⟩, by simp [intOf]; omega⟩
      · have HE : Hid (pmN m (othK ps i (k + 1)) = y * (ps.getD k 0 % m) % m) := by show _ = _; rw [HS.out k hlt hki, HY.out]
        have dn : ((k : Int) != (i : Int)) = true := by simp; omega
        clear HY
        generalize ps.getD k 0 = p at *
        obtain ⟨r, hr⟩ : ∃ r, p % m = r := ⟨_, rfl⟩
        have hrm : r < m := by rw [← hr]; exact Nat.mod_lt _ (by omega)
        have t1 : Int.tmod (p : Int) (m : Int) = (r : Int) := by rw [Int.tmod_eq_emod_of_nonneg (by omega), ← hr]; rfl
        rw [hr] at HE
        obtain ⟨x2, hx2⟩ : ∃ x2, y * r = x2 := ⟨_, rfl⟩
        have hb2 : x2 ≤ 72057594037927936 := by rw [← hx2]; exact Nat.le_trans (Nat.mul_le_mul (show y ≤ 268435456 by omega) (show r ≤ 268435456 by omega)) (by decide)
        have t2 : IntKind.i64.wrap ((y : Int) * (r : Int)) = (x2 : Int) := by rw [← Int.natCast_mul, hx2, IntKind.wrap_i64]; omega
        rw [hx2] at HE
        obtain ⟨x3, hx3⟩ : ∃ x3, x2 % m = x3 := ⟨_, rfl⟩
        have h3 : x3 < m := by rw [← hx3]; exact Nat.mod_lt _ (by omega)
        have t3 : Int.tmod (x2 : Int) (m : Int) = (x3 : Int) := by rw [Int.tmod_eq_emod_of_nonneg (by omega), ← hx3]; rfl
        rw [hx3] at HE
        clear hr hx2 hx3
        go_wp2_with fail
        go_quiet (fail)
        go_wp2_with fail
        exact ⟨⟨k + 1, x3, by omega, by go_num, rfl, h3, HE, HG.out.drewN _⟩, by simp [intOf]; omega⟩
    · have d1 : decide ((k : Int) < (ps.length : Int)) = false := by simp; omega
      obtain rfl : k = ps.length := by omega
      obtain rfl : y = q := by rw [← HY.out, HS3.out]
      go_wp2_with (go_at_call 142; refine (ci _).mono ?_; rintro e w5 ⟨rfl, hw5⟩; have HG5 : Hid (Old w w5) := (by rw [hw5]; exact HG.out); clear hw5)
      go_ret
      exact ⟨rfl, HG5.out⟩
end Go.Proofs.YtkggfljdbdfonaaGreatDoor
/- Proved: the sum of the parts, its mathematics. -/
namespace Go.Proofs.YtkggfljdbdfonaaGreatDoor
open Go.ChangeShapes Go.WideShapes Go.ChangeAt Go.RowKit
open M2
set_option linter.unusedVariables false
set_option linter.unusedSimpArgs false
/-- how often the product of all others is taken -/
def yN (rs ps : List Nat) (i : Nat) : Nat := rs.getD i 0 * ivN ps i % ps.getD i 0
/-- the parts of the first k primes -/
def sumN (rs ps : List Nat) : Nat → Nat
  | 0 => 0
  | k + 1 => sumN rs ps k + prodN (oth ps k) * yN rs ps k
theorem oth_len' (ps : List Nat) (i : Nat) (h : i < ps.length) : (oth ps i).length = ps.length - 1 := by simp [oth]; omega
theorem prodN_all (ps : List Nat) (hb : ∀ p ∈ ps, p ≤ 268435456) : prodN ps ≤ LB ^ ps.length := by
  have := prodN_le ps hb ps.length (Nat.le_refl _)
  rwa [List.take_length] at this
theorem oth_le {ps : List Nat} (hb : Bas ps) {i : Nat} (hi : i < ps.length) : prodN (oth ps i) ≤ LB ^ 5 := by
  have h1 := prodN_all (oth ps i) (fun p hp => hb.hi p (oth_mem hp))
  rw [oth_len' ps i hi] at h1
  exact Nat.le_trans h1 (Nat.pow_le_pow_right LB_pos (by have := hb.len6; omega))
theorem yN_lt {rs ps : List Nat} (hb : Bas ps) {i : Nat} (hi : i < ps.length) : yN rs ps i < ps.getD i 0 ∧ ps.getD i 0 ≤ 268435456 := by
  have hm : ps.getD i 0 ∈ ps := by simp [List.getD, hi]
  have := hb.lo _ hm
  exact ⟨Nat.mod_lt _ (by omega), hb.hi _ hm⟩
theorem part_le {rs ps : List Nat} (hb : Bas ps) {i : Nat} (hi : i < ps.length) : prodN (oth ps i) * yN rs ps i ≤ LB ^ 6 := by
  have h1 := oth_le hb hi
  have h2 := yN_lt (rs := rs) hb hi
  have h3 : yN rs ps i ≤ LB := by show _ ≤ 268435456; omega
  rw [Nat.pow_succ LB 5]
  exact Nat.mul_le_mul h1 h3
theorem sumN_le {rs ps : List Nat} (hb : Bas ps) : ∀ k, k ≤ ps.length → sumN rs ps k ≤ k * LB ^ 6
  | 0, _ => by simp [sumN]
  | k + 1, h => by
    have h1 := sumN_le (rs := rs) hb k (by omega)
    have h2 := part_le (rs := rs) hb (show k < ps.length by omega)
    rw [sumN, Nat.add_mul, Nat.one_mul]
    omega
theorem cnt_six {n : Nat} (h : n ≤ 6 * LB ^ 6) : cnt n ≤ 7 := by
  refine cnt_le (Nat.lt_of_le_of_lt h ?_)
  rw [Nat.pow_succ LB 6, Nat.mul_comm]
  exact Nat.mul_lt_mul_of_pos_left (by decide) (pw 6)
theorem sumN_cnt {rs ps : List Nat} (hb : Bas ps) (k : Nat) (h : k ≤ ps.length) : cnt (sumN rs ps k) ≤ 7 := by
  refine cnt_six (Nat.le_trans (sumN_le hb k h) (Nat.mul_le_mul_right _ (by have := hb.len6; omega)))
theorem oth_cnt {ps : List Nat} (hb : Bas ps) {i : Nat} (hi : i < ps.length) : cnt (prodN (oth ps i)) ≤ 7 := by
  refine cnt_six (Nat.le_trans (oth_le hb hi) ?_)
  rw [Nat.pow_succ LB 5]
  have := pw 5
  have h2 : LB ^ 5 * 1 ≤ LB ^ 5 * LB := Nat.mul_le_mul_left _ (by decide)
  omega
theorem part_cnt {rs ps : List Nat} (hb : Bas ps) {i : Nat} (hi : i < ps.length) : cnt (prodN (oth ps i) * yN rs ps i) ≤ 7 := by
  refine cnt_six (Nat.le_trans (part_le hb hi) ?_)
  have := pw 6
  omega
theorem invM_lt (a m : Nat) (hm : 0 < m) : M1.invM a m < m := by
  unfold M1.invM
  cases h : (List.range m).find? (fun i => a * i % m == 1) with
  | none => exact hm
  | some i =>
    have := List.mem_of_find?_eq_some h
    simpa using this
def yL (rs ps : List Nat) : List Nat := (List.range ps.length).map (fun i => yN rs ps i)
theorem yL_len (rs ps : List Nat) : (yL rs ps).length = ps.length := by simp [yL]
theorem yL_get (rs ps : List Nat) (k : Nat) (h : k < ps.length) : (yL rs ps).getD k 0 = yN rs ps k := by simp [yL, List.getD, h]
end Go.Proofs.YtkggfljdbdfonaaGreatDoor
/- Proved: the model's product of all primes but one. -/
namespace Go.Proofs.YtkggfljdbdfonaaGreatDoor
open Go.ChangeShapes Go.WideShapes Go.ChangeAt Go.RowKit
open M2
set_option linter.unusedVariables false
set_option linter.unusedSimpArgs false
theorem othK_mem {ps : List Nat} {i k p : Nat} (h : p ∈ othK ps i k) : p ∈ ps := by
  rcases List.mem_append.1 h with h | h
  · exact List.mem_of_mem_take (List.mem_of_mem_take h)
  · exact List.mem_of_mem_take (List.mem_of_mem_drop h)
theorem othK_len (ps : List Nat) (i k : Nat) : (othK ps i k).length ≤ ps.length := by simp [othK]; omega
theorem othK_cnt {ps : List Nat} (hb : Bas ps) (i k : Nat) : cnt (prodN (othK ps i k)) ≤ 7 := by
  refine cnt_six (Nat.le_trans (prodN_all _ (fun p hp => hb.hi p (othK_mem hp))) (Nat.le_trans (Nat.pow_le_pow_right LB_pos (show (othK ps i k).length ≤ 6 from Nat.le_trans (othK_len ps i k) hb.len6)) ?_))
  have := pw 6
  omega
set_option maxRecDepth 100000 in
set_option maxHeartbeats 2000000 in
theorem spec_punct (ps : List Nat) (v : Value) (i : Nat) (w : World) (hv : Row w v (toZ ps)) (hb : Bas ps) (hi : i < ps.length) :
    Calls Tryz.prog 140 #[v, .int .i64 i] w fun e w' => ∃ v', e = .returned v' ∧ Old w w' ∧ Row w' v' (toI (dig (prodN (oth ps i)))) := by
  have hl6 := hb.len6
  have HB : Hid (Bas ps) := hb
  obtain ⟨b, o, cap, rfl, hbb, hc⟩ := hv.atZ (by have := hb.len1; omega)
  have HC : Hid (∀ j, j < ps.length → w.cell? ⟨b, o + j, none⟩ = some (.int .i64 ((ps.getD j 0 : Nat) : Int))) := hc
  have HS : Hid (∀ k, k < ps.length → k ≠ i → prodN (othK ps i (k + 1)) = prodN (othK ps i k) * ps.getD k 0) := fun k h1 h2 => by rw [othK_step ps i k h1 h2, prodN_snoc]
  have HS2 : Hid (prodN (othK ps i (i + 1)) = prodN (othK ps i i)) := by show _ = _; rw [othK_same ps i hi]
  have HS3 : Hid (prodN (othK ps i ps.length) = prodN (oth ps i)) := by show _ = _; rw [othK_all ps i _ (Nat.le_refl _)]
  have HS0 : Hid (prodN (othK ps i 0) = 1) := by show _ = _; rw [othK_zero]; rfl
  clear hv hc hb
  go_enter Tryz.func140, Tryz.ntmps140
  go_wp2_with fail
  go_loopw [5, 11] (fun x j W => ∃ (k : Nat) (a : Option Addr) (n c : Nat), k ≤ ps.length ∧ j = .int .i64 k ∧ x = .slice a n c ∧ Hid (Row W (.slice a n c) (toI (dig (prodN (othK ps i k))))) ∧ Hid (Old w W)) (fun _ j _ => ps.length - (intOf j).toNat)
  case atStart => exact ⟨0, _, _, _, by omega, rfl, rfl, (by show Row _ _ _; rw [HS0.out]; exact one_dig w _), (Old.refl w).alloc _⟩
  case round =>
    obtain ⟨k, a, n, c, hk, rfl, rfl, HR, HG⟩ := hrel
    by_cases hlt : k < ps.length
    · have d1 : decide ((k : Int) < (ps.length : Int)) = true := by simp; omega
      have c1 : wr.cell? ⟨b, o + k, none⟩ = some (.int .i64 ((ps.getD k 0 : Nat) : Int)) := (HG.out.cell (p := ⟨b, o + k, none⟩) hbb).trans (HC.out k hlt)
      have hpb : ps.getD k 0 ≤ 268435456 := HB.out.hi _ (by simp [List.getD, hlt])
      by_cases hki : k = i
      · subst hki
        have HF : Hid (Row wr (.slice a n c) (toI (dig (prodN (othK ps k (k + 1)))))) := by show Row _ _ _; rw [HS2.out]; exact HR.out
        have dn : ((k : Int) != (k : Int)) = false := by simp
        clear HR
        generalize ps.getD k 0 = p at *
        go_wp2_with fail
        exact ⟨⟨k + 1, _, _, _, by omega, by go_num, rfl, HF, HG⟩, by simp [intOf]; omega⟩
      · have dn : ((k : Int) != (i : Int)) = true := by simp; omega
        have HE : Hid (prodN (othK ps i (k + 1)) = prodN (othK ps i k) * ps.getD k 0) := HS.out k hlt hki
        have HC1 : Hid ((dig (prodN (othK ps i k))).length ≤ 1048576) := Nat.le_trans (othK_cnt HB.out i k) (by omega)
        have HC2 : Hid ((dig (ps.getD k 0)).length ≤ 1048576) := Nat.le_trans (cnt_word (by omega)) (by omega)
        have HF : Hid (∀ W u, Row W u (toI (dig (prodN (othK ps i k) * ps.getD k 0))) → Row W u (toI (dig (prodN (othK ps i (k + 1)))))) := fun W u h => by rw [HE.out]; exact h
        clear HE
        generalize prodN (othK ps i k) = q at *
        generalize ps.getD k 0 = p at *
        go_wp2_with fail
        refine (of_any p _ (by omega)).mono ?_
        rintro e w2 ⟨v2, rfl, g2, o2⟩
        have HG2 : Hid (Old w w2) := Old.trans HG.out g2
        have HR2 : Hid (Row w2 (.slice a n c) (toI (dig q))) := HR.out.old g2
        have HP2 : Hid (Row w2 v2 (toI (dig p))) := Own.row o2
        obtain ⟨a2, cap2, rfl⟩ := (Own.row o2).slice
        clear g2 o2
        go_wp2_with fail
        refine (mul_any (dig q) (dig p) _ _ _ HR2.out HP2.out (dig_lim q) (dig_lim p) HC1.out HC2.out).mono ?_
        rw [val_dig, val_dig]
        rintro e w3 ⟨v3, rfl, g3, o3⟩
        have HG3 : Hid (Old w w3) := Old.trans HG2.out g3
        have HP3 : Hid (Row w3 v3 (toI (dig (q * p)))) := Own.row o3
        obtain ⟨a3, cap3, rfl⟩ := (Own.row o3).slice
        clear g3 o3
        go_wp2_with fail
        exact ⟨⟨k + 1, _, _, _, by omega, by go_num, rfl, HF.out _ _ HP3.out, HG3⟩, by simp [intOf]; omega⟩
    · have d1 : decide ((k : Int) < (ps.length : Int)) = false := by simp; omega
      obtain rfl : k = ps.length := by omega
      have HF : Hid (Row wr (.slice a n c) (toI (dig (prodN (oth ps i))))) := by
        have := HR.out
        rw [HS3.out] at this
        exact this
      clear HR
      go_wp2_with fail
      go_ret
      exact ⟨_, rfl, HG.out, HF.out⟩
end Go.Proofs.YtkggfljdbdfonaaGreatDoor
/- Proved: contracts of PuncturedOf, of model and program. -/
namespace Go.Proofs.YtkggfljdbdfonaaGreatDoor
open Go.ChangeShapes Go.WideShapes Go.ChangeAt Go.RowKit
open M2
set_option linter.unusedVariables false
set_option linter.unusedSimpArgs false
/-- what a call leaves that tells whole numbers and a bool -/
def Ws (w : World) (bs : List Bool) (xss : List (List Int)) (ok : Bool) (e : Ending) (w' : World) : Prop := ∃ v, e = .returned (.tuple #[v, .bool ok]) ∧ Old w w' ∧ Ows (WS bs xss) w' w.heap.size w'.heap.size [v]
theorem ws_nil {w w' : World} (g : Old w w') : Ws w [] [] false (.returned (.tuple #[.slice none 0 0, .bool false])) w' := ⟨_, rfl, g, Ows.nil (Nat.le_refl _)⟩
end Go.Proofs.YtkggfljdbdfonaaGreatDoor
