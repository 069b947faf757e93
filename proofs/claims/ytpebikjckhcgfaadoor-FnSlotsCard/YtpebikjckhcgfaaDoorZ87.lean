/- Proved: several texts in one: what each proves is said ahead of it. -/
import Derived.Test.YtpebikjckhcgfaaDoorZ79
import Derived.Test.YtpebikjckhcgfaaDoorZ88
import Derived.Test.YtpebikjckhcgfaaDoorZ12
import Derived.KernelRfl
import Derived.Test.YtpebikjckhcgfaaDoorZ89
import Derived.Test.YtpebikjckhcgfaaDoorZ86
/- Proved: contracts of slices.Grow of no slice and of slices.Concat of two slices of ints. -/
namespace Go.Proofs.YtpebikjckhcgfaaDoor
open Go.ChangeShapes Go.WideShapes Go.ChangeAt Go.RowKit
set_option linter.unusedVariables false
set_option linter.unusedSimpArgs false
theorem zeros_sizeS (n : Nat) : (Builtin.zeroCells (Value.int .i64 0).cells n).size = n := by simp [Builtin.zeroCells, Value.cells]
theorem room_ownS (w : World) (n c : Nat) (h1 : n ≤ c) (h2 : c ≤ maxLen) : Own (w.drew.alloc (.cells (Builtin.zeroCells (Value.int .i64 0).cells n ++ Builtin.zeroCells (Value.int .i64 0).cells (c - n)) 3)) w.heap.size (.slice (some ⟨w.heap.size, 0, none⟩) 0 c) [] := by
  refine ⟨rfl, Or.inr ⟨w.heap.size, c, _, rfl, Nat.le_refl _, heap_alloc_new w.drew _, Nat.zero_le _, h2, ?_, by simp⟩⟩
  rw [Array.size_append, zeros_sizeS, zeros_sizeS]
  omega
set_option maxHeartbeats 1000000 in
theorem grow_anyS (n : Nat) (w : World) (hn : n ≤ 100) :
    Calls Tryd.prog 164 #[.slice none 0 0, .int .i64 n] w fun e w' => ∃ v', e = .returned v' ∧ Old w w' ∧ Own w' w.heap.size v' [] := by
  obtain ⟨i0, hi, hz0, hz1, hz2⟩ := info_parts Tryd.infoInt
  have d0 : decide ((n : Int) < 0) = false := decide_eq_false (by omega)
  rcases Nat.eq_zero_or_pos n with h0 | h0
  · subst h0
    go_enter Tryd.func164, Tryd.ntmps164
    go_wp2_with fail
    go_ret
    exact ⟨_, rfl, Old.refl _, ⟨rfl, Or.inl ⟨rfl, rfl⟩⟩⟩
  · have d1 : decide ((0 : Int) < (n : Int)) = true := decide_eq_true (by omega)
    have hr := Lib.run_append_nil_zeros (P := Tryd.prog) w 23 3 23 3 i0 (.int .i64 0) .i64 .i64 Tryd.underlying23 Tryd.underlying3 hi hz0 n h0 (by omega) (by omega) (by rw [hz2]; omega)
    have hc1 := grownCap_ge w n 0 3
    have hc2 := grownCap_le_maxLen w n 0 3 (by unfold maxLen; omega)
    have HO : Hid (Own (w.drew.alloc (.cells (Builtin.zeroCells (Value.int .i64 0).cells n ++ Builtin.zeroCells (Value.int .i64 0).cells (grownCap w n 0 3 - n)) 3)) w.heap.size (.slice (some ⟨w.heap.size, 0, none⟩) 0 (grownCap w n 0 3)) []) := room_ownS w n _ hc1 hc2
    have HG : Hid (Old w (w.drew.alloc (.cells (Builtin.zeroCells (Value.int .i64 0).cells n ++ Builtin.zeroCells (Value.int .i64 0).cells (grownCap w n 0 3 - n)) 3))) := Old.alloc (Below.drew (Old.refl w)) _
    generalize grownCap w n 0 3 = c at *
    generalize w.drew.alloc (.cells (Builtin.zeroCells (Value.int .i64 0).cells n ++ Builtin.zeroCells (Value.int .i64 0).cells (c - n)) 3) = w2 at *
    have HR : Hid ((Builtin.append_ #[23, 3] 23 #[.slice none 0 0, .int .i64 n]).run Tryd.prog w = .ok (.slice (some ⟨w.heap.size, 0, none⟩) n c) w2) := hr
    clear hr
    go_enter Tryd.func164, Tryd.ntmps164
    go_wp2_with (at_builtin; refine Lib.wpList_append_run _ rfl _ _ 23 3 rfl _ _ rfl rfl _ _ HR.out ?_)
    go_ret
    exact ⟨_, rfl, HG.out, HO.out⟩
/-- numbers lie at an address -/
def LieS (w : World) (ad : Addr) (xs : List Int) : Prop := ∀ j u, (xs.map (Value.int .i64))[j]? = some u → w.cell? (ad.add j) = some u
theorem LieS.old {w w' : World} {ad : Addr} {xs : List Int} (h : LieS w ad xs) (g : Old w w') : LieS w' ad xs := fun j u hj => by
  have h1 := h j u hj
  rw [g.cell (block_lt_of_cell h1)]
  exact h1
theorem LieS.nil (w : World) (ad : Addr) : LieS w ad [] := fun j u hj => by simp at hj
theorem ints_oneS (xs : List Int) : ∀ u ∈ xs.map (Value.int .i64), u.oneCell' = true := by
  intro u hu
  obtain ⟨x, _, rfl⟩ := List.mem_map.1 hu
  rfl
set_option maxRecDepth 100000 in
set_option maxHeartbeats 4000000 in
theorem concat_anyS (xs ys : List Int) (g : Nat) (a1 a2 : Addr) (c1 c2 : Nat) (w : World) (h1 : w.cell? ⟨g, 0, none⟩ = some (.slice (some a1) xs.length c1)) (h2 : w.cell? ⟨g, 1, none⟩ = some (.slice (some a2) ys.length c2))
    (l1 : LieS w a1 xs) (l2 : LieS w a2 ys) (hx : xs.length ≤ 50) (hy : ys.length ≤ 50) :
    Calls Tryd.prog 134 #[.slice (some ⟨g, 0, none⟩) 2 2] w fun e w' => ∃ v', e = .returned v' ∧ Old w w' ∧ Own w' w.heap.size v' (xs ++ ys) := by
  obtain ⟨i0, hi, hz0, hz1, hz2⟩ := info_parts Tryd.infoInt
  have L1 : Hid (LieS w a1 xs) := l1
  have L2 : Hid (LieS w a2 ys) := l2
  have H1 : Hid (w.cell? ⟨g, 0, none⟩ = some (.slice (some a1) xs.length c1)) := h1
  have H2 : Hid (w.cell? ⟨g, 1, none⟩ = some (.slice (some a2) ys.length c2)) := h2
  have hg : g < w.heap.size := block_lt_of_cell h1
  have HM1 : Hid ((xs.map (Value.int .i64)).length = xs.length * 1) := by show _ = _; simp
  have HM2 : Hid ((ys.map (Value.int .i64)).length = ys.length * 1) := by show _ = _; simp
  obtain ⟨n, hn⟩ : ∃ n : Nat, n = xs.length + ys.length := ⟨_, rfl⟩
  have en : (xs.length : Int) + (ys.length : Int) = (n : Int) := by omega
  have d1 : decide ((xs.length : Int) < 0) = false := decide_eq_false (by omega)
  have d2 : decide ((n : Int) < 0) = false := decide_eq_false (by omega)
  have cg := fun W => grow_anyS n W (by omega)
  clear l1 l2 hn
  go_enter Tryd.func134, Tryd.ntmps134
  go_wp2_with fail
  refine wp_loop_rounds 3 ?_
  rw [rounds_succ]
  go_wp2_with fail
  rw [rounds_succ]
  go_wp2_with fail
  rw [rounds_succ]
  go_wp2_with fail
  refine (cg _).mono ?_
  rintro e w1 ⟨v1, rfl, g1, o1⟩
  have HG1 : Hid (Old w w1) := g1
  have HO1 : Hid (Own w1 w.heap.size v1 []) := o1
  obtain ⟨va, vc, rfl⟩ := (Own.row o1).slice
  have q1 : w1.cell? ⟨g, 0, none⟩ = some (.slice (some a1) xs.length c1) := (g1.cell (p := ⟨g, 0, none⟩) hg).trans H1.out
  have hs1 := g1.size
  clear g1 o1 h1 h2
  go_wp2_with fail
  refine wp_loop_rounds 3 ?_
  rw [rounds_succ]
  go_wp2_with (at_builtin; refine wpList_append_own _ rfl _ _ 23 rfl w.heap.size 3 i0 (.int .i64 0) 1 8 Tryd.underlying23 hi hz0 hz1 hz2 rfl (by decide) _ 0 [] rfl HO1.out a1 xs.length c1 (xs.map (Value.int .i64)) rfl HM1.out (L1.out.old HG1.out) (ints_oneS xs) (by unfold maxLen; omega) (by omega) hs1 ?_; intro v2 w2 o2 g2 x2; have HO2 : Hid (Own w2 w.heap.size v2 xs) := (by rw [Nat.zero_add, List.nil_append] at o2; exact o2); have HG2 : Hid (Old w w2) := Below.grown HG1.out g2 hs1 (fun j hj => (HO1.out.lt j hj).1); clear o2 g2 x2)
  obtain ⟨va2, vc2, rfl⟩ := (Own.row HO2.out).slice
  have q2 : w2.cell? ⟨g, 1, none⟩ = some (.slice (some a2) ys.length c2) := (HG2.out.cell (p := ⟨g, 1, none⟩) hg).trans H2.out
  have hs2 := HG2.out.size
  rw [rounds_succ]
  go_wp2_with (at_builtin; refine wpList_append_own _ rfl _ _ 23 rfl w.heap.size 3 i0 (.int .i64 0) 1 8 Tryd.underlying23 hi hz0 hz1 hz2 rfl (by decide) _ xs.length (xs.map (Value.int .i64)) rfl HO2.out a2 ys.length c2 (ys.map (Value.int .i64)) rfl HM2.out (L2.out.old HG2.out) (ints_oneS ys) (by unfold maxLen; omega) (by omega) hs2 ?_; intro v3 w3 o3 g3 x3; have HO3 : Hid (Own w3 w.heap.size v3 (xs ++ ys)) := (by unfold Own; show w3.ownsRow _ _ _ _ _ _; rw [List.length_append, List.map_append]; exact o3); have HG3 : Hid (Old w w3) := Below.grown HG2.out g3 hs2 (fun j hj => (HO2.out.lt j hj).1); clear o3 g3 x3)
  obtain ⟨va3, vc3, rfl⟩ := (Own.row HO3.out).slice
  rw [rounds_succ]
  go_wp2_with fail
  go_ret
  exact ⟨_, rfl, HG3.out, HO3.out⟩
end Go.Proofs.YtpebikjckhcgfaaDoor
/- Proved: contracts of the search among the points, and of ints in two rows: laid out, changed, in one. -/
namespace Go.Proofs.YtpebikjckhcgfaaDoor
open Go.ChangeShapes Go.WideShapes Go.ChangeAt Go.RowKit
set_option linter.unusedVariables false
set_option linter.unusedSimpArgs false
set_option maxRecDepth 100000 in
set_option maxHeartbeats 1000000 in
theorem mv1_any (x y gb : Nat) (G : Int) (w : World) (hc : w.cell? ⟨gb, 0, none⟩ = some (.int .i64 G)) : Calls Tryd.prog 76 #[.agg #[.int .i64 x, .int .i64 y], .pointer (some ⟨gb, 0, none⟩)] w fun e w' => e = .returned (.bool ((x : Int) == G)) ∧ Old w w' := by
  have hb := block_lt_of_cell hc
  have g : Old w (w.alloc (.cells #[.int .i64 x, .int .i64 y] 91)) := (Old.refl w).alloc _
  have q0 := (g.cell (p := ⟨gb, 0, none⟩) hb).trans hc
  clear hc hb
  generalize hB : ((x : Int) == G) = B
  go_enter Tryd.func76, Tryd.ntmps76
  go_wp2_with fail
  go_ret
  exact ⟨rfl, g⟩
set_option maxRecDepth 100000 in
set_option maxHeartbeats 4000000 in
theorem indexFunc_any (N gb : Nat) (G r : Int) (v : Value) (w : World) (hN : 2 ≤ N ∧ N ≤ 16) (hr : RdP w v N) (hc : w.cell? ⟨gb, 0, none⟩ = some (.int .i64 G))
    (h1 : (∃ j0 : Nat, r = j0 ∧ j0 < N ∧ ((exL N).getD j0 0 : Int) = G ∧ ∀ j, j < j0 → ((exL N).getD j 0 : Int) ≠ G) ∨ (r = -1 ∧ ∀ j, j < N → ((exL N).getD j 0 : Int) ≠ G)) :
    Calls Tryd.prog 75 #[v, .func (.func 76) #[] #[.pointer (some ⟨gb, 0, none⟩)]] w fun e w' => e = .returned (.int .i64 r) ∧ Old w w' := by
  obtain ⟨b, cap, rfl, hb, hcl⟩ := hr
  have HC : Hid (∀ j, j < N → w.cell? ⟨b, j * 2, none⟩ = some (.int .i64 ((exL N).getD j 0 : Nat)) ∧ w.cell? ⟨b, j * 2 + 1, none⟩ = some (.int .i64 (plN N ((exL N).getD j 0)))) := hcl
  have H1 : Hid ((∃ j0 : Nat, r = j0 ∧ j0 < N ∧ ((exL N).getD j0 0 : Int) = G ∧ ∀ j, j < j0 → ((exL N).getD j 0 : Int) ≠ G) ∨ (r = -1 ∧ ∀ j, j < N → ((exL N).getD j 0 : Int) ≠ G)) := h1
  have HGB : Hid (w.cell? ⟨gb, 0, none⟩ = some (.int .i64 G)) := hc
  clear hcl h1 hc
  go_enter Tryd.func75, Tryd.ntmps75
  go_wp2_with fail
  go_loopw [8] (fun i W => ∃ k : Nat, k ≤ N ∧ i = .int .i64 k ∧ Hid (∀ j, j < k → ((exL N).getD j 0 : Int) ≠ G) ∧ Hid (Old w W)) (fun i _ => N - (intOf i).toNat)
  case atStart => exact ⟨0, by omega, rfl, (fun j hj => by omega), Old.refl _⟩
  case round =>
    obtain ⟨k, hk, rfl, HJ, HG⟩ := hrel
    by_cases hlt : k < N
    · have d1 : decide ((k : Int) < (N : Int)) = true := by simp; omega
      have ki : (k : Int) < (N : Int) := by omega
      obtain ⟨x0, x1⟩ := HC.out k hlt
      have q0 := (HG.out.cell (p := ⟨b, k * 2, none⟩) hb).trans x0
      have q1 := (HG.out.cell (p := ⟨b, k * 2 + 1, none⟩) hb).trans x1
      have cf := fun x y => mv1_any x y gb G wr ((HG.out.cell (p := ⟨gb, 0, none⟩) (block_lt_of_cell HGB.out)).trans HGB.out)
      obtain ⟨y, hy⟩ : ∃ y, plN N ((exL N).getD k 0) = y := ⟨_, rfl⟩
      obtain ⟨x, hx⟩ : ∃ x, (exL N).getD k 0 = x := ⟨_, rfl⟩
      rw [hy] at q1
      rw [hx] at q0
      have HX : Hid ((exL N).getD k 0 = x) := hx
      clear x0 x1 hy hx
      have cf' := cf x y
      clear cf
      by_cases hxg : (x : Int) = G
      · have hB : ((x : Int) == G) = true := by simp [hxg]
        rw [hB] at cf'
        have HR : Hid (r = k) := by
          show _ = _
          rcases H1.out with ⟨j0, e, hj, e1, e2⟩ | ⟨_, e2⟩
          · rcases Nat.lt_trichotomy j0 k with h | h | h
            · exact absurd e1 (HJ.out j0 h)
            · rw [e, h]
            · exact absurd (by rw [HX.out]; exact hxg) (e2 k h)
          · exact absurd (by rw [HX.out]; exact hxg) (e2 k hlt)
        clear hxg hB
        go_wp2_with fail
        refine cf'.mono ?_
        rintro e w2 ⟨rfl, g2⟩
        have HG2 : Hid (Old w w2) := Old.trans HG.out g2
        clear g2 cf' q0 q1
        go_wp2_with fail
        go_ret
        exact ⟨by rw [HR.out]; rfl, HG2.out⟩
      · have hB : ((x : Int) == G) = false := by simp [hxg]
        rw [hB] at cf'
        have HJ2 : Hid (∀ j, j < k + 1 → ((exL N).getD j 0 : Int) ≠ G) := fun j hj => by
          rcases Nat.lt_or_ge j k with h | h
          · exact HJ.out j h
          · obtain rfl : j = k := by omega
            rw [HX.out]
            exact hxg
        clear hxg hB
        go_wp2_with fail
        refine cf'.mono ?_
        rintro e w2 ⟨rfl, g2⟩
        have HG2 : Hid (Old w w2) := Old.trans HG.out g2
        clear g2 cf' q0 q1
        go_wp2_with fail
        exact ⟨⟨k + 1, by omega, by go_num, HJ2, HG2⟩, by simp [intOf]; omega⟩
    · have d1 : decide ((k : Int) < (N : Int)) = false := by simp; omega
      obtain rfl : k = N := by omega
      have HR : Hid (r = -1) := by
        show _ = _
        rcases H1.out with ⟨j0, e, hj, e1, e2⟩ | ⟨e, _⟩
        · exact absurd e1 (HJ.out j0 hj)
        · exact e
      go_wp2_with fail
      go_ret
      exact ⟨by rw [HR.out]; rfl, HG.out⟩
set_option maxRecDepth 100000 in
set_option maxHeartbeats 1000000 in
theorem inRows_int (H n b o cap : Nat) (w : World) (hn : n = 2 * H) (hH : 1 ≤ H ∧ H ≤ 8) (hcap : n ≤ cap) :
    Calls Tryd.prog 77 #[.slice (some ⟨b, o, none⟩) n cap] w fun en w' => ∃ v, en = .returned v ∧ v = .agg #[.slice (some ⟨b, o, none⟩) H cap, .slice (some ⟨b, o + H, none⟩) H (cap - H)] ∧ Old w w' := by
  have eh : (n : Int) / 2 = (H : Int) := by omega
  have hle : H ≤ n := by omega
  have hne : ¬ cap = H := by omega
  have hlc : H ≤ cap := by omega
  have e2 : n - H = H := by omega
  have hi1 : (H : Int) ≤ (n : Int) := by omega
  have hi2 : (H : Int) ≤ (cap : Int) := by omega
  have hi3 : (n : Int) ≤ (cap : Int) := by omega
  clear hn
  go_enter Tryd.func77, Tryd.ntmps77
  go_wp2_with fail
  refine wp_region_noPanic ?_
  go_region_with fail
  all_goals
    refine NoPanic.normal ?_
    go_wp2_with fail
    exact bodyPost_ret (v := .agg #[.slice (some ⟨b, o, none⟩) H cap, .slice (some ⟨b, o + H, none⟩) H (cap - H)]) (by simp [results, Tryd.results77, go_sem, e2]) rfl ⟨_, rfl, rfl, by repeat (first | exact Old.refl _ | apply Old.alloc | apply Below.drew | (refine Old.own ?_ (Nat.le_refl _) _))⟩
set_option maxRecDepth 100000 in
set_option maxHeartbeats 1000000 in
theorem swapped_any (a1 : Option Addr) (n1 c1 : Nat) (a2 : Option Addr) (n2 c2 : Nat) (w : World) :
    Calls Tryd.prog 79 #[.agg #[.slice a1 n1 c1, .slice a2 n2 c2]] w fun en w' => en = .returned (.agg #[.slice a2 n2 c2, .slice a1 n1 c1]) ∧ Old w w' := by
  go_enter Tryd.func79, Tryd.ntmps79
  go_wp2_with fail
  exact bodyPost_ret (v := .agg #[.slice a2 n2 c2, .slice a1 n1 c1]) (by simp [results, Tryd.results79, go_sem]) rfl ⟨rfl, by repeat (first | exact Old.refl _ | apply Old.alloc | apply Below.drew | (refine Old.own ?_ (Nat.le_refl _) _) | (refine Old.own ?_ (by simp) _))⟩
set_option maxRecDepth 100000 in
set_option maxHeartbeats 2000000 in
theorem inOne_int (xs ys : List Int) (a1 a2 : Addr) (c1 c2 : Nat) (w : World) (l1 : LieS w a1 xs) (l2 : LieS w a2 ys) (hx : xs.length ≤ 50) (hy : ys.length ≤ 50) :
    Calls Tryd.prog 80 #[.agg #[.slice (some a1) xs.length c1, .slice (some a2) ys.length c2]] w fun e w' => ∃ v', e = .returned v' ∧ Old w w' ∧ Own w' w.heap.size v' (xs ++ ys) := by
  have HC : Hid (∀ b W, Old w W → W.cell? ⟨b, 0, none⟩ = some (.slice (some a1) xs.length c1) → W.cell? ⟨b, 1, none⟩ = some (.slice (some a2) ys.length c2) → Calls Tryd.prog 134 #[.slice (some ⟨b, 0, none⟩) 2 2] W fun e w' => ∃ v', e = .returned v' ∧ Old W w' ∧ Own w' W.heap.size v' (xs ++ ys)) := fun b W q e1 e2 => concat_anyS xs ys b a1 a2 c1 c2 W e1 e2 (l1.old q) (l2.old q) hx hy
  have HA2 : Hid (Old w ((w.alloc (.cells #[.slice (some a1) xs.length c1, .slice (some a2) ys.length c2] 100)).alloc (.cells #[.slice (some a1) xs.length c1, .slice (some a2) ys.length c2] 23))) := ((Old.refl w).alloc _).alloc _
  have hsz : (w.alloc (.cells #[.slice (some a1) xs.length c1, .slice (some a2) ys.length c2] 100)).heap.size = w.heap.size + 1 := by simp
  have e1 : ((w.alloc (.cells #[.slice (some a1) xs.length c1, .slice (some a2) ys.length c2] 100)).alloc (.cells #[.slice (some a1) xs.length c1, .slice (some a2) ys.length c2] 23)).cell? ⟨w.heap.size + 1, 0, none⟩ = some (.slice (some a1) xs.length c1) := (cell_at _ _ _ _ 0 hsz.symm).trans rfl
  have e2 : ((w.alloc (.cells #[.slice (some a1) xs.length c1, .slice (some a2) ys.length c2] 100)).alloc (.cells #[.slice (some a1) xs.length c1, .slice (some a2) ys.length c2] 23)).cell? ⟨w.heap.size + 1, 1, none⟩ = some (.slice (some a2) ys.length c2) := (cell_at _ _ _ _ 1 hsz.symm).trans rfl
  have HC1 := HC.out (w.heap.size + 1) _ HA2.out e1 e2
  have HL : Hid ((xs ++ ys).length = xs.length + ys.length) := List.length_append
  clear e1 e2 hsz l1 l2
  generalize hzs : xs ++ ys = zs at *
  clear hzs
  go_enter Tryd.func80, Tryd.ntmps80
  go_wp2_with fail
  refine HC1.mono ?_
  rintro e w1 ⟨v1, rfl, g1, o1⟩
  have HG : Hid (Old w w1) := Old.trans HA2.out g1
  have HO : Hid (Own w1 w.heap.size v1 zs) := o1.low HA2.out.size
  obtain ⟨a, c, rfl⟩ := (Own.row o1).slice
  clear o1 g1 HC1 HC HA2
  go_wp2_with fail
  go_ret
  exact ⟨_, rfl, HG.out, HO.out⟩
end Go.Proofs.YtpebikjckhcgfaaDoor
/- Proved: rows of ints that go round, by the program. -/
namespace Go.Proofs.YtpebikjckhcgfaaDoor
open Go.ChangeShapes Go.WideShapes Go.ChangeAt Go.RowKit
set_option linter.unusedVariables false
set_option linter.unusedSimpArgs false
theorem op_valS {P : Program} {a : Act} {W W' : World} {K : Act → World → Prop} {Q : Exit → Act → World → Prop} {o : Oper} (ρ : Operand → Value) (hρ : a.eval = ρ) (v : Value) (hr : (execOp ρ o).run P W = .ok (.value v) W') (hK : K (a.put o.dst v) W') : o.wp P a W K Q := by
  unfold Oper.wp
  rw [hρ, hr]
  exact hK
def slotMv (i : Nat) : Nat := [5, 6, 7, 8, 9, 10, 11, 12, 13, 14, 15, 16, 17, 18, 19, 20, 21, 22, 23, 24, 25].getD i 0
theorem slotMv_lt : ∀ i, i < 21 → slotMv i < 26 := by decide
theorem slotMv_inj : ∀ i, i < 21 → ∀ j, j < 21 → slotMv i = slotMv j → i = j := by decide
theorem slotMv_no : ∀ s, s < 5 → ∀ i, i < 21 → slotMv i ≠ s := by decide
def qMv (rb b o H c1 c2 k : Nat) (z1 z2 : List Int) (base : Nat) (i : Nat) (W : World) (x : Value) : Prop :=
  match i with
  | 0 => x = .pointer (some ⟨rb, 0, none⟩)
  | 1 => x = .slice (some ⟨b, o, none⟩) H c1
  | 2 => x = .int .i64 k
  | 3 => x = .slice (some ⟨b, o + k, none⟩) (H - k) (c1 - k)
  | 4 => x = .pointer (some ⟨rb, 0, none⟩)
  | 5 => x = .slice (some ⟨b, o, none⟩) H c1
  | 6 => x = .int .i64 k
  | 7 => x = .slice (some ⟨b, o, none⟩) k c1
  | 8 => ∃ g, x = .slice (some ⟨g, 0, none⟩) 2 2 ∧ W.heap[g]? = some (.cells #[.slice (some ⟨b, o + k, none⟩) (H - k) (c1 - k), .slice (some ⟨b, o, none⟩) k c1] 23 (0, 0))
  | 9 => ∃ a c, x = .slice a H c ∧ Own W base (.slice a H c) z1
  | 10 => x = .pointer (some ⟨rb, 1, none⟩)
  | 11 => x = .slice (some ⟨b, o + H, none⟩) H c2
  | 12 => x = .int .i64 k
  | 13 => x = .slice (some ⟨b, o + H + k, none⟩) (H - k) (c2 - k)
  | 14 => x = .pointer (some ⟨rb, 1, none⟩)
  | 15 => x = .slice (some ⟨b, o + H, none⟩) H c2
  | 16 => x = .int .i64 k
  | 17 => x = .slice (some ⟨b, o + H, none⟩) k c2
  | 18 => ∃ g, x = .slice (some ⟨g, 0, none⟩) 2 2 ∧ W.heap[g]? = some (.cells #[.slice (some ⟨b, o + H + k, none⟩) (H - k) (c2 - k), .slice (some ⟨b, o + H, none⟩) k c2] 23 (0, 0))
  | 19 => ∃ a c, x = .slice a H c ∧ Own W base (.slice a H c) z2
  | 20 => ∃ a c a2 c2', x = .agg #[.slice a H c, .slice a2 H c2'] ∧ Own W base (.slice a H c) z1 ∧ Own W base (.slice a2 H c2') z2
  | _ => True
theorem qMv_old (rb b o H c1 c2 k : Nat) (z1 z2 : List Int) (base : Nat) (i : Nat) (W W' : World) (x : Value) (h : qMv rb b o H c1 c2 k z1 z2 base i W x) (q : Old W W') : qMv rb b o H c1 c2 k z1 z2 base i W' x := by
  unfold qMv at h ⊢
  split at h
  case h_9 =>
    obtain ⟨g, e, hg⟩ := h
    exact ⟨g, e, (q.block g (lt_of_some hg)).trans hg⟩
  case h_10 =>
    obtain ⟨a, c, e, o⟩ := h
    exact ⟨a, c, e, o.old q⟩
  case h_19 =>
    obtain ⟨g, e, hg⟩ := h
    exact ⟨g, e, (q.block g (lt_of_some hg)).trans hg⟩
  case h_20 =>
    obtain ⟨a, c, e, o⟩ := h
    exact ⟨a, c, e, o.old q⟩
  case h_21 =>
    obtain ⟨a, c, a2, c2', e, o, o2⟩ := h
    exact ⟨a, c, a2, c2', e, o.old q, o2.old q⟩
  all_goals first | exact h | trivial
set_option maxRecDepth 100000 in
set_option maxHeartbeats 8000000 in
theorem reg_mv (w0 : World) (rb kr b o H c1 c2 k : Nat) (z1 z2 : List Int) (hk : k < H) (hH : H ≤ 8) (hc1 : H ≤ c1) (hc2 : H ≤ c2)
    (cA : w0.cell? ⟨rb, 0, none⟩ = some (.slice (some ⟨b, o, none⟩) H c1)) (cB : w0.cell? ⟨rb, 1, none⟩ = some (.slice (some ⟨b, o + H, none⟩) H c2)) (bK : w0.heap[kr]? = some (.cells #[.slice none 0 0, .slice none 0 0] 100 (0, 0)))
    (K1 : ∀ W g, Old w0 W → W.heap[g]? = some (.cells #[.slice (some ⟨b, o + k, none⟩) (H - k) (c1 - k), .slice (some ⟨b, o, none⟩) k c1] 23 (0, 0)) → Calls Tryd.prog 134 #[.slice (some ⟨g, 0, none⟩) 2 2] W fun e w' => ∃ v', e = .returned v' ∧ Old W w' ∧ ∃ a c, v' = .slice a H c ∧ Own w' W.heap.size (.slice a H c) z1)
    (K2 : ∀ W g, Old w0 W → W.heap[g]? = some (.cells #[.slice (some ⟨b, o + H + k, none⟩) (H - k) (c2 - k), .slice (some ⟨b, o + H, none⟩) k c2] 23 (0, 0)) → Calls Tryd.prog 134 #[.slice (some ⟨g, 0, none⟩) 2 2] W fun e w' => ∃ v', e = .returned v' ∧ Old W w' ∧ ∃ a c, v' = .slice a H c ∧ Own w' W.heap.size (.slice a H c) z2)
    (Q : Exit → Act → World → Prop) (a0 : Act) (hsz : a0.tmps.size = 26)
    (ha1 : a0.eval (.tmp 1) = .int .i64 k) (ha2 : a0.eval (.tmp 2) = .pointer (some ⟨rb, 0, none⟩)) (ha4 : a0.eval (.tmp 4) = .pointer (some ⟨kr, 0, none⟩))
    (HK : Hid (∀ (us : Nat → Value) W a c a2 c2', Old w0 W → Own W w0.heap.size (.slice a H c) z1 → Own W w0.heap.size (.slice a2 H c2') z2 → Q .normal (putAll a0 ((List.range 21).map fun i => (slotMv i, us i))) (W.setRow kr #[.slice a H c, .slice a2 H c2']))) :
    Code.wp Tryd.prog ((Tryd.f78.body.bind (regionAtS 1)).getD .skip) Q a0 w0 := by
  conv => arg 2; whnf
  have un := slotMv_no
  have pA : ∀ W, Old w0 W → W.cell? ⟨rb, 0, none⟩ = some (.slice (some ⟨b, o, none⟩) H c1) := fun W q => (q.cell (p := ⟨rb, 0, none⟩) (block_lt_of_cell cA)).trans cA
  have pB : ∀ W, Old w0 W → W.cell? ⟨rb, 1, none⟩ = some (.slice (some ⟨b, o + H, none⟩) H c2) := fun W q => (q.cell (p := ⟨rb, 1, none⟩) (block_lt_of_cell cB)).trans cB
  have pk : ∀ W, Old w0 W → W.heap[kr]? = some (.cells #[.slice none 0 0, .slice none 0 0] 100 (0, 0)) := fun W g => (g.block kr (lt_of_some bK)).trans bK
  have i1 : (k : Int) ≤ (H : Int) := by omega
  have i2 : (H : Int) ≤ (c1 : Int) := by omega
  have i3 : (H : Int) ≤ (c2 : Int) := by omega
  have i4 : (k : Int) ≤ (c1 : Int) := by omega
  have i5 : (k : Int) ≤ (c2 : Int) := by omega
  have n1 : k ≤ H := by omega
  have n4 : k ≤ c1 := by omega
  have n5 : k ≤ c2 := by omega
  have m1 : ¬ c1 = k := by omega
  have m2 : ¬ c2 = k := by omega
  refine wp_region_tail 21 (by decide) (by kernel_rfl) (by kernel_rfl) (by kernel_rfl) (by kernel_rfl) (by kernel_rfl) slotMv (fun i hi => by rw [hsz]; exact slotMv_lt i hi) (fun i j hi hj => slotMv_inj i hi j hj) (qMv rb b o H c1 c2 k z1 z2 w0.heap.size) (qMv_old rb b o H c1 c2 k z1 z2 w0.heap.size) ?_ ?_
  · refine ⟨?_, ?_, ?_, ?_, ?_, ?_, ?_, ?_, ?_, ?_, ?_, ?_, ?_, ?_, ?_, ?_, ?_, ?_, ?_, ?_, ?_, trivial⟩
    · intro a W g hF hd
      have g2 := (hF.same 2 (un 2 (by decide))).trans ha2
      obtain ⟨ρ, hρ⟩ : ∃ ρ, a.eval = ρ := ⟨_, rfl⟩
      rw [hρ] at g2
      refine op_val ρ hρ (.pointer (some ⟨rb, 0, none⟩)) ?_ ⟨_, rfl, Old.refl _, rfl⟩
      clear g hF hd hρ ha1 ha2 ha4 HK un K1 K2 cA cB bK pA pB pk
      go_simp
    · intro a W g hF hd
      have h0 : a.eval (.tmp 5) = .pointer (some ⟨rb, 0, none⟩) := hd ⟨0, .data⟩ (by simp) rfl
      have hc := pA W g
      obtain ⟨ρ, hρ⟩ : ∃ ρ, a.eval = ρ := ⟨_, rfl⟩
      rw [hρ] at h0
      refine op_val ρ hρ (.slice (some ⟨b, o, none⟩) H c1) ?_ ⟨_, rfl, Old.refl _, rfl⟩
      clear g hF hd hρ ha1 ha2 ha4 HK un K1 K2 cA cB bK pA pB pk
      go_simp
    · intro a W g hF hd
      refine op_move ?_
      exact ⟨_, rfl, Old.refl _, (hF.same 1 (un 1 (by decide))).trans ha1⟩
    · intro a W g hF hd
      have h1 : a.eval (.tmp 6) = .slice (some ⟨b, o, none⟩) H c1 := hd ⟨1, .data⟩ (by simp) rfl
      have h2 : a.eval (.tmp 7) = .int .i64 k := hd ⟨2, .data⟩ (by simp) rfl
      obtain ⟨ρ, hρ⟩ : ∃ ρ, a.eval = ρ := ⟨_, rfl⟩
      rw [hρ] at h1 h2
      refine op_val ρ hρ (.slice (some ⟨b, o + k, none⟩) (H - k) (c1 - k)) ?_ ⟨_, rfl, Old.refl _, rfl⟩
      clear g hF hd hρ ha1 ha2 ha4 HK un K1 K2 cA cB bK pA pB pk
      go_simp
    · intro a W g hF hd
      have g2 := (hF.same 2 (un 2 (by decide))).trans ha2
      obtain ⟨ρ, hρ⟩ : ∃ ρ, a.eval = ρ := ⟨_, rfl⟩
      rw [hρ] at g2
      refine op_val ρ hρ (.pointer (some ⟨rb, 0, none⟩)) ?_ ⟨_, rfl, Old.refl _, rfl⟩
      clear g hF hd hρ ha1 ha2 ha4 HK un K1 K2 cA cB bK pA pB pk
      go_simp
    · intro a W g hF hd
      have h4 : a.eval (.tmp 9) = .pointer (some ⟨rb, 0, none⟩) := hd ⟨4, .data⟩ (by simp) rfl
      have hc := pA W g
      obtain ⟨ρ, hρ⟩ : ∃ ρ, a.eval = ρ := ⟨_, rfl⟩
      rw [hρ] at h4
      refine op_val ρ hρ (.slice (some ⟨b, o, none⟩) H c1) ?_ ⟨_, rfl, Old.refl _, rfl⟩
      clear g hF hd hρ ha1 ha2 ha4 HK un K1 K2 cA cB bK pA pB pk
      go_simp
    · intro a W g hF hd
      refine op_move ?_
      exact ⟨_, rfl, Old.refl _, (hF.same 1 (un 1 (by decide))).trans ha1⟩
    · intro a W g hF hd
      have h5 : a.eval (.tmp 10) = .slice (some ⟨b, o, none⟩) H c1 := hd ⟨5, .data⟩ (by simp) rfl
      have h6 : a.eval (.tmp 11) = .int .i64 k := hd ⟨6, .data⟩ (by simp) rfl
      obtain ⟨ρ, hρ⟩ : ∃ ρ, a.eval = ρ := ⟨_, rfl⟩
      rw [hρ] at h5 h6
      refine op_val ρ hρ (.slice (some ⟨b, o, none⟩) k c1) ?_ ⟨_, rfl, Old.refl _, rfl⟩
      clear g hF hd hρ ha1 ha2 ha4 HK un K1 K2 cA cB bK pA pB pk
      go_simp
    · intro a W g hF hd
      have h3 : a.eval (.tmp 8) = .slice (some ⟨b, o + k, none⟩) (H - k) (c1 - k) := hd ⟨3, .data⟩ (by simp) rfl
      have h7 : a.eval (.tmp 12) = .slice (some ⟨b, o, none⟩) k c1 := hd ⟨7, .data⟩ (by simp) rfl
      obtain ⟨ρ, hρ⟩ : ∃ ρ, a.eval = ρ := ⟨_, rfl⟩
      rw [hρ] at h3 h7
      refine op_valS (W' := W.alloc (.cells #[.slice (some ⟨b, o + k, none⟩) (H - k) (c1 - k), .slice (some ⟨b, o, none⟩) k c1] 23)) ρ hρ (.slice (some ⟨W.heap.size, 0, none⟩) 2 2) ?_ ⟨_, rfl, (Old.refl W).alloc _, W.heap.size, rfl, heap_alloc_new W _⟩
      clear g hF hd hρ ha1 ha2 ha4 HK un K1 K2 cA cB bK pA pB pk
      go_simp
    · intro a W g hF hd
      obtain ⟨gg, h8, hg⟩ : ∃ gg, a.eval (.tmp 13) = .slice (some ⟨gg, 0, none⟩) 2 2 ∧ W.heap[gg]? = some (.cells #[.slice (some ⟨b, o + k, none⟩) (H - k) (c1 - k), .slice (some ⟨b, o, none⟩) k c1] 23 (0, 0)) := hd ⟨8, .data⟩ (by simp) rfl
      refine op_call_ret Tryd.call134 (vs := #[.slice (some ⟨gg, 0, none⟩) 2 2]) (by simp [h8]) (K1 W gg g hg) ?_
      rintro x w' ⟨g', a5, c5, rfl, o'⟩
      exact ⟨_, rfl, g', a5, c5, rfl, o'.low g.size⟩
    · intro a W g hF hd
      have g2 := (hF.same 2 (un 2 (by decide))).trans ha2
      obtain ⟨ρ, hρ⟩ : ∃ ρ, a.eval = ρ := ⟨_, rfl⟩
      rw [hρ] at g2
      refine op_val ρ hρ (.pointer (some ⟨rb, 1, none⟩)) ?_ ⟨_, rfl, Old.refl _, rfl⟩
      clear g hF hd hρ ha1 ha2 ha4 HK un K1 K2 cA cB bK pA pB pk
      go_simp
    · intro a W g hF hd
      have h10 : a.eval (.tmp 15) = .pointer (some ⟨rb, 1, none⟩) := hd ⟨10, .data⟩ (by simp) rfl
      have hc := pB W g
      obtain ⟨ρ, hρ⟩ : ∃ ρ, a.eval = ρ := ⟨_, rfl⟩
      rw [hρ] at h10
      refine op_val ρ hρ (.slice (some ⟨b, o + H, none⟩) H c2) ?_ ⟨_, rfl, Old.refl _, rfl⟩
      clear g hF hd hρ ha1 ha2 ha4 HK un K1 K2 cA cB bK pA pB pk
      go_simp
    · intro a W g hF hd
      refine op_move ?_
      exact ⟨_, rfl, Old.refl _, (hF.same 1 (un 1 (by decide))).trans ha1⟩
    · intro a W g hF hd
      have h11 : a.eval (.tmp 16) = .slice (some ⟨b, o + H, none⟩) H c2 := hd ⟨11, .data⟩ (by simp) rfl
      have h12 : a.eval (.tmp 17) = .int .i64 k := hd ⟨12, .data⟩ (by simp) rfl
      obtain ⟨ρ, hρ⟩ : ∃ ρ, a.eval = ρ := ⟨_, rfl⟩
      rw [hρ] at h11 h12
      refine op_val ρ hρ (.slice (some ⟨b, o + H + k, none⟩) (H - k) (c2 - k)) ?_ ⟨_, rfl, Old.refl _, rfl⟩
      clear g hF hd hρ ha1 ha2 ha4 HK un K1 K2 cA cB bK pA pB pk
      go_simp
    · intro a W g hF hd
      have g2 := (hF.same 2 (un 2 (by decide))).trans ha2
      obtain ⟨ρ, hρ⟩ : ∃ ρ, a.eval = ρ := ⟨_, rfl⟩
      rw [hρ] at g2
      refine op_val ρ hρ (.pointer (some ⟨rb, 1, none⟩)) ?_ ⟨_, rfl, Old.refl _, rfl⟩
      clear g hF hd hρ ha1 ha2 ha4 HK un K1 K2 cA cB bK pA pB pk
      go_simp
    · intro a W g hF hd
      have h14 : a.eval (.tmp 19) = .pointer (some ⟨rb, 1, none⟩) := hd ⟨14, .data⟩ (by simp) rfl
      have hc := pB W g
      obtain ⟨ρ, hρ⟩ : ∃ ρ, a.eval = ρ := ⟨_, rfl⟩
      rw [hρ] at h14
      refine op_val ρ hρ (.slice (some ⟨b, o + H, none⟩) H c2) ?_ ⟨_, rfl, Old.refl _, rfl⟩
      clear g hF hd hρ ha1 ha2 ha4 HK un K1 K2 cA cB bK pA pB pk
      go_simp
    · intro a W g hF hd
      refine op_move ?_
      exact ⟨_, rfl, Old.refl _, (hF.same 1 (un 1 (by decide))).trans ha1⟩
    · intro a W g hF hd
      have h15 : a.eval (.tmp 20) = .slice (some ⟨b, o + H, none⟩) H c2 := hd ⟨15, .data⟩ (by simp) rfl
      have h16 : a.eval (.tmp 21) = .int .i64 k := hd ⟨16, .data⟩ (by simp) rfl
      obtain ⟨ρ, hρ⟩ : ∃ ρ, a.eval = ρ := ⟨_, rfl⟩
      rw [hρ] at h15 h16
      refine op_val ρ hρ (.slice (some ⟨b, o + H, none⟩) k c2) ?_ ⟨_, rfl, Old.refl _, rfl⟩
      clear g hF hd hρ ha1 ha2 ha4 HK un K1 K2 cA cB bK pA pB pk
      go_simp
    · intro a W g hF hd
      have h3 : a.eval (.tmp 18) = .slice (some ⟨b, o + H + k, none⟩) (H - k) (c2 - k) := hd ⟨13, .data⟩ (by simp) rfl
      have h7 : a.eval (.tmp 22) = .slice (some ⟨b, o + H, none⟩) k c2 := hd ⟨17, .data⟩ (by simp) rfl
      obtain ⟨ρ, hρ⟩ : ∃ ρ, a.eval = ρ := ⟨_, rfl⟩
      rw [hρ] at h3 h7
      refine op_valS (W' := W.alloc (.cells #[.slice (some ⟨b, o + H + k, none⟩) (H - k) (c2 - k), .slice (some ⟨b, o + H, none⟩) k c2] 23)) ρ hρ (.slice (some ⟨W.heap.size, 0, none⟩) 2 2) ?_ ⟨_, rfl, (Old.refl W).alloc _, W.heap.size, rfl, heap_alloc_new W _⟩
      clear g hF hd hρ ha1 ha2 ha4 HK un K1 K2 cA cB bK pA pB pk
      go_simp
    · intro a W g hF hd
      obtain ⟨gg, h8, hg⟩ : ∃ gg, a.eval (.tmp 23) = .slice (some ⟨gg, 0, none⟩) 2 2 ∧ W.heap[gg]? = some (.cells #[.slice (some ⟨b, o + H + k, none⟩) (H - k) (c2 - k), .slice (some ⟨b, o + H, none⟩) k c2] 23 (0, 0)) := hd ⟨18, .data⟩ (by simp) rfl
      refine op_call_ret Tryd.call134 (vs := #[.slice (some ⟨gg, 0, none⟩) 2 2]) (by simp [h8]) (K2 W gg g hg) ?_
      rintro x w' ⟨g', a5, c5, rfl, o'⟩
      exact ⟨_, rfl, g', a5, c5, rfl, o'.low g.size⟩
    · intro a W g hF hd
      obtain ⟨a9, c9, h9, o9⟩ : ∃ a' c, a.eval (.tmp 14) = .slice a' H c ∧ Own W w0.heap.size (.slice a' H c) z1 := hd ⟨9, .data⟩ (by simp) rfl
      obtain ⟨a19, c19, h19, o19⟩ : ∃ a' c, a.eval (.tmp 24) = .slice a' H c ∧ Own W w0.heap.size (.slice a' H c) z2 := hd ⟨19, .data⟩ (by simp) rfl
      obtain ⟨ρ, hρ⟩ : ∃ ρ, a.eval = ρ := ⟨_, rfl⟩
      rw [hρ] at h9 h19
      refine op_val ρ hρ (.agg #[.slice a9 H c9, .slice a19 H c19]) ?_ ⟨_, rfl, Old.refl _, a9, c9, a19, c19, rfl, o9, o19⟩
      clear g hF hd hρ ha1 ha2 ha4 HK un K1 K2 cA cB bK pA pB pk o9 o19
      go_simp
  · intro a W g hF hq
    obtain ⟨a9, c9, a19, c19, h20, o9, o19⟩ : ∃ a' c a2 c2', a.eval (.tmp 25) = .agg #[.slice a' H c, .slice a2 H c2'] ∧ Own W w0.heap.size (.slice a' H c) z1 ∧ Own W w0.heap.size (.slice a2 H c2') z2 := hq 20 (by decide)
    have h2 : a.eval (.tmp 4) = .pointer (some ⟨kr, 0, none⟩) := (hF.same 4 (un 4 (by decide))).trans ha4
    have hp := fram_put hF (fun i j hi hj => slotMv_inj i hi j hj)
    have hk2 := HK.out (fun i => a.eval (.tmp (slotMv i))) W a9 c9 a19 c19 g o9 o19
    rw [← hp] at hk2
    exact op_store (k := kr) h2 h20 (pk W g) (by kernel_rfl) rfl (by simp [Value.oneCell']) hk2
set_option maxRecDepth 100000 in
set_option maxHeartbeats 4000000 in
theorem moved_any (b o H c1 c2 k : Nat) (x1 x2 : List Int) (w : World) (hk : k < H) (hH : H ≤ 8) (hc1 : H ≤ c1) (hc2 : H ≤ c2) (hx1 : x1.length = H) (hx2 : x2.length = H) (l1 : ∀ j, j < H → w.cell? ⟨b, o + j, none⟩ = some (.int .i64 (x1.getD j 0))) (l2 : ∀ j, j < H → w.cell? ⟨b, o + H + j, none⟩ = some (.int .i64 (x2.getD j 0))) :
    Calls Tryd.prog 78 #[.agg #[.slice (some ⟨b, o, none⟩) H c1, .slice (some ⟨b, o + H, none⟩) H c2], .int .i64 k] w fun e w' => ∃ v, e = .returned v ∧ Old w w' ∧ ∃ a c a2 c2', v = .agg #[.slice a H c, .slice a2 H c2'] ∧ Own w' w.heap.size (.slice a H c) (x1.drop k ++ x1.take k) ∧ Own w' w.heap.size (.slice a2 H c2') (x2.drop k ++ x2.take k) := by
  have key : ∀ (x : List Int) (oo cc : Nat) (W : World) (g : Nat), x.length = H → (∀ j, j < H → W.cell? ⟨b, oo + j, none⟩ = some (.int .i64 (x.getD j 0))) → W.heap[g]? = some (.cells #[.slice (some ⟨b, oo + k, none⟩) (H - k) (cc - k), .slice (some ⟨b, oo, none⟩) k cc] 23 (0, 0)) → Calls Tryd.prog 134 #[.slice (some ⟨g, 0, none⟩) 2 2] W fun e w' => ∃ v', e = .returned v' ∧ Old W w' ∧ ∃ a c, v' = .slice a H c ∧ Own w' W.heap.size (.slice a H c) (x.drop k ++ x.take k) := fun x oo cc W g hx hl hg => by
    have hd : (x.drop k).length = H - k := by rw [List.length_drop, hx]
    have ht : (x.take k).length = k := by rw [List.length_take, hx]; omega
    have lieI : ∀ (zs : List Int) (of : Nat), (∀ j, j < zs.length → W.cell? ⟨b, of + j, none⟩ = some (.int .i64 (zs.getD j 0))) → LieS W ⟨b, of, none⟩ zs := fun zs of hz j u hj => by
      rw [List.getElem?_map] at hj
      obtain ⟨y, hy, rfl⟩ := Option.map_eq_some_iff.1 hj
      have hjl := (List.getElem?_eq_some_iff.1 hy).1
      have h1 := hz j hjl
      have h2 : zs.getD j 0 = y := by simp [List.getD, hy]
      rw [h2] at h1
      by_cases h0 : j = 0
      · subst h0
        simpa [Addr.add] using h1
      · simpa [Addr.add, h0] using h1
    have L1 : LieS W ⟨b, oo + k, none⟩ (x.drop k) := lieI _ _ (fun j hj => by
      have h3 := hl (k + j) (by omega)
      rw [show oo + (k + j) = oo + k + j by omega] at h3
      rw [h3]
      simp [List.getD, List.getElem?_drop])
    have L2 : LieS W ⟨b, oo, none⟩ (x.take k) := lieI _ _ (fun j hj => by
      have h3 := hl j (by omega)
      rw [h3]
      have : j < k := by omega
      simp [List.getD, List.getElem?_take, this])
    have e1 : W.cell? ⟨g, 0, none⟩ = some (.slice (some ⟨b, oo + k, none⟩) (x.drop k).length (cc - k)) := by rw [hd]; exact (cell_of_row _ _ _ _ _ _ hg).trans rfl
    have e2 : W.cell? ⟨g, 1, none⟩ = some (.slice (some ⟨b, oo, none⟩) (x.take k).length cc) := by rw [ht]; exact (cell_of_row _ _ _ _ _ _ hg).trans rfl
    refine (concat_anyS (x.drop k) (x.take k) g ⟨b, oo + k, none⟩ ⟨b, oo, none⟩ (cc - k) cc W e1 e2 L1 L2 (by omega) (by omega)).mono ?_
    rintro e w' ⟨v', rfl, g', o'⟩
    obtain ⟨a, c, ev⟩ := (Own.row o').slice
    have el : (x.drop k ++ x.take k).length = H := by rw [List.length_append]; omega
    rw [el] at ev
    subst ev
    exact ⟨_, rfl, g', a, c, rfl, o'⟩
  have HK1 : Hid (∀ W g, Old w W → W.heap[g]? = some (.cells #[.slice (some ⟨b, o + k, none⟩) (H - k) (c1 - k), .slice (some ⟨b, o, none⟩) k c1] 23 (0, 0)) → Calls Tryd.prog 134 #[.slice (some ⟨g, 0, none⟩) 2 2] W fun e w' => ∃ v', e = .returned v' ∧ Old W w' ∧ ∃ a c, v' = .slice a H c ∧ Own w' W.heap.size (.slice a H c) (x1.drop k ++ x1.take k)) := fun W g q hg => key x1 o c1 W g hx1 (fun j hj => (q.cell (p := ⟨b, o + j, none⟩) (block_lt_of_cell (l1 j hj))).trans (l1 j hj)) hg
  have HK2 : Hid (∀ W g, Old w W → W.heap[g]? = some (.cells #[.slice (some ⟨b, o + H + k, none⟩) (H - k) (c2 - k), .slice (some ⟨b, o + H, none⟩) k c2] 23 (0, 0)) → Calls Tryd.prog 134 #[.slice (some ⟨g, 0, none⟩) 2 2] W fun e w' => ∃ v', e = .returned v' ∧ Old W w' ∧ ∃ a c, v' = .slice a H c ∧ Own w' W.heap.size (.slice a H c) (x2.drop k ++ x2.take k)) := fun W g q hg => key x2 (o + H) c2 W g hx2 (fun j hj => (q.cell (p := ⟨b, o + H + j, none⟩) (block_lt_of_cell (l2 j hj))).trans (l2 j hj)) hg
  have HA : Hid (Old w ((w.alloc (.cells #[.slice (some ⟨b, o, none⟩) H c1, .slice (some ⟨b, o + H, none⟩) H c2] 100)).alloc (.cells #[.slice none 0 0, .slice none 0 0] 100))) := ((Old.refl w).alloc _).alloc _
  have hsz : (w.alloc (.cells #[.slice (some ⟨b, o, none⟩) H c1, .slice (some ⟨b, o + H, none⟩) H c2] 100)).heap.size = w.heap.size + 1 := by simp
  have HKR : Hid (((w.alloc (.cells #[.slice (some ⟨b, o, none⟩) H c1, .slice (some ⟨b, o + H, none⟩) H c2] 100)).alloc (.cells #[.slice none 0 0, .slice none 0 0] 100)).heap[w.heap.size + 1]? = some (.cells #[.slice none 0 0, .slice none 0 0] 100 (0, 0))) := by
    have h5 := heap_alloc_new (w.alloc (.cells #[.slice (some ⟨b, o, none⟩) H c1, .slice (some ⟨b, o + H, none⟩) H c2] 100)) (.cells #[.slice none 0 0, .slice none 0 0] 100)
    rw [hsz] at h5
    exact h5
  have gg : Old (w.alloc (.cells #[.slice (some ⟨b, o, none⟩) H c1, .slice (some ⟨b, o + H, none⟩) H c2] 100)) ((w.alloc (.cells #[.slice (some ⟨b, o, none⟩) H c1, .slice (some ⟨b, o + H, none⟩) H c2] 100)).alloc (.cells #[.slice none 0 0, .slice none 0 0] 100)) := (Old.refl _).alloc _
  have cA : ((w.alloc (.cells #[.slice (some ⟨b, o, none⟩) H c1, .slice (some ⟨b, o + H, none⟩) H c2] 100)).alloc (.cells #[.slice none 0 0, .slice none 0 0] 100)).cell? ⟨w.heap.size, 0, none⟩ = some (.slice (some ⟨b, o, none⟩) H c1) := (gg.cell (p := ⟨w.heap.size, 0, none⟩) (by simp)).trans ((cell_at _ _ _ _ 0 rfl).trans rfl)
  have cB : ((w.alloc (.cells #[.slice (some ⟨b, o, none⟩) H c1, .slice (some ⟨b, o + H, none⟩) H c2] 100)).alloc (.cells #[.slice none 0 0, .slice none 0 0] 100)).cell? ⟨w.heap.size, 1, none⟩ = some (.slice (some ⟨b, o + H, none⟩) H c2) := (gg.cell (p := ⟨w.heap.size, 1, none⟩) (by simp)).trans ((cell_at _ _ _ _ 1 rfl).trans rfl)
  have HCA : Hid (_ = _) := cA
  have HCB : Hid (_ = _) := cB
  clear key l1 l2 hx1 hx2 gg hsz cA cB
  generalize x1.drop k ++ x1.take k = z1 at *
  generalize x2.drop k ++ x2.take k = z2 at *
  go_enter Tryd.func78, Tryd.ntmps78
  go_wp2_with fail
  refine reg_mv _ w.heap.size (w.heap.size + 1) b o H c1 c2 k z1 z2 hk hH hc1 hc2 HCA.out HCB.out HKR.out (fun W g q hg => HK1.out W g (Old.trans HA.out q) hg) (fun W g q hg => HK2.out W g (Old.trans HA.out q) hg) _ _ ?_ ?_ ?_ ?_ ?_
  iterate 4 (· exact rfl)
  intro us W a c a2 c2' q o1 o2
  simp only [putAll, Act.put, slotMv, List.range, List.range.loop, List.map_cons, List.map_nil, List.getD_cons_zero, List.getD_cons_succ, List.setIfInBounds_toArray, List.set_cons_succ, List.set_cons_zero]
  have hz : W.heap[w.heap.size + 1]? = some (.cells #[.slice none 0 0, .slice none 0 0] 100 (0, 0)) := (q.block _ (lt_of_some HKR.out)).trans HKR.out
  have HF : (W.setRow (w.heap.size + 1) #[.slice a H c, .slice a2 H c2']).heap[w.heap.size + 1]? = some (.cells #[.slice a H c, .slice a2 H c2'] 100 (0, 0)) := heap_setRow_same hz
  have y0 : (W.setRow (w.heap.size + 1) #[.slice a H c, .slice a2 H c2']).cell? ⟨w.heap.size + 1, 0, none⟩ = some (.slice a H c) := (cell_of_row _ _ _ _ _ _ HF).trans rfl
  have y1 : (W.setRow (w.heap.size + 1) #[.slice a H c, .slice a2 H c2']).cell? ⟨w.heap.size + 1, 1, none⟩ = some (.slice a2 H c2') := (cell_of_row _ _ _ _ _ _ HF).trans rfl
  have hszA : ((w.alloc (.cells #[.slice (some ⟨b, o, none⟩) H c1, .slice (some ⟨b, o + H, none⟩) H c2] 100)).alloc (.cells #[.slice none 0 0, .slice none 0 0] 100)).heap.size = w.heap.size + 1 + 1 := by simp
  rw [hszA] at o1 o2
  have far : ∀ {v : Value} {zs : List Int}, Own W (w.heap.size + 1 + 1) v zs → Hid (Own (W.setRow (w.heap.size + 1) #[.slice a H c, .slice a2 H c2']) w.heap.size v zs) := fun ho => by
    have h7 := own_far ho (w' := W.setRow (w.heap.size + 1) #[.slice a H c, .slice a2 H c2']) (fun bb hb => heap_setRow_other _ _ _ _ (by have := (ho.lt bb hb).1; omega))
    exact own_low h7 (by omega)
  have O1 := far o1
  have O2 := far o2
  have HG : Hid (Old w (W.setRow (w.heap.size + 1) #[.slice a H c, .slice a2 H c2'])) := old_setRow (Old.trans HA.out q) (by omega) _
  clear far o1 o2 HF hz q hszA
  generalize (W.setRow (w.heap.size + 1) #[.slice a H c, .slice a2 H c2']) = WF at *
  go_wp2_with fail
  exact bodyPost_ret (v := .agg #[.slice a H c, .slice a2 H c2']) (by simp [results, Tryd.results78, go_sem, y0, y1]) rfl ⟨_, rfl, HG.out, a, c, a2, c2', rfl, O1.out, O2.out⟩
end Go.Proofs.YtpebikjckhcgfaaDoor
/- Proved: the contract of the program's MovedSlots, and that its slots are the model's. -/
namespace Go.Proofs.YtpebikjckhcgfaaDoor
open Go.ChangeShapes Go.WideShapes Go.ChangeAt Go.RowKit
set_option linter.unusedVariables false
set_option linter.unusedSimpArgs false
/-- rows that go round, changed or not -/
def mvG {α : Type} (H : Nat) (xs : List α) (j : Nat) : List α :=
  if j < H then ((xs.take H).drop (j % H) ++ (xs.take H).take (j % H)) ++ ((xs.drop H).drop (j % H) ++ (xs.drop H).take (j % H))
  else ((xs.drop H).drop (j % H) ++ (xs.drop H).take (j % H)) ++ ((xs.take H).drop (j % H) ++ (xs.take H).take (j % H))
theorem mvG_map {α β : Type} (f : α → β) (H : Nat) (xs : List α) (j : Nat) : (mvG H xs j).map f = mvG H (xs.map f) j := by
  unfold mvG
  split <;> simp [List.map_drop, List.map_take]
theorem pk_range (xs : List Int) : pkX xs (List.range xs.length) = xs := by
  apply List.ext_getElem
  · simp [pkX]
  · intro i h1 h2
    simp [pkX, List.getD, h2]
def mvOk (N t : Nat) : Bool := (List.range N).any fun j => (exL N).getD j 0 == t && (List.range j).all (fun i => (exL N).getD i 0 != t) && (mvG (N / 2) (List.range N) j == uO N t N)
theorem mv2 : ∀ t, t < 4 → t % 2 = 1 → mvOk 2 t = true := by decide +kernel
theorem mv4 : ∀ t, t < 8 → t % 2 = 1 → mvOk 4 t = true := by decide +kernel
theorem mv8 : ∀ t, t < 16 → t % 2 = 1 → mvOk 8 t = true := by decide +kernel
theorem mv16 : ∀ t, t < 32 → t % 2 = 1 → mvOk 16 t = true := by decide +kernel
theorem mv_same {N t : Nat} (xs : List Int) (h : Sz4 N) (ht : t < 2 * N) (ho : t % 2 = 1) (hl : xs.length = N) : ∃ j, j < N ∧ (exL N).getD j 0 = t ∧ (∀ i, i < j → (exL N).getD i 0 ≠ t) ∧ mvG (N / 2) xs j = pkX xs (uO N t N) := by
  have key : mvOk N t = true := by
    rcases h with rfl | rfl | rfl | rfl
    · exact mv2 t ht ho
    · exact mv4 t ht ho
    · exact mv8 t ht ho
    · exact mv16 t ht ho
  unfold mvOk at key
  obtain ⟨j, hj, hk⟩ := List.any_eq_true.1 key
  simp only [Bool.and_eq_true, beq_iff_eq, List.all_eq_true, bne_iff_ne] at hk
  obtain ⟨⟨h1, h2⟩, h3⟩ := hk
  refine ⟨j, by simpa using hj, h1, fun i hi => h2 i (by simpa using hi), ?_⟩
  rw [← h3]
  show _ = (mvG (N / 2) (List.range N) j).map (fun j => xs.getD j 0)
  rw [mvG_map]
  have := pk_range xs
  rw [hl] at this
  show mvG (N / 2) xs j = mvG (N / 2) (pkX xs (List.range N)) j
  rw [this]
theorem ex_odd {N : Nat} (h : Sz4 N) (j : Nat) (hj : j < N) : (exL N).getD j 0 % 2 = 1 ∧ 1 ≤ (exL N).getD j 0 ∧ (exL N).getD j 0 < 2 * N := by
  have key : ∀ x ∈ exL N, x % 2 = 1 ∧ 1 ≤ x ∧ x < 2 * N := by rcases h with rfl | rfl | rfl | rfl <;> decide
  have hk : j < (exL N).length := by rw [exL_len h]; exact hj
  rw [List.getD_eq_getElem?_getD, List.getElem?_eq_getElem hk]
  exact key _ (List.getElem_mem hk)
theorem lie_own {W : World} {base : Nat} {a : Option Addr} {n c : Nat} {zs : List Int} (h : Own W base (.slice a n c) zs) (h0 : 1 ≤ zs.length) : ∃ r, a = some r ∧ LieS W r zs := by
  rcases h.2 with ⟨e, e2⟩ | ⟨p, cap, cur, e, _⟩
  · omega
  · injection e with e1 e2 e3
    subst e1
    refine ⟨_, rfl, fun j u hj => ?_⟩
    have h' : W.ownsRow base 3 1 (.slice (some ⟨p, 0, none⟩) zs.length c) zs.length (zs.map (Value.int .i64)) := by
      have := h
      unfold Own at this
      rw [e2] at this
      exact this
    have hjl := (List.getElem?_eq_some_iff.1 hj).1
    have hc := World.ownsRow.cellAt h' j (by simpa using hjl)
    rw [hj] at hc
    by_cases hj0 : j = 0
    · subst hj0
      simpa [Addr.add] using hc
    · simpa [Addr.add, hj0] using hc
def slotMd (i : Nat) : Nat := [29, 30, 31, 32, 33, 34, 10].getD i 0
theorem slotMd_lt : ∀ i, i < 7 → slotMd i < 42 := by decide
theorem slotMd_inj : ∀ i, i < 7 → ∀ j, j < 7 → slotMd i = slotMd j → i = j := by decide
theorem slotMd_no : ∀ s, s < 10 → ∀ i, i < 7 → slotMd i ≠ s := by decide
def qMd (b o N H cap j k : Nat) (z1 z2 : List Int) (base : Nat) (i : Nat) (W : World) (x : Value) : Prop :=
  match i with
  | 0 => x = .slice (some ⟨b, o, none⟩) N cap
  | 1 => x = .agg #[.slice (some ⟨b, o, none⟩) H cap, .slice (some ⟨b, o + H, none⟩) H (cap - H)]
  | 2 => x = .int .i64 j
  | 3 => x = .int .i64 H
  | 4 => x = .int .i64 k
  | 5 => ∃ a c a2 c2', x = .agg #[.slice a H c, .slice a2 H c2'] ∧ Own W base (.slice a H c) z1 ∧ Own W base (.slice a2 H c2') z2
  | 6 => ∃ g, x = .pointer (some ⟨g, 0, none⟩) ∧ base ≤ g ∧ W.heap[g]? = some (.cells #[.slice none 0 0, .slice none 0 0] 100 (0, 0))
  | _ => True
theorem qMd_old (b o N H cap j k : Nat) (z1 z2 : List Int) (base : Nat) (i : Nat) (W W' : World) (x : Value) (h : qMd b o N H cap j k z1 z2 base i W x) (q : Old W W') : qMd b o N H cap j k z1 z2 base i W' x := by
  unfold qMd at h ⊢
  split at h
  case h_6 =>
    obtain ⟨a, c, a2, c2', e, o, o2⟩ := h
    exact ⟨a, c, a2, c2', e, o.old q, o2.old q⟩
  case h_7 =>
    obtain ⟨g, e, hb, hg⟩ := h
    exact ⟨g, e, hb, (q.block g (lt_of_some hg)).trans hg⟩
  all_goals first | exact h | trivial
theorem own_box {W : World} {lo g : Nat} {v : Value} {xs : List Int} {cs : Array Value} {fr : Nat × Nat} (h : Own W lo v xs) (hg : W.heap[g]? = some (.cells cs 100 fr)) (c : Array Value) : Own (W.setRow g c) lo v xs := by
  refine ⟨h.1, ?_⟩
  rcases h.2 with hn | ⟨p, cap, cur, rfl, hb, hgg, rest⟩
  · exact .inl hn
  · refine .inr ⟨p, cap, cur, rfl, hb, ?_, rest⟩
    rw [heap_setRow_other _ _ _ _ (fun e => by rw [e, hg] at hgg; simp at hgg)]
    exact hgg
set_option maxRecDepth 100000 in
set_option maxHeartbeats 4000000 in
theorem reg_md (w0 : World) (b o N H cap j k : Nat) (z1 z2 : List Int) (hH : 1 ≤ H ∧ H ≤ 8) (hj : j ≤ 16) (hk : ((j : Int)).tmod (H : Int) = (k : Int)) (hk2 : (j : Int) % (H : Int) = (k : Int))
    (K1 : ∀ W, Old w0 W → Calls Tryd.prog 77 #[.slice (some ⟨b, o, none⟩) N cap] W fun e w' => ∃ v', e = .returned v' ∧ v' = .agg #[.slice (some ⟨b, o, none⟩) H cap, .slice (some ⟨b, o + H, none⟩) H (cap - H)] ∧ Old W w')
    (K2 : ∀ W, Old w0 W → Calls Tryd.prog 78 #[.agg #[.slice (some ⟨b, o, none⟩) H cap, .slice (some ⟨b, o + H, none⟩) H (cap - H)], .int .i64 k] W fun e w' => ∃ v, e = .returned v ∧ Old W w' ∧ ∃ a c a2 c2', v = .agg #[.slice a H c, .slice a2 H c2'] ∧ Own w' W.heap.size (.slice a H c) z1 ∧ Own w' W.heap.size (.slice a2 H c2') z2)
    (Q : Exit → Act → World → Prop) (a0 : Act) (hsz : a0.tmps.size = 42)
    (ha1 : a0.eval (.tmp 1) = .slice (some ⟨b, o, none⟩) N cap) (ha8 : a0.eval (.tmp 8) = .int .i64 j) (ha9 : a0.eval (.tmp 9) = .int .i64 H)
    (HK : Hid (∀ (us : Nat → Value) W g a c a2 c2', Old w0 W → w0.heap.size ≤ g → us 6 = .pointer (some ⟨g, 0, none⟩) → W.heap[g]? = some (.cells #[.slice a H c, .slice a2 H c2'] 100 (0, 0)) → Own W w0.heap.size (.slice a H c) z1 → Own W w0.heap.size (.slice a2 H c2') z2 → Q .normal (putAll a0 ((List.range 7).map fun i => (slotMd i, us i))) W)) :
    Code.wp Tryd.prog ((Tryd.f22.body.bind (regionAtS 7)).getD .skip) Q a0 w0 := by
  conv => arg 2; whnf
  have un := slotMd_no
  have hh : ¬ H = 0 := by omega
  have hw : IntKind.i64.wrap (k : Int) = (k : Int) := by
    have : (k : Int) < (H : Int) := by rw [← hk2]; exact Int.emod_lt_of_pos _ (by omega)
    rw [IntKind.wrap_i64]
    omega
  refine wp_region_tail 7 (by decide) (by kernel_rfl) (by kernel_rfl) (by kernel_rfl) (by kernel_rfl) (by kernel_rfl) slotMd (fun i hi => by rw [hsz]; exact slotMd_lt i hi) (fun i j hi hj => slotMd_inj i hi j hj) (qMd b o N H cap j k z1 z2 w0.heap.size) (qMd_old b o N H cap j k z1 z2 w0.heap.size) ?_ ?_
  · refine ⟨?_, ?_, ?_, ?_, ?_, ?_, ?_, trivial⟩
    · intro a W g hF hd
      refine op_move ?_
      exact ⟨_, rfl, Old.refl _, (hF.same 1 (un 1 (by decide))).trans ha1⟩
    · intro a W g hF hd
      have h0 : a.eval (.tmp 29) = .slice (some ⟨b, o, none⟩) N cap := hd ⟨0, .data⟩ (by simp) rfl
      refine op_call_ret Tryd.call77 (vs := #[.slice (some ⟨b, o, none⟩) N cap]) (by simp [h0]) (K1 W g) ?_
      rintro x w' ⟨rfl, g'⟩
      exact ⟨_, rfl, g', rfl⟩
    · intro a W g hF hd
      refine op_move ?_
      exact ⟨_, rfl, Old.refl _, (hF.same 8 (un 8 (by decide))).trans ha8⟩
    · intro a W g hF hd
      refine op_move ?_
      exact ⟨_, rfl, Old.refl _, (hF.same 9 (un 9 (by decide))).trans ha9⟩
    · intro a W g hF hd
      have h2 : a.eval (.tmp 31) = .int .i64 j := hd ⟨2, .data⟩ (by simp) rfl
      have h3 : a.eval (.tmp 32) = .int .i64 H := hd ⟨3, .data⟩ (by simp) rfl
      obtain ⟨ρ, hρ⟩ : ∃ ρ, a.eval = ρ := ⟨_, rfl⟩
      rw [hρ] at h2 h3
      refine op_val ρ hρ (.int .i64 k) ?_ ⟨_, rfl, Old.refl _, rfl⟩
      clear g hF hd hρ ha1 ha8 ha9 HK un K1 K2
      go_simp
    · intro a W g hF hd
      have h1 : a.eval (.tmp 30) = .agg #[.slice (some ⟨b, o, none⟩) H cap, .slice (some ⟨b, o + H, none⟩) H (cap - H)] := hd ⟨1, .data⟩ (by simp) rfl
      have h4 : a.eval (.tmp 33) = .int .i64 k := hd ⟨4, .data⟩ (by simp) rfl
      refine op_call_ret Tryd.call78 (vs := #[.agg #[.slice (some ⟨b, o, none⟩) H cap, .slice (some ⟨b, o + H, none⟩) H (cap - H)], .int .i64 k]) (by simp [h1, h4]) (K2 W g) ?_
      rintro x w' ⟨g', a5, c5, a6, c6, rfl, o1, o2⟩
      exact ⟨_, rfl, g', a5, c5, a6, c6, rfl, o1.low g.size, o2.low g.size⟩
    · intro a W g hF hd
      refine op_alloc (z := .agg #[.slice none 0 0, .slice none 0 0]) (by kernel_rfl) ?_
      exact ⟨_, rfl, (Old.refl W).alloc _, W.heap.size, rfl, g.size, heap_alloc_new W _⟩
  · intro a W g hF hq
    obtain ⟨a5, c5, a6, c6, h5, o1, o2⟩ : ∃ a' c a2 c2', a.eval (.tmp 34) = .agg #[.slice a' H c, .slice a2 H c2'] ∧ Own W w0.heap.size (.slice a' H c) z1 ∧ Own W w0.heap.size (.slice a2 H c2') z2 := hq 5 (by decide)
    obtain ⟨kk, h6, hkk, hz⟩ : ∃ kk, a.eval (.tmp 10) = .pointer (some ⟨kk, 0, none⟩) ∧ w0.heap.size ≤ kk ∧ W.heap[kk]? = some (.cells #[.slice none 0 0, .slice none 0 0] 100 (0, 0)) := hq 6 (by decide)
    have hp := fram_put hF (fun i j hi hj => slotMd_inj i hi j hj)
    have hk3 := HK.out (fun i => a.eval (.tmp (slotMd i))) (W.setRow kk #[.slice a5 H c5, .slice a6 H c6]) kk a5 c5 a6 c6 (old_setRow g hkk _) hkk h6 (heap_setRow_same hz) (own_box o1 hz _) (own_box o2 hz _)
    rw [← hp] at hk3
    exact op_store (k := kk) h6 h5 hz (by kernel_rfl) rfl (by simp [Value.oneCell']) hk3
set_option maxRecDepth 100000 in
set_option maxHeartbeats 4000000 in
theorem impl_MovedSlots_no1 (n G : Int) (xs : List Int) (v : Value) (w : World) (hv : Row w v xs) (hl : xs.length ≤ 9223372036854775807) (h : (rgB n && decide ((xs.length : Int) = n)) = false) :
    Calls Tryd.prog 22 #[.int .i64 n, v, .int .i64 G] w fun e w' => e = .returned (.tuple #[.slice none 0 0, .bool false]) ∧ Old w w' := by
  have c0 := fun W => impl_isSize n W
  obtain ⟨a, c, e⟩ := hv.slice
  subst e
  cases hs : rgB n
  · rw [hs] at c0
    clear h hs hv
    go_enter Tryd.func22, Tryd.ntmps22
    go_wp2_with fail
    refine (c0 _).mono ?_
    rintro e w1 ⟨rfl, hw⟩
    obtain rfl := hw.symm
    go_wp2_with fail
    go_ret2
    exact ⟨rfl, (Old.refl _).alloc _⟩
  · rw [hs] at c0
    have hd : ((xs.length : Int) != n) = true := by rw [hs] at h; simpa using h
    clear h hs hv
    go_enter Tryd.func22, Tryd.ntmps22
    go_wp2_with fail
    refine (c0 _).mono ?_
    rintro e w1 ⟨rfl, hw⟩
    obtain rfl := hw.symm
    go_wp2_with fail
    go_ret2
    exact ⟨rfl, (Old.refl _).alloc _⟩
set_option maxRecDepth 100000 in
set_option maxHeartbeats 4000000 in
theorem impl_MovedSlots_no2 (N : Nat) (G : Int) (xs : List Int) (v : Value) (w : World) (hv : Row w v xs) (h : Sz4 N) (hl : xs.length = N) (hT : TabW w) (hG : ∀ j, j < N → ((exL N).getD j 0 : Int) ≠ G) :
    Calls Tryd.prog 22 #[.int .i64 N, v, .int .i64 G] w fun e w' => e = .returned (.tuple #[.slice none 0 0, .bool false]) ∧ Old w w' := by
  have c0 := fun W => impl_isSize N W
  rw [rgB_mk (by omega)] at c0
  have hb := sz_bd h
  have c1 := fun W hT => slotPointsOf_any N W h hT
  have c2 := fun g base W ho => inOne_pt N g base W h ho
  obtain ⟨H, hH⟩ : ∃ H, N / 2 = H := ⟨_, rfl⟩
  rw [hH] at c1 c2
  have HRD : Hid (∀ w base v, w.ownsRow base 91 2 v N (ptC N) → RdP w v N) := fun w base v ho => rd_of h ho
  have C1 : Hid (∀ W, TabW W → Calls Tryd.prog 63 #[.int .i64 N] W fun en w' => ∃ g, W.heap.size ≤ g ∧ en = .returned (.agg #[.slice (some ⟨g, 0, none⟩) H N, .slice (some ⟨g, H * 2, none⟩) H H]) ∧ Old W w' ∧ OwP w' W.heap.size g N) := c1
  have C2 : Hid (∀ g base W, OwP W base g N → Calls Tryd.prog 64 #[.agg #[.slice (some ⟨g, 0, none⟩) H N, .slice (some ⟨g, H * 2, none⟩) H H]] W fun e w' => ∃ v', e = .returned v' ∧ Old W w' ∧ w'.ownsRow W.heap.size 91 2 v' N (ptC N)) := c2
  have HT : Hid (TabW w) := hT
  have HA : Hid (Old w (w.alloc (.cells #[.int .i64 G] 3))) := (Old.refl w).alloc _
  have HGB : Hid ((w.alloc (.cells #[.int .i64 G] 3)).cell? ⟨w.heap.size, 0, none⟩ = some (.int .i64 G)) := (cell_at _ _ _ _ 0 rfl).trans rfl
  have HR1 : Hid (∀ j, j < N → ((exL N).getD j 0 : Int) ≠ G) := hG
  obtain ⟨a, c, e⟩ := hv.slice
  rw [hl] at e
  subst e
  have dnn : ((N : Int) != (N : Int)) = false := by simp
  clear hv h hl hT hG c1 c2 hH
  go_enter Tryd.func22, Tryd.ntmps22
  go_wp2_with fail
  refine (c0 _).mono ?_
  rintro e w1 ⟨rfl, hw⟩
  obtain rfl := hw.symm
  go_wp2_with fail
  refine (C1.out _ (HT.out.old HA.out)).mono ?_
  rintro e w2 ⟨g, hg, rfl, g2, o2⟩
  have HP2 : Hid (OwP w2 _ g N) := o2
  have HG2 : Hid (Old w w2) := Old.trans HA.out g2
  have HB2 : Hid (w2.cell? ⟨w.heap.size, 0, none⟩ = some (.int .i64 G)) := (g2.cell (p := ⟨w.heap.size, 0, none⟩) (by simp)).trans HGB.out
  clear g2 o2 HGB
  go_wp2_with fail
  refine (C2.out _ _ _ HP2.out).mono ?_
  rintro e w3 ⟨v3, rfl, g3, o3⟩
  have HRP := HRD.out _ _ _ o3
  have HG3 : Hid (Old w w3) := Old.trans HG2.out g3
  have HB3 : w3.cell? ⟨w.heap.size, 0, none⟩ = some (.int .i64 G) := (g3.cell (p := ⟨w.heap.size, 0, none⟩) (block_lt_of_cell HB2.out)).trans HB2.out
  obtain ⟨a3, c3, e3⟩ := own_slice o3
  subst e3
  have CX := indexFunc_any N w.heap.size G (-1) _ w3 hb HRP HB3 (Or.inr ⟨rfl, HR1.out⟩)
  clear g3 o3 HB3 HB2 HRP HP2 C1 C2 HRD HG2
  go_wp2_with fail
  refine CX.mono ?_
  rintro e w4 ⟨rfl, g4⟩
  have HG4 : Hid (Old w w4) := Old.trans HG3.out g4
  clear g4 CX HG3
  go_wp2_with fail
  go_ret2
  exact ⟨rfl, HG4.out⟩
set_option maxRecDepth 100000 in
set_option maxHeartbeats 4000000 in
theorem impl_MovedSlots_yes (N j : Nat) (G : Int) (xs : List Int) (v : Value) (w : World) (hv : Row w v xs) (hf : Fit v) (h : Sz4 N) (hl : xs.length = N) (hT : TabW w) (hj : j < N) (hjG : ((exL N).getD j 0 : Int) = G) (hG : ∀ i, i < j → ((exL N).getD i 0 : Int) ≠ G) :
    Calls Tryd.prog 22 #[.int .i64 N, v, .int .i64 G] w fun e w' => ∃ v', e = .returned (.tuple #[v', .bool true]) ∧ Old w w' ∧ Own w' w.heap.size v' (mvG (N / 2) xs j) := by
  have c0 := fun W => impl_isSize N W
  rw [rgB_mk (by omega)] at c0
  have hb := sz_bd h
  have c1 := fun W hT => slotPointsOf_any N W h hT
  have c2 := fun g base W ho => inOne_pt N g base W h ho
  obtain ⟨H, hH⟩ : ∃ H, N / 2 = H := ⟨_, rfl⟩
  rw [hH] at c1 c2
  have HRD : Hid (∀ w base v, w.ownsRow base 91 2 v N (ptC N) → RdP w v N) := fun w base v ho => rd_of h ho
  have C1 : Hid (∀ W, TabW W → Calls Tryd.prog 63 #[.int .i64 N] W fun en w' => ∃ g, W.heap.size ≤ g ∧ en = .returned (.agg #[.slice (some ⟨g, 0, none⟩) H N, .slice (some ⟨g, H * 2, none⟩) H H]) ∧ Old W w' ∧ OwP w' W.heap.size g N) := c1
  have C2 : Hid (∀ g base W, OwP W base g N → Calls Tryd.prog 64 #[.agg #[.slice (some ⟨g, 0, none⟩) H N, .slice (some ⟨g, H * 2, none⟩) H H]] W fun e w' => ∃ v', e = .returned v' ∧ Old W w' ∧ w'.ownsRow W.heap.size 91 2 v' N (ptC N)) := c2
  have HT : Hid (TabW w) := hT
  have HA : Hid (Old w (w.alloc (.cells #[.int .i64 G] 3))) := (Old.refl w).alloc _
  have HGB : Hid ((w.alloc (.cells #[.int .i64 G] 3)).cell? ⟨w.heap.size, 0, none⟩ = some (.int .i64 G)) := (cell_at _ _ _ _ 0 rfl).trans rfl
  have HR1 : Hid ((∃ j0 : Nat, (j : Int) = j0 ∧ j0 < N ∧ ((exL N).getD j0 0 : Int) = G ∧ ∀ i, i < j0 → ((exL N).getD i 0 : Int) ≠ G) ∨ ((j : Int) = -1 ∧ ∀ i, i < N → ((exL N).getD i 0 : Int) ≠ G)) := Or.inl ⟨j, rfl, hj, hjG, hG⟩
  obtain ⟨b, o, cap, e, hbx, hcx⟩ : ∃ b o cap, v = .slice (some ⟨b, o, none⟩) N cap ∧ b < w.heap.size ∧ ∀ j, j < N → w.cell? ⟨b, o + j, none⟩ = some (.int .i64 (xs.getD j 0)) := by
    rcases hv with ⟨a, c, e1, e2⟩ | ⟨b, o, c, e1, e2, _, e4⟩
    · rw [e2] at hl
      simp at hl
      omega
    · exact ⟨b, o, c, by rw [e1, hl], e2, fun j hj => e4 j (by omega)⟩
  subst e
  have hcap : N ≤ cap := hf
  have dnn : ((N : Int) != (N : Int)) = false := by simp
  have hN2 : N = 2 * H := by omega
  have hHb : 1 ≤ H ∧ H ≤ 8 := by omega
  have eh : (N : Int) / 2 = (H : Int) := by omega
  obtain ⟨k, hk⟩ : ∃ k, j % H = k := ⟨_, rfl⟩
  have hkH : k < H := by rw [← hk]; exact Nat.mod_lt _ (by omega)
  have hki : (j : Int) % (H : Int) = (k : Int) := by rw [← hk]; simp
  have hkt : ((j : Int)).tmod (H : Int) = (k : Int) := by rw [Int.tmod_eq_emod_of_nonneg (by omega)]; exact hki
  have KI : Hid (∀ W, Old w W → Calls Tryd.prog 77 #[.slice (some ⟨b, o, none⟩) N cap] W fun e w' => ∃ v', e = .returned v' ∧ v' = .agg #[.slice (some ⟨b, o, none⟩) H cap, .slice (some ⟨b, o + H, none⟩) H (cap - H)] ∧ Old W w') := fun W q => inRows_int H N b o cap W hN2 hHb hcap
  have KM : Hid (∀ W, Old w W → Calls Tryd.prog 78 #[.agg #[.slice (some ⟨b, o, none⟩) H cap, .slice (some ⟨b, o + H, none⟩) H (cap - H)], .int .i64 k] W fun e w' => ∃ v, e = .returned v ∧ Old W w' ∧ ∃ a c a2 c2', v = .agg #[.slice a H c, .slice a2 H c2'] ∧ Own w' W.heap.size (.slice a H c) ((xs.take H).drop k ++ (xs.take H).take k) ∧ Own w' W.heap.size (.slice a2 H c2') ((xs.drop H).drop k ++ (xs.drop H).take k)) := fun W q => moved_any b o H cap (cap - H) k (xs.take H) (xs.drop H) W hkH (by omega) (by omega) (by omega) (by rw [List.length_take]; omega) (by rw [List.length_drop]; omega) (fun i hi => by
    rw [(q.cell (p := ⟨b, o + i, none⟩) hbx).trans (hcx i (by omega))]
    simp [List.getD, List.getElem?_take, hi]) (fun i hi => by
    have h5 := hcx (H + i) (by omega)
    rw [show o + (H + i) = o + H + i by omega] at h5
    rw [(q.cell (p := ⟨b, o + H + i, none⟩) hbx).trans h5]
    simp [List.getD, List.getElem?_drop])
  have hl1 : ((xs.take H).drop k ++ (xs.take H).take k).length = H := by simp only [List.length_append, List.length_drop, List.length_take]; omega
  have hl2 : ((xs.drop H).drop k ++ (xs.drop H).take k).length = H := by simp only [List.length_append, List.length_drop, List.length_take]; omega
  have HMV1 : Hid (j < H → mvG H xs j = ((xs.take H).drop k ++ (xs.take H).take k) ++ ((xs.drop H).drop k ++ (xs.drop H).take k)) := fun h5 => by unfold mvG; rw [if_pos h5, hk]
  have HMV2 : Hid (¬ j < H → mvG H xs j = ((xs.drop H).drop k ++ (xs.drop H).take k) ++ ((xs.take H).drop k ++ (xs.take H).take k)) := fun h5 => by unfold mvG; rw [if_neg h5, hk]
  rw [hH]
  generalize (xs.take H).drop k ++ (xs.take H).take k = z1 at *
  generalize (xs.drop H).drop k ++ (xs.drop H).take k = z2 at *
  generalize mvG H xs j = zs at *
  have HL1 : Hid (z1.length = H) := hl1
  have HL2 : Hid (z2.length = H) := hl2
  have dj0 : decide ((j : Int) < 0) = false := decide_eq_false (by omega)
  have j16 : j ≤ 16 := by omega
  clear hv h hl hT hG hjG c1 c2 hH hcx hk hl1 hl2 hN2
  go_enter Tryd.func22, Tryd.ntmps22
  go_wp2_with fail
  refine (c0 _).mono ?_
  rintro e w1 ⟨rfl, hw⟩
  obtain rfl := hw.symm
  go_wp2_with fail
  refine (C1.out _ (HT.out.old HA.out)).mono ?_
  rintro e w2 ⟨g, hg, rfl, g2, o2⟩
  have HP2 : Hid (OwP w2 _ g N) := o2
  have HG2 : Hid (Old w w2) := Old.trans HA.out g2
  have HB2 : Hid (w2.cell? ⟨w.heap.size, 0, none⟩ = some (.int .i64 G)) := (g2.cell (p := ⟨w.heap.size, 0, none⟩) (by simp)).trans HGB.out
  clear g2 o2 HGB
  go_wp2_with fail
  refine (C2.out _ _ _ HP2.out).mono ?_
  rintro e w3 ⟨v3, rfl, g3, o3⟩
  have HRP := HRD.out _ _ _ o3
  have HG3 : Hid (Old w w3) := Old.trans HG2.out g3
  have HB3 : w3.cell? ⟨w.heap.size, 0, none⟩ = some (.int .i64 G) := (g3.cell (p := ⟨w.heap.size, 0, none⟩) (block_lt_of_cell HB2.out)).trans HB2.out
  obtain ⟨a3, c3, e3⟩ := own_slice o3
  subst e3
  have CX := indexFunc_any N w.heap.size G (j : Int) _ w3 hb HRP HB3 HR1.out
  clear g3 o3 HB3 HB2 HRP HP2 C1 C2 HRD HG2
  go_wp2_with fail
  refine CX.mono ?_
  rintro e w4 ⟨rfl, g4⟩
  have HG4 : Hid (Old w w4) := Old.trans HG3.out g4
  clear g4 CX HG3
  go_wp2_with fail
  refine reg_md w4 b o N H cap j k z1 z2 hHb j16 hkt hki (fun W q => KI.out W (Old.trans HG4.out q)) (fun W q => KM.out W (Old.trans HG4.out q)) _ _ ?_ ?_ ?_ ?_ ?_
  iterate 4 (· exact rfl)
  intro us W gb a5 c5 a6 c6 q hgb hus hz o1 o2
  simp only [putAll, Act.put, slotMd, List.range, List.range.loop, List.map_cons, List.map_nil, List.getD_cons_zero, List.getD_cons_succ, List.setIfInBounds_toArray, List.set_cons_succ, List.set_cons_zero]
  rw [hus]
  have HG5 : Hid (Old w W) := Old.trans HG4.out q
  have HZ : Hid (W.heap[gb]? = some (.cells #[.slice a5 H c5, .slice a6 H c6] 100 (0, 0))) := hz
  have O1 : Hid (Own W w4.heap.size (.slice a5 H c5) z1) := o1
  have O2 : Hid (Own W w4.heap.size (.slice a6 H c6) z2) := o2
  obtain ⟨r1, l1⟩ : ∃ r1, a5 = some r1 ∧ LieS W r1 z1 := lie_own o1 (by rw [HL1.out]; omega)
  obtain ⟨r2, l2⟩ : ∃ r2, a6 = some r2 ∧ LieS W r2 z2 := lie_own o2 (by rw [HL2.out]; omega)
  obtain ⟨e5, l1⟩ := l1
  obtain ⟨e6, l2⟩ := l2
  subst e5 e6
  have L1 : Hid (LieS W r1 z1) := l1
  have L2 : Hid (LieS W r2 z2) := l2
  have y0 : W.cell? ⟨gb, 0, none⟩ = some (.slice (some r1) H c5) := (cell_of_row _ _ _ _ _ _ hz).trans rfl
  have y1 : W.cell? ⟨gb, 1, none⟩ = some (.slice (some r2) H c6) := (cell_of_row _ _ _ _ _ _ hz).trans rfl
  have f0 : W.frozen? ⟨gb, 0, none⟩ = false := frozen_of_row hz 0
  have f1 : W.frozen? ⟨gb, 1, none⟩ = false := frozen_of_row hz 1
  have hw4 : w.heap.size ≤ w4.heap.size := HG4.out.size
  clear q hz o1 o2 l1 l2 hus KI KM HG4
  by_cases hjH : j < H
  · have d2 : decide ((H : Int) ≤ (j : Int)) = false := by simp; omega
    have d3 : decide (H ≤ j) = false := decide_eq_false (by omega)
    have d4 : decide ((j : Int) ≥ (H : Int)) = false := decide_eq_false (by omega)
    have d5 : ¬ H ≤ j := by omega
    have HM : Hid (zs = z1 ++ z2) := HMV1.out hjH
    have CO := inOne_int z1 z2 r1 r2 c5 c6 W L1.out L2.out (by rw [HL1.out]; omega) (by rw [HL2.out]; omega)
    rw [HL1.out, HL2.out] at CO
    clear hjH HMV1 HMV2
    go_wp2_with fail
    refine CO.mono ?_
    rintro e w6 ⟨v6, rfl, g6, o6⟩
    have HG6 : Hid (Old w w6) := Old.trans HG5.out g6
    have HO6 : Hid (Own w6 w.heap.size v6 zs) := by
      show Own _ _ _ _
      rw [HM.out]
      exact o6.low HG5.out.size
    obtain ⟨a7, c7, e⟩ := own_slice o6
    rw [List.length_append, HL1.out, HL2.out] at e
    subst e
    clear o6 g6 CO y0 y1
    go_wp2_with fail
    go_ret2
    exact ⟨_, rfl, HG6.out, HO6.out⟩
  · have d2 : decide ((H : Int) ≤ (j : Int)) = true := by simp; omega
    have d3 : decide (H ≤ j) = true := decide_eq_true (by omega)
    have d4 : decide ((j : Int) ≥ (H : Int)) = true := decide_eq_true (by omega)
    have d5 : H ≤ j := by omega
    have HM : Hid (zs = z2 ++ z1) := HMV2.out hjH
    have CS := swapped_any (some r1) H c5 (some r2) H c6 W
    clear hjH HMV1 HMV2
    go_wp2_with fail
    refine CS.mono ?_
    rintro e w6 ⟨rfl, g6⟩
    have hz6 : w6.heap[gb]? = some (.cells #[.slice (some r1) H c5, .slice (some r2) H c6] 100 (0, 0)) := (g6.block gb (lt_of_some HZ.out)).trans HZ.out
    have y2 : w6.cell? ⟨gb, 0, none⟩ = some (.slice (some r1) H c5) := (cell_of_row _ _ _ _ _ _ hz6).trans rfl
    have y3 : w6.cell? ⟨gb, 1, none⟩ = some (.slice (some r2) H c6) := (cell_of_row _ _ _ _ _ _ hz6).trans rfl
    have f2 : w6.frozen? ⟨gb, 0, none⟩ = false := frozen_of_row hz6 0
    have f3 : w6.frozen? ⟨gb, 1, none⟩ = false := frozen_of_row hz6 1
    have hz7 : ((w6.setCell ⟨gb, 0, none⟩ (.slice (some r2) H c6)).setCell ⟨gb, 1, none⟩ (.slice (some r1) H c5)).heap[gb]? = some (.cells #[.slice (some r2) H c6, .slice (some r1) H c5] 100 (0, 0)) := heap_setCell_same _ _ _ _ _ _ (heap_setCell_same _ _ _ _ _ _ hz6)
    have G7 : Hid (Old w ((w6.setCell ⟨gb, 0, none⟩ (.slice (some r2) H c6)).setCell ⟨gb, 1, none⟩ (.slice (some r1) H c5))) := ((Old.trans HG5.out g6).own (p := ⟨gb, 0, none⟩) (show w.heap.size ≤ gb by omega) _).own (p := ⟨gb, 1, none⟩) (show w.heap.size ≤ gb by omega) _
    have y4 : ((w6.setCell ⟨gb, 0, none⟩ (.slice (some r2) H c6)).setCell ⟨gb, 1, none⟩ (.slice (some r1) H c5)).cell? ⟨gb, 0, none⟩ = some (.slice (some r2) H c6) := (cell_of_row _ _ _ _ _ _ hz7).trans rfl
    have y5 : ((w6.setCell ⟨gb, 0, none⟩ (.slice (some r2) H c6)).setCell ⟨gb, 1, none⟩ (.slice (some r1) H c5)).cell? ⟨gb, 1, none⟩ = some (.slice (some r1) H c5) := (cell_of_row _ _ _ _ _ _ hz7).trans rfl
    have sl : ∀ {r : Addr} {z : List Int} {a : Option Addr} {c : Nat}, a = some r → Own W w4.heap.size (.slice a H c) z → LieS W r z → LieS ((w6.setCell ⟨gb, 0, none⟩ (.slice (some r2) H c6)).setCell ⟨gb, 1, none⟩ (.slice (some r1) H c5)) r z := fun {r z a c} ea ho hL i u hi => by
      have h8 := hL i u hi
      have h9 := (g6.cell (block_lt_of_cell h8)).trans h8
      have hne : (r.add i).block ≠ gb := fun e => by
        have hzb := HZ.out
        rcases ho.2 with ⟨e1, _⟩ | ⟨p, cap', cur, e1, _, hgg, _⟩
        · rw [ea] at e1
          cases e1
        · rw [ea] at e1
          injection e1 with e2
          injection e2 with e2
          have hp : (r.add i).block = p := by rw [e2]; simp [Addr.add]; split <;> rfl
          rw [← hp, e, hzb] at hgg
          simp at hgg
      rw [cellOS _ _ _ _ hne, cellOS _ _ _ _ hne]
      exact h9
    have CO := inOne_int z2 z1 r2 r1 c6 c5 _ (sl rfl O2.out L2.out) (sl rfl O1.out L1.out) (by rw [HL2.out]; omega) (by rw [HL1.out]; omega)
    rw [HL1.out, HL2.out] at CO
    clear hz6 hz7 sl CS g6
    obtain ⟨W7, hW7⟩ : ∃ W7, W7 = ((w6.setCell ⟨gb, 0, none⟩ (.slice (some r2) H c6)).setCell ⟨gb, 1, none⟩ (.slice (some r1) H c5)) := ⟨_, rfl⟩
    go_wp2_with fail
    refine CO.mono ?_
    rintro e w8 ⟨v8, rfl, g8, o8⟩
    have HG8 : Hid (Old w w8) := Old.trans G7.out g8
    have HO8 : Hid (Own w8 w.heap.size v8 zs) := by
      show Own _ _ _ _
      rw [HM.out]
      exact o8.low G7.out.size
    obtain ⟨a7, c7, e⟩ := own_slice o8
    rw [List.length_append, HL1.out, HL2.out] at e
    subst e
    clear o8 g8 CO y4 y5
    go_wp2_with fail
    go_ret2
    exact ⟨_, rfl, HG8.out, HO8.out⟩
end Go.Proofs.YtpebikjckhcgfaaDoor
/- Proved: the statement on MovedSlots at every argument, in a world in which the table of bits is laid. -/
namespace Go.Proofs.YtpebikjckhcgfaaDoor
open Go.ChangeShapes Go.WideShapes Go.ChangeAt Go.RowKit
set_option linter.unusedVariables false
set_option linter.unusedSimpArgs false
set_option maxRecDepth 100000 in
set_option maxHeartbeats 4000000 in
theorem spec_MovedSlots_no (n G : Int) (xs : List Int) (v : Value) (w : World) (hv : Row w v xs) (hl : xs.length ≤ 9223372036854775807) (hG : -9223372036854775808 ≤ G ∧ G ≤ 9223372036854775807) (h : (rgB n && (decide ((xs.length : Int) = n) && turnB n G)) = false) :
    Calls Tryd.prog 37 #[.int .i64 n, v, .int .i64 G] w fun e w' => e = .returned (.tuple #[.slice none 0 0, .bool false]) ∧ Old w w' := by
  have c0 := fun W => spec_isSize n W
  obtain ⟨a, c, e⟩ := hv.slice
  subst e
  cases hs : rgB n
  · rw [hs] at c0
    clear h hs hv
    go_enter Tryd.func37, Tryd.ntmps37
    go_wp2_with fail
    refine (c0 _).mono ?_
    rintro e w1 ⟨rfl, hw⟩
    obtain rfl := hw.symm
    go_wp2_with fail
    go_ret2
    exact ⟨rfl, Old.refl _⟩
  · rw [hs] at c0
    by_cases hln : (xs.length : Int) = n
    · have hd : ((xs.length : Int) != n) = false := by simp [hln]
      have hz := rgB_yes hs
      have ht : turnB n G = false := by rw [hs] at h; simp [hln] at h; exact h
      have c1 := fun W => spec_odd n G W hG (by omega)
      rw [ht] at c1
      clear h hs hv hln ht hz
      go_enter Tryd.func37, Tryd.ntmps37
      go_wp2_with fail
      refine (c0 _).mono ?_
      rintro e w1 ⟨rfl, hw⟩
      obtain rfl := hw.symm
      go_wp2_with fail
      refine (c1 _).mono ?_
      rintro e w1 ⟨rfl, hw⟩
      obtain rfl := hw.symm
      go_wp2_with fail
      go_ret2
      exact ⟨rfl, Old.refl _⟩
    · have hd : ((xs.length : Int) != n) = true := by simp [hln]
      clear h hs hv hln
      go_enter Tryd.func37, Tryd.ntmps37
      go_wp2_with fail
      refine (c0 _).mono ?_
      rintro e w1 ⟨rfl, hw⟩
      obtain rfl := hw.symm
      go_wp2_with fail
      go_ret2
      exact ⟨rfl, Old.refl _⟩
theorem MovedSlots_any (n G : Int) (xs : List Int) (v : Value) (hG : -9223372036854775808 ≤ G ∧ G ≤ 9223372036854775807) (w : World) (hv : Row w v xs) (hlv : xs.length ≤ 9223372036854775807) (hT : TabW w) :
    Calls Tryd.prog 10 #[.int .i64 n, v, .int .i64 G] w fun e w' => e = .returned (.bool true) ∧ Old w w' := by
  cases hok : (rgB n && (decide ((xs.length : Int) = n) && turnB n G))
  · refine law_MovedSlots n G xs v w hv hlv hT false [] (by simp)
      (fun _ v W h1 _ => (spec_MovedSlots_no n G xs v W h1 hlv hG hok).mono fun e w' ⟨h1, h2⟩ => ⟨_, h1, h2, own_nil _ _⟩)
      (fun _ v W b h1 hf => ?_)
    cases h2 : (rgB n && decide ((xs.length : Int) = n))
    · exact (impl_MovedSlots_no1 n G xs v W h1 hlv h2).mono fun e w' ⟨h1, h2⟩ => ⟨_, h1, h2, own_nil _ _⟩
    · have hk : rgB n = true ∧ (xs.length : Int) = n := by simpa using h2
      have hz := rgB_yes hk.1
      obtain ⟨N, rfl⟩ := Int.eq_ofNat_of_zero_le (show 0 ≤ n by omega)
      have hS : Sz4 N := by omega
      have ht : turnB N G = false := by
        rw [hk.1] at hok
        simpa [hk.2] using hok
      refine (impl_MovedSlots_no2 N G xs v W h1 hS (by omega) b (fun j hj e => ?_)).mono fun e w' ⟨h1, h2⟩ => ⟨_, h1, h2, own_nil _ _⟩
      obtain ⟨o1, o2, o3⟩ := ex_odd hS j hj
      rw [← e] at ht
      have : turnB (N : Int) ((exL N).getD j 0 : Nat) = true := by
        simp only [turnB, Bool.and_eq_true, decide_eq_true_eq, beq_iff_eq]
        omega
      rw [this] at ht
      cases ht
  · have hk : rgB n = true ∧ (xs.length : Int) = n ∧ turnB n G = true := by simpa using hok
    have hz := rgB_yes hk.1
    obtain ⟨N, rfl⟩ := Int.eq_ofNat_of_zero_le (show 0 ≤ n by omega)
    have hS : Sz4 N := by omega
    have hb := sz_bd hS
    have ht := hk.2.2
    simp only [turnB, Bool.and_eq_true, decide_eq_true_eq, beq_iff_eq] at ht
    obtain ⟨T, rfl⟩ := Int.eq_ofNat_of_zero_le (show 0 ≤ G by omega)
    obtain ⟨j, hj, e1, e2, e3⟩ := mv_same xs hS (show T < 2 * N by omega) (show T % 2 = 1 by omega) (by omega)
    have hlen : (pkX xs (uO N T N)).length ≤ 1000 := by
      rw [List.length_map]
      have := uO_len N T hb.2 N
      omega
    refine law_MovedSlots _ _ xs v w hv hlv hT true (pkX xs (uO N T N)) hlen
      (fun _ v W h1 _ => spec_MovedSlots_yes N T xs v W h1 (by omega) hS hk.2.2 (by omega))
      (fun _ v W b h1 hf => by
        have := impl_MovedSlots_yes N j T xs v W h1 hf hS (by omega) b hj (by rw [e1]) (fun i hi => by have := e2 i hi; omega)
        rw [e3] at this
        exact this)
end Go.Proofs.YtpebikjckhcgfaaDoor
