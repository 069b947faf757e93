/- Proved: several texts in one: what each proves is said ahead of it. -/
import Derived.Test.YtpebikjckhcgfaaDoorZ75
import Derived.Lib.AppendZeros
import Derived.Test.YtpebikjckhcgfaaDoorZ72
import Derived.Test.YtpebikjckhcgfaaDoorZ80
import Derived.Test.YtpebikjckhcgfaaDoorZ78
/- Proved: contracts of slices.Grow of no slice, of slices.Concat of two slices of points, and of both rows in one. -/
namespace Go.Proofs.YtpebikjckhcgfaaDoor
open Go.ChangeShapes Go.WideShapes Go.ChangeAt Go.RowKit
set_option linter.unusedVariables false
set_option linter.unusedSimpArgs false
/-- points of the call's own -/
abbrev OwQ (w : World) (base : Nat) (v : Value) (cs : List Value) : Prop := w.ownsRow base 91 2 v (cs.length / 2) cs
theorem zeros_size2 (n : Nat) : (Builtin.zeroCells (Value.agg #[.int .i64 0, .int .i64 0]).cells n).size = n * 2 := by simp [Builtin.zeroCells, Value.cells]
theorem room_own2 (w : World) (n c : Nat) (h1 : n ≤ c) (h2 : c ≤ maxLen) : OwQ (w.drew.alloc (.cells (Builtin.zeroCells (Value.agg #[.int .i64 0, .int .i64 0]).cells n ++ Builtin.zeroCells (Value.agg #[.int .i64 0, .int .i64 0]).cells (c - n)) 91)) w.heap.size (.slice (some ⟨w.heap.size, 0, none⟩) 0 c) [] := by
  refine ⟨rfl, Or.inr ⟨w.heap.size, c, _, rfl, Nat.le_refl _, heap_alloc_new w.drew _, Nat.zero_le _, h2, ?_, by simp⟩⟩
  rw [Array.size_append, zeros_size2, zeros_size2]
  omega
set_option maxHeartbeats 1000000 in
theorem grow_pt (n : Nat) (w : World) (hn : n ≤ 100) :
    Calls Tryd.prog 160 #[.slice none 0 0, .int .i64 n] w fun e w' => ∃ v', e = .returned v' ∧ Old w w' ∧ OwQ w' w.heap.size v' [] := by
  obtain ⟨i0, hi, hz0, hz1, hz2⟩ := info_parts Tryd.infoSlotPt
  have d0 : decide ((n : Int) < 0) = false := decide_eq_false (by omega)
  rcases Nat.eq_zero_or_pos n with h0 | h0
  · subst h0
    go_enter Tryd.func160, Tryd.ntmps160
    go_wp2_with fail
    go_ret
    exact ⟨_, rfl, Old.refl _, ⟨rfl, Or.inl ⟨rfl, rfl⟩⟩⟩
  · have d1 : decide ((0 : Int) < (n : Int)) = true := decide_eq_true (by omega)
    have hr := Lib.run_append_nil_zeros (P := Tryd.prog) w 85 3 85 91 i0 (.agg #[.int .i64 0, .int .i64 0]) .i64 .i64 Tryd.underlying85 Tryd.underlying3 hi hz0 n h0 (by omega) (by omega) (by rw [hz2]; omega)
    have hc1 := grownCap_ge w n 0 91
    have hc2 := grownCap_le_maxLen w n 0 91 (by unfold maxLen; omega)
    have HO : Hid (OwQ (w.drew.alloc (.cells (Builtin.zeroCells (Value.agg #[.int .i64 0, .int .i64 0]).cells n ++ Builtin.zeroCells (Value.agg #[.int .i64 0, .int .i64 0]).cells (grownCap w n 0 91 - n)) 91)) w.heap.size (.slice (some ⟨w.heap.size, 0, none⟩) 0 (grownCap w n 0 91)) []) := room_own2 w n _ hc1 hc2
    have HG : Hid (Old w (w.drew.alloc (.cells (Builtin.zeroCells (Value.agg #[.int .i64 0, .int .i64 0]).cells n ++ Builtin.zeroCells (Value.agg #[.int .i64 0, .int .i64 0]).cells (grownCap w n 0 91 - n)) 91))) := Old.alloc (Below.drew (Old.refl w)) _
    generalize grownCap w n 0 91 = c at *
    generalize w.drew.alloc (.cells (Builtin.zeroCells (Value.agg #[.int .i64 0, .int .i64 0]).cells n ++ Builtin.zeroCells (Value.agg #[.int .i64 0, .int .i64 0]).cells (c - n)) 91) = w2 at *
    have HR : Hid ((Builtin.append_ #[85, 3] 85 #[.slice none 0 0, .int .i64 n]).run Tryd.prog w = .ok (.slice (some ⟨w.heap.size, 0, none⟩) n c) w2) := hr
    clear hr
    go_enter Tryd.func160, Tryd.ntmps160
    go_wp2_with (at_builtin; refine Lib.wpList_append_run _ rfl _ _ 85 3 rfl _ _ rfl rfl _ _ HR.out ?_)
    go_ret
    exact ⟨_, rfl, HG.out, HO.out⟩
/-- cells lie at an address -/
def LieV (w : World) (ad : Addr) (cs : List Value) : Prop := ∀ j u, cs[j]? = some u → w.cell? (ad.add j) = some u
theorem LieV.old {w w' : World} {ad : Addr} {cs : List Value} (h : LieV w ad cs) (g : Old w w') : LieV w' ad cs := fun j u hj => by
  have h1 := h j u hj
  rw [g.cell (block_lt_of_cell h1)]
  exact h1
theorem own_slice {w : World} {base : Nat} {T : TypeId} {z : Nat} {v : Value} {n : Nat} {cs : List Value} (h : w.ownsRow base T z v n cs) : ∃ a c, v = .slice a n c := by
  rcases h.2 with ⟨e, e2⟩ | ⟨p, cap, cur, e, _⟩
  · exact ⟨none, 0, by rw [e, e2]⟩
  · exact ⟨_, _, e⟩
set_option maxRecDepth 100000 in
set_option maxHeartbeats 4000000 in
theorem concat_pt (xs ys : List Value) (m1 m2 : Nat) (hm1 : xs.length = m1 * 2) (hm2 : ys.length = m2 * 2) (ox : ∀ u ∈ xs, u.oneCell' = true) (oy : ∀ u ∈ ys, u.oneCell' = true) (g : Nat) (a1 a2 : Addr) (c1 c2 : Nat) (w : World) (h1 : w.cell? ⟨g, 0, none⟩ = some (.slice (some a1) m1 c1)) (h2 : w.cell? ⟨g, 1, none⟩ = some (.slice (some a2) m2 c2))
    (l1 : LieV w a1 xs) (l2 : LieV w a2 ys) (hx : m1 ≤ 50) (hy : m2 ≤ 50) :
    Calls Tryd.prog 122 #[.slice (some ⟨g, 0, none⟩) 2 2] w fun e w' => ∃ v', e = .returned v' ∧ Old w w' ∧ w'.ownsRow w.heap.size 91 2 v' (m1 + m2) (xs ++ ys) := by
  obtain ⟨i0, hi, hz0, hz1, hz2⟩ := info_parts Tryd.infoSlotPt
  have L1 : Hid (LieV w a1 xs) := l1
  have L2 : Hid (LieV w a2 ys) := l2
  have H1 : Hid (w.cell? ⟨g, 0, none⟩ = some (.slice (some a1) m1 c1)) := h1
  have H2 : Hid (w.cell? ⟨g, 1, none⟩ = some (.slice (some a2) m2 c2)) := h2
  have hg : g < w.heap.size := block_lt_of_cell h1
  have HM1 : Hid (xs.length = m1 * 2) := hm1
  have HM2 : Hid (ys.length = m2 * 2) := hm2
  have HX : Hid (∀ u ∈ xs, u.oneCell' = true) := ox
  have HY : Hid (∀ u ∈ ys, u.oneCell' = true) := oy
  clear hm1 hm2 ox oy
  obtain ⟨n, hn⟩ : ∃ n : Nat, n = m1 + m2 := ⟨_, rfl⟩
  have en : (m1 : Int) + (m2 : Int) = (n : Int) := by omega
  have d1 : decide ((m1 : Int) < 0) = false := decide_eq_false (by omega)
  have d2 : decide ((n : Int) < 0) = false := decide_eq_false (by omega)
  have cg := fun W => grow_pt n W (by omega)
  clear l1 l2 hn
  go_enter Tryd.func122, Tryd.ntmps122
  go_wp2_with fail
  refine wp_loop_rounds 3 ?_
  rw [rounds_succ]
  go_wp2_with fail
  rw [rounds_succ]
  go_wp2_with fail
  rw [rounds_succ]
  go_wp2_with fail
  refine (cg _).mono ?_
  rintro e w1 ⟨v1, rfl, g1, o1⟩
  have HG1 : Hid (Old w w1) := g1
  have HO1 : Hid (w1.ownsRow w.heap.size 91 2 v1 0 []) := o1
  obtain ⟨va, vc, rfl⟩ := own_slice o1
  have q1 : w1.cell? ⟨g, 0, none⟩ = some (.slice (some a1) m1 c1) := (g1.cell (p := ⟨g, 0, none⟩) hg).trans H1.out
  have hs1 := g1.size
  clear g1 o1 h1 h2
  go_wp2_with fail
  refine wp_loop_rounds 3 ?_
  rw [rounds_succ]
  go_wp2_with (at_builtin; refine wpList_append_own _ rfl _ _ 85 rfl w.heap.size 91 i0 (.agg #[.int .i64 0, .int .i64 0]) 2 16 Tryd.underlying85 hi hz0 hz1 hz2 rfl (by decide) _ 0 [] rfl HO1.out a1 m1 c1 xs rfl HM1.out (L1.out.old HG1.out) HX.out (by unfold maxLen; omega) (by omega) hs1 ?_; intro v2 w2 o2 g2 x2; have HO2 : Hid (w2.ownsRow w.heap.size 91 2 v2 m1 xs) := (by rw [Nat.zero_add, List.nil_append] at o2; exact o2); have HG2 : Hid (Old w w2) := Below.grown HG1.out g2 hs1 (fun j hj => (HO1.out.lt j hj).1); clear o2 g2 x2)
  obtain ⟨va2, vc2, rfl⟩ := own_slice HO2.out
  have q2 : w2.cell? ⟨g, 1, none⟩ = some (.slice (some a2) m2 c2) := (HG2.out.cell (p := ⟨g, 1, none⟩) hg).trans H2.out
  have hs2 := HG2.out.size
  rw [rounds_succ]
  go_wp2_with (at_builtin; refine wpList_append_own _ rfl _ _ 85 rfl w.heap.size 91 i0 (.agg #[.int .i64 0, .int .i64 0]) 2 16 Tryd.underlying85 hi hz0 hz1 hz2 rfl (by decide) _ m1 xs rfl HO2.out a2 m2 c2 ys rfl HM2.out (L2.out.old HG2.out) HY.out (by unfold maxLen; omega) (by omega) hs2 ?_; intro v3 w3 o3 g3 x3; have HO3 : Hid (w3.ownsRow w.heap.size 91 2 v3 (m1 + m2) (xs ++ ys)) := o3; have HG3 : Hid (Old w w3) := Below.grown HG2.out g3 hs2 (fun j hj => (HO2.out.lt j hj).1); clear o3 g3 x3)
  obtain ⟨va3, vc3, rfl⟩ := own_slice HO3.out
  rw [rounds_succ]
  go_wp2_with fail
  go_ret
  exact ⟨_, rfl, HG3.out, HO3.out⟩
end Go.Proofs.YtpebikjckhcgfaaDoor
/- Proved: both rows of points in one, by the program. -/
namespace Go.Proofs.YtpebikjckhcgfaaDoor
open Go.ChangeShapes Go.WideShapes Go.ChangeAt Go.RowKit
set_option linter.unusedVariables false
set_option linter.unusedSimpArgs false
theorem ptC_len {N : Nat} (h : Sz4 N) : (ptC N).length = N * 2 := by unfold ptC; rw [flat2_len (fun (e : Nat) => .int .i64 e) (fun (e : Nat) => .int .i64 (plN N e)), exL_len h]
theorem ptC_one (N : Nat) : ∀ u ∈ ptC N, u.oneCell' = true := by
  intro u hu
  unfold ptC at hu
  rw [List.mem_flatMap] at hu
  obtain ⟨e, _, h⟩ := hu
  simp at h
  rcases h with rfl | rfl <;> rfl
theorem lie_of {w : World} {g o : Nat} {cs : List Value} (h : ∀ j u, cs[j]? = some u → w.cell? ⟨g, o + j, none⟩ = some u) : LieV w ⟨g, o, none⟩ cs := fun j u hj => by
  have := h j u hj
  by_cases h0 : j = 0
  · subst h0
    simpa [Addr.add] using this
  · simpa [Addr.add, h0] using this
theorem own_low {w : World} {base base' : Nat} {T : TypeId} {z : Nat} {v : Value} {n : Nat} {cs : List Value} (h : w.ownsRow base T z v n cs) (hb : base' ≤ base) : w.ownsRow base' T z v n cs := by
  refine ⟨h.1, ?_⟩
  rcases h.2 with hn | ⟨p, cap, cur, e, hb', rest⟩
  · exact .inl hn
  · exact .inr ⟨p, cap, cur, e, by omega, rest⟩
theorem ownsRow_lt' {w : World} {base : Nat} {T : TypeId} {z : Nat} {p n cap : Nat} {cs : List Value} (h : w.ownsRow base T z (.slice (some ⟨p, 0, none⟩) n cap) n cs) : p < w.heap.size := (h.lt p rfl).2
set_option maxRecDepth 100000 in
set_option maxHeartbeats 2000000 in
theorem inOne_pt (N g base : Nat) (w : World) (h : Sz4 N) (ho : OwP w base g N) :
    Calls Tryd.prog 64 #[.agg #[.slice (some ⟨g, 0, none⟩) (N / 2) N, .slice (some ⟨g, N / 2 * 2, none⟩) (N / 2) (N / 2)]] w fun e w' => ∃ v', e = .returned v' ∧ Old w w' ∧ w'.ownsRow w.heap.size 91 2 v' N (ptC N) := by
  obtain ⟨H, hH⟩ : ∃ H, N / 2 = H := ⟨_, rfl⟩
  have hN : N = H + H := by omega
  have hb := sz_bd h
  have hl := ptC_len h
  have one := ptC_one N
  have hcell : ∀ j, j < N * 2 → w.cell? ⟨g, j, none⟩ = (ptC N)[j]? := fun j hj => World.ownsRow.cellAt ho j (by omega)
  rw [hH]
  have L1 : LieV w ⟨g, 0, none⟩ ((ptC N).take (H * 2)) := lie_of (fun j u hj => by
    rw [List.getElem?_take] at hj
    split at hj
    · rw [Nat.zero_add, hcell j (by omega)]
      exact hj
    · cases hj)
  have L2 : LieV w ⟨g, H * 2, none⟩ ((ptC N).drop (H * 2)) := lie_of (fun j u hj => by
    rw [List.getElem?_drop] at hj
    have : H * 2 + j < (ptC N).length := (List.getElem?_eq_some_iff.1 hj).1
    rw [hcell _ (by omega)]
    exact hj)
  have HC : Hid (∀ b W, Old w W → W.cell? ⟨b, 0, none⟩ = some (.slice (some ⟨g, 0, none⟩) H N) → W.cell? ⟨b, 1, none⟩ = some (.slice (some ⟨g, H * 2, none⟩) H H) → Calls Tryd.prog 122 #[.slice (some ⟨b, 0, none⟩) 2 2] W fun e w' => ∃ v', e = .returned v' ∧ Old W w' ∧ w'.ownsRow W.heap.size 91 2 v' N (ptC N)) := fun b W q c1 c2 => by
    have := concat_pt ((ptC N).take (H * 2)) ((ptC N).drop (H * 2)) H H (by rw [List.length_take]; omega) (by rw [List.length_drop]; omega) (fun u hu => one u (List.mem_of_mem_take hu)) (fun u hu => one u (List.mem_of_mem_drop hu)) b ⟨g, 0, none⟩ ⟨g, H * 2, none⟩ N H W c1 c2 (L1.old q) (L2.old q) (by omega) (by omega)
    rw [List.take_append_drop, ← hN] at this
    exact this
  clear h ho hl one hcell L1 L2 hN hH
  generalize ptC N = cs at *
  have HA : Hid (Old w (w.alloc (.cells #[.slice (some ⟨g, 0, none⟩) H N, .slice (some ⟨g, H * 2, none⟩) H H] 87))) := (Old.refl w).alloc _
  have HA2 : Hid (Old w ((w.alloc (.cells #[.slice (some ⟨g, 0, none⟩) H N, .slice (some ⟨g, H * 2, none⟩) H H] 87)).alloc (.cells #[.slice (some ⟨g, 0, none⟩) H N, .slice (some ⟨g, H * 2, none⟩) H H] 85))) := HA.out.alloc _
  have hsz : (w.alloc (.cells #[.slice (some ⟨g, 0, none⟩) H N, .slice (some ⟨g, H * 2, none⟩) H H] 87)).heap.size = w.heap.size + 1 := by simp
  have c1 : ((w.alloc (.cells #[.slice (some ⟨g, 0, none⟩) H N, .slice (some ⟨g, H * 2, none⟩) H H] 87)).alloc (.cells #[.slice (some ⟨g, 0, none⟩) H N, .slice (some ⟨g, H * 2, none⟩) H H] 85)).cell? ⟨w.heap.size + 1, 0, none⟩ = some (.slice (some ⟨g, 0, none⟩) H N) := (cell_at _ _ _ _ 0 hsz.symm).trans rfl
  have c2 : ((w.alloc (.cells #[.slice (some ⟨g, 0, none⟩) H N, .slice (some ⟨g, H * 2, none⟩) H H] 87)).alloc (.cells #[.slice (some ⟨g, 0, none⟩) H N, .slice (some ⟨g, H * 2, none⟩) H H] 85)).cell? ⟨w.heap.size + 1, 1, none⟩ = some (.slice (some ⟨g, H * 2, none⟩) H H) := (cell_at _ _ _ _ 1 hsz.symm).trans rfl
  have HC1 := HC.out (w.heap.size + 1) _ HA2.out c1 c2
  clear c1 c2 hsz
  go_enter Tryd.func64, Tryd.ntmps64
  go_wp2_with fail
  refine HC1.mono ?_
  rintro e w1 ⟨v1, rfl, g1, o1⟩
  have HG : Hid (Old w w1) := Old.trans HA2.out g1
  have HO : Hid (w1.ownsRow w.heap.size 91 2 v1 N cs) := own_low o1 HA2.out.size
  obtain ⟨a, c, rfl⟩ := own_slice o1
  clear o1 g1 HC1 HC HA HA2
  go_wp2_with fail
  go_ret
  exact ⟨_, rfl, HG.out, HO.out⟩
/-- points that can be read -/
def RdP (w : World) (v : Value) (N : Nat) : Prop := ∃ b cap, v = .slice (some ⟨b, 0, none⟩) N cap ∧ b < w.heap.size ∧ ∀ j, j < N → w.cell? ⟨b, j * 2, none⟩ = some (.int .i64 ((exL N).getD j 0 : Nat)) ∧ w.cell? ⟨b, j * 2 + 1, none⟩ = some (.int .i64 (plN N ((exL N).getD j 0)))
theorem rd_of {w : World} {base N : Nat} {v : Value} (h : Sz4 N) (ho : w.ownsRow base 91 2 v N (ptC N)) : RdP w v N := by
  have hb := sz_bd h
  have hl := exL_len h
  rcases ho.2 with ⟨e, e2⟩ | ⟨p, cap, cur, e, _⟩
  · omega
  · subst e
    have hc := ptC_len h
    refine ⟨p, cap, rfl, ownsRow_lt' ho, fun j hj => ?_⟩
    have hf := flat2 (fun (e : Nat) => .int .i64 e) (fun (e : Nat) => .int .i64 (plN N e)) (exL N) j (by omega)
    exact ⟨(World.ownsRow.cellAt ho (j * 2) (by omega)).trans hf.1, (World.ownsRow.cellAt ho (j * 2 + 1) (by omega)).trans hf.2⟩
end Go.Proofs.YtpebikjckhcgfaaDoor
/- Proved: the contracts of the program's eachSlot with each of its functions, of SlotPoints, and of the search among the points. -/
namespace Go.Proofs.YtpebikjckhcgfaaDoor
open Go.ChangeShapes Go.WideShapes Go.ChangeAt Go.RowKit
set_option linter.unusedVariables false
set_option linter.unusedSimpArgs false
theorem own_ltI {w : World} {base g n : Nat} {xs : List Int} (h : OwnI w base g n xs) : g < w.heap.size := (h.lt g rfl).2
set_option maxRecDepth 100000 in
set_option maxHeartbeats 4000000 in
theorem eachSlot_exp (N : Nat) (zs : List Int) (w : World) (h : Sz4 N) (hT : TabW w) (hzl : zs.length = N)
    (cf : ∀ j, j < N → ∀ W, Old w W → Calls Tryd.prog 86 #[.agg #[.int .i64 ((exL N).getD j 0 : Nat), .int .i64 (plN N ((exL N).getD j 0))]] W fun e w' => e = .returned (.int .i64 (zs.getD j 0)) ∧ Old W w') :
    Calls Tryd.prog 71 #[.int .i64 N, .func (.func 86) #[] #[]] w fun e w' => ∃ v', e = .returned v' ∧ Old w w' ∧ Own w' w.heap.size v' zs := by
  obtain ⟨i0, hi, hz0, hz1, hz2⟩ := info_parts Tryd.infoInt
  have hb := sz_bd h
  have c1 := fun W hT => slotPointsOf_any N W h hT
  have c2 := fun g base W ho => inOne_pt N g base W h ho
  obtain ⟨H, hH⟩ : ∃ H, N / 2 = H := ⟨_, rfl⟩
  rw [hH] at c1 c2
  have HRD : Hid (∀ w base v, w.ownsRow base 91 2 v N (ptC N) → RdP w v N) := fun w base v ho => rd_of h ho
  have C1 : Hid (∀ W, TabW W → Calls Tryd.prog 63 #[.int .i64 N] W fun en w' => ∃ g, W.heap.size ≤ g ∧ en = .returned (.agg #[.slice (some ⟨g, 0, none⟩) H N, .slice (some ⟨g, H * 2, none⟩) H H]) ∧ Old W w' ∧ OwP w' W.heap.size g N) := c1
  have C2 : Hid (∀ g base W, OwP W base g N → Calls Tryd.prog 64 #[.agg #[.slice (some ⟨g, 0, none⟩) H N, .slice (some ⟨g, H * 2, none⟩) H H]] W fun e w' => ∃ v', e = .returned v' ∧ Old W w' ∧ w'.ownsRow W.heap.size 91 2 v' N (ptC N)) := c2
  have CFH : Hid (∀ j, j < N → ∀ W, Old w W → Calls Tryd.prog 86 #[.agg #[.int .i64 ((exL N).getD j 0 : Nat), .int .i64 (plN N ((exL N).getD j 0))]] W fun e w' => e = .returned (.int .i64 (zs.getD j 0)) ∧ Old W w') := cf
  have HT : Hid (TabW w) := hT
  have HZL : Hid (zs.length = N) := hzl
  clear h hT hH c1 c2 cf hzl
  go_enter Tryd.func71, Tryd.ntmps71
  go_wp2_with (at_make; refine wpList_make_full _ rfl _ _ 23 rfl w.heap.size 3 i0 (.int .i64 0) 1 Tryd.underlying23 hi hz0 hz1 .i64 .i64 _ _ N rfl rfl rfl rfl (by rw [hz2]; omega) (by unfold maxLen; omega) (Nat.le_refl _) ?_; intro w1 hown hgrow)
  have HO : Hid (OwnI w1 w.heap.size w.heap.size N (fillN zs 0)) := by
    have h5 := OwnI.new w w1 N hown
    show OwnI _ _ _ _ _
    rw [fillN_zero zs, HZL.out]
    exact h5
  have HG1 : Hid (Old w w1) := Below.grown (Below.refl _ _) hgrow (Nat.le_refl _) (fun _ h => by cases h)
  clear hown hgrow
  go_wp2_with fail
  refine (C1.out _ (HT.out.old HG1.out)).mono ?_
  rintro e w2 ⟨g, hg, rfl, g2, o2⟩
  have HP2 : Hid (OwP w2 w1.heap.size g N) := o2
  have HO2 : Hid (OwnI w2 w.heap.size w.heap.size N (fillN zs 0)) := HO.out.old g2
  have HG2 : Hid (Old w w2) := Old.trans HG1.out g2
  clear o2 g2 HO HG1
  go_wp2_with fail
  refine (C2.out _ _ _ HP2.out).mono ?_
  rintro e w3 ⟨v3, rfl, g3, o3⟩
  obtain ⟨b3, cap3, rfl, hb3, hc3⟩ := HRD.out _ _ _ o3
  have HO3 : Hid (OwnI w3 w.heap.size w.heap.size N (fillN zs 0)) := HO2.out.old g3
  have HG3 : Hid (Old w w3) := Old.trans HG2.out g3
  have HC3 : Hid (∀ j, j < N → w3.cell? ⟨b3, j * 2, none⟩ = some (.int .i64 ((exL N).getD j 0 : Nat)) ∧ w3.cell? ⟨b3, j * 2 + 1, none⟩ = some (.int .i64 (plN N ((exL N).getD j 0)))) := hc3
  have hs3 : w2.heap.size ≤ b3 := (o3.lt b3 rfl).1
  have hw2 : w.heap.size < w2.heap.size := own_ltI HO2.out
  clear o3 g3 hc3 HO2 HG2 HP2 C1 C2 HRD
  go_wp2_with fail
  go_loopw [14] (fun i W => ∃ k : Nat, k ≤ N ∧ i = .int .i64 k ∧ Hid (OwnI W w.heap.size w.heap.size N (fillN zs k)) ∧ Hid (Old w W) ∧ Hid (∀ j, j < N → W.cell? ⟨b3, j * 2, none⟩ = some (.int .i64 ((exL N).getD j 0 : Nat)) ∧ W.cell? ⟨b3, j * 2 + 1, none⟩ = some (.int .i64 (plN N ((exL N).getD j 0)))) ∧ b3 < W.heap.size) (fun i _ => N - (intOf i).toNat)
  case atStart => exact ⟨0, by omega, rfl, HO3, HG3, HC3, hb3⟩
  case round =>
    obtain ⟨k, hk, rfl, HO, HG, HC, hbr⟩ := hrel
    clear HO3 HG3 HC3 hb3
    by_cases hlt : k < N
    · have d1 : decide ((k : Int) < (N : Int)) = true := by simp; omega
      have ki : (k : Int) < (N : Int) := by omega
      obtain ⟨x0, x1⟩ := HC.out k hlt
      have cf := CFH.out k hlt
      have HST : Hid ((fillN zs k).set k (zs.getD k 0) = fillN zs (k + 1)) := fillN_set zs k (by rw [HZL.out]; exact hlt)
      have HFL : Hid ((fillN zs k).length = N) := by
        show _ = _
        rw [fillN_len zs k (by rw [HZL.out]; omega)]
        exact HZL.out
      generalize plN N ((exL N).getD k 0) = y at *
      generalize (exL N).getD k 0 = x at *
      have HA : Hid (Old w (wr.alloc (.cells #[.int .i64 x, .int .i64 y] 91))) := HG.out.alloc _
      have q0 : (wr.alloc (.cells #[.int .i64 x, .int .i64 y] 91)).cell? ⟨wr.heap.size, 0, none⟩ = some (.int .i64 x) := (cell_at _ _ _ _ 0 rfl).trans rfl
      have q1 : (wr.alloc (.cells #[.int .i64 x, .int .i64 y] 91)).cell? ⟨wr.heap.size, 1, none⟩ = some (.int .i64 y) := (cell_at _ _ _ _ 1 rfl).trans rfl
      have HFR : Hid (∀ W, Old (wr.alloc (.cells #[.int .i64 x, .int .i64 y] 91)) W → OwnI W w.heap.size w.heap.size N (fillN zs k) ∧ b3 < W.heap.size ∧ ∀ j, j < N → W.cell? ⟨b3, j * 2, none⟩ = some (.int .i64 ((exL N).getD j 0 : Nat)) ∧ W.cell? ⟨b3, j * 2 + 1, none⟩ = some (.int .i64 (plN N ((exL N).getD j 0)))) := fun W q => by
        have q' := Old.trans ((Old.refl wr).alloc _) q
        exact ⟨HO.out.old q', Nat.lt_of_lt_of_le hbr q'.size, fun j hj => ⟨(q'.cell (p := ⟨b3, j * 2, none⟩) hbr).trans (HC.out j hj).1, (q'.cell (p := ⟨b3, j * 2 + 1, none⟩) hbr).trans (HC.out j hj).2⟩⟩
      clear HO HC HG
      go_wp2_with fail
      refine (cf _ HA.out).mono ?_
      rintro e w5 ⟨rfl, g5⟩
      obtain ⟨o5, b5, c5⟩ := HFR.out w5 g5
      have z0 := o5.get HFL.out k hlt
      have f0 := o5.free k
      have O6 : Hid (OwnI (w5.setCell ⟨w.heap.size, k, none⟩ (.int .i64 (zs.getD k 0))) w.heap.size w.heap.size N (fillN zs (k + 1))) := by
        have h6 := o5.put k (zs.getD k 0)
        show OwnI _ _ _ _ _
        rw [← HST.out]
        exact h6
      have G6 : Hid (Old w (w5.setCell ⟨w.heap.size, k, none⟩ (.int .i64 (zs.getD k 0)))) := (Old.trans HA.out g5).own (p := ⟨w.heap.size, k, none⟩) (Nat.le_refl _) _
      have C6 : Hid (∀ j, j < N → (w5.setCell ⟨w.heap.size, k, none⟩ (.int .i64 (zs.getD k 0))).cell? ⟨b3, j * 2, none⟩ = some (.int .i64 ((exL N).getD j 0 : Nat)) ∧ (w5.setCell ⟨w.heap.size, k, none⟩ (.int .i64 (zs.getD k 0))).cell? ⟨b3, j * 2 + 1, none⟩ = some (.int .i64 (plN N ((exL N).getD j 0)))) := fun j hj => by
        have hne : b3 ≠ w.heap.size := by omega
        rw [cellOS _ _ _ _ hne, cellOS _ _ _ _ hne]
        exact c5 j hj
      have B6 : b3 < (w5.setCell ⟨w.heap.size, k, none⟩ (.int .i64 (zs.getD k 0))).heap.size := by simpa using b5
      generalize zs.getD k 0 = zk at *
      clear o5 c5 g5 HFR q0 q1 x0 x1 cf HA HST
      go_wp2_with fail
      exact ⟨⟨k + 1, by omega, by go_num, O6, G6, C6, B6⟩, by simp [intOf]; omega⟩
    · have d1 : decide ((k : Int) < (N : Int)) = false := by simp; omega
      obtain rfl : k = N := by omega
      have HF : Hid (Own wr w.heap.size (.slice (some ⟨w.heap.size, 0, none⟩) k k) zs) := by
        have h6 := HO.out.own (by rw [fillN_len zs k (by rw [HZL.out]; omega)]; exact HZL.out)
        rw [show fillN zs k = zs from by rw [← HZL.out]; exact fillN_all zs] at h6
        exact h6
      go_wp2_with fail
      go_ret
      exact ⟨_, rfl, HG.out, HF.out⟩
set_option maxRecDepth 100000 in
set_option maxHeartbeats 4000000 in
theorem eachSlot_dec (vb : Nat) (N : Nat) (zs : List Int) (w : World) (h : Sz4 N) (hT : TabW w) (hzl : zs.length = N)
    (cf : ∀ j, j < N → ∀ W, Old w W → Calls Tryd.prog 72 #[.agg #[.int .i64 ((exL N).getD j 0 : Nat), .int .i64 (plN N ((exL N).getD j 0))], .pointer (some ⟨vb, 0, none⟩)] W fun e w' => e = .returned (.int .i64 (zs.getD j 0)) ∧ Old W w') :
    Calls Tryd.prog 71 #[.int .i64 N, .func (.func 72) #[] #[.pointer (some ⟨vb, 0, none⟩)]] w fun e w' => ∃ v', e = .returned v' ∧ Old w w' ∧ Own w' w.heap.size v' zs := by
  obtain ⟨i0, hi, hz0, hz1, hz2⟩ := info_parts Tryd.infoInt
  have hb := sz_bd h
  have c1 := fun W hT => slotPointsOf_any N W h hT
  have c2 := fun g base W ho => inOne_pt N g base W h ho
  obtain ⟨H, hH⟩ : ∃ H, N / 2 = H := ⟨_, rfl⟩
  rw [hH] at c1 c2
  have HRD : Hid (∀ w base v, w.ownsRow base 91 2 v N (ptC N) → RdP w v N) := fun w base v ho => rd_of h ho
  have C1 : Hid (∀ W, TabW W → Calls Tryd.prog 63 #[.int .i64 N] W fun en w' => ∃ g, W.heap.size ≤ g ∧ en = .returned (.agg #[.slice (some ⟨g, 0, none⟩) H N, .slice (some ⟨g, H * 2, none⟩) H H]) ∧ Old W w' ∧ OwP w' W.heap.size g N) := c1
  have C2 : Hid (∀ g base W, OwP W base g N → Calls Tryd.prog 64 #[.agg #[.slice (some ⟨g, 0, none⟩) H N, .slice (some ⟨g, H * 2, none⟩) H H]] W fun e w' => ∃ v', e = .returned v' ∧ Old W w' ∧ w'.ownsRow W.heap.size 91 2 v' N (ptC N)) := c2
  have CFH : Hid (∀ j, j < N → ∀ W, Old w W → Calls Tryd.prog 72 #[.agg #[.int .i64 ((exL N).getD j 0 : Nat), .int .i64 (plN N ((exL N).getD j 0))], .pointer (some ⟨vb, 0, none⟩)] W fun e w' => e = .returned (.int .i64 (zs.getD j 0)) ∧ Old W w') := cf
  have HT : Hid (TabW w) := hT
  have HZL : Hid (zs.length = N) := hzl
  clear h hT hH c1 c2 cf hzl
  go_enter Tryd.func71, Tryd.ntmps71
  go_wp2_with (at_make; refine wpList_make_full _ rfl _ _ 23 rfl w.heap.size 3 i0 (.int .i64 0) 1 Tryd.underlying23 hi hz0 hz1 .i64 .i64 _ _ N rfl rfl rfl rfl (by rw [hz2]; omega) (by unfold maxLen; omega) (Nat.le_refl _) ?_; intro w1 hown hgrow)
  have HO : Hid (OwnI w1 w.heap.size w.heap.size N (fillN zs 0)) := by
    have h5 := OwnI.new w w1 N hown
    show OwnI _ _ _ _ _
    rw [fillN_zero zs, HZL.out]
    exact h5
  have HG1 : Hid (Old w w1) := Below.grown (Below.refl _ _) hgrow (Nat.le_refl _) (fun _ h => by cases h)
  clear hown hgrow
  go_wp2_with fail
  refine (C1.out _ (HT.out.old HG1.out)).mono ?_
  rintro e w2 ⟨g, hg, rfl, g2, o2⟩
  have HP2 : Hid (OwP w2 w1.heap.size g N) := o2
  have HO2 : Hid (OwnI w2 w.heap.size w.heap.size N (fillN zs 0)) := HO.out.old g2
  have HG2 : Hid (Old w w2) := Old.trans HG1.out g2
  clear o2 g2 HO HG1
  go_wp2_with fail
  refine (C2.out _ _ _ HP2.out).mono ?_
  rintro e w3 ⟨v3, rfl, g3, o3⟩
  obtain ⟨b3, cap3, rfl, hb3, hc3⟩ := HRD.out _ _ _ o3
  have HO3 : Hid (OwnI w3 w.heap.size w.heap.size N (fillN zs 0)) := HO2.out.old g3
  have HG3 : Hid (Old w w3) := Old.trans HG2.out g3
  have HC3 : Hid (∀ j, j < N → w3.cell? ⟨b3, j * 2, none⟩ = some (.int .i64 ((exL N).getD j 0 : Nat)) ∧ w3.cell? ⟨b3, j * 2 + 1, none⟩ = some (.int .i64 (plN N ((exL N).getD j 0)))) := hc3
  have hs3 : w2.heap.size ≤ b3 := (o3.lt b3 rfl).1
  have hw2 : w.heap.size < w2.heap.size := own_ltI HO2.out
  clear o3 g3 hc3 HO2 HG2 HP2 C1 C2 HRD
  go_wp2_with fail
  go_loopw [14] (fun i W => ∃ k : Nat, k ≤ N ∧ i = .int .i64 k ∧ Hid (OwnI W w.heap.size w.heap.size N (fillN zs k)) ∧ Hid (Old w W) ∧ Hid (∀ j, j < N → W.cell? ⟨b3, j * 2, none⟩ = some (.int .i64 ((exL N).getD j 0 : Nat)) ∧ W.cell? ⟨b3, j * 2 + 1, none⟩ = some (.int .i64 (plN N ((exL N).getD j 0)))) ∧ b3 < W.heap.size) (fun i _ => N - (intOf i).toNat)
  case atStart => exact ⟨0, by omega, rfl, HO3, HG3, HC3, hb3⟩
  case round =>
    obtain ⟨k, hk, rfl, HO, HG, HC, hbr⟩ := hrel
    clear HO3 HG3 HC3 hb3
    by_cases hlt : k < N
    · have d1 : decide ((k : Int) < (N : Int)) = true := by simp; omega
      have ki : (k : Int) < (N : Int) := by omega
      obtain ⟨x0, x1⟩ := HC.out k hlt
      have cf := CFH.out k hlt
      have HST : Hid ((fillN zs k).set k (zs.getD k 0) = fillN zs (k + 1)) := fillN_set zs k (by rw [HZL.out]; exact hlt)
      have HFL : Hid ((fillN zs k).length = N) := by
        show _ = _
        rw [fillN_len zs k (by rw [HZL.out]; omega)]
        exact HZL.out
      generalize plN N ((exL N).getD k 0) = y at *
      generalize (exL N).getD k 0 = x at *
      have HA : Hid (Old w (wr.alloc (.cells #[.int .i64 x, .int .i64 y] 91))) := HG.out.alloc _
      have q0 : (wr.alloc (.cells #[.int .i64 x, .int .i64 y] 91)).cell? ⟨wr.heap.size, 0, none⟩ = some (.int .i64 x) := (cell_at _ _ _ _ 0 rfl).trans rfl
      have q1 : (wr.alloc (.cells #[.int .i64 x, .int .i64 y] 91)).cell? ⟨wr.heap.size, 1, none⟩ = some (.int .i64 y) := (cell_at _ _ _ _ 1 rfl).trans rfl
      have HFR : Hid (∀ W, Old (wr.alloc (.cells #[.int .i64 x, .int .i64 y] 91)) W → OwnI W w.heap.size w.heap.size N (fillN zs k) ∧ b3 < W.heap.size ∧ ∀ j, j < N → W.cell? ⟨b3, j * 2, none⟩ = some (.int .i64 ((exL N).getD j 0 : Nat)) ∧ W.cell? ⟨b3, j * 2 + 1, none⟩ = some (.int .i64 (plN N ((exL N).getD j 0)))) := fun W q => by
        have q' := Old.trans ((Old.refl wr).alloc _) q
        exact ⟨HO.out.old q', Nat.lt_of_lt_of_le hbr q'.size, fun j hj => ⟨(q'.cell (p := ⟨b3, j * 2, none⟩) hbr).trans (HC.out j hj).1, (q'.cell (p := ⟨b3, j * 2 + 1, none⟩) hbr).trans (HC.out j hj).2⟩⟩
      clear HO HC HG
      go_wp2_with fail
      refine (cf _ HA.out).mono ?_
      rintro e w5 ⟨rfl, g5⟩
      obtain ⟨o5, b5, c5⟩ := HFR.out w5 g5
      have z0 := o5.get HFL.out k hlt
      have f0 := o5.free k
      have O6 : Hid (OwnI (w5.setCell ⟨w.heap.size, k, none⟩ (.int .i64 (zs.getD k 0))) w.heap.size w.heap.size N (fillN zs (k + 1))) := by
        have h6 := o5.put k (zs.getD k 0)
        show OwnI _ _ _ _ _
        rw [← HST.out]
        exact h6
      have G6 : Hid (Old w (w5.setCell ⟨w.heap.size, k, none⟩ (.int .i64 (zs.getD k 0)))) := (Old.trans HA.out g5).own (p := ⟨w.heap.size, k, none⟩) (Nat.le_refl _) _
      have C6 : Hid (∀ j, j < N → (w5.setCell ⟨w.heap.size, k, none⟩ (.int .i64 (zs.getD k 0))).cell? ⟨b3, j * 2, none⟩ = some (.int .i64 ((exL N).getD j 0 : Nat)) ∧ (w5.setCell ⟨w.heap.size, k, none⟩ (.int .i64 (zs.getD k 0))).cell? ⟨b3, j * 2 + 1, none⟩ = some (.int .i64 (plN N ((exL N).getD j 0)))) := fun j hj => by
        have hne : b3 ≠ w.heap.size := by omega
        rw [cellOS _ _ _ _ hne, cellOS _ _ _ _ hne]
        exact c5 j hj
      have B6 : b3 < (w5.setCell ⟨w.heap.size, k, none⟩ (.int .i64 (zs.getD k 0))).heap.size := by simpa using b5
      generalize zs.getD k 0 = zk at *
      clear o5 c5 g5 HFR q0 q1 x0 x1 cf HA HST
      go_wp2_with fail
      exact ⟨⟨k + 1, by omega, by go_num, O6, G6, C6, B6⟩, by simp [intOf]; omega⟩
    · have d1 : decide ((k : Int) < (N : Int)) = false := by simp; omega
      obtain rfl : k = N := by omega
      have HF : Hid (Own wr w.heap.size (.slice (some ⟨w.heap.size, 0, none⟩) k k) zs) := by
        have h6 := HO.out.own (by rw [fillN_len zs k (by rw [HZL.out]; omega)]; exact HZL.out)
        rw [show fillN zs k = zs from by rw [← HZL.out]; exact fillN_all zs] at h6
        exact h6
      go_wp2_with fail
      go_ret
      exact ⟨_, rfl, HG.out, HF.out⟩
end Go.Proofs.YtpebikjckhcgfaaDoor
/- Proved: contracts of the program's SlotPoints and DecodeSlots. -/
namespace Go.Proofs.YtpebikjckhcgfaaDoor
open Go.ChangeShapes Go.WideShapes Go.ChangeAt Go.RowKit
set_option linter.unusedVariables false
set_option linter.unusedSimpArgs false
set_option maxRecDepth 100000 in
set_option maxHeartbeats 4000000 in
theorem sp1_any (x y : Nat) (w : World) : Calls Tryd.prog 86 #[.agg #[.int .i64 x, .int .i64 y]] w fun e w' => e = .returned (.int .i64 x) ∧ Old w w' := by
  go_enter Tryd.func86, Tryd.ntmps86
  go_wp2_with fail
  go_ret
  exact ⟨rfl, (Old.refl _).alloc _⟩
set_option maxRecDepth 100000 in
set_option maxHeartbeats 4000000 in
theorem dec1_any (x y vb N : Nat) (fs : List Nat) (a : Addr) (cap : Nat) (w : World) (hc : w.cell? ⟨vb, 0, none⟩ = some (.slice (some ⟨a.block, a.off, none⟩) N cap)) (hy : y < N) (hf : w.cell? ⟨a.block, a.off + y, none⟩ = some (.int .i64 (fs.getD y 0 : Nat))) :
    Calls Tryd.prog 72 #[.agg #[.int .i64 x, .int .i64 y], .pointer (some ⟨vb, 0, none⟩)] w fun e w' => e = .returned (.int .i64 (fs.getD y 0 : Nat)) ∧ Old w w' := by
  obtain ⟨ab, ao, asp⟩ := a
  have hb := block_lt_of_cell hc
  have hb2 := block_lt_of_cell hf
  have g : Old w (w.alloc (.cells #[.int .i64 x, .int .i64 y] 91)) := (Old.refl w).alloc _
  have q0 := (g.cell (p := ⟨vb, 0, none⟩) hb).trans hc
  have q1 := (g.cell (p := ⟨ab, ao + y, none⟩) hb2).trans hf
  have yi : (y : Int) < (N : Int) := by omega
  generalize fs.getD y 0 = z at *
  clear hc hf hb hb2 g
  go_enter Tryd.func72, Tryd.ntmps72
  go_wp2_with fail
  go_ret
  exact ⟨rfl, (Old.refl _).alloc _⟩
set_option maxRecDepth 100000 in
set_option maxHeartbeats 4000000 in
theorem impl_SlotPoints_no (n : Int) (w : World) (h : rgB n = false) :
    Calls Tryd.prog 27 #[.int .i64 n] w fun e w' => e = .returned (.tuple #[.slice none 0 0, .bool false]) ∧ Old w w' := by
  have c0 := fun W => impl_isSize n W
  rw [h] at c0
  clear h
  go_enter Tryd.func27, Tryd.ntmps27
  go_wp2_with fail
  refine (c0 _).mono ?_
  rintro e w1 ⟨rfl, hw⟩
  obtain rfl := hw.symm
  go_wp2_with fail
  go_ret2
  exact ⟨rfl, Old.refl _⟩
set_option maxRecDepth 100000 in
set_option maxHeartbeats 4000000 in
theorem impl_SlotPoints_yes (N : Nat) (w : World) (h : Sz4 N) (hT : TabW w) :
    Calls Tryd.prog 27 #[.int .i64 N] w fun e w' => ∃ v', e = .returned (.tuple #[v', .bool true]) ∧ Old w w' ∧ Own w' w.heap.size v' (toZ (exL N)) := by
  have c0 := fun W => impl_isSize N W
  rw [rgB_mk (by omega)] at c0
  have c2 := eachSlot_exp N (toZ (exL N)) w h hT (by rw [toZ_len, exL_len h]) (fun j hj W q => by rw [toZ_get]; exact sp1_any _ _ W)
  have hl := exL_len h
  generalize exL N = xs at *
  clear h
  go_enter Tryd.func27, Tryd.ntmps27
  go_wp2_with fail
  refine (c0 _).mono ?_
  rintro e w1 ⟨rfl, hw⟩
  obtain rfl := hw.symm
  go_wp2_with fail
  refine c2.mono ?_
  rintro e w1 ⟨v1, rfl, g1, o1⟩
  have HG : Hid (Old w w1) := g1
  have HO : Hid (Own w1 w.heap.size v1 (toZ xs)) := o1
  obtain ⟨a, c, e⟩ : ∃ a c, v1 = .slice a xs.length c := by
    obtain ⟨a, c, e⟩ := (Own.row o1).slice
    rw [toZ_len] at e
    exact ⟨a, c, e⟩
  subst e
  clear o1 g1 c2 hl
  go_wp2_with fail
  go_ret2
  exact ⟨_, rfl, HG.out, HO.out⟩
set_option maxRecDepth 100000 in
set_option maxHeartbeats 4000000 in
theorem impl_DecodeSlots_no1 (n p : Int) (v : Value) (xs : List Int) (w : World) (hv : Row w v xs) (hP : PrsW w) (hT : TabW w) (cr : ∀ W, PrsW W → TabW W → Calls Tryd.prog 61 #[.int .i64 p, .int .i64 n] W fun e w' => e = .returned (.tuple #[.agg ring0, .bool false]) ∧ Old W w') :
    Calls Tryd.prog 18 #[.int .i64 n, .int .i64 p, v] w fun e w' => e = .returned (.tuple #[.slice none 0 0, .bool false]) ∧ Old w w' := by
  have CR := cr w hP hT
  obtain ⟨a, c, rfl⟩ := hv.slice
  clear hv hP hT cr
  go_enter Tryd.func18, Tryd.ntmps18
  go_wp2_with fail
  refine CR.mono ?_
  rintro e w1 ⟨rfl, g1⟩
  go_wp2_with fail
  go_ret2
  exact ⟨rfl, g1.alloc _⟩
set_option maxRecDepth 100000 in
set_option maxHeartbeats 4000000 in
theorem impl_DecodeSlots_no2 (n p x y z : Int) (v : Value) (xs : List Int) (w : World) (hv : Row w v xs) (hP : PrsW w) (hT : TabW w) (cr : ∀ W, PrsW W → TabW W → Calls Tryd.prog 61 #[.int .i64 p, .int .i64 n] W fun e w' => e = .returned (.tuple #[.agg #[.int .i64 x, .int .i64 y, .int .i64 z], .bool true]) ∧ Old W w')
    (cp : ∀ W, Old w W → Calls Tryd.prog 62 #[.agg #[.int .i64 x, .int .i64 y, .int .i64 z], v] W fun e w' => e = .returned (.bool false) ∧ Old W w') :
    Calls Tryd.prog 18 #[.int .i64 n, .int .i64 p, v] w fun e w' => e = .returned (.tuple #[.slice none 0 0, .bool false]) ∧ Old w w' := by
  have CR := cr w hP hT
  obtain ⟨a, c, rfl⟩ := hv.slice
  clear hv hP hT cr
  go_enter Tryd.func18, Tryd.ntmps18
  go_wp2_with fail
  refine CR.mono ?_
  rintro e w1 ⟨rfl, g1⟩
  have HG : Hid (Old w (w1.alloc (.cells #[.int .i64 x, .int .i64 y, .int .i64 z] 30))) := g1.alloc _
  have q0 : (w1.alloc (.cells #[.int .i64 x, .int .i64 y, .int .i64 z] 30)).cell? ⟨w1.heap.size, 0, none⟩ = some (.int .i64 x) := (cell_at _ _ _ _ 0 rfl).trans rfl
  have q1 : (w1.alloc (.cells #[.int .i64 x, .int .i64 y, .int .i64 z] 30)).cell? ⟨w1.heap.size, 1, none⟩ = some (.int .i64 y) := (cell_at _ _ _ _ 1 rfl).trans rfl
  have q2 : (w1.alloc (.cells #[.int .i64 x, .int .i64 y, .int .i64 z] 30)).cell? ⟨w1.heap.size, 2, none⟩ = some (.int .i64 z) := (cell_at _ _ _ _ 2 rfl).trans rfl
  have CP := cp _ HG.out
  clear g1 cp CR
  go_wp2_with fail
  refine CP.mono ?_
  rintro e w2 ⟨rfl, g2⟩
  have HG2 : Hid (Old w w2) := Old.trans HG.out g2
  clear g2 CP q0 q1 q2 HG
  go_wp2_with fail
  go_ret2
  exact ⟨rfl, HG2.out⟩
set_option maxRecDepth 100000 in
set_option maxHeartbeats 4000000 in
theorem impl_DecodeSlots_yes (N P R : Nat) (v : Value) (xs : List Int) (fs : List Nat) (w : World) (h : Sz4 N) (hv : Row w v xs) (hl : fs.length = N) (hP : PrsW w) (hT : TabW w)
    (cr : ∀ W, PrsW W → TabW W → Calls Tryd.prog 61 #[.int .i64 P, .int .i64 N] W fun e w' => e = .returned (.tuple #[.agg #[.int .i64 P, .int .i64 N, .int .i64 R], .bool true]) ∧ Old W w')
    (cp : ∀ W, Old w W → Calls Tryd.prog 62 #[.agg #[.int .i64 P, .int .i64 N, .int .i64 R], v] W fun e w' => e = .returned (.bool true) ∧ Old W w')
    (cf : ∀ W, Old w W → Calls Tryd.prog 70 #[.agg #[.int .i64 P, .int .i64 N, .int .i64 R], v] W fun e w' => ∃ v', e = .returned v' ∧ Old W w' ∧ Own w' W.heap.size v' (toZ fs)) :
    Calls Tryd.prog 18 #[.int .i64 N, .int .i64 P, v] w fun e w' => ∃ v', e = .returned (.tuple #[v', .bool true]) ∧ Old w w' ∧ Own w' w.heap.size v' (toZ ((plL N).map fun k => fs.getD k 0)) := by
  have hb := sz_bd h
  have HZ : Hid (∀ (W W0 : World) (a : Addr) (cap vb : Nat), Old w W0 → Old W0 W → TabW W → W0.cell? ⟨vb, 0, none⟩ = some (.slice (some ⟨a.block, a.off, none⟩) N cap) → (∀ y, y < N → W0.cell? ⟨a.block, a.off + y, none⟩ = some (.int .i64 (fs.getD y 0 : Nat))) → Calls Tryd.prog 71 #[.int .i64 N, .func (.func 72) #[] #[.pointer (some ⟨vb, 0, none⟩)]] W fun e w' => ∃ v', e = .returned v' ∧ Old W w' ∧ Own w' W.heap.size v' (toZ ((plL N).map fun k => fs.getD k 0))) := fun W W0 a cap vb q0 q hT hc hf => by
    refine eachSlot_dec vb N _ W h hT (by rw [toZ_len, List.length_map, plL_len h]) (fun j hj W2 q2 => ?_)
    have e1 : (toZ ((plL N).map fun k => fs.getD k 0)).getD j 0 = ((fs.getD (plN N ((exL N).getD j 0)) 0 : Nat) : Int) := by
      rw [toZ_get]
      have hj2 : j < (exL N).length := by rw [exL_len h]; exact hj
      simp [plL, List.getD, hj2, plN]
    rw [e1]
    have q3 := Old.trans q q2
    have hy : plN N ((exL N).getD j 0) < N := back_lt0 h _
    exact dec1_any _ _ vb N fs a cap W2 ((q3.cell (p := ⟨vb, 0, none⟩) (block_lt_of_cell hc)).trans hc) hy ((q3.cell (p := ⟨a.block, a.off + plN N ((exL N).getD j 0), none⟩) (block_lt_of_cell (hf _ hy))).trans (hf _ hy))
  have CR := cr w hP hT
  have HP : Hid (PrsW w) := hP
  have HT : Hid (TabW w) := hT
  have HFL : Hid (fs.length = N) := hl
  have hgl : ((plL N).map fun k => fs.getD k 0).length = N := by rw [List.length_map, plL_len h]
  generalize ((plL N).map fun k => fs.getD k 0) = zs at *
  obtain ⟨a, c, e⟩ := hv.slice
  subst e
  clear hv hP hT cr h hl
  go_enter Tryd.func18, Tryd.ntmps18
  go_wp2_with fail
  refine CR.mono ?_
  rintro e w1 ⟨rfl, g1⟩
  have HG : Hid (Old w (w1.alloc (.cells #[.int .i64 P, .int .i64 N, .int .i64 R] 30))) := g1.alloc _
  have q0 : (w1.alloc (.cells #[.int .i64 P, .int .i64 N, .int .i64 R] 30)).cell? ⟨w1.heap.size, 0, none⟩ = some (.int .i64 P) := (cell_at _ _ _ _ 0 rfl).trans rfl
  have q1 : (w1.alloc (.cells #[.int .i64 P, .int .i64 N, .int .i64 R] 30)).cell? ⟨w1.heap.size, 1, none⟩ = some (.int .i64 N) := (cell_at _ _ _ _ 1 rfl).trans rfl
  have q2 : (w1.alloc (.cells #[.int .i64 P, .int .i64 N, .int .i64 R] 30)).cell? ⟨w1.heap.size, 2, none⟩ = some (.int .i64 R) := (cell_at _ _ _ _ 2 rfl).trans rfl
  have CP := cp _ HG.out
  clear g1 cp CR
  go_wp2_with fail
  refine CP.mono ?_
  rintro e w2 ⟨rfl, g2⟩
  have HG2 : Hid (Old w w2) := Old.trans HG.out g2
  have r0 : w2.cell? ⟨w1.heap.size, 0, none⟩ = some (.int .i64 P) := (g2.cell (p := ⟨w1.heap.size, 0, none⟩) (by simp)).trans q0
  have r1 : w2.cell? ⟨w1.heap.size, 1, none⟩ = some (.int .i64 N) := (g2.cell (p := ⟨w1.heap.size, 1, none⟩) (by simp)).trans q1
  have r2 : w2.cell? ⟨w1.heap.size, 2, none⟩ = some (.int .i64 R) := (g2.cell (p := ⟨w1.heap.size, 2, none⟩) (by simp)).trans q2
  have CFF := cf _ HG2.out
  clear g2 CP q0 q1 q2 HG cf
  go_wp2_with fail
  refine CFF.mono ?_
  rintro e w3 ⟨v3, rfl, g3, o3⟩
  have HG3 : Hid (Old w w3) := Old.trans HG2.out g3
  obtain ⟨b3, o3', cap3, rfl, hb3, hc3⟩ := (Own.row o3).atZ (by rw [HFL.out]; omega)
  rw [HFL.out] at hc3 ⊢
  have HA : Hid (Old w3 (w3.alloc (.cells #[.slice (some ⟨b3, o3', none⟩) N cap3] 23))) := (Old.refl w3).alloc _
  have c4 : (w3.alloc (.cells #[.slice (some ⟨b3, o3', none⟩) N cap3] 23)).cell? ⟨w3.heap.size, 0, none⟩ = some (.slice (some ⟨b3, o3', none⟩) N cap3) := (cell_at _ _ _ _ 0 rfl).trans rfl
  have HE := HZ.out (w3.alloc (.cells #[.slice (some ⟨b3, o3', none⟩) N cap3] 23)) (w3.alloc (.cells #[.slice (some ⟨b3, o3', none⟩) N cap3] 23)) ⟨b3, o3', none⟩ cap3 w3.heap.size (Old.trans HG3.out HA.out) (Old.refl _) (HT.out.old (Old.trans HG3.out HA.out)) c4 (fun y hy => (HA.out.cell (p := ⟨b3, o3' + y, none⟩) hb3).trans (hc3 y hy))
  clear hc3 o3 g3 CFF r0 r1 r2 HG2 c4 HZ
  go_wp2_with fail
  refine HE.mono ?_
  rintro e w4 ⟨v4, rfl, g4, o4⟩
  have HG4 : Hid (Old w w4) := Old.trans (Old.trans HG3.out HA.out) g4
  have HO : Hid (Own w4 w.heap.size v4 (toZ zs)) := o4.low (Old.trans HG3.out HA.out).size
  obtain ⟨a4, c4, e⟩ : ∃ a c, v4 = .slice a zs.length c := by
    obtain ⟨a, c, e⟩ := (Own.row o4).slice
    rw [toZ_len] at e
    exact ⟨a, c, e⟩
  subst e
  clear o4 g4 HE hgl
  go_wp2_with fail
  go_ret2
  exact ⟨_, rfl, HG4.out, HO.out⟩
end Go.Proofs.YtpebikjckhcgfaaDoor
/- Proved: the statement on SlotPoints at every size, in a world in which the table of bits is laid. -/
namespace Go.Proofs.YtpebikjckhcgfaaDoor
open Go.ChangeShapes Go.WideShapes Go.ChangeAt Go.RowKit
set_option linter.unusedVariables false
theorem SlotPoints_any (n : Int) (w : World) (hT : TabW w) :
    Calls Tryd.prog 5 #[.int .i64 n] w fun e w' => e = .returned (.bool true) ∧ Old w w' := by
  cases hok : rgB n
  · exact law_SlotPoints n w hT false [] (by simp)
      (fun W => (spec_SlotPoints_no n W hok).mono fun e w' ⟨h1, h2⟩ => ⟨_, h1, h2, own_nil _ _⟩)
      (fun W _ => (impl_SlotPoints_no n W hok).mono fun e w' ⟨h1, h2⟩ => ⟨_, h1, h2, own_nil _ _⟩)
  · have hz := rgB_yes hok
    obtain ⟨N, rfl⟩ := Int.eq_ofNat_of_zero_le (show 0 ≤ n by omega)
    have hS : Sz4 N := by omega
    exact law_SlotPoints _ w hT true (toZ (exL N)) (by rw [toZ_len, exL_len hS]; omega) (fun W => spec_SlotPoints_yes N W hS) (fun W hT => impl_SlotPoints_yes N W hS hT)
end Go.Proofs.YtpebikjckhcgfaaDoor
