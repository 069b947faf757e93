/- Proved: a drawn region of the statement FnExactBudgetOf, by what holds between its operations, in whatever order. -/
import Derived.Test.YtpcpahgflkjnaaaGreatDoorB05
import Derived.Test.YtpcpahgflkjnaaaGreatDoorB02
namespace Go.Proofs.YtpcpahgflkjnaaaGreatDoor
open Go.ChangeShapes Go.WideShapes Go.ChangeAt Go.RowKit
set_option linter.unusedVariables false
set_option linter.unusedSimpArgs false
def regionAtreg9_BudgetOfA (n : Nat) : Code → Option Code
  | .region i ops b => if i = n then some (.region i ops b) else none
  | .seq a b => match regionAtreg9_BudgetOfA n a with
    | some c => some c
    | none => regionAtreg9_BudgetOfA n b
  | .block _ c => regionAtreg9_BudgetOfA n c
  | _ => none
set_option maxRecDepth 100000 in
set_option maxHeartbeats 8000000 in
theorem reg9_BudgetOfA (w2 : World) (x0_0 x0_1 x0_2 x0_3 : Value) (kb0 : Nat) (x1_0 x1_1 : Value) (kb1 : Nat) 
    (CR0 : World → Value → Prop) (hCR0 : ∀ W W' v, CR0 W v → Old W W' → CR0 W' v)
    (c0 : ∀ W, Old w2 W → Calls Tryz.prog 16 #[.agg #[x0_0, x0_1, x0_2, x0_3]] W fun e w' => ∃ v, e = .returned v ∧ Old W w' ∧ CR0 w' v)
    (b0 : w2.heap[kb0]? = some (.cells #[x0_0, x0_1, x0_2, x0_3] 24 (0, 0)))
    (CR1 : World → Value → Prop) (hCR1 : ∀ W W' v, CR1 W v → Old W W' → CR1 W' v)
    (c1 : ∀ W, Old w2 W → Calls Tryz.prog 35 #[.agg #[x1_0, x1_1]] W fun e w' => ∃ v, e = .returned v ∧ Old W w' ∧ CR1 w' v)
    (b1 : w2.heap[kb1]? = some (.cells #[x1_0, x1_1] 50 (0, 0)))
    (RES : World → Nat → Nat → Value → Value → Prop) (far : ∀ W W' lo hi (g0 : Value) (g1 : Value), RES W lo hi g0 g1 → (∀ b, lo ≤ b → b < hi → W'.heap[b]? = W.heap[b]?) → W.heap.size ≤ W'.heap.size → RES W' lo hi g0 g1)
    (cf : ∀ W v0 v1, Old w2 W → CR0 W v0 → CR1 W v1 → Calls Tryz.prog 43 #[v0, v1] W fun e w' => ∃ (g0 : Value) (g1 : Value), e = .returned (.tuple #[g0, g1]) ∧ Old W w' ∧ RES w' W.heap.size w'.heap.size g0 g1)
    (Q : Exit → Act → World → Prop) (K : Act → World → Prop) (a0 : Act) (hsz : 58 ≤ a0.tmps.size) (ha2 : a0.eval (.tmp 2) = .pointer (some ⟨kb0, 0, none⟩)) (ha3 : a0.eval (.tmp 3) = .pointer (some ⟨kb1, 0, none⟩))
    (HK : Hid (∀ ( lo hi : Nat) (g0 : Value) (g1 : Value) (u22 u23 u24 u25 u26 u27 u28 u29 : Value) (W : World), Old w2 W → w2.heap.size ≤ lo → hi ≤ W.heap.size → RES W lo hi g0 g1 → K (putAll a0 [(6, g0), (7, g1), (22, u22), (23, u23), (24, u24), (25, u25), (26, u26), (27, u27), (28, u28), (29, u29)]) W)) :
    Code.wp Tryz.prog ((Tryz.f10.body.bind (regionAtreg9_BudgetOfA 8)).getD .skip) (Exit.then K Q) a0 w2 := by
  conv => arg 2; whnf
  have e2 : ∀ l, (putAll a0 l).eval (.tmp 2) = (getKey l 2).getD (a0.eval (.tmp 2)) := eval_putAll a0 2 (by omega)
  have e3 : ∀ l, (putAll a0 l).eval (.tmp 3) = (getKey l 3).getD (a0.eval (.tmp 3)) := eval_putAll a0 3 (by omega)
  have e6 : ∀ l, (putAll a0 l).eval (.tmp 6) = (getKey l 6).getD (a0.eval (.tmp 6)) := eval_putAll a0 6 (by omega)
  have e7 : ∀ l, (putAll a0 l).eval (.tmp 7) = (getKey l 7).getD (a0.eval (.tmp 7)) := eval_putAll a0 7 (by omega)
  have e22 : ∀ l, (putAll a0 l).eval (.tmp 22) = (getKey l 22).getD (a0.eval (.tmp 22)) := eval_putAll a0 22 (by omega)
  have e23 : ∀ l, (putAll a0 l).eval (.tmp 23) = (getKey l 23).getD (a0.eval (.tmp 23)) := eval_putAll a0 23 (by omega)
  have e24 : ∀ l, (putAll a0 l).eval (.tmp 24) = (getKey l 24).getD (a0.eval (.tmp 24)) := eval_putAll a0 24 (by omega)
  have e25 : ∀ l, (putAll a0 l).eval (.tmp 25) = (getKey l 25).getD (a0.eval (.tmp 25)) := eval_putAll a0 25 (by omega)
  have e26 : ∀ l, (putAll a0 l).eval (.tmp 26) = (getKey l 26).getD (a0.eval (.tmp 26)) := eval_putAll a0 26 (by omega)
  have e27 : ∀ l, (putAll a0 l).eval (.tmp 27) = (getKey l 27).getD (a0.eval (.tmp 27)) := eval_putAll a0 27 (by omega)
  have e28 : ∀ l, (putAll a0 l).eval (.tmp 28) = (getKey l 28).getD (a0.eval (.tmp 28)) := eval_putAll a0 28 (by omega)
  have e29 : ∀ l, (putAll a0 l).eval (.tmp 29) = (getKey l 29).getD (a0.eval (.tmp 29)) := eval_putAll a0 29 (by omega)
  refine wp_region_steps (fun d a W => ∃ (u6 u7 u22 u23 u24 u25 u26 u27 u28 u29 : Value) ( lo hi : Nat) (g0 : Value) (g1 : Value), a = (putAll a0 [(6, u6), (7, u7), (22, u22), (23, u23), (24, u24), (25, u25), (26, u26), (27, u27), (28, u28), (29, u29)]) ∧ (Old w2 W) ∧ (d 0 = true → u23 = .agg #[x0_0, x0_1, x0_2, x0_3]) ∧ (d 1 = true → d 4 = false → CR0 W u24) ∧ (d 2 = true → u25 = .agg #[x1_0, x1_1]) ∧ (d 3 = true → d 4 = false → CR1 W u26) ∧ (d 4 = true → u27 = .tuple #[g0, g1] ∧ w2.heap.size ≤ lo ∧ hi ≤ W.heap.size ∧ RES W lo hi g0 g1) ∧ (d 5 = true → u22 = .tuple #[g0, g1]) ∧ (d 6 = true → u28 = g0) ∧ (d 7 = true → u29 = g1) ∧ (d 8 = true → u6 = g0) ∧ (d 9 = true → u7 = g1) ∧ (d 5 = true → d 4 = true) ∧ (d 6 = true → d 4 = true) ∧ (d 8 = true → d 4 = true) ∧ (d 7 = true → d 4 = true) ∧ (d 9 = true → d 4 = true)) rfl (by decide +kernel) (by decide +kernel) ?_ ⟨?_, ?_, ?_, ?_, ?_, ?_, ?_, ?_, ?_, ?_, trivial⟩ ?_
  · exact ⟨_, _, _, _, _, _, _, _, _, _, 0, 0, undef, undef, (putAll_self a0 [6, 7, 22, 23, 24, 25, 26, 27, 28, 29] (by intro s hs; simp at hs; omega)).symm, Below.drew (Old.refl w2), (fun h => by cases h), (fun h => by cases h), (fun h => by cases h), (fun h => by cases h), (fun h => by cases h), (fun h => by cases h), (fun h => by cases h), (fun h => by cases h), (fun h => by cases h), (fun h => by cases h), (fun h => by cases h), (fun h => by cases h), (fun h => by cases h), (fun h => by cases h), (fun h => by cases h)⟩
  · rintro d a W ⟨u6, u7, u22, u23, u24, u25, u26, u27, u28, u29, lo, hi, g0, g1, hfr, fold, fL0, fC0, fL1, fC1, fF, fM, fE0, fE1, fA0, fA1, fO5_4, fO6_4, fO8_4, fO7_4, fO9_4⟩ hi_ hd
    simp [Region.binds] at hd
    refine op_load (k := kb0) (by rw [hfr, e2]; exact ha2) (fold.block _ (lt_of_some b0) |>.trans b0) Tryz.underlying24 rfl (by kernel_rfl) ?_
    exact ⟨u6, u7, u22, .agg #[x0_0, x0_1, x0_2, x0_3], u24, u25, u26, u27, u28, u29, lo, hi, g0, g1, (by rw [hfr]; exact putAll_put a0 _ _ _ rfl), (fold),
      (fun _ => rfl),
      (fun h0 h1 => fC0 h0 h1),
      (fun h0 => fL1 h0),
      (fun h0 h1 => fC1 h0 h1),
      (fun h0 => fF h0),
      (fun h0 => fM h0),
      (fun h0 => fE0 h0),
      (fun h0 => fE1 h0),
      (fun h0 => fA0 h0),
      (fun h0 => fA1 h0),
      (fun h => fO5_4 h),
      (fun h => fO6_4 h),
      (fun h => fO8_4 h),
      (fun h => fO7_4 h),
      (fun h => fO9_4 h)⟩
  · rintro d a W ⟨u6, u7, u22, u23, u24, u25, u26, u27, u28, u29, lo, hi, g0, g1, hfr, fold, fL0, fC0, fL1, fC1, fF, fM, fE0, fE1, fA0, fA1, fO5_4, fO6_4, fO8_4, fO7_4, fO9_4⟩ hi_ hd
    simp [Region.binds] at hd
    have HD0 : d 0 = true := by simp only [hd]
    clear hd
    have hv := fL0 HD0
    refine op_call_ret Tryz.call16 (vs := #[.agg #[x0_0, x0_1, x0_2, x0_3]]) (by simp [hfr, e23, getKey, hv]) (c0 W fold) ?_
    rintro v W' ⟨g, hcr⟩
    exact ⟨u6, u7, u22, u23, v, u25, u26, u27, u28, u29, lo, hi, g0, g1, (by rw [hfr]; exact putAll_put a0 _ _ _ rfl), (Old.trans fold g),
      (fun h0 => fL0 h0),
      (fun _ _ => hcr),
      (fun h0 => fL1 h0),
      (fun h0 h1 => hCR1 _ _ _ (fC1 h0 h1) g),
      (fun h0 => by obtain ⟨e1, e2, e3, e9⟩ := fF h0; exact ⟨e1, e2, Nat.le_trans e3 g.size, far _ _ _ _ _ _ e9 (fun b _ hb => g.block b (by omega)) g.size⟩),
      (fun h0 => fM h0),
      (fun h0 => fE0 h0),
      (fun h0 => fE1 h0),
      (fun h0 => fA0 h0),
      (fun h0 => fA1 h0),
      (fun h => fO5_4 h),
      (fun h => fO6_4 h),
      (fun h => fO8_4 h),
      (fun h => fO7_4 h),
      (fun h => fO9_4 h)⟩
  · rintro d a W ⟨u6, u7, u22, u23, u24, u25, u26, u27, u28, u29, lo, hi, g0, g1, hfr, fold, fL0, fC0, fL1, fC1, fF, fM, fE0, fE1, fA0, fA1, fO5_4, fO6_4, fO8_4, fO7_4, fO9_4⟩ hi_ hd
    simp [Region.binds] at hd
    refine op_load (k := kb1) (by rw [hfr, e3]; exact ha3) (fold.block _ (lt_of_some b1) |>.trans b1) Tryz.underlying50 rfl (by kernel_rfl) ?_
    exact ⟨u6, u7, u22, u23, u24, .agg #[x1_0, x1_1], u26, u27, u28, u29, lo, hi, g0, g1, (by rw [hfr]; exact putAll_put a0 _ _ _ rfl), (fold),
      (fun h0 => fL0 h0),
      (fun h0 h1 => fC0 h0 h1),
      (fun _ => rfl),
      (fun h0 h1 => fC1 h0 h1),
      (fun h0 => fF h0),
      (fun h0 => fM h0),
      (fun h0 => fE0 h0),
      (fun h0 => fE1 h0),
      (fun h0 => fA0 h0),
      (fun h0 => fA1 h0),
      (fun h => fO5_4 h),
      (fun h => fO6_4 h),
      (fun h => fO8_4 h),
      (fun h => fO7_4 h),
      (fun h => fO9_4 h)⟩
  · rintro d a W ⟨u6, u7, u22, u23, u24, u25, u26, u27, u28, u29, lo, hi, g0, g1, hfr, fold, fL0, fC0, fL1, fC1, fF, fM, fE0, fE1, fA0, fA1, fO5_4, fO6_4, fO8_4, fO7_4, fO9_4⟩ hi_ hd
    simp [Region.binds] at hd
    have HD2 : d 2 = true := by simp only [hd]
    clear hd
    have hv := fL1 HD2
    refine op_call_ret Tryz.call35 (vs := #[.agg #[x1_0, x1_1]]) (by simp [hfr, e25, getKey, hv]) (c1 W fold) ?_
    rintro v W' ⟨g, hcr⟩
    exact ⟨u6, u7, u22, u23, u24, u25, v, u27, u28, u29, lo, hi, g0, g1, (by rw [hfr]; exact putAll_put a0 _ _ _ rfl), (Old.trans fold g),
      (fun h0 => fL0 h0),
      (fun h0 h1 => hCR0 _ _ _ (fC0 h0 h1) g),
      (fun h0 => fL1 h0),
      (fun _ _ => hcr),
      (fun h0 => by obtain ⟨e1, e2, e3, e9⟩ := fF h0; exact ⟨e1, e2, Nat.le_trans e3 g.size, far _ _ _ _ _ _ e9 (fun b _ hb => g.block b (by omega)) g.size⟩),
      (fun h0 => fM h0),
      (fun h0 => fE0 h0),
      (fun h0 => fE1 h0),
      (fun h0 => fA0 h0),
      (fun h0 => fA1 h0),
      (fun h => fO5_4 h),
      (fun h => fO6_4 h),
      (fun h => fO8_4 h),
      (fun h => fO7_4 h),
      (fun h => fO9_4 h)⟩
  · rintro d a W ⟨u6, u7, u22, u23, u24, u25, u26, u27, u28, u29, lo, hi, g0, g1, hfr, fold, fL0, fC0, fL1, fC1, fF, fM, fE0, fE1, fA0, fA1, fO5_4, fO6_4, fO8_4, fO7_4, fO9_4⟩ hi_ hd
    simp [Region.binds] at hd
    have HD1 : d 1 = true := by simp only [hd]
    have HD3 : d 3 = true := by simp only [hd]
    clear hd
    refine op_call_ret (R := fun v w' => ∃ (g0 : Value) (g1 : Value), v = .tuple #[g0, g1] ∧ Old W w' ∧ RES w' W.heap.size w'.heap.size g0 g1) Tryz.call43 (vs := #[u24, u26]) (by simp [hfr, e24, e26, getKey]) ((cf W _ _ fold (fC0 HD1 hi_) (fC1 HD3 hi_)).mono (fun e w' h => by obtain ⟨g0, g1, rfl, h⟩ := h; exact ⟨_, rfl, g0, g1, rfl, h⟩)) ?_
    rintro v W' ⟨r0, r1, rfl, g, hres⟩
    exact ⟨u6, u7, u22, u23, u24, u25, u26, .tuple #[r0, r1], u28, u29, W.heap.size, W'.heap.size, r0, r1, (by rw [hfr]; exact putAll_put a0 _ _ _ rfl), (Old.trans fold g),
      (fun h0 => fL0 h0),
      (fun h0 h1 => by cases h1),
      (fun h0 => fL1 h0),
      (fun h0 h1 => by cases h1),
      (fun _ => ⟨rfl, (fold.size), Nat.le_refl _, hres⟩),
      (fun h0 => by have hx_ := fO5_4 h0; rw [hi_] at hx_; cases hx_),
      (fun h0 => by have hx_ := fO6_4 h0; rw [hi_] at hx_; cases hx_),
      (fun h0 => by have hx_ := fO7_4 h0; rw [hi_] at hx_; cases hx_),
      (fun h0 => by have hx_ := fO8_4 h0; rw [hi_] at hx_; cases hx_),
      (fun h0 => by have hx_ := fO9_4 h0; rw [hi_] at hx_; cases hx_),
      (fun _ => rfl),
      (fun _ => rfl),
      (fun _ => rfl),
      (fun _ => rfl),
      (fun _ => rfl)⟩
  · rintro d a W ⟨u6, u7, u22, u23, u24, u25, u26, u27, u28, u29, lo, hi, g0, g1, hfr, fold, fL0, fC0, fL1, fC1, fF, fM, fE0, fE1, fA0, fA1, fO5_4, fO6_4, fO8_4, fO7_4, fO9_4⟩ hi_ hd
    simp [Region.binds] at hd
    have HD4 : d 4 = true := by simp only [hd]
    clear hd
    have hv := (fF HD4).1
    refine op_move ?_
    rw [show a.eval (.tmp 27) = .tuple #[g0, g1] by rw [hfr, e27]; exact hv]
    exact ⟨u6, u7, .tuple #[g0, g1], u23, u24, u25, u26, u27, u28, u29, lo, hi, g0, g1, (by rw [hfr]; exact putAll_put a0 _ _ _ rfl), (fold),
      (fun h0 => fL0 h0),
      (fun h0 h1 => fC0 h0 h1),
      (fun h0 => fL1 h0),
      (fun h0 h1 => fC1 h0 h1),
      (fun h0 => fF h0),
      (fun _ => rfl),
      (fun h0 => fE0 h0),
      (fun h0 => fE1 h0),
      (fun h0 => fA0 h0),
      (fun h0 => fA1 h0),
      (fun _ => HD4),
      (fun h => fO6_4 h),
      (fun h => fO8_4 h),
      (fun h => fO7_4 h),
      (fun h => fO9_4 h)⟩
  · rintro d a W ⟨u6, u7, u22, u23, u24, u25, u26, u27, u28, u29, lo, hi, g0, g1, hfr, fold, fL0, fC0, fL1, fC1, fF, fM, fE0, fE1, fA0, fA1, fO5_4, fO6_4, fO8_4, fO7_4, fO9_4⟩ hi_ hd
    simp [Region.binds] at hd
    have HD5 : d 5 = true := by simp only [hd]
    have HD4 : d 4 = true := fO5_4 HD5
    clear hd
    have hv := fM HD5
    refine op_extract (by rw [hfr, e22]; exact hv) rfl ?_
    exact ⟨u6, u7, u22, u23, u24, u25, u26, u27, g0, u29, lo, hi, g0, g1, (by rw [hfr]; exact putAll_put a0 _ _ _ rfl), (fold),
      (fun h0 => fL0 h0),
      (fun h0 h1 => fC0 h0 h1),
      (fun h0 => fL1 h0),
      (fun h0 h1 => fC1 h0 h1),
      (fun h0 => fF h0),
      (fun h0 => fM h0),
      (fun _ => rfl),
      (fun h0 => fE1 h0),
      (fun h0 => fA0 h0),
      (fun h0 => fA1 h0),
      (fun h => fO5_4 h),
      (fun _ => HD4),
      (fun h => fO8_4 h),
      (fun h => fO7_4 h),
      (fun h => fO9_4 h)⟩
  · rintro d a W ⟨u6, u7, u22, u23, u24, u25, u26, u27, u28, u29, lo, hi, g0, g1, hfr, fold, fL0, fC0, fL1, fC1, fF, fM, fE0, fE1, fA0, fA1, fO5_4, fO6_4, fO8_4, fO7_4, fO9_4⟩ hi_ hd
    simp [Region.binds] at hd
    have HD5 : d 5 = true := by simp only [hd]
    have HD4 : d 4 = true := fO5_4 HD5
    clear hd
    have hv := fM HD5
    refine op_extract (by rw [hfr, e22]; exact hv) rfl ?_
    exact ⟨u6, u7, u22, u23, u24, u25, u26, u27, u28, g1, lo, hi, g0, g1, (by rw [hfr]; exact putAll_put a0 _ _ _ rfl), (fold),
      (fun h0 => fL0 h0),
      (fun h0 h1 => fC0 h0 h1),
      (fun h0 => fL1 h0),
      (fun h0 h1 => fC1 h0 h1),
      (fun h0 => fF h0),
      (fun h0 => fM h0),
      (fun h0 => fE0 h0),
      (fun _ => rfl),
      (fun h0 => fA0 h0),
      (fun h0 => fA1 h0),
      (fun h => fO5_4 h),
      (fun h => fO6_4 h),
      (fun h => fO8_4 h),
      (fun _ => HD4),
      (fun h => fO9_4 h)⟩
  · rintro d a W ⟨u6, u7, u22, u23, u24, u25, u26, u27, u28, u29, lo, hi, g0, g1, hfr, fold, fL0, fC0, fL1, fC1, fF, fM, fE0, fE1, fA0, fA1, fO5_4, fO6_4, fO8_4, fO7_4, fO9_4⟩ hi_ hd
    simp [Region.binds] at hd
    have HD4 : d 4 = true := by simp only [hd]
    have HD6 : d 6 = true := by simp only [hd]
    clear hd
    have hv := fE0 HD6
    refine op_assign ?_
    rw [show a.eval (.tmp 28) = g0 by rw [hfr, e28]; exact hv]
    exact ⟨g0, u7, u22, u23, u24, u25, u26, u27, u28, u29, lo, hi, g0, g1, (by rw [hfr]; exact putAll_put a0 _ _ _ rfl), (fold),
      (fun h0 => fL0 h0),
      (fun h0 h1 => fC0 h0 h1),
      (fun h0 => fL1 h0),
      (fun h0 h1 => fC1 h0 h1),
      (fun h0 => fF h0),
      (fun h0 => fM h0),
      (fun h0 => fE0 h0),
      (fun h0 => fE1 h0),
      (fun _ => rfl),
      (fun h0 => fA1 h0),
      (fun h => fO5_4 h),
      (fun h => fO6_4 h),
      (fun _ => HD4),
      (fun h => fO7_4 h),
      (fun h => fO9_4 h)⟩
  · rintro d a W ⟨u6, u7, u22, u23, u24, u25, u26, u27, u28, u29, lo, hi, g0, g1, hfr, fold, fL0, fC0, fL1, fC1, fF, fM, fE0, fE1, fA0, fA1, fO5_4, fO6_4, fO8_4, fO7_4, fO9_4⟩ hi_ hd
    simp [Region.binds] at hd
    have HD4 : d 4 = true := by simp only [hd]
    have HD7 : d 7 = true := by simp only [hd]
    clear hd
    have hv := fE1 HD7
    refine op_assign ?_
    rw [show a.eval (.tmp 29) = g1 by rw [hfr, e29]; exact hv]
    exact ⟨u6, g1, u22, u23, u24, u25, u26, u27, u28, u29, lo, hi, g0, g1, (by rw [hfr]; exact putAll_put a0 _ _ _ rfl), (fold),
      (fun h0 => fL0 h0),
      (fun h0 h1 => fC0 h0 h1),
      (fun h0 => fL1 h0),
      (fun h0 h1 => fC1 h0 h1),
      (fun h0 => fF h0),
      (fun h0 => fM h0),
      (fun h0 => fE0 h0),
      (fun h0 => fE1 h0),
      (fun h0 => fA0 h0),
      (fun _ => rfl),
      (fun h => fO5_4 h),
      (fun h => fO6_4 h),
      (fun h => fO8_4 h),
      (fun h => fO7_4 h),
      (fun _ => HD4)⟩
  · rintro d a W hd ⟨u6, u7, u22, u23, u24, u25, u26, u27, u28, u29, lo, hi, g0, g1, hfr, fold, fL0, fC0, fL1, fC1, fF, fM, fE0, fE1, fA0, fA1, fO5_4, fO6_4, fO8_4, fO7_4, fO9_4⟩
    have hd2 : ∀ i, i < 10 → d i = true := hd
    clear hd
    have HD0 : d 0 = true := hd2 0 (by omega)
    have HD1 : d 1 = true := hd2 1 (by omega)
    have HD2 : d 2 = true := hd2 2 (by omega)
    have HD3 : d 3 = true := hd2 3 (by omega)
    have HD4 : d 4 = true := hd2 4 (by omega)
    have HD5 : d 5 = true := hd2 5 (by omega)
    have HD6 : d 6 = true := hd2 6 (by omega)
    have HD7 : d 7 = true := hd2 7 (by omega)
    have HD8 : d 8 = true := hd2 8 (by omega)
    have HD9 : d 9 = true := hd2 9 (by omega)
    obtain ⟨eF, lF, hF, rF⟩ := fF HD4
    have ha_0 := fA0 HD8
    rw [ha_0] at hfr
    have ha_1 := fA1 HD9
    rw [ha_1] at hfr
    show K a W
    rw [hfr]
    exact HK.out  lo hi g0 g1 u22 u23 u24 u25 u26 u27 u28 u29 W fold lF hF rF
end Go.Proofs.YtpcpahgflkjnaaaGreatDoor
