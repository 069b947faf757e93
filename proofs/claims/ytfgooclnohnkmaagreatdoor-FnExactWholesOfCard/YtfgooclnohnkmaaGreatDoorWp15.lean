/- Proved: several texts in one: what each proves is said ahead of it. -/
import Derived.Test.YtfgooclnohnkmaaGreatDoorWp13
import Derived.Test.YtfgooclnohnkmaaGreatDoorBk
import Derived.Test.YtfgooclnohnkmaaGreatDoorWp04
import Derived.Test.YtfgooclnohnkmaaGreatDoorWp11
import Derived.Test.YtfgooclnohnkmaaGreatDoorWp06
import Derived.BigRegion
/- Proved: a drawn region of the statement FnExactWholesOf, by what holds between its operations, in whatever order. -/
namespace Go.Proofs.YtfgooclnohnkmaaGreatDoor
open Go.ChangeShapes Go.WideShapes Go.ChangeAt Go.RowKit
set_option linter.unusedVariables false
set_option linter.unusedSimpArgs false
def regionAtreg9_WholesOfA (n : Nat) : Code → Option Code
  | .region i ops b => if i = n then some (.region i ops b) else none
  | .seq a b => match regionAtreg9_WholesOfA n a with
    | some c => some c
    | none => regionAtreg9_WholesOfA n b
  | .block _ c => regionAtreg9_WholesOfA n c
  | _ => none
set_option maxRecDepth 100000 in
set_option maxHeartbeats 8000000 in
theorem reg9_WholesOfA (w2 : World) (x0_0 x0_1 : Value) (kb0 : Nat) (x1_0 x1_1 : Value) (kb1 : Nat) 
    (CR0 : World → Value → Prop) (hCR0 : ∀ W W' v, CR0 W v → Old W W' → CR0 W' v)
    (c0 : ∀ W, Old w2 W → Calls Tryz.prog 26 #[.agg #[x0_0, x0_1]] W fun e w' => ∃ v, e = .returned v ∧ Old W w' ∧ CR0 w' v)
    (b0 : w2.heap[kb0]? = some (.cells #[x0_0, x0_1] 47 (0, 0)))
    (CR1 : World → Value → Prop) (hCR1 : ∀ W W' v, CR1 W v → Old W W' → CR1 W' v)
    (c1 : ∀ W, Old w2 W → Calls Tryz.prog 27 #[.agg #[x1_0, x1_1]] W fun e w' => ∃ v, e = .returned v ∧ Old W w' ∧ CR1 w' v)
    (b1 : w2.heap[kb1]? = some (.cells #[x1_0, x1_1] 50 (0, 0)))
    (RES : World → Nat → Nat → Value → Value → Prop) (far : ∀ W W' lo hi (g0 : Value) (g1 : Value), RES W lo hi g0 g1 → (∀ b, lo ≤ b → b < hi → W'.heap[b]? = W.heap[b]?) → W.heap.size ≤ W'.heap.size → RES W' lo hi g0 g1)
    (cf : ∀ W v0 v1, Old w2 W → CR0 W v0 → CR1 W v1 → Calls Tryz.prog 25 #[v0, v1] W fun e w' => ∃ (g0 : Value) (g1 : Value), e = .returned (.tuple #[g0, g1]) ∧ Old W w' ∧ RES w' W.heap.size w'.heap.size g0 g1)
    (Q : Exit → Act → World → Prop) (K : Act → World → Prop) (a0 : Act) (hsz : 119 ≤ a0.tmps.size) (ha2 : a0.eval (.tmp 2) = .pointer (some ⟨kb0, 0, none⟩)) (ha3 : a0.eval (.tmp 3) = .pointer (some ⟨kb1, 0, none⟩))
    (HK : Hid (∀ ( lo hi : Nat) (g0 : Value) (g1 : Value) (u27 u28 u29 u30 u31 u32 u33 u34 : Value) (W : World), Old w2 W → w2.heap.size ≤ lo → hi ≤ W.heap.size → RES W lo hi g0 g1 → K (putAll a0 [(6, g0), (7, g1), (27, u27), (28, u28), (29, u29), (30, u30), (31, u31), (32, u32), (33, u33), (34, u34)]) W)) :
    Code.wp Tryz.prog ((Tryz.f5.body.bind (regionAtreg9_WholesOfA 8)).getD .skip) (Exit.then K Q) a0 w2 := by
  conv => arg 2; whnf
  have e2 : ∀ l, (putAll a0 l).eval (.tmp 2) = (getKey l 2).getD (a0.eval (.tmp 2)) := eval_putAll a0 2 (by omega)
  have e3 : ∀ l, (putAll a0 l).eval (.tmp 3) = (getKey l 3).getD (a0.eval (.tmp 3)) := eval_putAll a0 3 (by omega)
  have e6 : ∀ l, (putAll a0 l).eval (.tmp 6) = (getKey l 6).getD (a0.eval (.tmp 6)) := eval_putAll a0 6 (by omega)
  have e7 : ∀ l, (putAll a0 l).eval (.tmp 7) = (getKey l 7).getD (a0.eval (.tmp 7)) := eval_putAll a0 7 (by omega)
  have e27 : ∀ l, (putAll a0 l).eval (.tmp 27) = (getKey l 27).getD (a0.eval (.tmp 27)) := eval_putAll a0 27 (by omega)
  have e28 : ∀ l, (putAll a0 l).eval (.tmp 28) = (getKey l 28).getD (a0.eval (.tmp 28)) := eval_putAll a0 28 (by omega)
  have e29 : ∀ l, (putAll a0 l).eval (.tmp 29) = (getKey l 29).getD (a0.eval (.tmp 29)) := eval_putAll a0 29 (by omega)
  have e30 : ∀ l, (putAll a0 l).eval (.tmp 30) = (getKey l 30).getD (a0.eval (.tmp 30)) := eval_putAll a0 30 (by omega)
  have e31 : ∀ l, (putAll a0 l).eval (.tmp 31) = (getKey l 31).getD (a0.eval (.tmp 31)) := eval_putAll a0 31 (by omega)
  have e32 : ∀ l, (putAll a0 l).eval (.tmp 32) = (getKey l 32).getD (a0.eval (.tmp 32)) := eval_putAll a0 32 (by omega)
  have e33 : ∀ l, (putAll a0 l).eval (.tmp 33) = (getKey l 33).getD (a0.eval (.tmp 33)) := eval_putAll a0 33 (by omega)
  have e34 : ∀ l, (putAll a0 l).eval (.tmp 34) = (getKey l 34).getD (a0.eval (.tmp 34)) := eval_putAll a0 34 (by omega)
  refine wp_region_steps (fun d a W => ∃ (u6 u7 u27 u28 u29 u30 u31 u32 u33 u34 : Value) ( lo hi : Nat) (g0 : Value) (g1 : Value), a = (putAll a0 [(6, u6), (7, u7), (27, u27), (28, u28), (29, u29), (30, u30), (31, u31), (32, u32), (33, u33), (34, u34)]) ∧ (Old w2 W) ∧ (d 0 = true → u28 = .agg #[x0_0, x0_1]) ∧ (d 1 = true → d 4 = false → CR0 W u29) ∧ (d 2 = true → u30 = .agg #[x1_0, x1_1]) ∧ (d 3 = true → d 4 = false → CR1 W u31) ∧ (d 4 = true → u32 = .tuple #[g0, g1] ∧ w2.heap.size ≤ lo ∧ hi ≤ W.heap.size ∧ RES W lo hi g0 g1) ∧ (d 5 = true → u27 = .tuple #[g0, g1]) ∧ (d 6 = true → u33 = g0) ∧ (d 7 = true → u34 = g1) ∧ (d 8 = true → u6 = g0) ∧ (d 9 = true → u7 = g1) ∧ (d 5 = true → d 4 = true) ∧ (d 6 = true → d 4 = true) ∧ (d 8 = true → d 4 = true) ∧ (d 7 = true → d 4 = true) ∧ (d 9 = true → d 4 = true)) rfl (by decide +kernel) (by decide +kernel) ?_ ⟨?_, ?_, ?_, ?_, ?_, ?_, ?_, ?_, ?_, ?_, trivial⟩ ?_
  · exact ⟨_, _, _, _, _, _, _, _, _, _, 0, 0, undef, undef, (putAll_self a0 [6, 7, 27, 28, 29, 30, 31, 32, 33, 34] (by intro s hs; simp at hs; omega)).symm, Below.drew (Old.refl w2), (fun h => by cases h), (fun h => by cases h), (fun h => by cases h), (fun h => by cases h), (fun h => by cases h), (fun h => by cases h), (fun h => by cases h), (fun h => by cases h), (fun h => by cases h), (fun h => by cases h), (fun h => by cases h), (fun h => by cases h), (fun h => by cases h), (fun h => by cases h), (fun h => by cases h)⟩
  · rintro d a W ⟨u6, u7, u27, u28, u29, u30, u31, u32, u33, u34, lo, hi, g0, g1, hfr, fold, fL0, fC0, fL1, fC1, fF, fM, fE0, fE1, fA0, fA1, fO5_4, fO6_4, fO8_4, fO7_4, fO9_4⟩ hi_ hd
    simp [Region.binds] at hd
    refine op_load (k := kb0) (by rw [hfr, e2]; exact ha2) (fold.block _ (lt_of_some b0) |>.trans b0) Tryz.underlying47 rfl (by kernel_rfl) ?_
    exact ⟨u6, u7, u27, .agg #[x0_0, x0_1], u29, u30, u31, u32, u33, u34, lo, hi, g0, g1, (by rw [hfr]; exact putAll_put a0 _ _ _ rfl), (fold),
      (fun _ => rfl),
      (fun h0 h1 => fC0 h0 h1),
      (fun h0 => fL1 h0),
      (fun h0 h1 => fC1 h0 h1),
      (fun h0 => fF h0),
      (fun h0 => fM h0),
      (fun h0 => fE0 h0),
      (fun h0 => fE1 h0),
      (fun h0 => fA0 h0),
      (fun h0 => fA1 h0),
      (fun h => fO5_4 h),
      (fun h => fO6_4 h),
      (fun h => fO8_4 h),
      (fun h => fO7_4 h),
      (fun h => fO9_4 h)⟩
  · rintro d a W ⟨u6, u7, u27, u28, u29, u30, u31, u32, u33, u34, lo, hi, g0, g1, hfr, fold, fL0, fC0, fL1, fC1, fF, fM, fE0, fE1, fA0, fA1, fO5_4, fO6_4, fO8_4, fO7_4, fO9_4⟩ hi_ hd
    simp [Region.binds] at hd
    have HD0 : d 0 = true := by simp only [hd]
    clear hd
    have hv := fL0 HD0
    refine op_call_ret Tryz.call26 (vs := #[.agg #[x0_0, x0_1]]) (by simp [hfr, e28, getKey, hv]) (c0 W fold) ?_
    rintro v W' ⟨g, hcr⟩
    exact ⟨u6, u7, u27, u28, v, u30, u31, u32, u33, u34, lo, hi, g0, g1, (by rw [hfr]; exact putAll_put a0 _ _ _ rfl), (Old.trans fold g),
      (fun h0 => fL0 h0),
      (fun _ _ => hcr),
      (fun h0 => fL1 h0),
      (fun h0 h1 => hCR1 _ _ _ (fC1 h0 h1) g),
      (fun h0 => by obtain ⟨e1, e2, e3, e9⟩ := fF h0; exact ⟨e1, e2, Nat.le_trans e3 g.size, far _ _ _ _ _ _ e9 (fun b _ hb => g.block b (by omega)) g.size⟩),
      (fun h0 => fM h0),
      (fun h0 => fE0 h0),
      (fun h0 => fE1 h0),
      (fun h0 => fA0 h0),
      (fun h0 => fA1 h0),
      (fun h => fO5_4 h),
      (fun h => fO6_4 h),
      (fun h => fO8_4 h),
      (fun h => fO7_4 h),
      (fun h => fO9_4 h)⟩
  · rintro d a W ⟨u6, u7, u27, u28, u29, u30, u31, u32, u33, u34, lo, hi, g0, g1, hfr, fold, fL0, fC0, fL1, fC1, fF, fM, fE0, fE1, fA0, fA1, fO5_4, fO6_4, fO8_4, fO7_4, fO9_4⟩ hi_ hd
    simp [Region.binds] at hd
    refine op_load (k := kb1) (by rw [hfr, e3]; exact ha3) (fold.block _ (lt_of_some b1) |>.trans b1) Tryz.underlying50 rfl (by kernel_rfl) ?_
    exact ⟨u6, u7, u27, u28, u29, .agg #[x1_0, x1_1], u31, u32, u33, u34, lo, hi, g0, g1, (by rw [hfr]; exact putAll_put a0 _ _ _ rfl), (fold),
      (fun h0 => fL0 h0),
      (fun h0 h1 => fC0 h0 h1),
      (fun _ => rfl),
      (fun h0 h1 => fC1 h0 h1),
      (fun h0 => fF h0),
      (fun h0 => fM h0),
      (fun h0 => fE0 h0),
      (fun h0 => fE1 h0),
      (fun h0 => fA0 h0),
      (fun h0 => fA1 h0),
      (fun h => fO5_4 h),
      (fun h => fO6_4 h),
      (fun h => fO8_4 h),
      (fun h => fO7_4 h),
      (fun h => fO9_4 h)⟩
  · rintro d a W ⟨u6, u7, u27, u28, u29, u30, u31, u32, u33, u34, lo, hi, g0, g1, hfr, fold, fL0, fC0, fL1, fC1, fF, fM, fE0, fE1, fA0, fA1, fO5_4, fO6_4, fO8_4, fO7_4, fO9_4⟩ hi_ hd
    simp [Region.binds] at hd
    have HD2 : d 2 = true := by simp only [hd]
    clear hd
    have hv := fL1 HD2
    refine op_call_ret Tryz.call27 (vs := #[.agg #[x1_0, x1_1]]) (by simp [hfr, e30, getKey, hv]) (c1 W fold) ?_
    rintro v W' ⟨g, hcr⟩
    exact ⟨u6, u7, u27, u28, u29, u30, v, u32, u33, u34, lo, hi, g0, g1, (by rw [hfr]; exact putAll_put a0 _ _ _ rfl), (Old.trans fold g),
      (fun h0 => fL0 h0),
      (fun h0 h1 => hCR0 _ _ _ (fC0 h0 h1) g),
      (fun h0 => fL1 h0),
      (fun _ _ => hcr),
      (fun h0 => by obtain ⟨e1, e2, e3, e9⟩ := fF h0; exact ⟨e1, e2, Nat.le_trans e3 g.size, far _ _ _ _ _ _ e9 (fun b _ hb => g.block b (by omega)) g.size⟩),
      (fun h0 => fM h0),
      (fun h0 => fE0 h0),
      (fun h0 => fE1 h0),
      (fun h0 => fA0 h0),
      (fun h0 => fA1 h0),
      (fun h => fO5_4 h),
      (fun h => fO6_4 h),
      (fun h => fO8_4 h),
      (fun h => fO7_4 h),
      (fun h => fO9_4 h)⟩
  · rintro d a W ⟨u6, u7, u27, u28, u29, u30, u31, u32, u33, u34, lo, hi, g0, g1, hfr, fold, fL0, fC0, fL1, fC1, fF, fM, fE0, fE1, fA0, fA1, fO5_4, fO6_4, fO8_4, fO7_4, fO9_4⟩ hi_ hd
    simp [Region.binds] at hd
    have HD1 : d 1 = true := by simp only [hd]
    have HD3 : d 3 = true := by simp only [hd]
    clear hd
    refine op_call_ret (R := fun v w' => ∃ (g0 : Value) (g1 : Value), v = .tuple #[g0, g1] ∧ Old W w' ∧ RES w' W.heap.size w'.heap.size g0 g1) Tryz.call25 (vs := #[u29, u31]) (by simp [hfr, e29, e31, getKey]) ((cf W _ _ fold (fC0 HD1 hi_) (fC1 HD3 hi_)).mono (fun e w' h => by obtain ⟨g0, g1, rfl, h⟩ := h; exact ⟨_, rfl, g0, g1, rfl, h⟩)) ?_
    rintro v W' ⟨r0, r1, rfl, g, hres⟩
    exact ⟨u6, u7, u27, u28, u29, u30, u31, .tuple #[r0, r1], u33, u34, W.heap.size, W'.heap.size, r0, r1, (by rw [hfr]; exact putAll_put a0 _ _ _ rfl), (Old.trans fold g),
      (fun h0 => fL0 h0),
      (fun h0 h1 => by cases h1),
      (fun h0 => fL1 h0),
      (fun h0 h1 => by cases h1),
      (fun _ => ⟨rfl, (fold.size), Nat.le_refl _, hres⟩),
      (fun h0 => by have hx_ := fO5_4 h0; rw [hi_] at hx_; cases hx_),
      (fun h0 => by have hx_ := fO6_4 h0; rw [hi_] at hx_; cases hx_),
      (fun h0 => by have hx_ := fO7_4 h0; rw [hi_] at hx_; cases hx_),
      (fun h0 => by have hx_ := fO8_4 h0; rw [hi_] at hx_; cases hx_),
      (fun h0 => by have hx_ := fO9_4 h0; rw [hi_] at hx_; cases hx_),
      (fun _ => rfl),
      (fun _ => rfl),
      (fun _ => rfl),
      (fun _ => rfl),
      (fun _ => rfl)⟩
  · rintro d a W ⟨u6, u7, u27, u28, u29, u30, u31, u32, u33, u34, lo, hi, g0, g1, hfr, fold, fL0, fC0, fL1, fC1, fF, fM, fE0, fE1, fA0, fA1, fO5_4, fO6_4, fO8_4, fO7_4, fO9_4⟩ hi_ hd
    simp [Region.binds] at hd
    have HD4 : d 4 = true := by simp only [hd]
    clear hd
    have hv := (fF HD4).1
    refine op_move ?_
    rw [show a.eval (.tmp 32) = .tuple #[g0, g1] by rw [hfr, e32]; exact hv]
    exact ⟨u6, u7, .tuple #[g0, g1], u28, u29, u30, u31, u32, u33, u34, lo, hi, g0, g1, (by rw [hfr]; exact putAll_put a0 _ _ _ rfl), (fold),
      (fun h0 => fL0 h0),
      (fun h0 h1 => fC0 h0 h1),
      (fun h0 => fL1 h0),
      (fun h0 h1 => fC1 h0 h1),
      (fun h0 => fF h0),
      (fun _ => rfl),
      (fun h0 => fE0 h0),
      (fun h0 => fE1 h0),
      (fun h0 => fA0 h0),
      (fun h0 => fA1 h0),
      (fun _ => HD4),
      (fun h => fO6_4 h),
      (fun h => fO8_4 h),
      (fun h => fO7_4 h),
      (fun h => fO9_4 h)⟩
  · rintro d a W ⟨u6, u7, u27, u28, u29, u30, u31, u32, u33, u34, lo, hi, g0, g1, hfr, fold, fL0, fC0, fL1, fC1, fF, fM, fE0, fE1, fA0, fA1, fO5_4, fO6_4, fO8_4, fO7_4, fO9_4⟩ hi_ hd
    simp [Region.binds] at hd
    have HD5 : d 5 = true := by simp only [hd]
    have HD4 : d 4 = true := fO5_4 HD5
    clear hd
    have hv := fM HD5
    refine op_extract (by rw [hfr, e27]; exact hv) rfl ?_
    exact ⟨u6, u7, u27, u28, u29, u30, u31, u32, g0, u34, lo, hi, g0, g1, (by rw [hfr]; exact putAll_put a0 _ _ _ rfl), (fold),
      (fun h0 => fL0 h0),
      (fun h0 h1 => fC0 h0 h1),
      (fun h0 => fL1 h0),
      (fun h0 h1 => fC1 h0 h1),
      (fun h0 => fF h0),
      (fun h0 => fM h0),
      (fun _ => rfl),
      (fun h0 => fE1 h0),
      (fun h0 => fA0 h0),
      (fun h0 => fA1 h0),
      (fun h => fO5_4 h),
      (fun _ => HD4),
      (fun h => fO8_4 h),
      (fun h => fO7_4 h),
      (fun h => fO9_4 h)⟩
  · rintro d a W ⟨u6, u7, u27, u28, u29, u30, u31, u32, u33, u34, lo, hi, g0, g1, hfr, fold, fL0, fC0, fL1, fC1, fF, fM, fE0, fE1, fA0, fA1, fO5_4, fO6_4, fO8_4, fO7_4, fO9_4⟩ hi_ hd
    simp [Region.binds] at hd
    have HD5 : d 5 = true := by simp only [hd]
    have HD4 : d 4 = true := fO5_4 HD5
    clear hd
    have hv := fM HD5
    refine op_extract (by rw [hfr, e27]; exact hv) rfl ?_
    exact ⟨u6, u7, u27, u28, u29, u30, u31, u32, u33, g1, lo, hi, g0, g1, (by rw [hfr]; exact putAll_put a0 _ _ _ rfl), (fold),
      (fun h0 => fL0 h0),
      (fun h0 h1 => fC0 h0 h1),
      (fun h0 => fL1 h0),
      (fun h0 h1 => fC1 h0 h1),
      (fun h0 => fF h0),
      (fun h0 => fM h0),
      (fun h0 => fE0 h0),
      (fun _ => rfl),
      (fun h0 => fA0 h0),
      (fun h0 => fA1 h0),
      (fun h => fO5_4 h),
      (fun h => fO6_4 h),
      (fun h => fO8_4 h),
      (fun _ => HD4),
      (fun h => fO9_4 h)⟩
  · rintro d a W ⟨u6, u7, u27, u28, u29, u30, u31, u32, u33, u34, lo, hi, g0, g1, hfr, fold, fL0, fC0, fL1, fC1, fF, fM, fE0, fE1, fA0, fA1, fO5_4, fO6_4, fO8_4, fO7_4, fO9_4⟩ hi_ hd
    simp [Region.binds] at hd
    have HD4 : d 4 = true := by simp only [hd]
    have HD6 : d 6 = true := by simp only [hd]
    clear hd
    have hv := fE0 HD6
    refine op_assign ?_
    rw [show a.eval (.tmp 33) = g0 by rw [hfr, e33]; exact hv]
    exact ⟨g0, u7, u27, u28, u29, u30, u31, u32, u33, u34, lo, hi, g0, g1, (by rw [hfr]; exact putAll_put a0 _ _ _ rfl), (fold),
      (fun h0 => fL0 h0),
      (fun h0 h1 => fC0 h0 h1),
      (fun h0 => fL1 h0),
      (fun h0 h1 => fC1 h0 h1),
      (fun h0 => fF h0),
      (fun h0 => fM h0),
      (fun h0 => fE0 h0),
      (fun h0 => fE1 h0),
      (fun _ => rfl),
      (fun h0 => fA1 h0),
      (fun h => fO5_4 h),
      (fun h => fO6_4 h),
      (fun _ => HD4),
      (fun h => fO7_4 h),
      (fun h => fO9_4 h)⟩
  · rintro d a W ⟨u6, u7, u27, u28, u29, u30, u31, u32, u33, u34, lo, hi, g0, g1, hfr, fold, fL0, fC0, fL1, fC1, fF, fM, fE0, fE1, fA0, fA1, fO5_4, fO6_4, fO8_4, fO7_4, fO9_4⟩ hi_ hd
    simp [Region.binds] at hd
    have HD4 : d 4 = true := by simp only [hd]
    have HD7 : d 7 = true := by simp only [hd]
    clear hd
    have hv := fE1 HD7
    refine op_assign ?_
    rw [show a.eval (.tmp 34) = g1 by rw [hfr, e34]; exact hv]
    exact ⟨u6, g1, u27, u28, u29, u30, u31, u32, u33, u34, lo, hi, g0, g1, (by rw [hfr]; exact putAll_put a0 _ _ _ rfl), (fold),
      (fun h0 => fL0 h0),
      (fun h0 h1 => fC0 h0 h1),
      (fun h0 => fL1 h0),
      (fun h0 h1 => fC1 h0 h1),
      (fun h0 => fF h0),
      (fun h0 => fM h0),
      (fun h0 => fE0 h0),
      (fun h0 => fE1 h0),
      (fun h0 => fA0 h0),
      (fun _ => rfl),
      (fun h => fO5_4 h),
      (fun h => fO6_4 h),
      (fun h => fO8_4 h),
      (fun h => fO7_4 h),
      (fun _ => HD4)⟩
  · rintro d a W hd ⟨u6, u7, u27, u28, u29, u30, u31, u32, u33, u34, lo, hi, g0, g1, hfr, fold, fL0, fC0, fL1, fC1, fF, fM, fE0, fE1, fA0, fA1, fO5_4, fO6_4, fO8_4, fO7_4, fO9_4⟩
    have hd2 : ∀ i, i < 10 → d i = true := hd
    clear hd
    have HD0 : d 0 = true := hd2 0 (by omega)
    have HD1 : d 1 = true := hd2 1 (by omega)
    have HD2 : d 2 = true := hd2 2 (by omega)
    have HD3 : d 3 = true := hd2 3 (by omega)
    have HD4 : d 4 = true := hd2 4 (by omega)
    have HD5 : d 5 = true := hd2 5 (by omega)
    have HD6 : d 6 = true := hd2 6 (by omega)
    have HD7 : d 7 = true := hd2 7 (by omega)
    have HD8 : d 8 = true := hd2 8 (by omega)
    have HD9 : d 9 = true := hd2 9 (by omega)
    obtain ⟨eF, lF, hF, rF⟩ := fF HD4
    have ha_0 := fA0 HD8
    rw [ha_0] at hfr
    have ha_1 := fA1 HD9
    rw [ha_1] at hfr
    show K a W
    rw [hfr]
    exact HK.out  lo hi g0 g1 u27 u28 u29 u30 u31 u32 u33 u34 W fold lF hF rF
end Go.Proofs.YtfgooclnohnkmaaGreatDoor
/- Proved: a drawn region of the statement FnExactWholesOf, by what holds between its operations, in whatever order. -/
namespace Go.Proofs.YtfgooclnohnkmaaGreatDoor
open Go.ChangeShapes Go.WideShapes Go.ChangeAt Go.RowKit
set_option linter.unusedVariables false
set_option linter.unusedSimpArgs false
def regionAtreg9_WholesOfB (n : Nat) : Code → Option Code
  | .region i ops b => if i = n then some (.region i ops b) else none
  | .seq a b => match regionAtreg9_WholesOfB n a with
    | some c => some c
    | none => regionAtreg9_WholesOfB n b
  | .block _ c => regionAtreg9_WholesOfB n c
  | _ => none
set_option maxRecDepth 100000 in
set_option maxHeartbeats 8000000 in
theorem reg9_WholesOfB (w2 : World) (x0_0 x0_1 : Value) (kb0 : Nat) (x1_0 x1_1 : Value) (kb1 : Nat) 
    (CR0 : World → Value → Prop) (hCR0 : ∀ W W' v, CR0 W v → Old W W' → CR0 W' v)
    (c0 : ∀ W, Old w2 W → Calls Tryz.prog 26 #[.agg #[x0_0, x0_1]] W fun e w' => ∃ v, e = .returned v ∧ Old W w' ∧ CR0 w' v)
    (b0 : w2.heap[kb0]? = some (.cells #[x0_0, x0_1] 47 (0, 0)))
    (CR1 : World → Value → Prop) (hCR1 : ∀ W W' v, CR1 W v → Old W W' → CR1 W' v)
    (c1 : ∀ W, Old w2 W → Calls Tryz.prog 27 #[.agg #[x1_0, x1_1]] W fun e w' => ∃ v, e = .returned v ∧ Old W w' ∧ CR1 w' v)
    (b1 : w2.heap[kb1]? = some (.cells #[x1_0, x1_1] 50 (0, 0)))
    (RES : World → Nat → Nat → Value → Value → Prop) (far : ∀ W W' lo hi (g0 : Value) (g1 : Value), RES W lo hi g0 g1 → (∀ b, lo ≤ b → b < hi → W'.heap[b]? = W.heap[b]?) → W.heap.size ≤ W'.heap.size → RES W' lo hi g0 g1)
    (cf : ∀ W v0 v1, Old w2 W → CR0 W v0 → CR1 W v1 → Calls Tryz.prog 28 #[v0, v1] W fun e w' => ∃ (g0 : Value) (g1 : Value), e = .returned (.tuple #[g0, g1]) ∧ Old W w' ∧ RES w' W.heap.size w'.heap.size g0 g1)
    (Q : Exit → Act → World → Prop) (K : Act → World → Prop) (a0 : Act) (hsz : 119 ≤ a0.tmps.size) (ha2 : a0.eval (.tmp 2) = .pointer (some ⟨kb0, 0, none⟩)) (ha3 : a0.eval (.tmp 3) = .pointer (some ⟨kb1, 0, none⟩))
    (HK : Hid (∀ ( lo hi : Nat) (g0 : Value) (g1 : Value) (u94 u95 u96 u97 u98 u99 u100 u101 : Value) (W : World), Old w2 W → w2.heap.size ≤ lo → hi ≤ W.heap.size → RES W lo hi g0 g1 → K (putAll a0 [(15, g0), (16, g1), (94, u94), (95, u95), (96, u96), (97, u97), (98, u98), (99, u99), (100, u100), (101, u101)]) W)) :
    Code.wp Tryz.prog ((Tryz.f5.body.bind (regionAtreg9_WholesOfB 31)).getD .skip) (Exit.then K Q) a0 w2 := by
  conv => arg 2; whnf
  have e2 : ∀ l, (putAll a0 l).eval (.tmp 2) = (getKey l 2).getD (a0.eval (.tmp 2)) := eval_putAll a0 2 (by omega)
  have e3 : ∀ l, (putAll a0 l).eval (.tmp 3) = (getKey l 3).getD (a0.eval (.tmp 3)) := eval_putAll a0 3 (by omega)
  have e15 : ∀ l, (putAll a0 l).eval (.tmp 15) = (getKey l 15).getD (a0.eval (.tmp 15)) := eval_putAll a0 15 (by omega)
  have e16 : ∀ l, (putAll a0 l).eval (.tmp 16) = (getKey l 16).getD (a0.eval (.tmp 16)) := eval_putAll a0 16 (by omega)
  have e94 : ∀ l, (putAll a0 l).eval (.tmp 94) = (getKey l 94).getD (a0.eval (.tmp 94)) := eval_putAll a0 94 (by omega)
  have e95 : ∀ l, (putAll a0 l).eval (.tmp 95) = (getKey l 95).getD (a0.eval (.tmp 95)) := eval_putAll a0 95 (by omega)
  have e96 : ∀ l, (putAll a0 l).eval (.tmp 96) = (getKey l 96).getD (a0.eval (.tmp 96)) := eval_putAll a0 96 (by omega)
  have e97 : ∀ l, (putAll a0 l).eval (.tmp 97) = (getKey l 97).getD (a0.eval (.tmp 97)) := eval_putAll a0 97 (by omega)
  have e98 : ∀ l, (putAll a0 l).eval (.tmp 98) = (getKey l 98).getD (a0.eval (.tmp 98)) := eval_putAll a0 98 (by omega)
  have e99 : ∀ l, (putAll a0 l).eval (.tmp 99) = (getKey l 99).getD (a0.eval (.tmp 99)) := eval_putAll a0 99 (by omega)
  have e100 : ∀ l, (putAll a0 l).eval (.tmp 100) = (getKey l 100).getD (a0.eval (.tmp 100)) := eval_putAll a0 100 (by omega)
  have e101 : ∀ l, (putAll a0 l).eval (.tmp 101) = (getKey l 101).getD (a0.eval (.tmp 101)) := eval_putAll a0 101 (by omega)
  refine wp_region_steps (fun d a W => ∃ (u15 u16 u94 u95 u96 u97 u98 u99 u100 u101 : Value) ( lo hi : Nat) (g0 : Value) (g1 : Value), a = (putAll a0 [(15, u15), (16, u16), (94, u94), (95, u95), (96, u96), (97, u97), (98, u98), (99, u99), (100, u100), (101, u101)]) ∧ (Old w2 W) ∧ (d 0 = true → u95 = .agg #[x0_0, x0_1]) ∧ (d 1 = true → d 4 = false → CR0 W u96) ∧ (d 2 = true → u97 = .agg #[x1_0, x1_1]) ∧ (d 3 = true → d 4 = false → CR1 W u98) ∧ (d 4 = true → u99 = .tuple #[g0, g1] ∧ w2.heap.size ≤ lo ∧ hi ≤ W.heap.size ∧ RES W lo hi g0 g1) ∧ (d 5 = true → u94 = .tuple #[g0, g1]) ∧ (d 6 = true → u100 = g0) ∧ (d 7 = true → u101 = g1) ∧ (d 8 = true → u15 = g0) ∧ (d 9 = true → u16 = g1) ∧ (d 5 = true → d 4 = true) ∧ (d 6 = true → d 4 = true) ∧ (d 8 = true → d 4 = true) ∧ (d 7 = true → d 4 = true) ∧ (d 9 = true → d 4 = true)) rfl (by decide +kernel) (by decide +kernel) ?_ ⟨?_, ?_, ?_, ?_, ?_, ?_, ?_, ?_, ?_, ?_, trivial⟩ ?_
  · exact ⟨_, _, _, _, _, _, _, _, _, _, 0, 0, undef, undef, (putAll_self a0 [15, 16, 94, 95, 96, 97, 98, 99, 100, 101] (by intro s hs; simp at hs; omega)).symm, Below.drew (Old.refl w2), (fun h => by cases h), (fun h => by cases h), (fun h => by cases h), (fun h => by cases h), (fun h => by cases h), (fun h => by cases h), (fun h => by cases h), (fun h => by cases h), (fun h => by cases h), (fun h => by cases h), (fun h => by cases h), (fun h => by cases h), (fun h => by cases h), (fun h => by cases h), (fun h => by cases h)⟩
  · rintro d a W ⟨u15, u16, u94, u95, u96, u97, u98, u99, u100, u101, lo, hi, g0, g1, hfr, fold, fL0, fC0, fL1, fC1, fF, fM, fE0, fE1, fA0, fA1, fO5_4, fO6_4, fO8_4, fO7_4, fO9_4⟩ hi_ hd
    simp [Region.binds] at hd
    refine op_load (k := kb0) (by rw [hfr, e2]; exact ha2) (fold.block _ (lt_of_some b0) |>.trans b0) Tryz.underlying47 rfl (by kernel_rfl) ?_
    exact ⟨u15, u16, u94, .agg #[x0_0, x0_1], u96, u97, u98, u99, u100, u101, lo, hi, g0, g1, (by rw [hfr]; exact putAll_put a0 _ _ _ rfl), (fold),
      (fun _ => rfl),
      (fun h0 h1 => fC0 h0 h1),
      (fun h0 => fL1 h0),
      (fun h0 h1 => fC1 h0 h1),
      (fun h0 => fF h0),
      (fun h0 => fM h0),
      (fun h0 => fE0 h0),
      (fun h0 => fE1 h0),
      (fun h0 => fA0 h0),
      (fun h0 => fA1 h0),
      (fun h => fO5_4 h),
      (fun h => fO6_4 h),
      (fun h => fO8_4 h),
      (fun h => fO7_4 h),
      (fun h => fO9_4 h)⟩
  · rintro d a W ⟨u15, u16, u94, u95, u96, u97, u98, u99, u100, u101, lo, hi, g0, g1, hfr, fold, fL0, fC0, fL1, fC1, fF, fM, fE0, fE1, fA0, fA1, fO5_4, fO6_4, fO8_4, fO7_4, fO9_4⟩ hi_ hd
    simp [Region.binds] at hd
    have HD0 : d 0 = true := by simp only [hd]
    clear hd
    have hv := fL0 HD0
    refine op_call_ret Tryz.call26 (vs := #[.agg #[x0_0, x0_1]]) (by simp [hfr, e95, getKey, hv]) (c0 W fold) ?_
    rintro v W' ⟨g, hcr⟩
    exact ⟨u15, u16, u94, u95, v, u97, u98, u99, u100, u101, lo, hi, g0, g1, (by rw [hfr]; exact putAll_put a0 _ _ _ rfl), (Old.trans fold g),
      (fun h0 => fL0 h0),
      (fun _ _ => hcr),
      (fun h0 => fL1 h0),
      (fun h0 h1 => hCR1 _ _ _ (fC1 h0 h1) g),
      (fun h0 => by obtain ⟨e1, e2, e3, e9⟩ := fF h0; exact ⟨e1, e2, Nat.le_trans e3 g.size, far _ _ _ _ _ _ e9 (fun b _ hb => g.block b (by omega)) g.size⟩),
      (fun h0 => fM h0),
      (fun h0 => fE0 h0),
      (fun h0 => fE1 h0),
      (fun h0 => fA0 h0),
      (fun h0 => fA1 h0),
      (fun h => fO5_4 h),
      (fun h => fO6_4 h),
      (fun h => fO8_4 h),
      (fun h => fO7_4 h),
      (fun h => fO9_4 h)⟩
  · rintro d a W ⟨u15, u16, u94, u95, u96, u97, u98, u99, u100, u101, lo, hi, g0, g1, hfr, fold, fL0, fC0, fL1, fC1, fF, fM, fE0, fE1, fA0, fA1, fO5_4, fO6_4, fO8_4, fO7_4, fO9_4⟩ hi_ hd
    simp [Region.binds] at hd
    refine op_load (k := kb1) (by rw [hfr, e3]; exact ha3) (fold.block _ (lt_of_some b1) |>.trans b1) Tryz.underlying50 rfl (by kernel_rfl) ?_
    exact ⟨u15, u16, u94, u95, u96, .agg #[x1_0, x1_1], u98, u99, u100, u101, lo, hi, g0, g1, (by rw [hfr]; exact putAll_put a0 _ _ _ rfl), (fold),
      (fun h0 => fL0 h0),
      (fun h0 h1 => fC0 h0 h1),
      (fun _ => rfl),
      (fun h0 h1 => fC1 h0 h1),
      (fun h0 => fF h0),
      (fun h0 => fM h0),
      (fun h0 => fE0 h0),
      (fun h0 => fE1 h0),
      (fun h0 => fA0 h0),
      (fun h0 => fA1 h0),
      (fun h => fO5_4 h),
      (fun h => fO6_4 h),
      (fun h => fO8_4 h),
      (fun h => fO7_4 h),
      (fun h => fO9_4 h)⟩
  · rintro d a W ⟨u15, u16, u94, u95, u96, u97, u98, u99, u100, u101, lo, hi, g0, g1, hfr, fold, fL0, fC0, fL1, fC1, fF, fM, fE0, fE1, fA0, fA1, fO5_4, fO6_4, fO8_4, fO7_4, fO9_4⟩ hi_ hd
    simp [Region.binds] at hd
    have HD2 : d 2 = true := by simp only [hd]
    clear hd
    have hv := fL1 HD2
    refine op_call_ret Tryz.call27 (vs := #[.agg #[x1_0, x1_1]]) (by simp [hfr, e97, getKey, hv]) (c1 W fold) ?_
    rintro v W' ⟨g, hcr⟩
    exact ⟨u15, u16, u94, u95, u96, u97, v, u99, u100, u101, lo, hi, g0, g1, (by rw [hfr]; exact putAll_put a0 _ _ _ rfl), (Old.trans fold g),
      (fun h0 => fL0 h0),
      (fun h0 h1 => hCR0 _ _ _ (fC0 h0 h1) g),
      (fun h0 => fL1 h0),
      (fun _ _ => hcr),
      (fun h0 => by obtain ⟨e1, e2, e3, e9⟩ := fF h0; exact ⟨e1, e2, Nat.le_trans e3 g.size, far _ _ _ _ _ _ e9 (fun b _ hb => g.block b (by omega)) g.size⟩),
      (fun h0 => fM h0),
      (fun h0 => fE0 h0),
      (fun h0 => fE1 h0),
      (fun h0 => fA0 h0),
      (fun h0 => fA1 h0),
      (fun h => fO5_4 h),
      (fun h => fO6_4 h),
      (fun h => fO8_4 h),
      (fun h => fO7_4 h),
      (fun h => fO9_4 h)⟩
  · rintro d a W ⟨u15, u16, u94, u95, u96, u97, u98, u99, u100, u101, lo, hi, g0, g1, hfr, fold, fL0, fC0, fL1, fC1, fF, fM, fE0, fE1, fA0, fA1, fO5_4, fO6_4, fO8_4, fO7_4, fO9_4⟩ hi_ hd
    simp [Region.binds] at hd
    have HD1 : d 1 = true := by simp only [hd]
    have HD3 : d 3 = true := by simp only [hd]
    clear hd
    refine op_call_ret (R := fun v w' => ∃ (g0 : Value) (g1 : Value), v = .tuple #[g0, g1] ∧ Old W w' ∧ RES w' W.heap.size w'.heap.size g0 g1) Tryz.call28 (vs := #[u96, u98]) (by simp [hfr, e96, e98, getKey]) ((cf W _ _ fold (fC0 HD1 hi_) (fC1 HD3 hi_)).mono (fun e w' h => by obtain ⟨g0, g1, rfl, h⟩ := h; exact ⟨_, rfl, g0, g1, rfl, h⟩)) ?_
    rintro v W' ⟨r0, r1, rfl, g, hres⟩
    exact ⟨u15, u16, u94, u95, u96, u97, u98, .tuple #[r0, r1], u100, u101, W.heap.size, W'.heap.size, r0, r1, (by rw [hfr]; exact putAll_put a0 _ _ _ rfl), (Old.trans fold g),
      (fun h0 => fL0 h0),
      (fun h0 h1 => by cases h1),
      (fun h0 => fL1 h0),
      (fun h0 h1 => by cases h1),
      (fun _ => ⟨rfl, (fold.size), Nat.le_refl _, hres⟩),
      (fun h0 => by have hx_ := fO5_4 h0; rw [hi_] at hx_; cases hx_),
      (fun h0 => by have hx_ := fO6_4 h0; rw [hi_] at hx_; cases hx_),
      (fun h0 => by have hx_ := fO7_4 h0; rw [hi_] at hx_; cases hx_),
      (fun h0 => by have hx_ := fO8_4 h0; rw [hi_] at hx_; cases hx_),
      (fun h0 => by have hx_ := fO9_4 h0; rw [hi_] at hx_; cases hx_),
      (fun _ => rfl),
      (fun _ => rfl),
      (fun _ => rfl),
      (fun _ => rfl),
      (fun _ => rfl)⟩
  · rintro d a W ⟨u15, u16, u94, u95, u96, u97, u98, u99, u100, u101, lo, hi, g0, g1, hfr, fold, fL0, fC0, fL1, fC1, fF, fM, fE0, fE1, fA0, fA1, fO5_4, fO6_4, fO8_4, fO7_4, fO9_4⟩ hi_ hd
    simp [Region.binds] at hd
    have HD4 : d 4 = true := by simp only [hd]
    clear hd
    have hv := (fF HD4).1
    refine op_move ?_
    rw [show a.eval (.tmp 99) = .tuple #[g0, g1] by rw [hfr, e99]; exact hv]
    exact ⟨u15, u16, .tuple #[g0, g1], u95, u96, u97, u98, u99, u100, u101, lo, hi, g0, g1, (by rw [hfr]; exact putAll_put a0 _ _ _ rfl), (fold),
      (fun h0 => fL0 h0),
      (fun h0 h1 => fC0 h0 h1),
      (fun h0 => fL1 h0),
      (fun h0 h1 => fC1 h0 h1),
      (fun h0 => fF h0),
      (fun _ => rfl),
      (fun h0 => fE0 h0),
      (fun h0 => fE1 h0),
      (fun h0 => fA0 h0),
      (fun h0 => fA1 h0),
      (fun _ => HD4),
      (fun h => fO6_4 h),
      (fun h => fO8_4 h),
      (fun h => fO7_4 h),
      (fun h => fO9_4 h)⟩
  · rintro d a W ⟨u15, u16, u94, u95, u96, u97, u98, u99, u100, u101, lo, hi, g0, g1, hfr, fold, fL0, fC0, fL1, fC1, fF, fM, fE0, fE1, fA0, fA1, fO5_4, fO6_4, fO8_4, fO7_4, fO9_4⟩ hi_ hd
    simp [Region.binds] at hd
    have HD5 : d 5 = true := by simp only [hd]
    have HD4 : d 4 = true := fO5_4 HD5
    clear hd
    have hv := fM HD5
    refine op_extract (by rw [hfr, e94]; exact hv) rfl ?_
    exact ⟨u15, u16, u94, u95, u96, u97, u98, u99, g0, u101, lo, hi, g0, g1, (by rw [hfr]; exact putAll_put a0 _ _ _ rfl), (fold),
      (fun h0 => fL0 h0),
      (fun h0 h1 => fC0 h0 h1),
      (fun h0 => fL1 h0),
      (fun h0 h1 => fC1 h0 h1),
      (fun h0 => fF h0),
      (fun h0 => fM h0),
      (fun _ => rfl),
      (fun h0 => fE1 h0),
      (fun h0 => fA0 h0),
      (fun h0 => fA1 h0),
      (fun h => fO5_4 h),
      (fun _ => HD4),
      (fun h => fO8_4 h),
      (fun h => fO7_4 h),
      (fun h => fO9_4 h)⟩
  · rintro d a W ⟨u15, u16, u94, u95, u96, u97, u98, u99, u100, u101, lo, hi, g0, g1, hfr, fold, fL0, fC0, fL1, fC1, fF, fM, fE0, fE1, fA0, fA1, fO5_4, fO6_4, fO8_4, fO7_4, fO9_4⟩ hi_ hd
    simp [Region.binds] at hd
    have HD5 : d 5 = true := by simp only [hd]
    have HD4 : d 4 = true := fO5_4 HD5
    clear hd
    have hv := fM HD5
    refine op_extract (by rw [hfr, e94]; exact hv) rfl ?_
    exact ⟨u15, u16, u94, u95, u96, u97, u98, u99, u100, g1, lo, hi, g0, g1, (by rw [hfr]; exact putAll_put a0 _ _ _ rfl), (fold),
      (fun h0 => fL0 h0),
      (fun h0 h1 => fC0 h0 h1),
      (fun h0 => fL1 h0),
      (fun h0 h1 => fC1 h0 h1),
      (fun h0 => fF h0),
      (fun h0 => fM h0),
      (fun h0 => fE0 h0),
      (fun _ => rfl),
      (fun h0 => fA0 h0),
      (fun h0 => fA1 h0),
      (fun h => fO5_4 h),
      (fun h => fO6_4 h),
      (fun h => fO8_4 h),
      (fun _ => HD4),
      (fun h => fO9_4 h)⟩
  · rintro d a W ⟨u15, u16, u94, u95, u96, u97, u98, u99, u100, u101, lo, hi, g0, g1, hfr, fold, fL0, fC0, fL1, fC1, fF, fM, fE0, fE1, fA0, fA1, fO5_4, fO6_4, fO8_4, fO7_4, fO9_4⟩ hi_ hd
    simp [Region.binds] at hd
    have HD4 : d 4 = true := by simp only [hd]
    have HD6 : d 6 = true := by simp only [hd]
    clear hd
    have hv := fE0 HD6
    refine op_assign ?_
    rw [show a.eval (.tmp 100) = g0 by rw [hfr, e100]; exact hv]
    exact ⟨g0, u16, u94, u95, u96, u97, u98, u99, u100, u101, lo, hi, g0, g1, (by rw [hfr]; exact putAll_put a0 _ _ _ rfl), (fold),
      (fun h0 => fL0 h0),
      (fun h0 h1 => fC0 h0 h1),
      (fun h0 => fL1 h0),
      (fun h0 h1 => fC1 h0 h1),
      (fun h0 => fF h0),
      (fun h0 => fM h0),
      (fun h0 => fE0 h0),
      (fun h0 => fE1 h0),
      (fun _ => rfl),
      (fun h0 => fA1 h0),
      (fun h => fO5_4 h),
      (fun h => fO6_4 h),
      (fun _ => HD4),
      (fun h => fO7_4 h),
      (fun h => fO9_4 h)⟩
  · rintro d a W ⟨u15, u16, u94, u95, u96, u97, u98, u99, u100, u101, lo, hi, g0, g1, hfr, fold, fL0, fC0, fL1, fC1, fF, fM, fE0, fE1, fA0, fA1, fO5_4, fO6_4, fO8_4, fO7_4, fO9_4⟩ hi_ hd
    simp [Region.binds] at hd
    have HD4 : d 4 = true := by simp only [hd]
    have HD7 : d 7 = true := by simp only [hd]
    clear hd
    have hv := fE1 HD7
    refine op_assign ?_
    rw [show a.eval (.tmp 101) = g1 by rw [hfr, e101]; exact hv]
    exact ⟨u15, g1, u94, u95, u96, u97, u98, u99, u100, u101, lo, hi, g0, g1, (by rw [hfr]; exact putAll_put a0 _ _ _ rfl), (fold),
      (fun h0 => fL0 h0),
      (fun h0 h1 => fC0 h0 h1),
      (fun h0 => fL1 h0),
      (fun h0 h1 => fC1 h0 h1),
      (fun h0 => fF h0),
      (fun h0 => fM h0),
      (fun h0 => fE0 h0),
      (fun h0 => fE1 h0),
      (fun h0 => fA0 h0),
      (fun _ => rfl),
      (fun h => fO5_4 h),
      (fun h => fO6_4 h),
      (fun h => fO8_4 h),
      (fun h => fO7_4 h),
      (fun _ => HD4)⟩
  · rintro d a W hd ⟨u15, u16, u94, u95, u96, u97, u98, u99, u100, u101, lo, hi, g0, g1, hfr, fold, fL0, fC0, fL1, fC1, fF, fM, fE0, fE1, fA0, fA1, fO5_4, fO6_4, fO8_4, fO7_4, fO9_4⟩
    have hd2 : ∀ i, i < 10 → d i = true := hd
    clear hd
    have HD0 : d 0 = true := hd2 0 (by omega)
    have HD1 : d 1 = true := hd2 1 (by omega)
    have HD2 : d 2 = true := hd2 2 (by omega)
    have HD3 : d 3 = true := hd2 3 (by omega)
    have HD4 : d 4 = true := hd2 4 (by omega)
    have HD5 : d 5 = true := hd2 5 (by omega)
    have HD6 : d 6 = true := hd2 6 (by omega)
    have HD7 : d 7 = true := hd2 7 (by omega)
    have HD8 : d 8 = true := hd2 8 (by omega)
    have HD9 : d 9 = true := hd2 9 (by omega)
    obtain ⟨eF, lF, hF, rF⟩ := fF HD4
    have ha_0 := fA0 HD8
    rw [ha_0] at hfr
    have ha_1 := fA1 HD9
    rw [ha_1] at hfr
    show K a W
    rw [hfr]
    exact HK.out  lo hi g0 g1 u94 u95 u96 u97 u98 u99 u100 u101 W fold lF hF rF
end Go.Proofs.YtfgooclnohnkmaaGreatDoor
/- Proved: whether rows are as they should be, as the model tells it. -/
namespace Go.Proofs.YtfgooclnohnkmaaGreatDoor
open Go.ChangeShapes Go.WideShapes Go.ChangeAt Go.RowKit
open M1
set_option linter.unusedVariables false
set_option linter.unusedSimpArgs false
/-- from place k on each row is a polynomial of its ring -/
def rwA (N : Int) (ps : List Int) (xss : List (List Int)) (k : Nat) : Bool := decide (∀ i, i < ps.length → k ≤ i → polyB (ps.getD i 0) N (xss.getD i []) = true)
theorem rwA_end {N : Int} {ps : List Int} {xss : List (List Int)} {k : Nat} (h : ps.length ≤ k) : rwA N ps xss k = true := decide_eq_true (fun i h1 h2 => by omega)
theorem rwA_no {N : Int} {ps : List Int} {xss : List (List Int)} {k : Nat} (h : k < ps.length) (hk : polyB (ps.getD k 0) N (xss.getD k []) = false) : rwA N ps xss k = false :=
  decide_eq_false (fun f => by rw [f k h (Nat.le_refl _)] at hk; cases hk)
theorem rwA_yes {N : Int} {ps : List Int} {xss : List (List Int)} {k : Nat} (hk : polyB (ps.getD k 0) N (xss.getD k []) = true) : rwA N ps xss k = rwA N ps xss (k + 1) := by
  unfold rwA
  apply decide_eq_decide.2
  constructor
  · exact fun f i h1 h2 => f i h1 (by omega)
  · intro f i h1 h2
    rcases Nat.eq_or_lt_of_le h2 with e | e
    · subst e
      exact hk
    · exact f i h1 e
/-- rows are as they should be beside a good space -/
def rwB (N : Int) (ps : List Int) (xss : List (List Int)) : Bool := decide (xss.length = ps.length) && rwA N ps xss 0
def grB (N : Int) (ps : List Int) (xss : List (List Int)) : Bool := spB N ps && rwB N ps xss
set_option maxRecDepth 100000 in
set_option maxHeartbeats 2000000 in
theorem spec_l5Rows (N : Int) (ps : List Int) (xss : List (List Int)) (v u : Value) (w : World) (hv : Row w v ps) (hu : RowS w u xss) (hl : xss.length ≤ 1048576) (hr : ∀ r ∈ xss, r.length ≤ 1048576) (hs : spB N ps = true) :
    Calls Tryz.prog 152 #[.agg #[.int .i64 N, v], u] w fun e w' => e = .returned (.bool (rwB N ps xss)) ∧ Old w w' := by
  obtain ⟨hz, hbb, hring⟩ := sp_ring hs
  have hlen := (bas_at hbb).1
  have HPM : Hid (∀ k, k < ps.length → pmB (ps.getD k 0) = true) := (bas_at hbb).2
  have HR : Hid (∀ r ∈ xss, r.length ≤ 1048576) := hr
  obtain ⟨a0, cap0, ev⟩ := hv.slice
  obtain ⟨a1, cap1, eu⟩ := hu.slice
  subst ev eu
  have HV : Hid (Row w (.slice a0 ps.length cap0) ps) := hv
  have HU : Hid (RowS w (.slice a1 xss.length cap1) xss) := hu
  have hN : 2 ≤ N ∧ N ≤ 16 := by omega
  clear hv hu hr hring hbb hz hs
  by_cases hn : xss.length = ps.length
  · have HB : Hid (rwA N ps xss 0 = rwB N ps xss) := by show _ = _; unfold rwB; rw [decide_eq_true hn]; rfl
    have dn : ((xss.length : Int) != (ps.length : Int)) = false := by simp; omega
    generalize rwB N ps xss = B at *
    rcases HV.out with ⟨a, cap, e, e2⟩ | ⟨b, o, cap, e, hb, h1, hc⟩
    · subst e2
      simp at hlen
    simp only [Value.slice.injEq, true_and] at e
    obtain ⟨rfl, rfl⟩ := e
    rcases HU.out with ⟨a, cap, e, e2⟩ | ⟨b', o', cap, us, e, hb', h1', hc'⟩
    · subst e2
      simp at hn
      omega
    simp only [Value.slice.injEq, true_and] at e
    obtain ⟨rfl, rfl⟩ := e
    have HC : Hid (∀ j, j < ps.length → w.cell? ⟨b, o + j, none⟩ = some (.int .i64 (ps.getD j 0))) := hc
    have HC' : Hid (∀ j, j < xss.length → w.cell? ⟨b', o' + j, none⟩ = some (us j) ∧ Row w (us j) (xss.getD j [])) := hc'
    have HNN : Hid (xss.length = ps.length) := hn
    clear hc hc' hn
    have HN : Hid (Old w (w.alloc (.cells #[.int .i64 N, .slice (some ⟨b, o, none⟩) ps.length cap0] 56))) := (Old.refl w).alloc _
    go_enter Tryz.func152, Tryz.ntmps152
    go_wp2_with fail
    go_loopw [16] (fun i W => ∃ k : Nat, k ≤ ps.length ∧ i = .int .i64 k ∧ Hid (rwA N ps xss k = B) ∧ Hid (Old (w.alloc (.cells #[.int .i64 N, .slice (some ⟨b, o, none⟩) ps.length cap0] 56)) W)) (fun i _ => ps.length - (intOf i).toNat)
    case atStart => exact ⟨0, by omega, rfl, HB, Old.refl _⟩
    case round =>
      obtain ⟨k, hk, rfl, H1, HG⟩ := hrel
      clear HB
      have HGw : Hid (Old w wr) := Old.trans HN.out HG.out
      have hsw : w.heap.size < wr.heap.size := by have := HG.out.size; simp at this; omega
      by_cases hlt : k < ps.length
      · have d1 : decide ((k : Int) < (ps.length : Int)) = true := by simp; omega
        have hx := HNN.out
        have d2 : decide ((k : Int) < (xss.length : Int)) = true := by simp; omega
        have hkx : k < xss.length := by omega
        have c1 : wr.cell? ⟨b, o + k, none⟩ = some (.int .i64 (ps.getD k 0)) := (HGw.out.cell (p := ⟨b, o + k, none⟩) hb).trans (HC.out k hlt)
        obtain ⟨c2, r2⟩ := HC'.out k hkx
        obtain ⟨x1, y1, e1⟩ := r2.slice
        rw [e1] at c2 r2
        have hp := pm_bd (HPM.out k hlt)
        have hm : xss.getD k [] ∈ xss := by simp [List.getD, hkx]
        have hrl := HR.out _ hm
        have c3 : wr.cell? ⟨b', o' + k, none⟩ = some (.slice x1 (xss.getD k []).length y1) := (HGw.out.cell (p := ⟨b', o' + k, none⟩) hb').trans c2
        have R3 : Hid (Row wr (.slice x1 (xss.getD k []).length y1) (xss.getD k [])) := r2.old HGw.out
        have s0 : wr.cell? ⟨w.heap.size, 0, none⟩ = some (.int .i64 N) := (HG.out.cell (p := ⟨w.heap.size, 0, none⟩) (by simp)).trans (cell_at _ _ _ _ _ rfl)
        have HY : Hid (polyB (ps.getD k 0) N (xss.getD k []) = true → rwA N ps xss (k + 1) = B) := fun h => by have := H1.out; rw [rwA_yes h] at this; exact this
        have HNo : Hid (polyB (ps.getD k 0) N (xss.getD k []) = false → false = B) := fun h => by have := H1.out; rw [rwA_no hlt h] at this; exact this
        generalize xss.getD k [] = xs at *
        generalize ps.getD k 0 = p at *
        have cp := fun W (h : Row W (.slice x1 xs.length y1) xs) => spec_poly p N 0 xs _ W h (by omega) hp
        obtain ⟨q, hq⟩ : ∃ q, polyB p N xs = q := ⟨_, rfl⟩
        rw [hq] at cp HY HNo
        have hbr : b < wr.heap.size := Nat.lt_of_lt_of_le hb HGw.out.size
        have hbr' : b' < wr.heap.size := Nat.lt_of_lt_of_le hb' HGw.out.size
        have HAS : Hid (∀ W' : World, Old wr W' → (W'.cell? ⟨w.heap.size, 0, none⟩ = some (.int .i64 N) ∧ W'.cell? ⟨b', o' + k, none⟩ = some (.slice x1 xs.length y1))) := fun W' g => ⟨(g.cell (p := ⟨w.heap.size, 0, none⟩) hsw).trans s0, (g.cell (p := ⟨b', o' + k, none⟩) hbr').trans c3⟩
        clear H1 c2 r2 e1 hm hq hx
        cases q
        · have H3 : Hid (false = B) := HNo.out rfl
          clear HY HNo
          go_wp2_with fail
          go_region_held3 (fun W' => W'.cell? ⟨w.heap.size, 0, none⟩ = some (.int .i64 N) ∧ W'.cell? ⟨b', o' + k, none⟩ = some (.slice x1 xs.length y1)) (first | with_reducible exact HAS.out _ GE.out | with_reducible exact HAS.out _ (Below.drew (Old.refl wr)) | with_reducible exact HAS.out _ (Old.refl wr)) (first
            | (go_at_call 184; refine (cp _ (R3.out.old (Below.drew (Old.refl wr)))).mono ?_; rintro e w2 ⟨rfl, ge⟩; have GE : Hid (Old wr w2) := Old.trans (Below.drew (Old.refl wr)) ge; clear ge)
            | fail)
          have HG2 : Hid (Old w w2) := Old.trans HGw.out GE.out
          go_wp2_with fail
          go_ret
          exact ⟨ret_bb H3.out, HG2.out⟩
        · have H3 : Hid (rwA N ps xss (k + 1) = B) := HY.out rfl
          clear HY HNo
          go_wp2_with fail
          go_region_held3 (fun W' => W'.cell? ⟨w.heap.size, 0, none⟩ = some (.int .i64 N) ∧ W'.cell? ⟨b', o' + k, none⟩ = some (.slice x1 xs.length y1)) (first | with_reducible exact HAS.out _ GE.out | with_reducible exact HAS.out _ (Below.drew (Old.refl wr)) | with_reducible exact HAS.out _ (Old.refl wr)) (first
            | (go_at_call 184; refine (cp _ (R3.out.old (Below.drew (Old.refl wr)))).mono ?_; rintro e w2 ⟨rfl, ge⟩; have GE : Hid (Old wr w2) := Old.trans (Below.drew (Old.refl wr)) ge; clear ge)
            | fail)
          have HG2 : Hid (Old (w.alloc (.cells #[.int .i64 N, .slice (some ⟨b, o, none⟩) ps.length cap0] 56)) w2) := Old.trans HG.out GE.out
          go_wp2_with fail
          exact ⟨⟨k + 1, by omega, by go_num, H3, HG2⟩, by simp [intOf]; omega⟩
      · have d1 : decide ((k : Int) < (ps.length : Int)) = false := by simp; omega
        have H2 : Hid (true = B) := by have := H1.out; rw [rwA_end (by omega)] at this; exact this
        clear H1
        go_wp2_with fail
        go_ret
        exact ⟨ret_bb H2.out, HGw.out⟩
  · have HB : Hid (false = rwB N ps xss) := by show _ = _; unfold rwB; rw [decide_eq_false hn]; rfl
    have dn : ((xss.length : Int) != (ps.length : Int)) = true := by simp; omega
    generalize rwB N ps xss = B at *
    clear hn
    go_enter Tryz.func152, Tryz.ntmps152
    go_wp2_with fail
    go_ret
    exact ⟨ret_bb HB.out, (Old.refl w).alloc _⟩
theorem spec_goodRows (N : Int) (ps : List Int) (n : Bool) (xss : List (List Int)) (v u : Value) (w : World) (hv : Row w v ps) (hf : Fit v) (hu : RowS w u xss) (hlp : ps.length ≤ 1048576) (hx : ∀ x ∈ ps, -9223372036854775808 ≤ x ∧ x ≤ 9223372036854775807) (hl : xss.length ≤ 1048576) (hr : ∀ r ∈ xss, r.length ≤ 1048576) :
    Calls Tryz.prog 83 #[.agg #[.int .i64 N, v], .agg #[.bool n, u]] w fun e w' => e = .returned (.bool (grB N ps xss)) ∧ Old w w' := by
  have cg := fun W (h : Row W v ps) => spec_goodSpace N ps v W h hf (by omega) hx
  have cr := fun W (h : Row W v ps) (k : RowS W u xss) (hs : spB N ps = true) => spec_l5Rows N ps xss v u W h k hl hr hs
  have HV : Hid (Row w v ps) := hv
  have HU : Hid (RowS w u xss) := hu
  obtain ⟨a0, cap0, ev⟩ := hv.slice
  obtain ⟨a1, cap1, eu⟩ := hu.slice
  subst ev eu
  have HN : Hid (Old w ((w.alloc (.cells #[.int .i64 N, .slice a0 ps.length cap0] 56)).alloc (.cells #[.bool n, .slice a1 xss.length cap1] 58))) := ((Old.refl w).alloc _).alloc _
  clear hv hu hf hx hr
  cases hs : spB N ps
  · have HB : Hid (false = grB N ps xss) := by show _ = _; unfold grB; rw [hs]; rfl
    rw [hs] at cg
    generalize grB N ps xss = B at *
    clear hs cr
    go_enter Tryz.func83, Tryz.ntmps83
    go_wp2_with fail
    refine (cg _ (HV.out.old HN.out)).mono ?_
    rintro e w1 ⟨rfl, g1⟩
    have HG : Hid (Old w w1) := Old.trans HN.out g1
    clear g1
    go_wp2_with fail
    go_ret
    exact ⟨ret_bb HB.out, HG.out⟩
  · have HB : Hid (rwB N ps xss = grB N ps xss) := by show _ = _; unfold grB; rw [hs]; rfl
    rw [hs] at cg
    have cr2 := fun W (h : Row W (.slice a0 ps.length cap0) ps) (k : RowS W (.slice a1 xss.length cap1) xss) => cr W h k hs
    generalize grB N ps xss = B at *
    clear hs cr
    go_enter Tryz.func83, Tryz.ntmps83
    go_wp2_with fail
    refine (cg _ (HV.out.old HN.out)).mono ?_
    rintro e w1 ⟨rfl, g1⟩
    have HG : Hid (Old w w1) := Old.trans HN.out g1
    have s0 : w1.cell? ⟨w.heap.size, 0, none⟩ = some (.int .i64 N) := (g1.cell (p := ⟨w.heap.size, 0, none⟩) (by simp; omega)).trans (by simp [cell_at, cell_lt])
    have s1 : w1.cell? ⟨w.heap.size, 1, none⟩ = some (.slice a0 ps.length cap0) := (g1.cell (p := ⟨w.heap.size, 1, none⟩) (by simp; omega)).trans (by simp [cell_at, cell_lt])
    have s2 : w1.cell? ⟨w.heap.size + 1, 1, none⟩ = some (.slice a1 xss.length cap1) := (g1.cell (p := ⟨w.heap.size + 1, 1, none⟩) (by simp)).trans (by simp [cell_at, cell_lt])
    clear g1
    go_wp2_with fail
    refine (cr2 _ (HV.out.old HG.out) (HU.out.old HG.out)).mono ?_
    rintro e w2 ⟨rfl, g2⟩
    have HG2 : Hid (Old w w2) := Old.trans HG.out g2
    clear g2
    go_wp2_with fail
    go_ret
    exact ⟨ret_bb HB.out, HG2.out⟩
end Go.Proofs.YtfgooclnohnkmaaGreatDoor
/- Proved: rows beside their rings, as the program makes them. -/
namespace Go.Proofs.YtfgooclnohnkmaaGreatDoor
open Go.ChangeShapes Go.WideShapes Go.ChangeAt Go.RowKit
open M1
set_option linter.unusedVariables false
set_option linter.unusedSimpArgs false
theorem Tryz.infoRingRow : (Tryz.prog.info? 153).map (fun i => (i.zero, i.size, i.bytes)) = some (some (.agg #[.int .i64 0, .int .i64 0, .int .i64 0, .bool false, .slice none 0 0]), 5, 56) := by kernel_rfl
/-- the first k rows beside their rings lie in block g; the rows themselves where us says -/
def RRs (W : World) (g : Nat) (N : Int) (n : Bool) (ps : List Int) (Rf : Nat → Int) (us : Nat → Option Addr) (k : Nat) : Prop :=
  ∃ vs : List Value, vs.length = 5 * ps.length ∧ W.ownsRow g 153 5 (.slice (some ⟨g, 0, none⟩) ps.length ps.length) ps.length vs
    ∧ ∀ i, i < k → vs[i * 5]? = some (.int .i64 (ps.getD i 0)) ∧ vs[i * 5 + 1]? = some (.int .i64 N) ∧ vs[i * 5 + 2]? = some (.int .i64 (Rf i)) ∧ vs[i * 5 + 3]? = some (.bool n) ∧ vs[i * 5 + 4]? = some (.slice (us i) N.toNat N.toNat)
theorem RRs.lt {W : World} {g : Nat} {N : Int} {n : Bool} {ps : List Int} {Rf : Nat → Int} {us : Nat → Option Addr} {k : Nat} (h : RRs W g N n ps Rf us k) : g < W.heap.size := by
  obtain ⟨vs, _, ho, _⟩ := h
  exact (ho.lt g rfl).2
theorem RRs.old {W W' : World} {g : Nat} {N : Int} {n : Bool} {ps : List Int} {Rf : Nat → Int} {us : Nat → Option Addr} {k : Nat} (h : RRs W g N n ps Rf us k) (q : Old W W') : RRs W' g N n ps Rf us k := by
  obtain ⟨vs, hl, ho, hy⟩ := h
  refine ⟨vs, hl, ⟨ho.1, ?_⟩, hy⟩
  rcases ho.2 with hn | ⟨p, cap, cur, e, hb, hgg, rest⟩
  · exact .inl hn
  · refine .inr ⟨p, cap, cur, e, hb, ?_, rest⟩
    rw [q.block p (Array.getElem?_eq_some_iff.1 hgg).1]
    exact hgg
theorem RRs.cell {W : World} {g : Nat} {N : Int} {n : Bool} {ps : List Int} {Rf : Nat → Int} {us : Nat → Option Addr} {k : Nat} (h : RRs W g N n ps Rf us k) (j : Nat) (hj : j < 5 * ps.length) : ∃ y : Value, W.cell? ⟨g, j, none⟩ = some y := by
  obtain ⟨vs, hl, ho, hy⟩ := h
  refine ⟨vs[j]'(by omega), ?_⟩
  rw [World.ownsRow.cellAt ho j (by omega)]
  exact List.getElem?_eq_getElem _
theorem RRs.free {W : World} {g : Nat} {N : Int} {n : Bool} {ps : List Int} {Rf : Nat → Int} {us : Nat → Option Addr} {k : Nat} (h : RRs W g N n ps Rf us k) (j : Nat) : W.frozen? ⟨g, j, none⟩ = false := by
  obtain ⟨vs, hl, ho, hy⟩ := h
  exact World.ownsRow.frozenAt ho j
theorem RRs.at {W : World} {g : Nat} {N : Int} {n : Bool} {ps : List Int} {Rf : Nat → Int} {us : Nat → Option Addr} {k : Nat} (h : RRs W g N n ps Rf us k) (i : Nat) (hi : i < k) (hx : i < ps.length) :
    W.cell? ⟨g, i * 5, none⟩ = some (.int .i64 (ps.getD i 0)) ∧ W.cell? ⟨g, i * 5 + 1, none⟩ = some (.int .i64 N) ∧ W.cell? ⟨g, i * 5 + 2, none⟩ = some (.int .i64 (Rf i)) ∧ W.cell? ⟨g, i * 5 + 3, none⟩ = some (.bool n) ∧ W.cell? ⟨g, i * 5 + 4, none⟩ = some (.slice (us i) N.toNat N.toNat) := by
  obtain ⟨vs, hl, ho, hy⟩ := h
  obtain ⟨h0, h1, h2, h3, h4⟩ := hy i hi
  refine ⟨?_, ?_, ?_, ?_, ?_⟩
  · rw [World.ownsRow.cellAt ho _ (by omega)]; exact h0
  · rw [World.ownsRow.cellAt ho _ (by omega)]; exact h1
  · rw [World.ownsRow.cellAt ho _ (by omega)]; exact h2
  · rw [World.ownsRow.cellAt ho _ (by omega)]; exact h3
  · rw [World.ownsRow.cellAt ho _ (by omega)]; exact h4
theorem RRs.put {W : World} {g : Nat} {N : Int} {n : Bool} {ps : List Int} {Rf : Nat → Int} {us : Nat → Option Addr} {k : Nat} (h : RRs W g N n ps Rf us k) (hk : k < ps.length) :
    RRs (((((W.setCell ⟨g, k * 5, none⟩ (.int .i64 (ps.getD k 0))).setCell ⟨g, k * 5 + 1, none⟩ (.int .i64 N)).setCell ⟨g, k * 5 + 2, none⟩ (.int .i64 (Rf k))).setCell ⟨g, k * 5 + 3, none⟩ (.bool n)).setCell ⟨g, k * 5 + 4, none⟩ (.slice (us k) N.toNat N.toNat)) g N n ps Rf us (k + 1) := by
  obtain ⟨vs, hl, ho, hy⟩ := h
  have h1 := (World.ownsRow.stored ho (k * 5) (.int .i64 (ps.getD k 0))).1
  have h2 := (World.ownsRow.stored h1 (k * 5 + 1) (.int .i64 N)).1
  have h3 := (World.ownsRow.stored h2 (k * 5 + 2) (.int .i64 (Rf k))).1
  have h4 := (World.ownsRow.stored h3 (k * 5 + 3) (.bool n)).1
  have h5 := (World.ownsRow.stored h4 (k * 5 + 4) (.slice (us k) N.toNat N.toNat)).1
  refine ⟨_, by simp [hl], h5, fun i hi => ?_⟩
  rcases Nat.lt_or_ge i k with hlt | hge
  · obtain ⟨q0, q1, q2, q3, q4⟩ := hy i hlt
    refine ⟨?_, ?_, ?_, ?_, ?_⟩
    all_goals (rw [List.getElem?_set_ne (by omega), List.getElem?_set_ne (by omega), List.getElem?_set_ne (by omega), List.getElem?_set_ne (by omega), List.getElem?_set_ne (by omega)]; assumption)
  · obtain rfl : i = k := by omega
    refine ⟨?_, ?_, ?_, ?_, ?_⟩
    · rw [List.getElem?_set_ne (by omega), List.getElem?_set_ne (by omega), List.getElem?_set_ne (by omega), List.getElem?_set_ne (by omega), List.getElem?_set_self (by omega)]
    · rw [List.getElem?_set_ne (by omega), List.getElem?_set_ne (by omega), List.getElem?_set_ne (by omega), List.getElem?_set_self (by simp; omega)]
    · rw [List.getElem?_set_ne (by omega), List.getElem?_set_ne (by omega), List.getElem?_set_self (by simp; omega)]
    · rw [List.getElem?_set_ne (by omega), List.getElem?_set_self (by simp; omega)]
    · rw [List.getElem?_set_self (by simp; omega)]
/-- where the rows lie -/
def RowsAt (w : World) (v : Value) (ps : List Int) (xss : List (List Int)) (us : Nat → Option Addr) (cs : Nat → Nat) : Prop :=
  ∃ b cap, v = .slice (some ⟨b, 0, none⟩) xss.length cap ∧ b < w.heap.size ∧ ∀ j, j < xss.length → w.cell? ⟨b, j, none⟩ = some (.slice (us j) (xss.getD j []).length (cs j)) ∧ (xss.getD j []).length ≤ cs j ∧ Row w (.slice (us j) (xss.getD j []).length (cs j)) (xss.getD j [])
theorem OwS.at {xss : List (List Int)} {W : World} {lo hi : Nat} {v : Value} (ps : List Int) (h : OwS xss W lo hi v) (h0 : 0 < xss.length) : ∃ us cs, RowsAt W v ps xss us cs := by
  obtain ⟨hh, h | ⟨p, cap, vs, rfl, hcap, hlo, hhi, ho, hvl, hj, hd⟩⟩ := h
  · obtain ⟨rfl, rfl⟩ := h
    simp at h0
  · have key : ∀ j, ∃ ac : Option Addr × Nat, j < xss.length → W.cell? ⟨p, j, none⟩ = some (.slice ac.1 (xss.getD j []).length ac.2) ∧ (xss.getD j []).length ≤ ac.2 ∧ Row W (.slice ac.1 (xss.getD j []).length ac.2) (xss.getD j []) := fun j => by
      by_cases hjl : j < xss.length
      · obtain ⟨a, c, e, hc, o, hb⟩ := hj j hjl
        refine ⟨(a, c), fun _ => ⟨?_, hc, o.row⟩⟩
        rw [World.ownsRow.cellAt ho j (by omega)]
        exact e
      · exact ⟨(none, 0), fun h => absurd h hjl⟩
    obtain ⟨f, hf⟩ := Classical.skolem.1 key
    exact ⟨fun j => (f j).1, fun j => (f j).2, p, cap, rfl, by omega, hf⟩
theorem RowsAt.old {w w' : World} {v : Value} {ps : List Int} {xss : List (List Int)} {us : Nat → Option Addr} {cs : Nat → Nat} (h : RowsAt w v ps xss us cs) (g : Old w w') : RowsAt w' v ps xss us cs := by
  obtain ⟨b, cap, e, hb, hc⟩ := h
  exact ⟨b, cap, e, Nat.lt_of_lt_of_le hb g.size, fun j hj => ⟨(g.cell (p := ⟨b, j, none⟩) hb).trans (hc j hj).1, (hc j hj).2.1, (hc j hj).2.2.old g⟩⟩
end Go.Proofs.YtfgooclnohnkmaaGreatDoor
