/- Proved: several texts in one: what each proves is said ahead of it. -/
import Derived.Test.YtakleianimcmdaaGreatDoorA04
import Derived.Test.YtakleianimcmdaaGreatDoorA02
/- Proved: a drawn region of the statement FnExactNegCipher, by what holds between its operations, in whatever order. -/
namespace Go.Proofs.YtakleianimcmdaaGreatDoor
open Go.ChangeShapes Go.WideShapes Go.ChangeAt Go.RowKit
set_option linter.unusedVariables false
set_option linter.unusedSimpArgs false
def regionAtreg9_NegCipherA (n : Nat) : Code → Option Code
  | .region i ops b => if i = n then some (.region i ops b) else none
  | .seq a b => match regionAtreg9_NegCipherA n a with
    | some c => some c
    | none => regionAtreg9_NegCipherA n b
  | .block _ c => regionAtreg9_NegCipherA n c
  | _ => none
set_option maxRecDepth 100000 in
set_option maxHeartbeats 8000000 in
theorem reg9_NegCipherA (w2 : World) (x0_0 x0_1 x0_2 x0_3 : Value) (kb0 : Nat) (x1_0 : Value) (kb1 : Nat) 
    (CR0 : World → Value → Prop) (hCR0 : ∀ W W' v, CR0 W v → Old W W' → CR0 W' v)
    (c0 : ∀ W, Old w2 W → Calls Tryz.prog 11 #[.agg #[x0_0, x0_1, x0_2, x0_3]] W fun e w' => ∃ v, e = .returned v ∧ Old W w' ∧ CR0 w' v)
    (b0 : w2.heap[kb0]? = some (.cells #[x0_0, x0_1, x0_2, x0_3] 24 (0, 0)))
    (CR1 : World → Value → Prop) (hCR1 : ∀ W W' v, CR1 W v → Old W W' → CR1 W' v)
    (c1 : ∀ W, Old w2 W → Calls Tryz.prog 21 #[.agg #[x1_0]] W fun e w' => ∃ v, e = .returned v ∧ Old W w' ∧ CR1 w' v)
    (b1 : w2.heap[kb1]? = some (.cells #[x1_0] 34 (0, 0)))
    (RES : World → Nat → Nat → Array Value → Value → Prop) (far : ∀ W W' lo hi (g0 : Array Value) (g1 : Value), RES W lo hi g0 g1 → (∀ b, lo ≤ b → b < hi → W'.heap[b]? = W.heap[b]?) → W.heap.size ≤ W'.heap.size → RES W' lo hi g0 g1)
    (cf : ∀ W v0 v1, Old w2 W → CR0 W v0 → CR1 W v1 → Calls Tryz.prog 27 #[v0, v1] W fun e w' => ∃ (g0 : Array Value) (g1 : Value), e = .returned (.tuple #[.agg g0, g1]) ∧ Old W w' ∧ g0.size = 1 ∧ g0.all (·.oneCell') = true ∧ RES w' W.heap.size w'.heap.size g0 g1)
    (Q : Exit → Act → World → Prop) (K : Act → World → Prop) (a0 : Act) (hsz : 119 ≤ a0.tmps.size) (ha2 : a0.eval (.tmp 2) = .pointer (some ⟨kb0, 0, none⟩)) (ha3 : a0.eval (.tmp 3) = .pointer (some ⟨kb1, 0, none⟩))
    (HK : Hid (∀ (k0 lo hi : Nat) (g0 : Array Value) (g1 : Value) (u27 u28 u29 u30 u31 u32 u33 u34 : Value) (W : World), Old w2 W → w2.heap.size ≤ lo → hi ≤ W.heap.size → RES W lo hi g0 g1 → W.heap[k0]? = some (.cells g0 42 (0, 0)) → w2.heap.size ≤ k0 → k0 < W.heap.size → (k0 < lo ∨ hi ≤ k0) → K (putAll a0 [(6, .pointer (some ⟨k0, 0, none⟩)), (7, g1), (27, u27), (28, u28), (29, u29), (30, u30), (31, u31), (32, u32), (33, u33), (34, u34)]) W)) :
    Code.wp Tryz.prog ((Tryz.f6.body.bind (regionAtreg9_NegCipherA 8)).getD .skip) (Exit.then K Q) a0 w2 := by
  conv => arg 2; whnf
  have e2 : ∀ l, (putAll a0 l).eval (.tmp 2) = (getKey l 2).getD (a0.eval (.tmp 2)) := eval_putAll a0 2 (by omega)
  have e3 : ∀ l, (putAll a0 l).eval (.tmp 3) = (getKey l 3).getD (a0.eval (.tmp 3)) := eval_putAll a0 3 (by omega)
  have e6 : ∀ l, (putAll a0 l).eval (.tmp 6) = (getKey l 6).getD (a0.eval (.tmp 6)) := eval_putAll a0 6 (by omega)
  have e7 : ∀ l, (putAll a0 l).eval (.tmp 7) = (getKey l 7).getD (a0.eval (.tmp 7)) := eval_putAll a0 7 (by omega)
  have e27 : ∀ l, (putAll a0 l).eval (.tmp 27) = (getKey l 27).getD (a0.eval (.tmp 27)) := eval_putAll a0 27 (by omega)
  have e28 : ∀ l, (putAll a0 l).eval (.tmp 28) = (getKey l 28).getD (a0.eval (.tmp 28)) := eval_putAll a0 28 (by omega)
  have e29 : ∀ l, (putAll a0 l).eval (.tmp 29) = (getKey l 29).getD (a0.eval (.tmp 29)) := eval_putAll a0 29 (by omega)
  have e30 : ∀ l, (putAll a0 l).eval (.tmp 30) = (getKey l 30).getD (a0.eval (.tmp 30)) := eval_putAll a0 30 (by omega)
  have e31 : ∀ l, (putAll a0 l).eval (.tmp 31) = (getKey l 31).getD (a0.eval (.tmp 31)) := eval_putAll a0 31 (by omega)
  have e32 : ∀ l, (putAll a0 l).eval (.tmp 32) = (getKey l 32).getD (a0.eval (.tmp 32)) := eval_putAll a0 32 (by omega)
  have e33 : ∀ l, (putAll a0 l).eval (.tmp 33) = (getKey l 33).getD (a0.eval (.tmp 33)) := eval_putAll a0 33 (by omega)
  have e34 : ∀ l, (putAll a0 l).eval (.tmp 34) = (getKey l 34).getD (a0.eval (.tmp 34)) := eval_putAll a0 34 (by omega)
  refine wp_region_steps (fun d a W => ∃ (u6 u7 u27 u28 u29 u30 u31 u32 u33 u34 : Value) (k0 lo hi : Nat) (g0 : Array Value) (g1 : Value), a = (putAll a0 [(6, u6), (7, u7), (27, u27), (28, u28), (29, u29), (30, u30), (31, u31), (32, u32), (33, u33), (34, u34)]) ∧ (Old w2 W) ∧ (d 0 = true → u28 = .agg #[x0_0, x0_1, x0_2, x0_3]) ∧ (d 1 = true → d 4 = false → CR0 W u29) ∧ (d 2 = true → u30 = .agg #[x1_0]) ∧ (d 3 = true → d 4 = false → CR1 W u31) ∧ (d 4 = true → u32 = .tuple #[.agg g0, g1] ∧ w2.heap.size ≤ lo ∧ hi ≤ W.heap.size ∧ g0.size = 1 ∧ g0.all (·.oneCell') = true ∧ RES W lo hi g0 g1) ∧ (d 5 = true → u27 = .tuple #[.agg g0, g1]) ∧ (d 6 = true → u33 = .agg g0) ∧ (d 7 = true → u34 = g1) ∧ (d 8 = true → u6 = .pointer (some ⟨k0, 0, none⟩) ∧ w2.heap.size ≤ k0 ∧ k0 < W.heap.size) ∧ (d 8 = true → d 9 = false → W.heap[k0]? = some (.cells #[.slice none 0 0] 42 (0, 0))) ∧ (d 9 = true → W.heap[k0]? = some (.cells g0 42 (0, 0))) ∧ (d 8 = true → d 4 = true → (k0 < lo ∨ hi ≤ k0)) ∧ (d 10 = true → u7 = g1) ∧ (d 5 = true → d 4 = true) ∧ (d 6 = true → d 4 = true) ∧ (d 9 = true → d 4 = true) ∧ (d 9 = true → d 8 = true) ∧ (d 7 = true → d 4 = true) ∧ (d 10 = true → d 4 = true)) rfl (by decide +kernel) (by decide +kernel) ?_ ⟨?_, ?_, ?_, ?_, ?_, ?_, ?_, ?_, ?_, ?_, ?_, trivial⟩ ?_
  · exact ⟨_, _, _, _, _, _, _, _, _, _, 0, 0, 0, #[], undef, (putAll_self a0 [6, 7, 27, 28, 29, 30, 31, 32, 33, 34] (by intro s hs; simp at hs; omega)).symm, Below.drew (Old.refl w2), (fun h => by cases h), (fun h => by cases h), (fun h => by cases h), (fun h => by cases h), (fun h => by cases h), (fun h => by cases h), (fun h => by cases h), (fun h => by cases h), (fun h => by cases h), (fun h => by cases h), (fun h => by cases h), (fun h => by cases h), (fun h => by cases h), (fun h => by cases h), (fun h => by cases h), (fun h => by cases h), (fun h => by cases h), (fun h => by cases h), (fun h => by cases h)⟩
  · rintro d a W ⟨u6, u7, u27, u28, u29, u30, u31, u32, u33, u34, k0, lo, hi, g0, g1, hfr, fold, fL0, fC0, fL1, fC1, fF, fM, fE0, fE1, fB0, fZ0, fS0, fX0, fA1, fO5_4, fO6_4, fO9_4, fO9_8, fO7_4, fO10_4⟩ hi_ hd
    simp [Region.binds] at hd
    refine op_load (k := kb0) (by rw [hfr, e2]; exact ha2) (fold.block _ (lt_of_some b0) |>.trans b0) Tryz.underlying24 rfl (by kernel_rfl) ?_
    exact ⟨u6, u7, u27, .agg #[x0_0, x0_1, x0_2, x0_3], u29, u30, u31, u32, u33, u34, k0, lo, hi, g0, g1, (by rw [hfr]; exact putAll_put a0 _ _ _ rfl), (fold),
      (fun _ => rfl),
      (fun h0 h1 => fC0 h0 h1),
      (fun h0 => fL1 h0),
      (fun h0 h1 => fC1 h0 h1),
      (fun h0 => fF h0),
      (fun h0 => fM h0),
      (fun h0 => fE0 h0),
      (fun h0 => fE1 h0),
      (fun h0 => fB0 h0),
      (fun h0 h1 => fZ0 h0 h1),
      (fun h0 => fS0 h0),
      (fun h0 h1 => fX0 h0 h1),
      (fun h0 => fA1 h0),
      (fun h => fO5_4 h),
      (fun h => fO6_4 h),
      (fun h => fO9_4 h),
      (fun h => fO9_8 h),
      (fun h => fO7_4 h),
      (fun h => fO10_4 h)⟩
  · rintro d a W ⟨u6, u7, u27, u28, u29, u30, u31, u32, u33, u34, k0, lo, hi, g0, g1, hfr, fold, fL0, fC0, fL1, fC1, fF, fM, fE0, fE1, fB0, fZ0, fS0, fX0, fA1, fO5_4, fO6_4, fO9_4, fO9_8, fO7_4, fO10_4⟩ hi_ hd
    simp [Region.binds] at hd
    have HD0 : d 0 = true := by simp only [hd]
    clear hd
    have hv := fL0 HD0
    refine op_call_ret Tryz.call11 (vs := #[.agg #[x0_0, x0_1, x0_2, x0_3]]) (by simp [hfr, e28, getKey, hv]) (c0 W fold) ?_
    rintro v W' ⟨g, hcr⟩
    exact ⟨u6, u7, u27, u28, v, u30, u31, u32, u33, u34, k0, lo, hi, g0, g1, (by rw [hfr]; exact putAll_put a0 _ _ _ rfl), (Old.trans fold g),
      (fun h0 => fL0 h0),
      (fun _ _ => hcr),
      (fun h0 => fL1 h0),
      (fun h0 h1 => hCR1 _ _ _ (fC1 h0 h1) g),
      (fun h0 => by obtain ⟨e1, e2, e3, z0, y0, e9⟩ := fF h0; exact ⟨e1, e2, Nat.le_trans e3 g.size, z0, y0, far _ _ _ _ _ _ e9 (fun b _ hb => g.block b (by omega)) g.size⟩),
      (fun h0 => fM h0),
      (fun h0 => fE0 h0),
      (fun h0 => fE1 h0),
      (fun h0 => by obtain ⟨e1, e2, e3⟩ := fB0 h0; exact ⟨e1, e2, Nat.lt_of_lt_of_le e3 g.size⟩),
      (fun h0 h1 => (g.block _ (lt_of_some (fZ0 h0 h1))).trans (fZ0 h0 h1)),
      (fun h0 => (g.block _ (lt_of_some (fS0 h0))).trans (fS0 h0)),
      (fun h0 h1 => fX0 h0 h1),
      (fun h0 => fA1 h0),
      (fun h => fO5_4 h),
      (fun h => fO6_4 h),
      (fun h => fO9_4 h),
      (fun h => fO9_8 h),
      (fun h => fO7_4 h),
      (fun h => fO10_4 h)⟩
  · rintro d a W ⟨u6, u7, u27, u28, u29, u30, u31, u32, u33, u34, k0, lo, hi, g0, g1, hfr, fold, fL0, fC0, fL1, fC1, fF, fM, fE0, fE1, fB0, fZ0, fS0, fX0, fA1, fO5_4, fO6_4, fO9_4, fO9_8, fO7_4, fO10_4⟩ hi_ hd
    simp [Region.binds] at hd
    refine op_load (k := kb1) (by rw [hfr, e3]; exact ha3) (fold.block _ (lt_of_some b1) |>.trans b1) Tryz.underlying34 rfl (by kernel_rfl) ?_
    exact ⟨u6, u7, u27, u28, u29, .agg #[x1_0], u31, u32, u33, u34, k0, lo, hi, g0, g1, (by rw [hfr]; exact putAll_put a0 _ _ _ rfl), (fold),
      (fun h0 => fL0 h0),
      (fun h0 h1 => fC0 h0 h1),
      (fun _ => rfl),
      (fun h0 h1 => fC1 h0 h1),
      (fun h0 => fF h0),
      (fun h0 => fM h0),
      (fun h0 => fE0 h0),
      (fun h0 => fE1 h0),
      (fun h0 => fB0 h0),
      (fun h0 h1 => fZ0 h0 h1),
      (fun h0 => fS0 h0),
      (fun h0 h1 => fX0 h0 h1),
      (fun h0 => fA1 h0),
      (fun h => fO5_4 h),
      (fun h => fO6_4 h),
      (fun h => fO9_4 h),
      (fun h => fO9_8 h),
      (fun h => fO7_4 h),
      (fun h => fO10_4 h)⟩
  · rintro d a W ⟨u6, u7, u27, u28, u29, u30, u31, u32, u33, u34, k0, lo, hi, g0, g1, hfr, fold, fL0, fC0, fL1, fC1, fF, fM, fE0, fE1, fB0, fZ0, fS0, fX0, fA1, fO5_4, fO6_4, fO9_4, fO9_8, fO7_4, fO10_4⟩ hi_ hd
    simp [Region.binds] at hd
    have HD2 : d 2 = true := by simp only [hd]
    clear hd
    have hv := fL1 HD2
    refine op_call_ret Tryz.call21 (vs := #[.agg #[x1_0]]) (by simp [hfr, e30, getKey, hv]) (c1 W fold) ?_
    rintro v W' ⟨g, hcr⟩
    exact ⟨u6, u7, u27, u28, u29, u30, v, u32, u33, u34, k0, lo, hi, g0, g1, (by rw [hfr]; exact putAll_put a0 _ _ _ rfl), (Old.trans fold g),
      (fun h0 => fL0 h0),
      (fun h0 h1 => hCR0 _ _ _ (fC0 h0 h1) g),
      (fun h0 => fL1 h0),
      (fun _ _ => hcr),
      (fun h0 => by obtain ⟨e1, e2, e3, z0, y0, e9⟩ := fF h0; exact ⟨e1, e2, Nat.le_trans e3 g.size, z0, y0, far _ _ _ _ _ _ e9 (fun b _ hb => g.block b (by omega)) g.size⟩),
      (fun h0 => fM h0),
      (fun h0 => fE0 h0),
      (fun h0 => fE1 h0),
      (fun h0 => by obtain ⟨e1, e2, e3⟩ := fB0 h0; exact ⟨e1, e2, Nat.lt_of_lt_of_le e3 g.size⟩),
      (fun h0 h1 => (g.block _ (lt_of_some (fZ0 h0 h1))).trans (fZ0 h0 h1)),
      (fun h0 => (g.block _ (lt_of_some (fS0 h0))).trans (fS0 h0)),
      (fun h0 h1 => fX0 h0 h1),
      (fun h0 => fA1 h0),
      (fun h => fO5_4 h),
      (fun h => fO6_4 h),
      (fun h => fO9_4 h),
      (fun h => fO9_8 h),
      (fun h => fO7_4 h),
      (fun h => fO10_4 h)⟩
  · rintro d a W ⟨u6, u7, u27, u28, u29, u30, u31, u32, u33, u34, k0, lo, hi, g0, g1, hfr, fold, fL0, fC0, fL1, fC1, fF, fM, fE0, fE1, fB0, fZ0, fS0, fX0, fA1, fO5_4, fO6_4, fO9_4, fO9_8, fO7_4, fO10_4⟩ hi_ hd
    simp [Region.binds] at hd
    have HD1 : d 1 = true := by simp only [hd]
    have HD3 : d 3 = true := by simp only [hd]
    clear hd
    refine op_call_ret (R := fun v w' => ∃ (g0 : Array Value) (g1 : Value), v = .tuple #[.agg g0, g1] ∧ Old W w' ∧ g0.size = 1 ∧ g0.all (·.oneCell') = true ∧ RES w' W.heap.size w'.heap.size g0 g1) Tryz.call27 (vs := #[u29, u31]) (by simp [hfr, e29, e31, getKey]) ((cf W _ _ fold (fC0 HD1 hi_) (fC1 HD3 hi_)).mono (fun e w' h => by obtain ⟨g0, g1, rfl, h⟩ := h; exact ⟨_, rfl, g0, g1, rfl, h⟩)) ?_
    rintro v W' ⟨r0, r1, rfl, g, z0, y0, hres⟩
    exact ⟨u6, u7, u27, u28, u29, u30, u31, .tuple #[.agg r0, r1], u33, u34, k0, W.heap.size, W'.heap.size, r0, r1, (by rw [hfr]; exact putAll_put a0 _ _ _ rfl), (Old.trans fold g),
      (fun h0 => fL0 h0),
      (fun h0 h1 => by cases h1),
      (fun h0 => fL1 h0),
      (fun h0 h1 => by cases h1),
      (fun _ => ⟨rfl, (fold.size), Nat.le_refl _, z0, y0, hres⟩),
      (fun h0 => by have hx_ := fO5_4 h0; rw [hi_] at hx_; cases hx_),
      (fun h0 => by have hx_ := fO6_4 h0; rw [hi_] at hx_; cases hx_),
      (fun h0 => by have hx_ := fO7_4 h0; rw [hi_] at hx_; cases hx_),
      (fun h0 => by obtain ⟨e1, e2, e3⟩ := fB0 h0; exact ⟨e1, e2, Nat.lt_of_lt_of_le e3 g.size⟩),
      (fun h0 h1 => (g.block _ (lt_of_some (fZ0 h0 h1))).trans (fZ0 h0 h1)),
      (fun h0 => by have hx_ := fO9_4 h0; rw [hi_] at hx_; cases hx_),
      (fun hb _ => Or.inl (fB0 hb).2.2),
      (fun h0 => by have hx_ := fO10_4 h0; rw [hi_] at hx_; cases hx_),
      (fun _ => rfl),
      (fun _ => rfl),
      (fun _ => rfl),
      (fun h => fO9_8 h),
      (fun _ => rfl),
      (fun _ => rfl)⟩
  · rintro d a W ⟨u6, u7, u27, u28, u29, u30, u31, u32, u33, u34, k0, lo, hi, g0, g1, hfr, fold, fL0, fC0, fL1, fC1, fF, fM, fE0, fE1, fB0, fZ0, fS0, fX0, fA1, fO5_4, fO6_4, fO9_4, fO9_8, fO7_4, fO10_4⟩ hi_ hd
    simp [Region.binds] at hd
    have HD4 : d 4 = true := by simp only [hd]
    clear hd
    have hv := (fF HD4).1
    refine op_move ?_
    rw [show a.eval (.tmp 32) = .tuple #[.agg g0, g1] by rw [hfr, e32]; exact hv]
    exact ⟨u6, u7, .tuple #[.agg g0, g1], u28, u29, u30, u31, u32, u33, u34, k0, lo, hi, g0, g1, (by rw [hfr]; exact putAll_put a0 _ _ _ rfl), (fold),
      (fun h0 => fL0 h0),
      (fun h0 h1 => fC0 h0 h1),
      (fun h0 => fL1 h0),
      (fun h0 h1 => fC1 h0 h1),
      (fun h0 => fF h0),
      (fun _ => rfl),
      (fun h0 => fE0 h0),
      (fun h0 => fE1 h0),
      (fun h0 => fB0 h0),
      (fun h0 h1 => fZ0 h0 h1),
      (fun h0 => fS0 h0),
      (fun h0 h1 => fX0 h0 h1),
      (fun h0 => fA1 h0),
      (fun _ => HD4),
      (fun h => fO6_4 h),
      (fun h => fO9_4 h),
      (fun h => fO9_8 h),
      (fun h => fO7_4 h),
      (fun h => fO10_4 h)⟩
  · rintro d a W ⟨u6, u7, u27, u28, u29, u30, u31, u32, u33, u34, k0, lo, hi, g0, g1, hfr, fold, fL0, fC0, fL1, fC1, fF, fM, fE0, fE1, fB0, fZ0, fS0, fX0, fA1, fO5_4, fO6_4, fO9_4, fO9_8, fO7_4, fO10_4⟩ hi_ hd
    simp [Region.binds] at hd
    have HD5 : d 5 = true := by simp only [hd]
    have HD4 : d 4 = true := fO5_4 HD5
    clear hd
    have hv := fM HD5
    refine op_extract (by rw [hfr, e27]; exact hv) rfl ?_
    exact ⟨u6, u7, u27, u28, u29, u30, u31, u32, .agg g0, u34, k0, lo, hi, g0, g1, (by rw [hfr]; exact putAll_put a0 _ _ _ rfl), (fold),
      (fun h0 => fL0 h0),
      (fun h0 h1 => fC0 h0 h1),
      (fun h0 => fL1 h0),
      (fun h0 h1 => fC1 h0 h1),
      (fun h0 => fF h0),
      (fun h0 => fM h0),
      (fun _ => rfl),
      (fun h0 => fE1 h0),
      (fun h0 => fB0 h0),
      (fun h0 h1 => fZ0 h0 h1),
      (fun h0 => fS0 h0),
      (fun h0 h1 => fX0 h0 h1),
      (fun h0 => fA1 h0),
      (fun h => fO5_4 h),
      (fun _ => HD4),
      (fun h => fO9_4 h),
      (fun h => fO9_8 h),
      (fun h => fO7_4 h),
      (fun h => fO10_4 h)⟩
  · rintro d a W ⟨u6, u7, u27, u28, u29, u30, u31, u32, u33, u34, k0, lo, hi, g0, g1, hfr, fold, fL0, fC0, fL1, fC1, fF, fM, fE0, fE1, fB0, fZ0, fS0, fX0, fA1, fO5_4, fO6_4, fO9_4, fO9_8, fO7_4, fO10_4⟩ hi_ hd
    simp [Region.binds] at hd
    have HD5 : d 5 = true := by simp only [hd]
    have HD4 : d 4 = true := fO5_4 HD5
    clear hd
    have hv := fM HD5
    refine op_extract (by rw [hfr, e27]; exact hv) rfl ?_
    exact ⟨u6, u7, u27, u28, u29, u30, u31, u32, u33, g1, k0, lo, hi, g0, g1, (by rw [hfr]; exact putAll_put a0 _ _ _ rfl), (fold),
      (fun h0 => fL0 h0),
      (fun h0 h1 => fC0 h0 h1),
      (fun h0 => fL1 h0),
      (fun h0 h1 => fC1 h0 h1),
      (fun h0 => fF h0),
      (fun h0 => fM h0),
      (fun h0 => fE0 h0),
      (fun _ => rfl),
      (fun h0 => fB0 h0),
      (fun h0 h1 => fZ0 h0 h1),
      (fun h0 => fS0 h0),
      (fun h0 h1 => fX0 h0 h1),
      (fun h0 => fA1 h0),
      (fun h => fO5_4 h),
      (fun h => fO6_4 h),
      (fun h => fO9_4 h),
      (fun h => fO9_8 h),
      (fun _ => HD4),
      (fun h => fO10_4 h)⟩
  · rintro d a W ⟨u6, u7, u27, u28, u29, u30, u31, u32, u33, u34, k0, lo, hi, g0, g1, hfr, fold, fL0, fC0, fL1, fC1, fF, fM, fE0, fE1, fB0, fZ0, fS0, fX0, fA1, fO5_4, fO6_4, fO9_4, fO9_8, fO7_4, fO10_4⟩ hi_ hd
    simp [Region.binds] at hd
    refine op_alloc (z := .agg #[.slice none 0 0]) (by kernel_rfl) ?_
    have g : Old W (W.alloc (.cells #[.slice none 0 0] 42)) := (Old.refl W).alloc _
    exact ⟨.pointer (some ⟨W.heap.size, 0, none⟩), u7, u27, u28, u29, u30, u31, u32, u33, u34, W.heap.size, lo, hi, g0, g1, (by rw [hfr]; exact putAll_put a0 _ _ _ rfl), (Old.trans fold g),
      (fun h0 => fL0 h0),
      (fun h0 h1 => hCR0 _ _ _ (fC0 h0 h1) g),
      (fun h0 => fL1 h0),
      (fun h0 h1 => hCR1 _ _ _ (fC1 h0 h1) g),
      (fun h0 => by obtain ⟨e1, e2, e3, z0, y0, e9⟩ := fF h0; exact ⟨e1, e2, Nat.le_trans e3 g.size, z0, y0, far _ _ _ _ _ _ e9 (fun b _ hb => g.block b (by omega)) g.size⟩),
      (fun h0 => fM h0),
      (fun h0 => fE0 h0),
      (fun h0 => fE1 h0),
      (fun _ => ⟨rfl, fold.size, by simp⟩),
      (fun _ _ => heap_alloc_new W _),
      (fun h0 => by have hx_ := fO9_8 h0; rw [hi_] at hx_; cases hx_),
      (fun _ hf => Or.inr (fF hf).2.2.1),
      (fun h0 => fA1 h0),
      (fun h => fO5_4 h),
      (fun h => fO6_4 h),
      (fun h => fO9_4 h),
      (fun _ => rfl),
      (fun h => fO7_4 h),
      (fun h => fO10_4 h)⟩
  · rintro d a W ⟨u6, u7, u27, u28, u29, u30, u31, u32, u33, u34, k0, lo, hi, g0, g1, hfr, fold, fL0, fC0, fL1, fC1, fF, fM, fE0, fE1, fB0, fZ0, fS0, fX0, fA1, fO5_4, fO6_4, fO9_4, fO9_8, fO7_4, fO10_4⟩ hi_ hd
    simp [Region.binds] at hd
    have HD4 : d 4 = true := by simp only [hd]
    have HD6 : d 6 = true := by simp only [hd]
    have HD8 : d 8 = true := by simp only [hd]
    clear hd
    obtain ⟨hp, hlo, hlt⟩ := fB0 HD8
    have hv := fE0 HD6
    have hz := fZ0 HD8 hi_
    obtain ⟨eF, lF, hF, z0, y0, rF⟩ := fF HD4
    have hx := fX0 HD8 HD4
    refine op_store (k := k0) (by rw [hfr, e6]; exact hp) (by rw [hfr, e33]; exact hv) hz (by rw [z0]; kernel_rfl) (by rw [z0]; rfl) y0 ?_
    have hsz2 : (W.setRow k0 g0).heap.size = W.heap.size := size_setRow _ _ _
    have hot : ∀ b, b ≠ k0 → (W.setRow k0 g0).heap[b]? = W.heap[b]? := fun b hb => heap_setRow_other _ _ _ _ hb
    exact ⟨u6, u7, u27, u28, u29, u30, u31, u32, u33, u34, k0, lo, hi, g0, g1, hfr, (old_setRow fold hlo _),
      (fun h0 => fL0 h0),
      (fun h0 h1 => by have hx_ : d 4 = false := h1; rw [HD4] at hx_; cases hx_),
      (fun h0 => fL1 h0),
      (fun h0 h1 => by have hx_ : d 4 = false := h1; rw [HD4] at hx_; cases hx_),
      (fun h0 => ⟨eF, lF, by rw [hsz2]; exact hF, z0, y0, far _ _ _ _ _ _ rF (fun b h1 h2 => hot b (by omega)) (by rw [hsz2]; exact Nat.le_refl _)⟩),
      (fun h0 => fM h0),
      (fun h0 => fE0 h0),
      (fun h0 => fE1 h0),
      (fun h0 => ⟨hp, hlo, by rw [hsz2]; exact hlt⟩),
      (fun h0 h1 => by cases h1),
      (fun _ => heap_setRow_same hz),
      (fun h0 h1 => fX0 h0 h1),
      (fun h0 => fA1 h0),
      (fun h => fO5_4 h),
      (fun h => fO6_4 h),
      (fun _ => HD4),
      (fun _ => HD8),
      (fun h => fO7_4 h),
      (fun h => fO10_4 h)⟩
  · rintro d a W ⟨u6, u7, u27, u28, u29, u30, u31, u32, u33, u34, k0, lo, hi, g0, g1, hfr, fold, fL0, fC0, fL1, fC1, fF, fM, fE0, fE1, fB0, fZ0, fS0, fX0, fA1, fO5_4, fO6_4, fO9_4, fO9_8, fO7_4, fO10_4⟩ hi_ hd
    simp [Region.binds] at hd
    have HD4 : d 4 = true := by simp only [hd]
    have HD7 : d 7 = true := by simp only [hd]
    clear hd
    have hv := fE1 HD7
    refine op_assign ?_
    rw [show a.eval (.tmp 34) = g1 by rw [hfr, e34]; exact hv]
    exact ⟨u6, g1, u27, u28, u29, u30, u31, u32, u33, u34, k0, lo, hi, g0, g1, (by rw [hfr]; exact putAll_put a0 _ _ _ rfl), (fold),
      (fun h0 => fL0 h0),
      (fun h0 h1 => fC0 h0 h1),
      (fun h0 => fL1 h0),
      (fun h0 h1 => fC1 h0 h1),
      (fun h0 => fF h0),
      (fun h0 => fM h0),
      (fun h0 => fE0 h0),
      (fun h0 => fE1 h0),
      (fun h0 => fB0 h0),
      (fun h0 h1 => fZ0 h0 h1),
      (fun h0 => fS0 h0),
      (fun h0 h1 => fX0 h0 h1),
      (fun _ => rfl),
      (fun h => fO5_4 h),
      (fun h => fO6_4 h),
      (fun h => fO9_4 h),
      (fun h => fO9_8 h),
      (fun h => fO7_4 h),
      (fun _ => HD4)⟩
  · rintro d a W hd ⟨u6, u7, u27, u28, u29, u30, u31, u32, u33, u34, k0, lo, hi, g0, g1, hfr, fold, fL0, fC0, fL1, fC1, fF, fM, fE0, fE1, fB0, fZ0, fS0, fX0, fA1, fO5_4, fO6_4, fO9_4, fO9_8, fO7_4, fO10_4⟩
    have hd2 : ∀ i, i < 11 → d i = true := hd
    clear hd
    have HD0 : d 0 = true := hd2 0 (by omega)
    have HD1 : d 1 = true := hd2 1 (by omega)
    have HD2 : d 2 = true := hd2 2 (by omega)
    have HD3 : d 3 = true := hd2 3 (by omega)
    have HD4 : d 4 = true := hd2 4 (by omega)
    have HD5 : d 5 = true := hd2 5 (by omega)
    have HD6 : d 6 = true := hd2 6 (by omega)
    have HD7 : d 7 = true := hd2 7 (by omega)
    have HD8 : d 8 = true := hd2 8 (by omega)
    have HD9 : d 9 = true := hd2 9 (by omega)
    have HD10 : d 10 = true := hd2 10 (by omega)
    obtain ⟨eF, lF, hF, z0, y0, rF⟩ := fF HD4
    obtain ⟨hp0, hlo0, hlt0⟩ := fB0 HD8
    rw [hp0] at hfr
    have ha_1 := fA1 HD10
    rw [ha_1] at hfr
    show K a W
    rw [hfr]
    exact HK.out k0 lo hi g0 g1 u27 u28 u29 u30 u31 u32 u33 u34 W fold lF hF rF (fS0 HD9) hlo0 hlt0 (fX0 HD8 HD4)
end Go.Proofs.YtakleianimcmdaaGreatDoor
/- Proved: a drawn region of the statement FnExactNegCipher, by what holds between its operations, in whatever order. -/
namespace Go.Proofs.YtakleianimcmdaaGreatDoor
open Go.ChangeShapes Go.WideShapes Go.ChangeAt Go.RowKit
set_option linter.unusedVariables false
set_option linter.unusedSimpArgs false
def regionAtreg9_NegCipherB (n : Nat) : Code → Option Code
  | .region i ops b => if i = n then some (.region i ops b) else none
  | .seq a b => match regionAtreg9_NegCipherB n a with
    | some c => some c
    | none => regionAtreg9_NegCipherB n b
  | .block _ c => regionAtreg9_NegCipherB n c
  | _ => none
set_option maxRecDepth 100000 in
set_option maxHeartbeats 8000000 in
theorem reg9_NegCipherB (w2 : World) (x0_0 x0_1 x0_2 x0_3 : Value) (kb0 : Nat) (x1_0 : Value) (kb1 : Nat) 
    (CR0 : World → Value → Prop) (hCR0 : ∀ W W' v, CR0 W v → Old W W' → CR0 W' v)
    (c0 : ∀ W, Old w2 W → Calls Tryz.prog 11 #[.agg #[x0_0, x0_1, x0_2, x0_3]] W fun e w' => ∃ v, e = .returned v ∧ Old W w' ∧ CR0 w' v)
    (b0 : w2.heap[kb0]? = some (.cells #[x0_0, x0_1, x0_2, x0_3] 24 (0, 0)))
    (CR1 : World → Value → Prop) (hCR1 : ∀ W W' v, CR1 W v → Old W W' → CR1 W' v)
    (c1 : ∀ W, Old w2 W → Calls Tryz.prog 21 #[.agg #[x1_0]] W fun e w' => ∃ v, e = .returned v ∧ Old W w' ∧ CR1 w' v)
    (b1 : w2.heap[kb1]? = some (.cells #[x1_0] 34 (0, 0)))
    (RES : World → Nat → Nat → Array Value → Value → Prop) (far : ∀ W W' lo hi (g0 : Array Value) (g1 : Value), RES W lo hi g0 g1 → (∀ b, lo ≤ b → b < hi → W'.heap[b]? = W.heap[b]?) → W.heap.size ≤ W'.heap.size → RES W' lo hi g0 g1)
    (cf : ∀ W v0 v1, Old w2 W → CR0 W v0 → CR1 W v1 → Calls Tryz.prog 28 #[v0, v1] W fun e w' => ∃ (g0 : Array Value) (g1 : Value), e = .returned (.tuple #[.agg g0, g1]) ∧ Old W w' ∧ g0.size = 1 ∧ g0.all (·.oneCell') = true ∧ RES w' W.heap.size w'.heap.size g0 g1)
    (Q : Exit → Act → World → Prop) (K : Act → World → Prop) (a0 : Act) (hsz : 119 ≤ a0.tmps.size) (ha2 : a0.eval (.tmp 2) = .pointer (some ⟨kb0, 0, none⟩)) (ha3 : a0.eval (.tmp 3) = .pointer (some ⟨kb1, 0, none⟩))
    (HK : Hid (∀ (k0 lo hi : Nat) (g0 : Array Value) (g1 : Value) (u94 u95 u96 u97 u98 u99 u100 u101 : Value) (W : World), Old w2 W → w2.heap.size ≤ lo → hi ≤ W.heap.size → RES W lo hi g0 g1 → W.heap[k0]? = some (.cells g0 42 (0, 0)) → w2.heap.size ≤ k0 → k0 < W.heap.size → (k0 < lo ∨ hi ≤ k0) → K (putAll a0 [(15, .pointer (some ⟨k0, 0, none⟩)), (16, g1), (94, u94), (95, u95), (96, u96), (97, u97), (98, u98), (99, u99), (100, u100), (101, u101)]) W)) :
    Code.wp Tryz.prog ((Tryz.f6.body.bind (regionAtreg9_NegCipherB 31)).getD .skip) (Exit.then K Q) a0 w2 := by
  conv => arg 2; whnf
  have e2 : ∀ l, (putAll a0 l).eval (.tmp 2) = (getKey l 2).getD (a0.eval (.tmp 2)) := eval_putAll a0 2 (by omega)
  have e3 : ∀ l, (putAll a0 l).eval (.tmp 3) = (getKey l 3).getD (a0.eval (.tmp 3)) := eval_putAll a0 3 (by omega)
  have e15 : ∀ l, (putAll a0 l).eval (.tmp 15) = (getKey l 15).getD (a0.eval (.tmp 15)) := eval_putAll a0 15 (by omega)
  have e16 : ∀ l, (putAll a0 l).eval (.tmp 16) = (getKey l 16).getD (a0.eval (.tmp 16)) := eval_putAll a0 16 (by omega)
  have e94 : ∀ l, (putAll a0 l).eval (.tmp 94) = (getKey l 94).getD (a0.eval (.tmp 94)) := eval_putAll a0 94 (by omega)
  have e95 : ∀ l, (putAll a0 l).eval (.tmp 95) = (getKey l 95).getD (a0.eval (.tmp 95)) := eval_putAll a0 95 (by omega)
  have e96 : ∀ l, (putAll a0 l).eval (.tmp 96) = (getKey l 96).getD (a0.eval (.tmp 96)) := eval_putAll a0 96 (by omega)
  have e97 : ∀ l, (putAll a0 l).eval (.tmp 97) = (getKey l 97).getD (a0.eval (.tmp 97)) := eval_putAll a0 97 (by omega)
  have e98 : ∀ l, (putAll a0 l).eval (.tmp 98) = (getKey l 98).getD (a0.eval (.tmp 98)) := eval_putAll a0 98 (by omega)
  have e99 : ∀ l, (putAll a0 l).eval (.tmp 99) = (getKey l 99).getD (a0.eval (.tmp 99)) := eval_putAll a0 99 (by omega)
  have e100 : ∀ l, (putAll a0 l).eval (.tmp 100) = (getKey l 100).getD (a0.eval (.tmp 100)) := eval_putAll a0 100 (by omega)
  have e101 : ∀ l, (putAll a0 l).eval (.tmp 101) = (getKey l 101).getD (a0.eval (.tmp 101)) := eval_putAll a0 101 (by omega)
  refine wp_region_steps (fun d a W => ∃ (u15 u16 u94 u95 u96 u97 u98 u99 u100 u101 : Value) (k0 lo hi : Nat) (g0 : Array Value) (g1 : Value), a = (putAll a0 [(15, u15), (16, u16), (94, u94), (95, u95), (96, u96), (97, u97), (98, u98), (99, u99), (100, u100), (101, u101)]) ∧ (Old w2 W) ∧ (d 0 = true → u95 = .agg #[x0_0, x0_1, x0_2, x0_3]) ∧ (d 1 = true → d 4 = false → CR0 W u96) ∧ (d 2 = true → u97 = .agg #[x1_0]) ∧ (d 3 = true → d 4 = false → CR1 W u98) ∧ (d 4 = true → u99 = .tuple #[.agg g0, g1] ∧ w2.heap.size ≤ lo ∧ hi ≤ W.heap.size ∧ g0.size = 1 ∧ g0.all (·.oneCell') = true ∧ RES W lo hi g0 g1) ∧ (d 5 = true → u94 = .tuple #[.agg g0, g1]) ∧ (d 6 = true → u100 = .agg g0) ∧ (d 7 = true → u101 = g1) ∧ (d 8 = true → u15 = .pointer (some ⟨k0, 0, none⟩) ∧ w2.heap.size ≤ k0 ∧ k0 < W.heap.size) ∧ (d 8 = true → d 9 = false → W.heap[k0]? = some (.cells #[.slice none 0 0] 42 (0, 0))) ∧ (d 9 = true → W.heap[k0]? = some (.cells g0 42 (0, 0))) ∧ (d 8 = true → d 4 = true → (k0 < lo ∨ hi ≤ k0)) ∧ (d 10 = true → u16 = g1) ∧ (d 5 = true → d 4 = true) ∧ (d 6 = true → d 4 = true) ∧ (d 9 = true → d 4 = true) ∧ (d 9 = true → d 8 = true) ∧ (d 7 = true → d 4 = true) ∧ (d 10 = true → d 4 = true)) rfl (by decide +kernel) (by decide +kernel) ?_ ⟨?_, ?_, ?_, ?_, ?_, ?_, ?_, ?_, ?_, ?_, ?_, trivial⟩ ?_
  · exact ⟨_, _, _, _, _, _, _, _, _, _, 0, 0, 0, #[], undef, (putAll_self a0 [15, 16, 94, 95, 96, 97, 98, 99, 100, 101] (by intro s hs; simp at hs; omega)).symm, Below.drew (Old.refl w2), (fun h => by cases h), (fun h => by cases h), (fun h => by cases h), (fun h => by cases h), (fun h => by cases h), (fun h => by cases h), (fun h => by cases h), (fun h => by cases h), (fun h => by cases h), (fun h => by cases h), (fun h => by cases h), (fun h => by cases h), (fun h => by cases h), (fun h => by cases h), (fun h => by cases h), (fun h => by cases h), (fun h => by cases h), (fun h => by cases h), (fun h => by cases h)⟩
  · rintro d a W ⟨u15, u16, u94, u95, u96, u97, u98, u99, u100, u101, k0, lo, hi, g0, g1, hfr, fold, fL0, fC0, fL1, fC1, fF, fM, fE0, fE1, fB0, fZ0, fS0, fX0, fA1, fO5_4, fO6_4, fO9_4, fO9_8, fO7_4, fO10_4⟩ hi_ hd
    simp [Region.binds] at hd
    refine op_load (k := kb0) (by rw [hfr, e2]; exact ha2) (fold.block _ (lt_of_some b0) |>.trans b0) Tryz.underlying24 rfl (by kernel_rfl) ?_
    exact ⟨u15, u16, u94, .agg #[x0_0, x0_1, x0_2, x0_3], u96, u97, u98, u99, u100, u101, k0, lo, hi, g0, g1, (by rw [hfr]; exact putAll_put a0 _ _ _ rfl), (fold),
      (fun _ => rfl),
      (fun h0 h1 => fC0 h0 h1),
      (fun h0 => fL1 h0),
      (fun h0 h1 => fC1 h0 h1),
      (fun h0 => fF h0),
      (fun h0 => fM h0),
      (fun h0 => fE0 h0),
      (fun h0 => fE1 h0),
      (fun h0 => fB0 h0),
      (fun h0 h1 => fZ0 h0 h1),
      (fun h0 => fS0 h0),
      (fun h0 h1 => fX0 h0 h1),
      (fun h0 => fA1 h0),
      (fun h => fO5_4 h),
      (fun h => fO6_4 h),
      (fun h => fO9_4 h),
      (fun h => fO9_8 h),
      (fun h => fO7_4 h),
      (fun h => fO10_4 h)⟩
  · rintro d a W ⟨u15, u16, u94, u95, u96, u97, u98, u99, u100, u101, k0, lo, hi, g0, g1, hfr, fold, fL0, fC0, fL1, fC1, fF, fM, fE0, fE1, fB0, fZ0, fS0, fX0, fA1, fO5_4, fO6_4, fO9_4, fO9_8, fO7_4, fO10_4⟩ hi_ hd
    simp [Region.binds] at hd
    have HD0 : d 0 = true := by simp only [hd]
    clear hd
    have hv := fL0 HD0
    refine op_call_ret Tryz.call11 (vs := #[.agg #[x0_0, x0_1, x0_2, x0_3]]) (by simp [hfr, e95, getKey, hv]) (c0 W fold) ?_
    rintro v W' ⟨g, hcr⟩
    exact ⟨u15, u16, u94, u95, v, u97, u98, u99, u100, u101, k0, lo, hi, g0, g1, (by rw [hfr]; exact putAll_put a0 _ _ _ rfl), (Old.trans fold g),
      (fun h0 => fL0 h0),
      (fun _ _ => hcr),
      (fun h0 => fL1 h0),
      (fun h0 h1 => hCR1 _ _ _ (fC1 h0 h1) g),
      (fun h0 => by obtain ⟨e1, e2, e3, z0, y0, e9⟩ := fF h0; exact ⟨e1, e2, Nat.le_trans e3 g.size, z0, y0, far _ _ _ _ _ _ e9 (fun b _ hb => g.block b (by omega)) g.size⟩),
      (fun h0 => fM h0),
      (fun h0 => fE0 h0),
      (fun h0 => fE1 h0),
      (fun h0 => by obtain ⟨e1, e2, e3⟩ := fB0 h0; exact ⟨e1, e2, Nat.lt_of_lt_of_le e3 g.size⟩),
      (fun h0 h1 => (g.block _ (lt_of_some (fZ0 h0 h1))).trans (fZ0 h0 h1)),
      (fun h0 => (g.block _ (lt_of_some (fS0 h0))).trans (fS0 h0)),
      (fun h0 h1 => fX0 h0 h1),
      (fun h0 => fA1 h0),
      (fun h => fO5_4 h),
      (fun h => fO6_4 h),
      (fun h => fO9_4 h),
      (fun h => fO9_8 h),
      (fun h => fO7_4 h),
      (fun h => fO10_4 h)⟩
  · rintro d a W ⟨u15, u16, u94, u95, u96, u97, u98, u99, u100, u101, k0, lo, hi, g0, g1, hfr, fold, fL0, fC0, fL1, fC1, fF, fM, fE0, fE1, fB0, fZ0, fS0, fX0, fA1, fO5_4, fO6_4, fO9_4, fO9_8, fO7_4, fO10_4⟩ hi_ hd
    simp [Region.binds] at hd
    refine op_load (k := kb1) (by rw [hfr, e3]; exact ha3) (fold.block _ (lt_of_some b1) |>.trans b1) Tryz.underlying34 rfl (by kernel_rfl) ?_
    exact ⟨u15, u16, u94, u95, u96, .agg #[x1_0], u98, u99, u100, u101, k0, lo, hi, g0, g1, (by rw [hfr]; exact putAll_put a0 _ _ _ rfl), (fold),
      (fun h0 => fL0 h0),
      (fun h0 h1 => fC0 h0 h1),
      (fun _ => rfl),
      (fun h0 h1 => fC1 h0 h1),
      (fun h0 => fF h0),
      (fun h0 => fM h0),
      (fun h0 => fE0 h0),
      (fun h0 => fE1 h0),
      (fun h0 => fB0 h0),
      (fun h0 h1 => fZ0 h0 h1),
      (fun h0 => fS0 h0),
      (fun h0 h1 => fX0 h0 h1),
      (fun h0 => fA1 h0),
      (fun h => fO5_4 h),
      (fun h => fO6_4 h),
      (fun h => fO9_4 h),
      (fun h => fO9_8 h),
      (fun h => fO7_4 h),
      (fun h => fO10_4 h)⟩
  · rintro d a W ⟨u15, u16, u94, u95, u96, u97, u98, u99, u100, u101, k0, lo, hi, g0, g1, hfr, fold, fL0, fC0, fL1, fC1, fF, fM, fE0, fE1, fB0, fZ0, fS0, fX0, fA1, fO5_4, fO6_4, fO9_4, fO9_8, fO7_4, fO10_4⟩ hi_ hd
    simp [Region.binds] at hd
    have HD2 : d 2 = true := by simp only [hd]
    clear hd
    have hv := fL1 HD2
    refine op_call_ret Tryz.call21 (vs := #[.agg #[x1_0]]) (by simp [hfr, e97, getKey, hv]) (c1 W fold) ?_
    rintro v W' ⟨g, hcr⟩
    exact ⟨u15, u16, u94, u95, u96, u97, v, u99, u100, u101, k0, lo, hi, g0, g1, (by rw [hfr]; exact putAll_put a0 _ _ _ rfl), (Old.trans fold g),
      (fun h0 => fL0 h0),
      (fun h0 h1 => hCR0 _ _ _ (fC0 h0 h1) g),
      (fun h0 => fL1 h0),
      (fun _ _ => hcr),
      (fun h0 => by obtain ⟨e1, e2, e3, z0, y0, e9⟩ := fF h0; exact ⟨e1, e2, Nat.le_trans e3 g.size, z0, y0, far _ _ _ _ _ _ e9 (fun b _ hb => g.block b (by omega)) g.size⟩),
      (fun h0 => fM h0),
      (fun h0 => fE0 h0),
      (fun h0 => fE1 h0),
      (fun h0 => by obtain ⟨e1, e2, e3⟩ := fB0 h0; exact ⟨e1, e2, Nat.lt_of_lt_of_le e3 g.size⟩),
      (fun h0 h1 => (g.block _ (lt_of_some (fZ0 h0 h1))).trans (fZ0 h0 h1)),
      (fun h0 => (g.block _ (lt_of_some (fS0 h0))).trans (fS0 h0)),
      (fun h0 h1 => fX0 h0 h1),
      (fun h0 => fA1 h0),
      (fun h => fO5_4 h),
      (fun h => fO6_4 h),
      (fun h => fO9_4 h),
      (fun h => fO9_8 h),
      (fun h => fO7_4 h),
      (fun h => fO10_4 h)⟩
  · rintro d a W ⟨u15, u16, u94, u95, u96, u97, u98, u99, u100, u101, k0, lo, hi, g0, g1, hfr, fold, fL0, fC0, fL1, fC1, fF, fM, fE0, fE1, fB0, fZ0, fS0, fX0, fA1, fO5_4, fO6_4, fO9_4, fO9_8, fO7_4, fO10_4⟩ hi_ hd
    simp [Region.binds] at hd
    have HD1 : d 1 = true := by simp only [hd]
    have HD3 : d 3 = true := by simp only [hd]
    clear hd
    refine op_call_ret (R := fun v w' => ∃ (g0 : Array Value) (g1 : Value), v = .tuple #[.agg g0, g1] ∧ Old W w' ∧ g0.size = 1 ∧ g0.all (·.oneCell') = true ∧ RES w' W.heap.size w'.heap.size g0 g1) Tryz.call28 (vs := #[u96, u98]) (by simp [hfr, e96, e98, getKey]) ((cf W _ _ fold (fC0 HD1 hi_) (fC1 HD3 hi_)).mono (fun e w' h => by obtain ⟨g0, g1, rfl, h⟩ := h; exact ⟨_, rfl, g0, g1, rfl, h⟩)) ?_
    rintro v W' ⟨r0, r1, rfl, g, z0, y0, hres⟩
    exact ⟨u15, u16, u94, u95, u96, u97, u98, .tuple #[.agg r0, r1], u100, u101, k0, W.heap.size, W'.heap.size, r0, r1, (by rw [hfr]; exact putAll_put a0 _ _ _ rfl), (Old.trans fold g),
      (fun h0 => fL0 h0),
      (fun h0 h1 => by cases h1),
      (fun h0 => fL1 h0),
      (fun h0 h1 => by cases h1),
      (fun _ => ⟨rfl, (fold.size), Nat.le_refl _, z0, y0, hres⟩),
      (fun h0 => by have hx_ := fO5_4 h0; rw [hi_] at hx_; cases hx_),
      (fun h0 => by have hx_ := fO6_4 h0; rw [hi_] at hx_; cases hx_),
      (fun h0 => by have hx_ := fO7_4 h0; rw [hi_] at hx_; cases hx_),
      (fun h0 => by obtain ⟨e1, e2, e3⟩ := fB0 h0; exact ⟨e1, e2, Nat.lt_of_lt_of_le e3 g.size⟩),
      (fun h0 h1 => (g.block _ (lt_of_some (fZ0 h0 h1))).trans (fZ0 h0 h1)),
      (fun h0 => by have hx_ := fO9_4 h0; rw [hi_] at hx_; cases hx_),
      (fun hb _ => Or.inl (fB0 hb).2.2),
      (fun h0 => by have hx_ := fO10_4 h0; rw [hi_] at hx_; cases hx_),
      (fun _ => rfl),
      (fun _ => rfl),
      (fun _ => rfl),
      (fun h => fO9_8 h),
      (fun _ => rfl),
      (fun _ => rfl)⟩
  · rintro d a W ⟨u15, u16, u94, u95, u96, u97, u98, u99, u100, u101, k0, lo, hi, g0, g1, hfr, fold, fL0, fC0, fL1, fC1, fF, fM, fE0, fE1, fB0, fZ0, fS0, fX0, fA1, fO5_4, fO6_4, fO9_4, fO9_8, fO7_4, fO10_4⟩ hi_ hd
    simp [Region.binds] at hd
    have HD4 : d 4 = true := by simp only [hd]
    clear hd
    have hv := (fF HD4).1
    refine op_move ?_
    rw [show a.eval (.tmp 99) = .tuple #[.agg g0, g1] by rw [hfr, e99]; exact hv]
    exact ⟨u15, u16, .tuple #[.agg g0, g1], u95, u96, u97, u98, u99, u100, u101, k0, lo, hi, g0, g1, (by rw [hfr]; exact putAll_put a0 _ _ _ rfl), (fold),
      (fun h0 => fL0 h0),
      (fun h0 h1 => fC0 h0 h1),
      (fun h0 => fL1 h0),
      (fun h0 h1 => fC1 h0 h1),
      (fun h0 => fF h0),
      (fun _ => rfl),
      (fun h0 => fE0 h0),
      (fun h0 => fE1 h0),
      (fun h0 => fB0 h0),
      (fun h0 h1 => fZ0 h0 h1),
      (fun h0 => fS0 h0),
      (fun h0 h1 => fX0 h0 h1),
      (fun h0 => fA1 h0),
      (fun _ => HD4),
      (fun h => fO6_4 h),
      (fun h => fO9_4 h),
      (fun h => fO9_8 h),
      (fun h => fO7_4 h),
      (fun h => fO10_4 h)⟩
  · rintro d a W ⟨u15, u16, u94, u95, u96, u97, u98, u99, u100, u101, k0, lo, hi, g0, g1, hfr, fold, fL0, fC0, fL1, fC1, fF, fM, fE0, fE1, fB0, fZ0, fS0, fX0, fA1, fO5_4, fO6_4, fO9_4, fO9_8, fO7_4, fO10_4⟩ hi_ hd
    simp [Region.binds] at hd
    have HD5 : d 5 = true := by simp only [hd]
    have HD4 : d 4 = true := fO5_4 HD5
    clear hd
    have hv := fM HD5
    refine op_extract (by rw [hfr, e94]; exact hv) rfl ?_
    exact ⟨u15, u16, u94, u95, u96, u97, u98, u99, .agg g0, u101, k0, lo, hi, g0, g1, (by rw [hfr]; exact putAll_put a0 _ _ _ rfl), (fold),
      (fun h0 => fL0 h0),
      (fun h0 h1 => fC0 h0 h1),
      (fun h0 => fL1 h0),
      (fun h0 h1 => fC1 h0 h1),
      (fun h0 => fF h0),
      (fun h0 => fM h0),
      (fun _ => rfl),
      (fun h0 => fE1 h0),
      (fun h0 => fB0 h0),
      (fun h0 h1 => fZ0 h0 h1),
      (fun h0 => fS0 h0),
      (fun h0 h1 => fX0 h0 h1),
      (fun h0 => fA1 h0),
      (fun h => fO5_4 h),
      (fun _ => HD4),
      (fun h => fO9_4 h),
      (fun h => fO9_8 h),
      (fun h => fO7_4 h),
      (fun h => fO10_4 h)⟩
  · rintro d a W ⟨u15, u16, u94, u95, u96, u97, u98, u99, u100, u101, k0, lo, hi, g0, g1, hfr, fold, fL0, fC0, fL1, fC1, fF, fM, fE0, fE1, fB0, fZ0, fS0, fX0, fA1, fO5_4, fO6_4, fO9_4, fO9_8, fO7_4, fO10_4⟩ hi_ hd
    simp [Region.binds] at hd
    have HD5 : d 5 = true := by simp only [hd]
    have HD4 : d 4 = true := fO5_4 HD5
    clear hd
    have hv := fM HD5
    refine op_extract (by rw [hfr, e94]; exact hv) rfl ?_
    exact ⟨u15, u16, u94, u95, u96, u97, u98, u99, u100, g1, k0, lo, hi, g0, g1, (by rw [hfr]; exact putAll_put a0 _ _ _ rfl), (fold),
      (fun h0 => fL0 h0),
      (fun h0 h1 => fC0 h0 h1),
      (fun h0 => fL1 h0),
      (fun h0 h1 => fC1 h0 h1),
      (fun h0 => fF h0),
      (fun h0 => fM h0),
      (fun h0 => fE0 h0),
      (fun _ => rfl),
      (fun h0 => fB0 h0),
      (fun h0 h1 => fZ0 h0 h1),
      (fun h0 => fS0 h0),
      (fun h0 h1 => fX0 h0 h1),
      (fun h0 => fA1 h0),
      (fun h => fO5_4 h),
      (fun h => fO6_4 h),
      (fun h => fO9_4 h),
      (fun h => fO9_8 h),
      (fun _ => HD4),
      (fun h => fO10_4 h)⟩
  · rintro d a W ⟨u15, u16, u94, u95, u96, u97, u98, u99, u100, u101, k0, lo, hi, g0, g1, hfr, fold, fL0, fC0, fL1, fC1, fF, fM, fE0, fE1, fB0, fZ0, fS0, fX0, fA1, fO5_4, fO6_4, fO9_4, fO9_8, fO7_4, fO10_4⟩ hi_ hd
    simp [Region.binds] at hd
    refine op_alloc (z := .agg #[.slice none 0 0]) (by kernel_rfl) ?_
    have g : Old W (W.alloc (.cells #[.slice none 0 0] 42)) := (Old.refl W).alloc _
    exact ⟨.pointer (some ⟨W.heap.size, 0, none⟩), u16, u94, u95, u96, u97, u98, u99, u100, u101, W.heap.size, lo, hi, g0, g1, (by rw [hfr]; exact putAll_put a0 _ _ _ rfl), (Old.trans fold g),
      (fun h0 => fL0 h0),
      (fun h0 h1 => hCR0 _ _ _ (fC0 h0 h1) g),
      (fun h0 => fL1 h0),
      (fun h0 h1 => hCR1 _ _ _ (fC1 h0 h1) g),
      (fun h0 => by obtain ⟨e1, e2, e3, z0, y0, e9⟩ := fF h0; exact ⟨e1, e2, Nat.le_trans e3 g.size, z0, y0, far _ _ _ _ _ _ e9 (fun b _ hb => g.block b (by omega)) g.size⟩),
      (fun h0 => fM h0),
      (fun h0 => fE0 h0),
      (fun h0 => fE1 h0),
      (fun _ => ⟨rfl, fold.size, by simp⟩),
      (fun _ _ => heap_alloc_new W _),
      (fun h0 => by have hx_ := fO9_8 h0; rw [hi_] at hx_; cases hx_),
      (fun _ hf => Or.inr (fF hf).2.2.1),
      (fun h0 => fA1 h0),
      (fun h => fO5_4 h),
      (fun h => fO6_4 h),
      (fun h => fO9_4 h),
      (fun _ => rfl),
      (fun h => fO7_4 h),
      (fun h => fO10_4 h)⟩
  · rintro d a W ⟨u15, u16, u94, u95, u96, u97, u98, u99, u100, u101, k0, lo, hi, g0, g1, hfr, fold, fL0, fC0, fL1, fC1, fF, fM, fE0, fE1, fB0, fZ0, fS0, fX0, fA1, fO5_4, fO6_4, fO9_4, fO9_8, fO7_4, fO10_4⟩ hi_ hd
    simp [Region.binds] at hd
    have HD4 : d 4 = true := by simp only [hd]
    have HD6 : d 6 = true := by simp only [hd]
    have HD8 : d 8 = true := by simp only [hd]
    clear hd
    obtain ⟨hp, hlo, hlt⟩ := fB0 HD8
    have hv := fE0 HD6
    have hz := fZ0 HD8 hi_
    obtain ⟨eF, lF, hF, z0, y0, rF⟩ := fF HD4
    have hx := fX0 HD8 HD4
    refine op_store (k := k0) (by rw [hfr, e15]; exact hp) (by rw [hfr, e100]; exact hv) hz (by rw [z0]; kernel_rfl) (by rw [z0]; rfl) y0 ?_
    have hsz2 : (W.setRow k0 g0).heap.size = W.heap.size := size_setRow _ _ _
    have hot : ∀ b, b ≠ k0 → (W.setRow k0 g0).heap[b]? = W.heap[b]? := fun b hb => heap_setRow_other _ _ _ _ hb
    exact ⟨u15, u16, u94, u95, u96, u97, u98, u99, u100, u101, k0, lo, hi, g0, g1, hfr, (old_setRow fold hlo _),
      (fun h0 => fL0 h0),
      (fun h0 h1 => by have hx_ : d 4 = false := h1; rw [HD4] at hx_; cases hx_),
      (fun h0 => fL1 h0),
      (fun h0 h1 => by have hx_ : d 4 = false := h1; rw [HD4] at hx_; cases hx_),
      (fun h0 => ⟨eF, lF, by rw [hsz2]; exact hF, z0, y0, far _ _ _ _ _ _ rF (fun b h1 h2 => hot b (by omega)) (by rw [hsz2]; exact Nat.le_refl _)⟩),
      (fun h0 => fM h0),
      (fun h0 => fE0 h0),
      (fun h0 => fE1 h0),
      (fun h0 => ⟨hp, hlo, by rw [hsz2]; exact hlt⟩),
      (fun h0 h1 => by cases h1),
      (fun _ => heap_setRow_same hz),
      (fun h0 h1 => fX0 h0 h1),
      (fun h0 => fA1 h0),
      (fun h => fO5_4 h),
      (fun h => fO6_4 h),
      (fun _ => HD4),
      (fun _ => HD8),
      (fun h => fO7_4 h),
      (fun h => fO10_4 h)⟩
  · rintro d a W ⟨u15, u16, u94, u95, u96, u97, u98, u99, u100, u101, k0, lo, hi, g0, g1, hfr, fold, fL0, fC0, fL1, fC1, fF, fM, fE0, fE1, fB0, fZ0, fS0, fX0, fA1, fO5_4, fO6_4, fO9_4, fO9_8, fO7_4, fO10_4⟩ hi_ hd
    simp [Region.binds] at hd
    have HD4 : d 4 = true := by simp only [hd]
    have HD7 : d 7 = true := by simp only [hd]
    clear hd
    have hv := fE1 HD7
    refine op_assign ?_
    rw [show a.eval (.tmp 101) = g1 by rw [hfr, e101]; exact hv]
    exact ⟨u15, g1, u94, u95, u96, u97, u98, u99, u100, u101, k0, lo, hi, g0, g1, (by rw [hfr]; exact putAll_put a0 _ _ _ rfl), (fold),
      (fun h0 => fL0 h0),
      (fun h0 h1 => fC0 h0 h1),
      (fun h0 => fL1 h0),
      (fun h0 h1 => fC1 h0 h1),
      (fun h0 => fF h0),
      (fun h0 => fM h0),
      (fun h0 => fE0 h0),
      (fun h0 => fE1 h0),
      (fun h0 => fB0 h0),
      (fun h0 h1 => fZ0 h0 h1),
      (fun h0 => fS0 h0),
      (fun h0 h1 => fX0 h0 h1),
      (fun _ => rfl),
      (fun h => fO5_4 h),
      (fun h => fO6_4 h),
      (fun h => fO9_4 h),
      (fun h => fO9_8 h),
      (fun h => fO7_4 h),
      (fun _ => HD4)⟩
  · rintro d a W hd ⟨u15, u16, u94, u95, u96, u97, u98, u99, u100, u101, k0, lo, hi, g0, g1, hfr, fold, fL0, fC0, fL1, fC1, fF, fM, fE0, fE1, fB0, fZ0, fS0, fX0, fA1, fO5_4, fO6_4, fO9_4, fO9_8, fO7_4, fO10_4⟩
    have hd2 : ∀ i, i < 11 → d i = true := hd
    clear hd
    have HD0 : d 0 = true := hd2 0 (by omega)
    have HD1 : d 1 = true := hd2 1 (by omega)
    have HD2 : d 2 = true := hd2 2 (by omega)
    have HD3 : d 3 = true := hd2 3 (by omega)
    have HD4 : d 4 = true := hd2 4 (by omega)
    have HD5 : d 5 = true := hd2 5 (by omega)
    have HD6 : d 6 = true := hd2 6 (by omega)
    have HD7 : d 7 = true := hd2 7 (by omega)
    have HD8 : d 8 = true := hd2 8 (by omega)
    have HD9 : d 9 = true := hd2 9 (by omega)
    have HD10 : d 10 = true := hd2 10 (by omega)
    obtain ⟨eF, lF, hF, z0, y0, rF⟩ := fF HD4
    obtain ⟨hp0, hlo0, hlt0⟩ := fB0 HD8
    rw [hp0] at hfr
    have ha_1 := fA1 HD10
    rw [ha_1] at hfr
    show K a W
    rw [hfr]
    exact HK.out k0 lo hi g0 g1 u94 u95 u96 u97 u98 u99 u100 u101 W fold lF hF rF (fS0 HD9) hlo0 hlt0 (fX0 HD8 HD4)
end Go.Proofs.YtakleianimcmdaaGreatDoor
