/- Proved: a drawn region of the statement FnExactDivWholes, by what holds between its operations, in whatever order. -/
import Derived.Test.YtafcffnpobdhgaaROps
import Derived.Test.YtafcffnpobdhgaaKC
namespace Go.Proofs.Ytafcffnpobdhgaa
open Go.ChangeShapes Go.WideShapes Go.ChangeAt Go.RowKit
set_option linter.unusedVariables false
set_option linter.unusedSimpArgs false
def regionAtreg_div8 (n : Nat) : Code → Option Code
  | .region i ops b => if i = n then some (.region i ops b) else none
  | .seq a b => match regionAtreg_div8 n a with
    | some c => some c
    | none => regionAtreg_div8 n b
  | .block _ c => regionAtreg_div8 n c
  | _ => none
set_option maxRecDepth 100000 in
set_option maxHeartbeats 8000000 in
theorem reg_div8 (w2 : World) (xa ya xb yb : Value) (ka kb : Nat)
    (CR0 : World → Value → Prop) (hCR0 : ∀ W W' v, CR0 W v → Old W W' → CR0 W' v)
    (c0 : ∀ W, Old w2 W → Calls Try.prog 16 #[.agg #[xa, ya]] W fun e w' => ∃ v, e = .returned v ∧ Old W w' ∧ CR0 w' v)
    (b0 : w2.heap[ka]? = some (.cells #[xa, ya] 33 (0, 0)))
    (CR1 : World → Value → Prop) (hCR1 : ∀ W W' v, CR1 W v → Old W W' → CR1 W' v)
    (c1 : ∀ W, Old w2 W → Calls Try.prog 16 #[.agg #[xb, yb]] W fun e w' => ∃ v, e = .returned v ∧ Old W w' ∧ CR1 w' v)
    (b1 : w2.heap[kb]? = some (.cells #[xb, yb] 33 (0, 0)))
    (RES : World → Nat → Nat → Array Value → Array Value → Value → Prop) (far : ∀ W W' lo hi (g0 : Array Value) (g1 : Array Value) (g2 : Value), RES W lo hi g0 g1 g2 → (∀ b, lo ≤ b → b < hi → W'.heap[b]? = W.heap[b]?) → W.heap.size ≤ W'.heap.size → RES W' lo hi g0 g1 g2)
    (cf : ∀ W v0 v1, Old w2 W → CR0 W v0 → CR1 W v1 → Calls Try.prog 15 #[v0, v1] W fun e w' => ∃ (g0 : Array Value) (g1 : Array Value) (g2 : Value), e = .returned (.tuple #[.agg g0, .agg g1, g2]) ∧ Old W w' ∧ g0.size = 2 ∧ g0.all (·.oneCell') = true ∧ g1.size = 2 ∧ g1.all (·.oneCell') = true ∧ RES w' W.heap.size w'.heap.size g0 g1 g2)
    (Q : Exit → Act → World → Prop) (K : Act → World → Prop) (a0 : Act) (hsz : 156 ≤ a0.tmps.size) (ha2 : a0.eval (.tmp 2) = .pointer (some ⟨ka, 0, none⟩)) (ha3 : a0.eval (.tmp 3) = .pointer (some ⟨kb, 0, none⟩))
    (HK : Hid (∀ (k0 k1 lo hi : Nat) (g0 : Array Value) (g1 : Array Value) (g2 : Value) (u30 u31 u32 u33 u34 u35 u36 u37 u38 : Value) (W : World), Old w2 W → w2.heap.size ≤ lo → hi ≤ W.heap.size → RES W lo hi g0 g1 g2 → W.heap[k0]? = some (.cells g0 25 (0, 0)) → w2.heap.size ≤ k0 → k0 < W.heap.size → (k0 < lo ∨ hi ≤ k0) → W.heap[k1]? = some (.cells g1 25 (0, 0)) → w2.heap.size ≤ k1 → k1 < W.heap.size → (k1 < lo ∨ hi ≤ k1) → k0 ≠ k1 → K (putAll a0 [(6, .pointer (some ⟨k0, 0, none⟩)), (7, .pointer (some ⟨k1, 0, none⟩)), (8, g2), (30, u30), (31, u31), (32, u32), (33, u33), (34, u34), (35, u35), (36, u36), (37, u37), (38, u38)]) W)) :
    Code.wp Try.prog ((Try.f4.body.bind (regionAtreg_div8 8)).getD .skip) (Exit.then K Q) a0 w2 := by
  conv => arg 2; whnf
  have e2 : ∀ l, (putAll a0 l).eval (.tmp 2) = (getKey l 2).getD (a0.eval (.tmp 2)) := eval_putAll a0 2 (by omega)
  have e3 : ∀ l, (putAll a0 l).eval (.tmp 3) = (getKey l 3).getD (a0.eval (.tmp 3)) := eval_putAll a0 3 (by omega)
  have e6 : ∀ l, (putAll a0 l).eval (.tmp 6) = (getKey l 6).getD (a0.eval (.tmp 6)) := eval_putAll a0 6 (by omega)
  have e7 : ∀ l, (putAll a0 l).eval (.tmp 7) = (getKey l 7).getD (a0.eval (.tmp 7)) := eval_putAll a0 7 (by omega)
  have e8 : ∀ l, (putAll a0 l).eval (.tmp 8) = (getKey l 8).getD (a0.eval (.tmp 8)) := eval_putAll a0 8 (by omega)
  have e30 : ∀ l, (putAll a0 l).eval (.tmp 30) = (getKey l 30).getD (a0.eval (.tmp 30)) := eval_putAll a0 30 (by omega)
  have e31 : ∀ l, (putAll a0 l).eval (.tmp 31) = (getKey l 31).getD (a0.eval (.tmp 31)) := eval_putAll a0 31 (by omega)
  have e32 : ∀ l, (putAll a0 l).eval (.tmp 32) = (getKey l 32).getD (a0.eval (.tmp 32)) := eval_putAll a0 32 (by omega)
  have e33 : ∀ l, (putAll a0 l).eval (.tmp 33) = (getKey l 33).getD (a0.eval (.tmp 33)) := eval_putAll a0 33 (by omega)
  have e34 : ∀ l, (putAll a0 l).eval (.tmp 34) = (getKey l 34).getD (a0.eval (.tmp 34)) := eval_putAll a0 34 (by omega)
  have e35 : ∀ l, (putAll a0 l).eval (.tmp 35) = (getKey l 35).getD (a0.eval (.tmp 35)) := eval_putAll a0 35 (by omega)
  have e36 : ∀ l, (putAll a0 l).eval (.tmp 36) = (getKey l 36).getD (a0.eval (.tmp 36)) := eval_putAll a0 36 (by omega)
  have e37 : ∀ l, (putAll a0 l).eval (.tmp 37) = (getKey l 37).getD (a0.eval (.tmp 37)) := eval_putAll a0 37 (by omega)
  have e38 : ∀ l, (putAll a0 l).eval (.tmp 38) = (getKey l 38).getD (a0.eval (.tmp 38)) := eval_putAll a0 38 (by omega)
  refine wp_region_steps (fun d a W => ∃ (u6 u7 u8 u30 u31 u32 u33 u34 u35 u36 u37 u38 : Value) (k0 k1 lo hi : Nat) (g0 : Array Value) (g1 : Array Value) (g2 : Value), a = (putAll a0 [(6, u6), (7, u7), (8, u8), (30, u30), (31, u31), (32, u32), (33, u33), (34, u34), (35, u35), (36, u36), (37, u37), (38, u38)]) ∧ (Old w2 W) ∧ (d 0 = true → u31 = .agg #[xa, ya]) ∧ (d 1 = true → d 4 = false → CR0 W u32) ∧ (d 2 = true → u33 = .agg #[xb, yb]) ∧ (d 3 = true → d 4 = false → CR1 W u34) ∧ (d 4 = true → u35 = .tuple #[.agg g0, .agg g1, g2] ∧ w2.heap.size ≤ lo ∧ hi ≤ W.heap.size ∧ g0.size = 2 ∧ g0.all (·.oneCell') = true ∧ g1.size = 2 ∧ g1.all (·.oneCell') = true ∧ RES W lo hi g0 g1 g2) ∧ (d 5 = true → u30 = .tuple #[.agg g0, .agg g1, g2]) ∧ (d 6 = true → u36 = .agg g0) ∧ (d 7 = true → u37 = .agg g1) ∧ (d 8 = true → u38 = g2) ∧ (d 9 = true → u6 = .pointer (some ⟨k0, 0, none⟩) ∧ w2.heap.size ≤ k0 ∧ k0 < W.heap.size) ∧ (d 9 = true → d 11 = false → W.heap[k0]? = some (.cells #[.bool false, .slice none 0 0] 25 (0, 0))) ∧ (d 11 = true → W.heap[k0]? = some (.cells g0 25 (0, 0))) ∧ (d 9 = true → d 4 = true → (k0 < lo ∨ hi ≤ k0)) ∧ (d 10 = true → u7 = .pointer (some ⟨k1, 0, none⟩) ∧ w2.heap.size ≤ k1 ∧ k1 < W.heap.size) ∧ (d 10 = true → d 12 = false → W.heap[k1]? = some (.cells #[.bool false, .slice none 0 0] 25 (0, 0))) ∧ (d 12 = true → W.heap[k1]? = some (.cells g1 25 (0, 0))) ∧ (d 10 = true → d 4 = true → (k1 < lo ∨ hi ≤ k1)) ∧ (d 9 = true → d 10 = true → k0 ≠ k1) ∧ (d 13 = true → u8 = g2) ∧ (d 5 = true → d 4 = true) ∧ (d 6 = true → d 4 = true) ∧ (d 11 = true → d 4 = true) ∧ (d 11 = true → d 9 = true) ∧ (d 7 = true → d 4 = true) ∧ (d 12 = true → d 4 = true) ∧ (d 12 = true → d 10 = true) ∧ (d 8 = true → d 4 = true) ∧ (d 13 = true → d 4 = true)) rfl (by decide +kernel) (by decide +kernel) ?_ ⟨?_, ?_, ?_, ?_, ?_, ?_, ?_, ?_, ?_, ?_, ?_, ?_, ?_, ?_, trivial⟩ ?_
  · exact ⟨_, _, _, _, _, _, _, _, _, _, _, _, 0, 0, 0, 0, #[], #[], undef, (putAll_self a0 [6, 7, 8, 30, 31, 32, 33, 34, 35, 36, 37, 38] (by intro s hs; simp at hs; omega)).symm, Below.drew (Old.refl w2), (fun h => by cases h), (fun h => by cases h), (fun h => by cases h), (fun h => by cases h), (fun h => by cases h), (fun h => by cases h), (fun h => by cases h), (fun h => by cases h), (fun h => by cases h), (fun h => by cases h), (fun h => by cases h), (fun h => by cases h), (fun h => by cases h), (fun h => by cases h), (fun h => by cases h), (fun h => by cases h), (fun h => by cases h), (fun h => by cases h), (fun h => by cases h), (fun h => by cases h), (fun h => by cases h), (fun h => by cases h), (fun h => by cases h), (fun h => by cases h), (fun h => by cases h), (fun h => by cases h), (fun h => by cases h), (fun h => by cases h)⟩
  · rintro d a W ⟨u6, u7, u8, u30, u31, u32, u33, u34, u35, u36, u37, u38, k0, k1, lo, hi, g0, g1, g2, hfr, fold, fL0, fC0, fL1, fC1, fF, fM, fE0, fE1, fE2, fB0, fZ0, fS0, fX0, fB1, fZ1, fS1, fX1, fN01, fA2, fO5_4, fO6_4, fO11_4, fO11_9, fO7_4, fO12_4, fO12_10, fO8_4, fO13_4⟩ hi_ hd
    simp [Region.binds] at hd
    refine op_load (k := ka) (by rw [hfr, e2]; exact ha2) (fold.block _ (lt_of_some b0) |>.trans b0) Try.underlying33 rfl (by kernel_rfl) ?_
    exact ⟨u6, u7, u8, u30, .agg #[xa, ya], u32, u33, u34, u35, u36, u37, u38, k0, k1, lo, hi, g0, g1, g2, (by rw [hfr]; exact putAll_put a0 _ _ _ rfl), (fold),
      (fun _ => rfl),
      (fun h0 h1 => fC0 h0 h1),
      (fun h0 => fL1 h0),
      (fun h0 h1 => fC1 h0 h1),
      (fun h0 => fF h0),
      (fun h0 => fM h0),
      (fun h0 => fE0 h0),
      (fun h0 => fE1 h0),
      (fun h0 => fE2 h0),
      (fun h0 => fB0 h0),
      (fun h0 h1 => fZ0 h0 h1),
      (fun h0 => fS0 h0),
      (fun h0 h1 => fX0 h0 h1),
      (fun h0 => fB1 h0),
      (fun h0 h1 => fZ1 h0 h1),
      (fun h0 => fS1 h0),
      (fun h0 h1 => fX1 h0 h1),
      (fun h0 h1 => fN01 h0 h1),
      (fun h0 => fA2 h0),
      (fun h => fO5_4 h),
      (fun h => fO6_4 h),
      (fun h => fO11_4 h),
      (fun h => fO11_9 h),
      (fun h => fO7_4 h),
      (fun h => fO12_4 h),
      (fun h => fO12_10 h),
      (fun h => fO8_4 h),
      (fun h => fO13_4 h)⟩
  · rintro d a W ⟨u6, u7, u8, u30, u31, u32, u33, u34, u35, u36, u37, u38, k0, k1, lo, hi, g0, g1, g2, hfr, fold, fL0, fC0, fL1, fC1, fF, fM, fE0, fE1, fE2, fB0, fZ0, fS0, fX0, fB1, fZ1, fS1, fX1, fN01, fA2, fO5_4, fO6_4, fO11_4, fO11_9, fO7_4, fO12_4, fO12_10, fO8_4, fO13_4⟩ hi_ hd
    simp [Region.binds] at hd
    have HD0 : d 0 = true := by simp only [hd]
    clear hd
    have hv := fL0 HD0
    refine op_call_ret Try.call16 (vs := #[.agg #[xa, ya]]) (by simp [hfr, e31, getKey, hv]) (c0 W fold) ?_
    rintro v W' ⟨g, hcr⟩
    exact ⟨u6, u7, u8, u30, u31, v, u33, u34, u35, u36, u37, u38, k0, k1, lo, hi, g0, g1, g2, (by rw [hfr]; exact putAll_put a0 _ _ _ rfl), (Old.trans fold g),
      (fun h0 => fL0 h0),
      (fun _ _ => hcr),
      (fun h0 => fL1 h0),
      (fun h0 h1 => hCR1 _ _ _ (fC1 h0 h1) g),
      (fun h0 => by obtain ⟨e1, e2, e3, z0, y0, z1, y1, e9⟩ := fF h0; exact ⟨e1, e2, Nat.le_trans e3 g.size, z0, y0, z1, y1, far _ _ _ _ _ _ _ e9 (fun b _ hb => g.block b (by omega)) g.size⟩),
      (fun h0 => fM h0),
      (fun h0 => fE0 h0),
      (fun h0 => fE1 h0),
      (fun h0 => fE2 h0),
      (fun h0 => by obtain ⟨e1, e2, e3⟩ := fB0 h0; exact ⟨e1, e2, Nat.lt_of_lt_of_le e3 g.size⟩),
      (fun h0 h1 => (g.block _ (lt_of_some (fZ0 h0 h1))).trans (fZ0 h0 h1)),
      (fun h0 => (g.block _ (lt_of_some (fS0 h0))).trans (fS0 h0)),
      (fun h0 h1 => fX0 h0 h1),
      (fun h0 => by obtain ⟨e1, e2, e3⟩ := fB1 h0; exact ⟨e1, e2, Nat.lt_of_lt_of_le e3 g.size⟩),
      (fun h0 h1 => (g.block _ (lt_of_some (fZ1 h0 h1))).trans (fZ1 h0 h1)),
      (fun h0 => (g.block _ (lt_of_some (fS1 h0))).trans (fS1 h0)),
      (fun h0 h1 => fX1 h0 h1),
      (fun h0 h1 => fN01 h0 h1),
      (fun h0 => fA2 h0),
      (fun h => fO5_4 h),
      (fun h => fO6_4 h),
      (fun h => fO11_4 h),
      (fun h => fO11_9 h),
      (fun h => fO7_4 h),
      (fun h => fO12_4 h),
      (fun h => fO12_10 h),
      (fun h => fO8_4 h),
      (fun h => fO13_4 h)⟩
  · rintro d a W ⟨u6, u7, u8, u30, u31, u32, u33, u34, u35, u36, u37, u38, k0, k1, lo, hi, g0, g1, g2, hfr, fold, fL0, fC0, fL1, fC1, fF, fM, fE0, fE1, fE2, fB0, fZ0, fS0, fX0, fB1, fZ1, fS1, fX1, fN01, fA2, fO5_4, fO6_4, fO11_4, fO11_9, fO7_4, fO12_4, fO12_10, fO8_4, fO13_4⟩ hi_ hd
    simp [Region.binds] at hd
    refine op_load (k := kb) (by rw [hfr, e3]; exact ha3) (fold.block _ (lt_of_some b1) |>.trans b1) Try.underlying33 rfl (by kernel_rfl) ?_
    exact ⟨u6, u7, u8, u30, u31, u32, .agg #[xb, yb], u34, u35, u36, u37, u38, k0, k1, lo, hi, g0, g1, g2, (by rw [hfr]; exact putAll_put a0 _ _ _ rfl), (fold),
      (fun h0 => fL0 h0),
      (fun h0 h1 => fC0 h0 h1),
      (fun _ => rfl),
      (fun h0 h1 => fC1 h0 h1),
      (fun h0 => fF h0),
      (fun h0 => fM h0),
      (fun h0 => fE0 h0),
      (fun h0 => fE1 h0),
      (fun h0 => fE2 h0),
      (fun h0 => fB0 h0),
      (fun h0 h1 => fZ0 h0 h1),
      (fun h0 => fS0 h0),
      (fun h0 h1 => fX0 h0 h1),
      (fun h0 => fB1 h0),
      (fun h0 h1 => fZ1 h0 h1),
      (fun h0 => fS1 h0),
      (fun h0 h1 => fX1 h0 h1),
      (fun h0 h1 => fN01 h0 h1),
      (fun h0 => fA2 h0),
      (fun h => fO5_4 h),
      (fun h => fO6_4 h),
      (fun h => fO11_4 h),
      (fun h => fO11_9 h),
      (fun h => fO7_4 h),
      (fun h => fO12_4 h),
      (fun h => fO12_10 h),
      (fun h => fO8_4 h),
      (fun h => fO13_4 h)⟩
  · rintro d a W ⟨u6, u7, u8, u30, u31, u32, u33, u34, u35, u36, u37, u38, k0, k1, lo, hi, g0, g1, g2, hfr, fold, fL0, fC0, fL1, fC1, fF, fM, fE0, fE1, fE2, fB0, fZ0, fS0, fX0, fB1, fZ1, fS1, fX1, fN01, fA2, fO5_4, fO6_4, fO11_4, fO11_9, fO7_4, fO12_4, fO12_10, fO8_4, fO13_4⟩ hi_ hd
    simp [Region.binds] at hd
    have HD2 : d 2 = true := by simp only [hd]
    clear hd
    have hv := fL1 HD2
    refine op_call_ret Try.call16 (vs := #[.agg #[xb, yb]]) (by simp [hfr, e33, getKey, hv]) (c1 W fold) ?_
    rintro v W' ⟨g, hcr⟩
    exact ⟨u6, u7, u8, u30, u31, u32, u33, v, u35, u36, u37, u38, k0, k1, lo, hi, g0, g1, g2, (by rw [hfr]; exact putAll_put a0 _ _ _ rfl), (Old.trans fold g),
      (fun h0 => fL0 h0),
      (fun h0 h1 => hCR0 _ _ _ (fC0 h0 h1) g),
      (fun h0 => fL1 h0),
      (fun _ _ => hcr),
      (fun h0 => by obtain ⟨e1, e2, e3, z0, y0, z1, y1, e9⟩ := fF h0; exact ⟨e1, e2, Nat.le_trans e3 g.size, z0, y0, z1, y1, far _ _ _ _ _ _ _ e9 (fun b _ hb => g.block b (by omega)) g.size⟩),
      (fun h0 => fM h0),
      (fun h0 => fE0 h0),
      (fun h0 => fE1 h0),
      (fun h0 => fE2 h0),
      (fun h0 => by obtain ⟨e1, e2, e3⟩ := fB0 h0; exact ⟨e1, e2, Nat.lt_of_lt_of_le e3 g.size⟩),
      (fun h0 h1 => (g.block _ (lt_of_some (fZ0 h0 h1))).trans (fZ0 h0 h1)),
      (fun h0 => (g.block _ (lt_of_some (fS0 h0))).trans (fS0 h0)),
      (fun h0 h1 => fX0 h0 h1),
      (fun h0 => by obtain ⟨e1, e2, e3⟩ := fB1 h0; exact ⟨e1, e2, Nat.lt_of_lt_of_le e3 g.size⟩),
      (fun h0 h1 => (g.block _ (lt_of_some (fZ1 h0 h1))).trans (fZ1 h0 h1)),
      (fun h0 => (g.block _ (lt_of_some (fS1 h0))).trans (fS1 h0)),
      (fun h0 h1 => fX1 h0 h1),
      (fun h0 h1 => fN01 h0 h1),
      (fun h0 => fA2 h0),
      (fun h => fO5_4 h),
      (fun h => fO6_4 h),
      (fun h => fO11_4 h),
      (fun h => fO11_9 h),
      (fun h => fO7_4 h),
      (fun h => fO12_4 h),
      (fun h => fO12_10 h),
      (fun h => fO8_4 h),
      (fun h => fO13_4 h)⟩
  · rintro d a W ⟨u6, u7, u8, u30, u31, u32, u33, u34, u35, u36, u37, u38, k0, k1, lo, hi, g0, g1, g2, hfr, fold, fL0, fC0, fL1, fC1, fF, fM, fE0, fE1, fE2, fB0, fZ0, fS0, fX0, fB1, fZ1, fS1, fX1, fN01, fA2, fO5_4, fO6_4, fO11_4, fO11_9, fO7_4, fO12_4, fO12_10, fO8_4, fO13_4⟩ hi_ hd
    simp [Region.binds] at hd
    have HD1 : d 1 = true := by simp only [hd]
    have HD3 : d 3 = true := by simp only [hd]
    clear hd
    refine op_call_ret (R := fun v w' => ∃ (g0 : Array Value) (g1 : Array Value) (g2 : Value), v = .tuple #[.agg g0, .agg g1, g2] ∧ Old W w' ∧ g0.size = 2 ∧ g0.all (·.oneCell') = true ∧ g1.size = 2 ∧ g1.all (·.oneCell') = true ∧ RES w' W.heap.size w'.heap.size g0 g1 g2) Try.call15 (vs := #[u32, u34]) (by simp [hfr, e32, e34, getKey]) ((cf W _ _ fold (fC0 HD1 hi_) (fC1 HD3 hi_)).mono (fun e w' h => by obtain ⟨g0, g1, g2, rfl, h⟩ := h; exact ⟨_, rfl, g0, g1, g2, rfl, h⟩)) ?_
    rintro v W' ⟨r0, r1, r2, rfl, g, z0, y0, z1, y1, hres⟩
    exact ⟨u6, u7, u8, u30, u31, u32, u33, u34, .tuple #[.agg r0, .agg r1, r2], u36, u37, u38, k0, k1, W.heap.size, W'.heap.size, r0, r1, r2, (by rw [hfr]; exact putAll_put a0 _ _ _ rfl), (Old.trans fold g),
      (fun h0 => fL0 h0),
      (fun h0 h1 => by cases h1),
      (fun h0 => fL1 h0),
      (fun h0 h1 => by cases h1),
      (fun _ => ⟨rfl, (fold.size), Nat.le_refl _, z0, y0, z1, y1, hres⟩),
      (fun h0 => by have hx_ := fO5_4 h0; rw [hi_] at hx_; cases hx_),
      (fun h0 => by have hx_ := fO6_4 h0; rw [hi_] at hx_; cases hx_),
      (fun h0 => by have hx_ := fO7_4 h0; rw [hi_] at hx_; cases hx_),
      (fun h0 => by have hx_ := fO8_4 h0; rw [hi_] at hx_; cases hx_),
      (fun h0 => by obtain ⟨e1, e2, e3⟩ := fB0 h0; exact ⟨e1, e2, Nat.lt_of_lt_of_le e3 g.size⟩),
      (fun h0 h1 => (g.block _ (lt_of_some (fZ0 h0 h1))).trans (fZ0 h0 h1)),
      (fun h0 => by have hx_ := fO11_4 h0; rw [hi_] at hx_; cases hx_),
      (fun hb _ => Or.inl (fB0 hb).2.2),
      (fun h0 => by obtain ⟨e1, e2, e3⟩ := fB1 h0; exact ⟨e1, e2, Nat.lt_of_lt_of_le e3 g.size⟩),
      (fun h0 h1 => (g.block _ (lt_of_some (fZ1 h0 h1))).trans (fZ1 h0 h1)),
      (fun h0 => by have hx_ := fO12_4 h0; rw [hi_] at hx_; cases hx_),
      (fun hb _ => Or.inl (fB1 hb).2.2),
      (fun h0 h1 => fN01 h0 h1),
      (fun h0 => by have hx_ := fO13_4 h0; rw [hi_] at hx_; cases hx_),
      (fun _ => rfl),
      (fun _ => rfl),
      (fun _ => rfl),
      (fun h => fO11_9 h),
      (fun _ => rfl),
      (fun _ => rfl),
      (fun h => fO12_10 h),
      (fun _ => rfl),
      (fun _ => rfl)⟩
  · rintro d a W ⟨u6, u7, u8, u30, u31, u32, u33, u34, u35, u36, u37, u38, k0, k1, lo, hi, g0, g1, g2, hfr, fold, fL0, fC0, fL1, fC1, fF, fM, fE0, fE1, fE2, fB0, fZ0, fS0, fX0, fB1, fZ1, fS1, fX1, fN01, fA2, fO5_4, fO6_4, fO11_4, fO11_9, fO7_4, fO12_4, fO12_10, fO8_4, fO13_4⟩ hi_ hd
    simp [Region.binds] at hd
    have HD4 : d 4 = true := by simp only [hd]
    clear hd
    have hv := (fF HD4).1
    refine op_move ?_
    rw [show a.eval (.tmp 35) = .tuple #[.agg g0, .agg g1, g2] by rw [hfr, e35]; exact hv]
    exact ⟨u6, u7, u8, .tuple #[.agg g0, .agg g1, g2], u31, u32, u33, u34, u35, u36, u37, u38, k0, k1, lo, hi, g0, g1, g2, (by rw [hfr]; exact putAll_put a0 _ _ _ rfl), (fold),
      (fun h0 => fL0 h0),
      (fun h0 h1 => fC0 h0 h1),
      (fun h0 => fL1 h0),
      (fun h0 h1 => fC1 h0 h1),
      (fun h0 => fF h0),
      (fun _ => rfl),
      (fun h0 => fE0 h0),
      (fun h0 => fE1 h0),
      (fun h0 => fE2 h0),
      (fun h0 => fB0 h0),
      (fun h0 h1 => fZ0 h0 h1),
      (fun h0 => fS0 h0),
      (fun h0 h1 => fX0 h0 h1),
      (fun h0 => fB1 h0),
      (fun h0 h1 => fZ1 h0 h1),
      (fun h0 => fS1 h0),
      (fun h0 h1 => fX1 h0 h1),
      (fun h0 h1 => fN01 h0 h1),
      (fun h0 => fA2 h0),
      (fun _ => HD4),
      (fun h => fO6_4 h),
      (fun h => fO11_4 h),
      (fun h => fO11_9 h),
      (fun h => fO7_4 h),
      (fun h => fO12_4 h),
      (fun h => fO12_10 h),
      (fun h => fO8_4 h),
      (fun h => fO13_4 h)⟩
  · rintro d a W ⟨u6, u7, u8, u30, u31, u32, u33, u34, u35, u36, u37, u38, k0, k1, lo, hi, g0, g1, g2, hfr, fold, fL0, fC0, fL1, fC1, fF, fM, fE0, fE1, fE2, fB0, fZ0, fS0, fX0, fB1, fZ1, fS1, fX1, fN01, fA2, fO5_4, fO6_4, fO11_4, fO11_9, fO7_4, fO12_4, fO12_10, fO8_4, fO13_4⟩ hi_ hd
    simp [Region.binds] at hd
    have HD5 : d 5 = true := by simp only [hd]
    have HD4 : d 4 = true := fO5_4 HD5
    clear hd
    have hv := fM HD5
    refine op_extract (by rw [hfr, e30]; exact hv) rfl ?_
    exact ⟨u6, u7, u8, u30, u31, u32, u33, u34, u35, .agg g0, u37, u38, k0, k1, lo, hi, g0, g1, g2, (by rw [hfr]; exact putAll_put a0 _ _ _ rfl), (fold),
      (fun h0 => fL0 h0),
      (fun h0 h1 => fC0 h0 h1),
      (fun h0 => fL1 h0),
      (fun h0 h1 => fC1 h0 h1),
      (fun h0 => fF h0),
      (fun h0 => fM h0),
      (fun _ => rfl),
      (fun h0 => fE1 h0),
      (fun h0 => fE2 h0),
      (fun h0 => fB0 h0),
      (fun h0 h1 => fZ0 h0 h1),
      (fun h0 => fS0 h0),
      (fun h0 h1 => fX0 h0 h1),
      (fun h0 => fB1 h0),
      (fun h0 h1 => fZ1 h0 h1),
      (fun h0 => fS1 h0),
      (fun h0 h1 => fX1 h0 h1),
      (fun h0 h1 => fN01 h0 h1),
      (fun h0 => fA2 h0),
      (fun h => fO5_4 h),
      (fun _ => HD4),
      (fun h => fO11_4 h),
      (fun h => fO11_9 h),
      (fun h => fO7_4 h),
      (fun h => fO12_4 h),
      (fun h => fO12_10 h),
      (fun h => fO8_4 h),
      (fun h => fO13_4 h)⟩
  · rintro d a W ⟨u6, u7, u8, u30, u31, u32, u33, u34, u35, u36, u37, u38, k0, k1, lo, hi, g0, g1, g2, hfr, fold, fL0, fC0, fL1, fC1, fF, fM, fE0, fE1, fE2, fB0, fZ0, fS0, fX0, fB1, fZ1, fS1, fX1, fN01, fA2, fO5_4, fO6_4, fO11_4, fO11_9, fO7_4, fO12_4, fO12_10, fO8_4, fO13_4⟩ hi_ hd
    simp [Region.binds] at hd
    have HD5 : d 5 = true := by simp only [hd]
    have HD4 : d 4 = true := fO5_4 HD5
    clear hd
    have hv := fM HD5
    refine op_extract (by rw [hfr, e30]; exact hv) rfl ?_
    exact ⟨u6, u7, u8, u30, u31, u32, u33, u34, u35, u36, .agg g1, u38, k0, k1, lo, hi, g0, g1, g2, (by rw [hfr]; exact putAll_put a0 _ _ _ rfl), (fold),
      (fun h0 => fL0 h0),
      (fun h0 h1 => fC0 h0 h1),
      (fun h0 => fL1 h0),
      (fun h0 h1 => fC1 h0 h1),
      (fun h0 => fF h0),
      (fun h0 => fM h0),
      (fun h0 => fE0 h0),
      (fun _ => rfl),
      (fun h0 => fE2 h0),
      (fun h0 => fB0 h0),
      (fun h0 h1 => fZ0 h0 h1),
      (fun h0 => fS0 h0),
      (fun h0 h1 => fX0 h0 h1),
      (fun h0 => fB1 h0),
      (fun h0 h1 => fZ1 h0 h1),
      (fun h0 => fS1 h0),
      (fun h0 h1 => fX1 h0 h1),
      (fun h0 h1 => fN01 h0 h1),
      (fun h0 => fA2 h0),
      (fun h => fO5_4 h),
      (fun h => fO6_4 h),
      (fun h => fO11_4 h),
      (fun h => fO11_9 h),
      (fun _ => HD4),
      (fun h => fO12_4 h),
      (fun h => fO12_10 h),
      (fun h => fO8_4 h),
      (fun h => fO13_4 h)⟩
  · rintro d a W ⟨u6, u7, u8, u30, u31, u32, u33, u34, u35, u36, u37, u38, k0, k1, lo, hi, g0, g1, g2, hfr, fold, fL0, fC0, fL1, fC1, fF, fM, fE0, fE1, fE2, fB0, fZ0, fS0, fX0, fB1, fZ1, fS1, fX1, fN01, fA2, fO5_4, fO6_4, fO11_4, fO11_9, fO7_4, fO12_4, fO12_10, fO8_4, fO13_4⟩ hi_ hd
    simp [Region.binds] at hd
    have HD5 : d 5 = true := by simp only [hd]
    have HD4 : d 4 = true := fO5_4 HD5
    clear hd
    have hv := fM HD5
    refine op_extract (by rw [hfr, e30]; exact hv) rfl ?_
    exact ⟨u6, u7, u8, u30, u31, u32, u33, u34, u35, u36, u37, g2, k0, k1, lo, hi, g0, g1, g2, (by rw [hfr]; exact putAll_put a0 _ _ _ rfl), (fold),
      (fun h0 => fL0 h0),
      (fun h0 h1 => fC0 h0 h1),
      (fun h0 => fL1 h0),
      (fun h0 h1 => fC1 h0 h1),
      (fun h0 => fF h0),
      (fun h0 => fM h0),
      (fun h0 => fE0 h0),
      (fun h0 => fE1 h0),
      (fun _ => rfl),
      (fun h0 => fB0 h0),
      (fun h0 h1 => fZ0 h0 h1),
      (fun h0 => fS0 h0),
      (fun h0 h1 => fX0 h0 h1),
      (fun h0 => fB1 h0),
      (fun h0 h1 => fZ1 h0 h1),
      (fun h0 => fS1 h0),
      (fun h0 h1 => fX1 h0 h1),
      (fun h0 h1 => fN01 h0 h1),
      (fun h0 => fA2 h0),
      (fun h => fO5_4 h),
      (fun h => fO6_4 h),
      (fun h => fO11_4 h),
      (fun h => fO11_9 h),
      (fun h => fO7_4 h),
      (fun h => fO12_4 h),
      (fun h => fO12_10 h),
      (fun _ => HD4),
      (fun h => fO13_4 h)⟩
  · rintro d a W ⟨u6, u7, u8, u30, u31, u32, u33, u34, u35, u36, u37, u38, k0, k1, lo, hi, g0, g1, g2, hfr, fold, fL0, fC0, fL1, fC1, fF, fM, fE0, fE1, fE2, fB0, fZ0, fS0, fX0, fB1, fZ1, fS1, fX1, fN01, fA2, fO5_4, fO6_4, fO11_4, fO11_9, fO7_4, fO12_4, fO12_10, fO8_4, fO13_4⟩ hi_ hd
    simp [Region.binds] at hd
    refine op_alloc (z := .agg #[.bool false, .slice none 0 0]) (by kernel_rfl) ?_
    have g : Old W (W.alloc (.cells #[.bool false, .slice none 0 0] 25)) := (Old.refl W).alloc _
    exact ⟨.pointer (some ⟨W.heap.size, 0, none⟩), u7, u8, u30, u31, u32, u33, u34, u35, u36, u37, u38, W.heap.size, k1, lo, hi, g0, g1, g2, (by rw [hfr]; exact putAll_put a0 _ _ _ rfl), (Old.trans fold g),
      (fun h0 => fL0 h0),
      (fun h0 h1 => hCR0 _ _ _ (fC0 h0 h1) g),
      (fun h0 => fL1 h0),
      (fun h0 h1 => hCR1 _ _ _ (fC1 h0 h1) g),
      (fun h0 => by obtain ⟨e1, e2, e3, z0, y0, z1, y1, e9⟩ := fF h0; exact ⟨e1, e2, Nat.le_trans e3 g.size, z0, y0, z1, y1, far _ _ _ _ _ _ _ e9 (fun b _ hb => g.block b (by omega)) g.size⟩),
      (fun h0 => fM h0),
      (fun h0 => fE0 h0),
      (fun h0 => fE1 h0),
      (fun h0 => fE2 h0),
      (fun _ => ⟨rfl, fold.size, by simp⟩),
      (fun _ _ => heap_alloc_new W _),
      (fun h0 => by have hx_ := fO11_9 h0; rw [hi_] at hx_; cases hx_),
      (fun _ hf => Or.inr (fF hf).2.2.1),
      (fun h0 => by obtain ⟨e1, e2, e3⟩ := fB1 h0; exact ⟨e1, e2, Nat.lt_of_lt_of_le e3 g.size⟩),
      (fun h0 h1 => (g.block _ (lt_of_some (fZ1 h0 h1))).trans (fZ1 h0 h1)),
      (fun h0 => (g.block _ (lt_of_some (fS1 h0))).trans (fS1 h0)),
      (fun h0 h1 => fX1 h0 h1),
      (fun _ hb => by have := (fB1 hb).2.2; omega),
      (fun h0 => fA2 h0),
      (fun h => fO5_4 h),
      (fun h => fO6_4 h),
      (fun h => fO11_4 h),
      (fun _ => rfl),
      (fun h => fO7_4 h),
      (fun h => fO12_4 h),
      (fun h => fO12_10 h),
      (fun h => fO8_4 h),
      (fun h => fO13_4 h)⟩
  · rintro d a W ⟨u6, u7, u8, u30, u31, u32, u33, u34, u35, u36, u37, u38, k0, k1, lo, hi, g0, g1, g2, hfr, fold, fL0, fC0, fL1, fC1, fF, fM, fE0, fE1, fE2, fB0, fZ0, fS0, fX0, fB1, fZ1, fS1, fX1, fN01, fA2, fO5_4, fO6_4, fO11_4, fO11_9, fO7_4, fO12_4, fO12_10, fO8_4, fO13_4⟩ hi_ hd
    simp [Region.binds] at hd
    refine op_alloc (z := .agg #[.bool false, .slice none 0 0]) (by kernel_rfl) ?_
    have g : Old W (W.alloc (.cells #[.bool false, .slice none 0 0] 25)) := (Old.refl W).alloc _
    exact ⟨u6, .pointer (some ⟨W.heap.size, 0, none⟩), u8, u30, u31, u32, u33, u34, u35, u36, u37, u38, k0, W.heap.size, lo, hi, g0, g1, g2, (by rw [hfr]; exact putAll_put a0 _ _ _ rfl), (Old.trans fold g),
      (fun h0 => fL0 h0),
      (fun h0 h1 => hCR0 _ _ _ (fC0 h0 h1) g),
      (fun h0 => fL1 h0),
      (fun h0 h1 => hCR1 _ _ _ (fC1 h0 h1) g),
      (fun h0 => by obtain ⟨e1, e2, e3, z0, y0, z1, y1, e9⟩ := fF h0; exact ⟨e1, e2, Nat.le_trans e3 g.size, z0, y0, z1, y1, far _ _ _ _ _ _ _ e9 (fun b _ hb => g.block b (by omega)) g.size⟩),
      (fun h0 => fM h0),
      (fun h0 => fE0 h0),
      (fun h0 => fE1 h0),
      (fun h0 => fE2 h0),
      (fun h0 => by obtain ⟨e1, e2, e3⟩ := fB0 h0; exact ⟨e1, e2, Nat.lt_of_lt_of_le e3 g.size⟩),
      (fun h0 h1 => (g.block _ (lt_of_some (fZ0 h0 h1))).trans (fZ0 h0 h1)),
      (fun h0 => (g.block _ (lt_of_some (fS0 h0))).trans (fS0 h0)),
      (fun h0 h1 => fX0 h0 h1),
      (fun _ => ⟨rfl, fold.size, by simp⟩),
      (fun _ _ => heap_alloc_new W _),
      (fun h0 => by have hx_ := fO12_10 h0; rw [hi_] at hx_; cases hx_),
      (fun _ hf => Or.inr (fF hf).2.2.1),
      (fun ha _ => by have := (fB0 ha).2.2; omega),
      (fun h0 => fA2 h0),
      (fun h => fO5_4 h),
      (fun h => fO6_4 h),
      (fun h => fO11_4 h),
      (fun h => fO11_9 h),
      (fun h => fO7_4 h),
      (fun h => fO12_4 h),
      (fun _ => rfl),
      (fun h => fO8_4 h),
      (fun h => fO13_4 h)⟩
  · rintro d a W ⟨u6, u7, u8, u30, u31, u32, u33, u34, u35, u36, u37, u38, k0, k1, lo, hi, g0, g1, g2, hfr, fold, fL0, fC0, fL1, fC1, fF, fM, fE0, fE1, fE2, fB0, fZ0, fS0, fX0, fB1, fZ1, fS1, fX1, fN01, fA2, fO5_4, fO6_4, fO11_4, fO11_9, fO7_4, fO12_4, fO12_10, fO8_4, fO13_4⟩ hi_ hd
    simp [Region.binds] at hd
    have HD4 : d 4 = true := by simp only [hd]
    have HD6 : d 6 = true := by simp only [hd]
    have HD9 : d 9 = true := by simp only [hd]
    have HD10 : d 10 = true := by simp only [hd]
    clear hd
    obtain ⟨hp, hlo, hlt⟩ := fB0 HD9
    have hv := fE0 HD6
    have hz := fZ0 HD9 hi_
    obtain ⟨eF, lF, hF, z0, y0, z1, y1, rF⟩ := fF HD4
    have hx := fX0 HD9 HD4
    refine op_store (k := k0) (by rw [hfr, e6]; exact hp) (by rw [hfr, e36]; exact hv) hz (by rw [z0]; kernel_rfl) (by rw [z0]; rfl) y0 ?_
    have hsz2 : (W.setRow k0 g0).heap.size = W.heap.size := size_setRow _ _ _
    have hot : ∀ b, b ≠ k0 → (W.setRow k0 g0).heap[b]? = W.heap[b]? := fun b hb => heap_setRow_other _ _ _ _ hb
    exact ⟨u6, u7, u8, u30, u31, u32, u33, u34, u35, u36, u37, u38, k0, k1, lo, hi, g0, g1, g2, hfr, (old_setRow fold hlo _),
      (fun h0 => fL0 h0),
      (fun h0 h1 => by have hx_ : d 4 = false := h1; rw [HD4] at hx_; cases hx_),
      (fun h0 => fL1 h0),
      (fun h0 h1 => by have hx_ : d 4 = false := h1; rw [HD4] at hx_; cases hx_),
      (fun h0 => ⟨eF, lF, by rw [hsz2]; exact hF, z0, y0, z1, y1, far _ _ _ _ _ _ _ rF (fun b h1 h2 => hot b (by omega)) (by rw [hsz2]; exact Nat.le_refl _)⟩),
      (fun h0 => fM h0),
      (fun h0 => fE0 h0),
      (fun h0 => fE1 h0),
      (fun h0 => fE2 h0),
      (fun h0 => ⟨hp, hlo, by rw [hsz2]; exact hlt⟩),
      (fun h0 h1 => by cases h1),
      (fun _ => heap_setRow_same hz),
      (fun h0 h1 => fX0 h0 h1),
      (fun h0 => by obtain ⟨e1, e2, e3⟩ := fB1 h0; exact ⟨e1, e2, by rw [hsz2]; exact e3⟩),
      (fun h0 h1 => (hot _ (Ne.symm (fN01 HD9 HD10))).trans (fZ1 h0 h1)),
      (fun h0 => (hot _ (Ne.symm (fN01 HD9 HD10))).trans (fS1 h0)),
      (fun h0 h1 => fX1 h0 h1),
      (fun h0 h1 => fN01 h0 h1),
      (fun h0 => fA2 h0),
      (fun h => fO5_4 h),
      (fun h => fO6_4 h),
      (fun _ => HD4),
      (fun _ => HD9),
      (fun h => fO7_4 h),
      (fun h => fO12_4 h),
      (fun h => fO12_10 h),
      (fun h => fO8_4 h),
      (fun h => fO13_4 h)⟩
  · rintro d a W ⟨u6, u7, u8, u30, u31, u32, u33, u34, u35, u36, u37, u38, k0, k1, lo, hi, g0, g1, g2, hfr, fold, fL0, fC0, fL1, fC1, fF, fM, fE0, fE1, fE2, fB0, fZ0, fS0, fX0, fB1, fZ1, fS1, fX1, fN01, fA2, fO5_4, fO6_4, fO11_4, fO11_9, fO7_4, fO12_4, fO12_10, fO8_4, fO13_4⟩ hi_ hd
    simp [Region.binds] at hd
    have HD4 : d 4 = true := by simp only [hd]
    have HD7 : d 7 = true := by simp only [hd]
    have HD9 : d 9 = true := by simp only [hd]
    have HD10 : d 10 = true := by simp only [hd]
    clear hd
    obtain ⟨hp, hlo, hlt⟩ := fB1 HD10
    have hv := fE1 HD7
    have hz := fZ1 HD10 hi_
    obtain ⟨eF, lF, hF, z0, y0, z1, y1, rF⟩ := fF HD4
    have hx := fX1 HD10 HD4
    refine op_store (k := k1) (by rw [hfr, e7]; exact hp) (by rw [hfr, e37]; exact hv) hz (by rw [z1]; kernel_rfl) (by rw [z1]; rfl) y1 ?_
    have hsz2 : (W.setRow k1 g1).heap.size = W.heap.size := size_setRow _ _ _
    have hot : ∀ b, b ≠ k1 → (W.setRow k1 g1).heap[b]? = W.heap[b]? := fun b hb => heap_setRow_other _ _ _ _ hb
    exact ⟨u6, u7, u8, u30, u31, u32, u33, u34, u35, u36, u37, u38, k0, k1, lo, hi, g0, g1, g2, hfr, (old_setRow fold hlo _),
      (fun h0 => fL0 h0),
      (fun h0 h1 => by have hx_ : d 4 = false := h1; rw [HD4] at hx_; cases hx_),
      (fun h0 => fL1 h0),
      (fun h0 h1 => by have hx_ : d 4 = false := h1; rw [HD4] at hx_; cases hx_),
      (fun h0 => ⟨eF, lF, by rw [hsz2]; exact hF, z0, y0, z1, y1, far _ _ _ _ _ _ _ rF (fun b h1 h2 => hot b (by omega)) (by rw [hsz2]; exact Nat.le_refl _)⟩),
      (fun h0 => fM h0),
      (fun h0 => fE0 h0),
      (fun h0 => fE1 h0),
      (fun h0 => fE2 h0),
      (fun h0 => by obtain ⟨e1, e2, e3⟩ := fB0 h0; exact ⟨e1, e2, by rw [hsz2]; exact e3⟩),
      (fun h0 h1 => (hot _ ((fN01 HD9 HD10))).trans (fZ0 h0 h1)),
      (fun h0 => (hot _ ((fN01 HD9 HD10))).trans (fS0 h0)),
      (fun h0 h1 => fX0 h0 h1),
      (fun h0 => ⟨hp, hlo, by rw [hsz2]; exact hlt⟩),
      (fun h0 h1 => by cases h1),
      (fun _ => heap_setRow_same hz),
      (fun h0 h1 => fX1 h0 h1),
      (fun h0 h1 => fN01 h0 h1),
      (fun h0 => fA2 h0),
      (fun h => fO5_4 h),
      (fun h => fO6_4 h),
      (fun h => fO11_4 h),
      (fun h => fO11_9 h),
      (fun h => fO7_4 h),
      (fun _ => HD4),
      (fun _ => HD10),
      (fun h => fO8_4 h),
      (fun h => fO13_4 h)⟩
  · rintro d a W ⟨u6, u7, u8, u30, u31, u32, u33, u34, u35, u36, u37, u38, k0, k1, lo, hi, g0, g1, g2, hfr, fold, fL0, fC0, fL1, fC1, fF, fM, fE0, fE1, fE2, fB0, fZ0, fS0, fX0, fB1, fZ1, fS1, fX1, fN01, fA2, fO5_4, fO6_4, fO11_4, fO11_9, fO7_4, fO12_4, fO12_10, fO8_4, fO13_4⟩ hi_ hd
    simp [Region.binds] at hd
    have HD4 : d 4 = true := by simp only [hd]
    have HD8 : d 8 = true := by simp only [hd]
    clear hd
    have hv := fE2 HD8
    refine op_assign ?_
    rw [show a.eval (.tmp 38) = g2 by rw [hfr, e38]; exact hv]
    exact ⟨u6, u7, g2, u30, u31, u32, u33, u34, u35, u36, u37, u38, k0, k1, lo, hi, g0, g1, g2, (by rw [hfr]; exact putAll_put a0 _ _ _ rfl), (fold),
      (fun h0 => fL0 h0),
      (fun h0 h1 => fC0 h0 h1),
      (fun h0 => fL1 h0),
      (fun h0 h1 => fC1 h0 h1),
      (fun h0 => fF h0),
      (fun h0 => fM h0),
      (fun h0 => fE0 h0),
      (fun h0 => fE1 h0),
      (fun h0 => fE2 h0),
      (fun h0 => fB0 h0),
      (fun h0 h1 => fZ0 h0 h1),
      (fun h0 => fS0 h0),
      (fun h0 h1 => fX0 h0 h1),
      (fun h0 => fB1 h0),
      (fun h0 h1 => fZ1 h0 h1),
      (fun h0 => fS1 h0),
      (fun h0 h1 => fX1 h0 h1),
      (fun h0 h1 => fN01 h0 h1),
      (fun _ => rfl),
      (fun h => fO5_4 h),
      (fun h => fO6_4 h),
      (fun h => fO11_4 h),
      (fun h => fO11_9 h),
      (fun h => fO7_4 h),
      (fun h => fO12_4 h),
      (fun h => fO12_10 h),
      (fun h => fO8_4 h),
      (fun _ => HD4)⟩
  · rintro d a W hd ⟨u6, u7, u8, u30, u31, u32, u33, u34, u35, u36, u37, u38, k0, k1, lo, hi, g0, g1, g2, hfr, fold, fL0, fC0, fL1, fC1, fF, fM, fE0, fE1, fE2, fB0, fZ0, fS0, fX0, fB1, fZ1, fS1, fX1, fN01, fA2, fO5_4, fO6_4, fO11_4, fO11_9, fO7_4, fO12_4, fO12_10, fO8_4, fO13_4⟩
    have hd2 : ∀ i, i < 14 → d i = true := hd
    clear hd
    have HD0 : d 0 = true := hd2 0 (by omega)
    have HD1 : d 1 = true := hd2 1 (by omega)
    have HD2 : d 2 = true := hd2 2 (by omega)
    have HD3 : d 3 = true := hd2 3 (by omega)
    have HD4 : d 4 = true := hd2 4 (by omega)
    have HD5 : d 5 = true := hd2 5 (by omega)
    have HD6 : d 6 = true := hd2 6 (by omega)
    have HD7 : d 7 = true := hd2 7 (by omega)
    have HD8 : d 8 = true := hd2 8 (by omega)
    have HD9 : d 9 = true := hd2 9 (by omega)
    have HD10 : d 10 = true := hd2 10 (by omega)
    have HD11 : d 11 = true := hd2 11 (by omega)
    have HD12 : d 12 = true := hd2 12 (by omega)
    have HD13 : d 13 = true := hd2 13 (by omega)
    obtain ⟨eF, lF, hF, z0, y0, z1, y1, rF⟩ := fF HD4
    obtain ⟨hp0, hlo0, hlt0⟩ := fB0 HD9
    rw [hp0] at hfr
    obtain ⟨hp1, hlo1, hlt1⟩ := fB1 HD10
    rw [hp1] at hfr
    have ha_2 := fA2 HD13
    rw [ha_2] at hfr
    show K a W
    rw [hfr]
    exact HK.out k0 k1 lo hi g0 g1 g2 u30 u31 u32 u33 u34 u35 u36 u37 u38 W fold lF hF rF (fS0 HD11) hlo0 hlt0 (fX0 HD9 HD4) (fS1 HD12) hlo1 hlt1 (fX1 HD10 HD4) (fN01 HD9 HD10)
end Go.Proofs.Ytafcffnpobdhgaa
