/- Proved: a drawn region of the statement FnExactGoodCipher, by what holds between its operations, in whatever order. -/
import Derived.Test.YtakleianimcmdaaDoorG04
import Derived.Test.YtakleianimcmdaaDoorG02
namespace Go.Proofs.YtakleianimcmdaaDoor
open Go.ChangeShapes Go.WideShapes Go.ChangeAt Go.RowKit
set_option linter.unusedVariables false
set_option linter.unusedSimpArgs false
def regionAtreg9_GoodCipherA (n : Nat) : Code → Option Code
  | .region i ops b => if i = n then some (.region i ops b) else none
  | .seq a b => match regionAtreg9_GoodCipherA n a with
    | some c => some c
    | none => regionAtreg9_GoodCipherA n b
  | .block _ c => regionAtreg9_GoodCipherA n c
  | _ => none
set_option maxRecDepth 100000 in
set_option maxHeartbeats 8000000 in
theorem reg9_GoodCipherA (w2 : World) (x0_0 x0_1 x0_2 x0_3 : Value) (kb0 : Nat) (x1_0 : Value) (kb1 : Nat) 
    (CR0 : World → Value → Prop) (hCR0 : ∀ W W' v, CR0 W v → Old W W' → CR0 W' v)
    (c0 : ∀ W, Old w2 W → Calls Tryd.prog 7 #[.agg #[x0_0, x0_1, x0_2, x0_3]] W fun e w' => ∃ v, e = .returned v ∧ Old W w' ∧ CR0 w' v)
    (b0 : w2.heap[kb0]? = some (.cells #[x0_0, x0_1, x0_2, x0_3] 24 (0, 0)))
    (CR1 : World → Value → Prop) (hCR1 : ∀ W W' v, CR1 W v → Old W W' → CR1 W' v)
    (c1 : ∀ W, Old w2 W → Calls Tryd.prog 12 #[.agg #[x1_0]] W fun e w' => ∃ v, e = .returned v ∧ Old W w' ∧ CR1 w' v)
    (b1 : w2.heap[kb1]? = some (.cells #[x1_0] 34 (0, 0)))
    (RES : World → Nat → Nat → Value → Prop) (far : ∀ W W' lo hi (g0 : Value), RES W lo hi g0 → (∀ b, lo ≤ b → b < hi → W'.heap[b]? = W.heap[b]?) → W.heap.size ≤ W'.heap.size → RES W' lo hi g0)
    (cf : ∀ W v0 v1, Old w2 W → CR0 W v0 → CR1 W v1 → Calls Tryd.prog 11 #[v0, v1] W fun e w' => ∃ (g0 : Value), e = .returned (g0) ∧ Old W w' ∧ RES w' W.heap.size w'.heap.size g0)
    (Q : Exit → Act → World → Prop) (K : Act → World → Prop) (a0 : Act) (hsz : 45 ≤ a0.tmps.size) (ha2 : a0.eval (.tmp 2) = .pointer (some ⟨kb0, 0, none⟩)) (ha3 : a0.eval (.tmp 3) = .pointer (some ⟨kb1, 0, none⟩))
    (HK : Hid (∀ ( lo hi : Nat) (g0 : Value) (u20 u21 u22 u23 u24 : Value) (W : World), Old w2 W → w2.heap.size ≤ lo → hi ≤ W.heap.size → RES W lo hi g0 → K (putAll a0 [(6, g0), (20, u20), (21, u21), (22, u22), (23, u23), (24, u24)]) W)) :
    Code.wp Tryd.prog ((Tryd.f4.body.bind (regionAtreg9_GoodCipherA 8)).getD .skip) (Exit.then K Q) a0 w2 := by
  conv => arg 2; whnf
  have e2 : ∀ l, (putAll a0 l).eval (.tmp 2) = (getKey l 2).getD (a0.eval (.tmp 2)) := eval_putAll a0 2 (by omega)
  have e3 : ∀ l, (putAll a0 l).eval (.tmp 3) = (getKey l 3).getD (a0.eval (.tmp 3)) := eval_putAll a0 3 (by omega)
  have e6 : ∀ l, (putAll a0 l).eval (.tmp 6) = (getKey l 6).getD (a0.eval (.tmp 6)) := eval_putAll a0 6 (by omega)
  have e20 : ∀ l, (putAll a0 l).eval (.tmp 20) = (getKey l 20).getD (a0.eval (.tmp 20)) := eval_putAll a0 20 (by omega)
  have e21 : ∀ l, (putAll a0 l).eval (.tmp 21) = (getKey l 21).getD (a0.eval (.tmp 21)) := eval_putAll a0 21 (by omega)
  have e22 : ∀ l, (putAll a0 l).eval (.tmp 22) = (getKey l 22).getD (a0.eval (.tmp 22)) := eval_putAll a0 22 (by omega)
  have e23 : ∀ l, (putAll a0 l).eval (.tmp 23) = (getKey l 23).getD (a0.eval (.tmp 23)) := eval_putAll a0 23 (by omega)
  have e24 : ∀ l, (putAll a0 l).eval (.tmp 24) = (getKey l 24).getD (a0.eval (.tmp 24)) := eval_putAll a0 24 (by omega)
  refine wp_region_steps (fun d a W => ∃ (u6 u20 u21 u22 u23 u24 : Value) ( lo hi : Nat) (g0 : Value), a = (putAll a0 [(6, u6), (20, u20), (21, u21), (22, u22), (23, u23), (24, u24)]) ∧ (Old w2 W) ∧ (d 0 = true → u20 = .agg #[x0_0, x0_1, x0_2, x0_3]) ∧ (d 1 = true → d 4 = false → CR0 W u21) ∧ (d 2 = true → u22 = .agg #[x1_0]) ∧ (d 3 = true → d 4 = false → CR1 W u23) ∧ (d 4 = true → u24 = g0 ∧ w2.heap.size ≤ lo ∧ hi ≤ W.heap.size ∧ RES W lo hi g0) ∧ (d 5 = true → u6 = g0) ∧ (d 5 = true → d 4 = true)) rfl (by decide +kernel) (by decide +kernel) ?_ ⟨?_, ?_, ?_, ?_, ?_, ?_, trivial⟩ ?_
  · exact ⟨_, _, _, _, _, _, 0, 0, undef, (putAll_self a0 [6, 20, 21, 22, 23, 24] (by intro s hs; simp at hs; omega)).symm, Below.drew (Old.refl w2), (fun h => by cases h), (fun h => by cases h), (fun h => by cases h), (fun h => by cases h), (fun h => by cases h), (fun h => by cases h), (fun h => by cases h)⟩
  · rintro d a W ⟨u6, u20, u21, u22, u23, u24, lo, hi, g0, hfr, fold, fL0, fC0, fL1, fC1, fF, fA0, fO5_4⟩ hi_ hd
    simp [Region.binds] at hd
    refine op_load (k := kb0) (by rw [hfr, e2]; exact ha2) (fold.block _ (lt_of_some b0) |>.trans b0) Tryd.underlying24 rfl (by kernel_rfl) ?_
    exact ⟨u6, .agg #[x0_0, x0_1, x0_2, x0_3], u21, u22, u23, u24, lo, hi, g0, (by rw [hfr]; exact putAll_put a0 _ _ _ rfl), (fold),
      (fun _ => rfl),
      (fun h0 h1 => fC0 h0 h1),
      (fun h0 => fL1 h0),
      (fun h0 h1 => fC1 h0 h1),
      (fun h0 => fF h0),
      (fun h0 => fA0 h0),
      (fun h => fO5_4 h)⟩
  · rintro d a W ⟨u6, u20, u21, u22, u23, u24, lo, hi, g0, hfr, fold, fL0, fC0, fL1, fC1, fF, fA0, fO5_4⟩ hi_ hd
    simp [Region.binds] at hd
    have HD0 : d 0 = true := by simp only [hd]
    clear hd
    have hv := fL0 HD0
    refine op_call_ret Tryd.call7 (vs := #[.agg #[x0_0, x0_1, x0_2, x0_3]]) (by simp [hfr, e20, getKey, hv]) (c0 W fold) ?_
    rintro v W' ⟨g, hcr⟩
    exact ⟨u6, u20, v, u22, u23, u24, lo, hi, g0, (by rw [hfr]; exact putAll_put a0 _ _ _ rfl), (Old.trans fold g),
      (fun h0 => fL0 h0),
      (fun _ _ => hcr),
      (fun h0 => fL1 h0),
      (fun h0 h1 => hCR1 _ _ _ (fC1 h0 h1) g),
      (fun h0 => by obtain ⟨e1, e2, e3, e9⟩ := fF h0; exact ⟨e1, e2, Nat.le_trans e3 g.size, far _ _ _ _ _ e9 (fun b _ hb => g.block b (by omega)) g.size⟩),
      (fun h0 => fA0 h0),
      (fun h => fO5_4 h)⟩
  · rintro d a W ⟨u6, u20, u21, u22, u23, u24, lo, hi, g0, hfr, fold, fL0, fC0, fL1, fC1, fF, fA0, fO5_4⟩ hi_ hd
    simp [Region.binds] at hd
    refine op_load (k := kb1) (by rw [hfr, e3]; exact ha3) (fold.block _ (lt_of_some b1) |>.trans b1) Tryd.underlying34 rfl (by kernel_rfl) ?_
    exact ⟨u6, u20, u21, .agg #[x1_0], u23, u24, lo, hi, g0, (by rw [hfr]; exact putAll_put a0 _ _ _ rfl), (fold),
      (fun h0 => fL0 h0),
      (fun h0 h1 => fC0 h0 h1),
      (fun _ => rfl),
      (fun h0 h1 => fC1 h0 h1),
      (fun h0 => fF h0),
      (fun h0 => fA0 h0),
      (fun h => fO5_4 h)⟩
  · rintro d a W ⟨u6, u20, u21, u22, u23, u24, lo, hi, g0, hfr, fold, fL0, fC0, fL1, fC1, fF, fA0, fO5_4⟩ hi_ hd
    simp [Region.binds] at hd
    have HD2 : d 2 = true := by simp only [hd]
    clear hd
    have hv := fL1 HD2
    refine op_call_ret Tryd.call12 (vs := #[.agg #[x1_0]]) (by simp [hfr, e22, getKey, hv]) (c1 W fold) ?_
    rintro v W' ⟨g, hcr⟩
    exact ⟨u6, u20, u21, u22, v, u24, lo, hi, g0, (by rw [hfr]; exact putAll_put a0 _ _ _ rfl), (Old.trans fold g),
      (fun h0 => fL0 h0),
      (fun h0 h1 => hCR0 _ _ _ (fC0 h0 h1) g),
      (fun h0 => fL1 h0),
      (fun _ _ => hcr),
      (fun h0 => by obtain ⟨e1, e2, e3, e9⟩ := fF h0; exact ⟨e1, e2, Nat.le_trans e3 g.size, far _ _ _ _ _ e9 (fun b _ hb => g.block b (by omega)) g.size⟩),
      (fun h0 => fA0 h0),
      (fun h => fO5_4 h)⟩
  · rintro d a W ⟨u6, u20, u21, u22, u23, u24, lo, hi, g0, hfr, fold, fL0, fC0, fL1, fC1, fF, fA0, fO5_4⟩ hi_ hd
    simp [Region.binds] at hd
    have HD1 : d 1 = true := by simp only [hd]
    have HD3 : d 3 = true := by simp only [hd]
    clear hd
    refine op_call_ret (R := fun v w' => ∃ (g0 : Value), v = g0 ∧ Old W w' ∧ RES w' W.heap.size w'.heap.size g0) Tryd.call11 (vs := #[u21, u23]) (by simp [hfr, e21, e23, getKey]) ((cf W _ _ fold (fC0 HD1 hi_) (fC1 HD3 hi_)).mono (fun e w' h => by obtain ⟨g0, rfl, h⟩ := h; exact ⟨_, rfl, g0, rfl, h⟩)) ?_
    rintro v W' ⟨r0, hv0, g, hres⟩
    obtain rfl := hv0.symm
    exact ⟨u6, u20, u21, u22, u23, r0, W.heap.size, W'.heap.size, r0, (by rw [hfr]; exact putAll_put a0 _ _ _ rfl), (Old.trans fold g),
      (fun h0 => fL0 h0),
      (fun h0 h1 => by cases h1),
      (fun h0 => fL1 h0),
      (fun h0 h1 => by cases h1),
      (fun _ => ⟨rfl, (fold.size), Nat.le_refl _, hres⟩),
      (fun h0 => by have hx_ := fO5_4 h0; rw [hi_] at hx_; cases hx_),
      (fun _ => rfl)⟩
  · rintro d a W ⟨u6, u20, u21, u22, u23, u24, lo, hi, g0, hfr, fold, fL0, fC0, fL1, fC1, fF, fA0, fO5_4⟩ hi_ hd
    simp [Region.binds] at hd
    have HD4 : d 4 = true := by simp only [hd]
    clear hd
    have hv := (fF HD4).1
    refine op_assign ?_
    rw [show a.eval (.tmp 24) = g0 by rw [hfr, e24]; exact hv]
    exact ⟨g0, u20, u21, u22, u23, u24, lo, hi, g0, (by rw [hfr]; exact putAll_put a0 _ _ _ rfl), (fold),
      (fun h0 => fL0 h0),
      (fun h0 h1 => fC0 h0 h1),
      (fun h0 => fL1 h0),
      (fun h0 h1 => fC1 h0 h1),
      (fun h0 => fF h0),
      (fun _ => rfl),
      (fun _ => HD4)⟩
  · rintro d a W hd ⟨u6, u20, u21, u22, u23, u24, lo, hi, g0, hfr, fold, fL0, fC0, fL1, fC1, fF, fA0, fO5_4⟩
    have hd2 : ∀ i, i < 6 → d i = true := hd
    clear hd
    have HD0 : d 0 = true := hd2 0 (by omega)
    have HD1 : d 1 = true := hd2 1 (by omega)
    have HD2 : d 2 = true := hd2 2 (by omega)
    have HD3 : d 3 = true := hd2 3 (by omega)
    have HD4 : d 4 = true := hd2 4 (by omega)
    have HD5 : d 5 = true := hd2 5 (by omega)
    obtain ⟨eF, lF, hF, rF⟩ := fF HD4
    have ha_0 := fA0 HD5
    rw [ha_0] at hfr
    show K a W
    rw [hfr]
    exact HK.out  lo hi g0 u20 u21 u22 u23 u24 W fold lF hF rF
end Go.Proofs.YtakleianimcmdaaDoor
