/- Proved: several texts in one: what each proves is said ahead of it. -/
import Derived.Test.YtcgnndenmcmieaaDoorROps
import Derived.Test.YtcgnndenmcmieaaDoorMB
import Derived.Test.YtcgnndenmcmieaaDoorMG
import Derived.Test.YtcgnndenmcmieaaDoorMI
import Derived.Deep.RegionHeld3
/- Proved: a drawn region of the statement FnExactMulRows, by what holds between its operations, in whatever order. -/
namespace Go.Proofs.YtcgnndenmcmieaaDoor
open Go.ChangeShapes Go.WideShapes Go.ChangeAt Go.RowKit
set_option linter.unusedVariables false
set_option linter.unusedSimpArgs false
def regionAtreg_mulrows11 (n : Nat) : Code → Option Code
  | .region i ops b => if i = n then some (.region i ops b) else none
  | .seq a b => match regionAtreg_mulrows11 n a with
    | some c => some c
    | none => regionAtreg_mulrows11 n b
  | .block _ c => regionAtreg_mulrows11 n c
  | _ => none
set_option maxRecDepth 100000 in
set_option maxHeartbeats 8000000 in
theorem reg_mulrows11 (w2 : World) (xa ya xb yb xc yc : Value) (ka kb kc : Nat)
    (CR0 : World → Value → Prop) (hCR0 : ∀ W W' v, CR0 W v → Old W W' → CR0 W' v)
    (c0 : ∀ W, Old w2 W → Calls Tryd.prog 25 #[.agg #[xa, ya]] W fun e w' => ∃ v, e = .returned v ∧ Old W w' ∧ CR0 w' v)
    (b0 : w2.heap[ka]? = some (.cells #[xa, ya] 40 (0, 0)))
    (CR1 : World → Value → Prop) (hCR1 : ∀ W W' v, CR1 W v → Old W W' → CR1 W' v)
    (c1 : ∀ W, Old w2 W → Calls Tryd.prog 35 #[.agg #[xb, yb]] W fun e w' => ∃ v, e = .returned v ∧ Old W w' ∧ CR1 w' v)
    (b1 : w2.heap[kb]? = some (.cells #[xb, yb] 57 (0, 0)))
    (CR2 : World → Value → Prop) (hCR2 : ∀ W W' v, CR2 W v → Old W W' → CR2 W' v)
    (c2 : ∀ W, Old w2 W → Calls Tryd.prog 35 #[.agg #[xc, yc]] W fun e w' => ∃ v, e = .returned v ∧ Old W w' ∧ CR2 w' v)
    (b2 : w2.heap[kc]? = some (.cells #[xc, yc] 57 (0, 0)))
    (RES : World → Nat → Nat → Array Value → Value → Prop) (far : ∀ W W' lo hi (g0 : Array Value) (g1 : Value), RES W lo hi g0 g1 → (∀ b, lo ≤ b → b < hi → W'.heap[b]? = W.heap[b]?) → W.heap.size ≤ W'.heap.size → RES W' lo hi g0 g1)
    (cf : ∀ W v0 v1 v2, Old w2 W → CR0 W v0 → CR1 W v1 → CR2 W v2 → Calls Tryd.prog 34 #[v0, v1, v2] W fun e w' => ∃ (g0 : Array Value) (g1 : Value), e = .returned (.tuple #[.agg g0, g1]) ∧ Old W w' ∧ g0.size = 2 ∧ g0.all (·.oneCell') = true ∧ RES w' W.heap.size w'.heap.size g0 g1)
    (Q : Exit → Act → World → Prop) (K : Act → World → Prop) (a0 : Act) (hsz : 142 ≤ a0.tmps.size) (ha3 : a0.eval (.tmp 3) = .pointer (some ⟨ka, 0, none⟩)) (ha4 : a0.eval (.tmp 4) = .pointer (some ⟨kb, 0, none⟩)) (ha5 : a0.eval (.tmp 5) = .pointer (some ⟨kc, 0, none⟩))
    (HK : Hid (∀ (k0 lo hi : Nat) (g0 : Array Value) (g1 : Value) (u35 u36 u37 u38 u39 u40 u41 u42 u43 u44 : Value) (W : World), Old w2 W → w2.heap.size ≤ lo → hi ≤ W.heap.size → RES W lo hi g0 g1 → W.heap[k0]? = some (.cells g0 46 (0, 0)) → w2.heap.size ≤ k0 → k0 < W.heap.size → (k0 < lo ∨ hi ≤ k0) → K (putAll a0 [(8, .pointer (some ⟨k0, 0, none⟩)), (9, g1), (35, u35), (36, u36), (37, u37), (38, u38), (39, u39), (40, u40), (41, u41), (42, u42), (43, u43), (44, u44)]) W)) :
    Code.wp Tryd.prog ((Tryd.f6.body.bind (regionAtreg_mulrows11 11)).getD .skip) (Exit.then K Q) a0 w2 := by
  conv => arg 2; whnf
  have e3 : ∀ l, (putAll a0 l).eval (.tmp 3) = (getKey l 3).getD (a0.eval (.tmp 3)) := eval_putAll a0 3 (by omega)
  have e4 : ∀ l, (putAll a0 l).eval (.tmp 4) = (getKey l 4).getD (a0.eval (.tmp 4)) := eval_putAll a0 4 (by omega)
  have e5 : ∀ l, (putAll a0 l).eval (.tmp 5) = (getKey l 5).getD (a0.eval (.tmp 5)) := eval_putAll a0 5 (by omega)
  have e8 : ∀ l, (putAll a0 l).eval (.tmp 8) = (getKey l 8).getD (a0.eval (.tmp 8)) := eval_putAll a0 8 (by omega)
  have e9 : ∀ l, (putAll a0 l).eval (.tmp 9) = (getKey l 9).getD (a0.eval (.tmp 9)) := eval_putAll a0 9 (by omega)
  have e35 : ∀ l, (putAll a0 l).eval (.tmp 35) = (getKey l 35).getD (a0.eval (.tmp 35)) := eval_putAll a0 35 (by omega)
  have e36 : ∀ l, (putAll a0 l).eval (.tmp 36) = (getKey l 36).getD (a0.eval (.tmp 36)) := eval_putAll a0 36 (by omega)
  have e37 : ∀ l, (putAll a0 l).eval (.tmp 37) = (getKey l 37).getD (a0.eval (.tmp 37)) := eval_putAll a0 37 (by omega)
  have e38 : ∀ l, (putAll a0 l).eval (.tmp 38) = (getKey l 38).getD (a0.eval (.tmp 38)) := eval_putAll a0 38 (by omega)
  have e39 : ∀ l, (putAll a0 l).eval (.tmp 39) = (getKey l 39).getD (a0.eval (.tmp 39)) := eval_putAll a0 39 (by omega)
  have e40 : ∀ l, (putAll a0 l).eval (.tmp 40) = (getKey l 40).getD (a0.eval (.tmp 40)) := eval_putAll a0 40 (by omega)
  have e41 : ∀ l, (putAll a0 l).eval (.tmp 41) = (getKey l 41).getD (a0.eval (.tmp 41)) := eval_putAll a0 41 (by omega)
  have e42 : ∀ l, (putAll a0 l).eval (.tmp 42) = (getKey l 42).getD (a0.eval (.tmp 42)) := eval_putAll a0 42 (by omega)
  have e43 : ∀ l, (putAll a0 l).eval (.tmp 43) = (getKey l 43).getD (a0.eval (.tmp 43)) := eval_putAll a0 43 (by omega)
  have e44 : ∀ l, (putAll a0 l).eval (.tmp 44) = (getKey l 44).getD (a0.eval (.tmp 44)) := eval_putAll a0 44 (by omega)
  refine wp_region_steps (fun d a W => ∃ (u8 u9 u35 u36 u37 u38 u39 u40 u41 u42 u43 u44 : Value) (k0 lo hi : Nat) (g0 : Array Value) (g1 : Value), a = (putAll a0 [(8, u8), (9, u9), (35, u35), (36, u36), (37, u37), (38, u38), (39, u39), (40, u40), (41, u41), (42, u42), (43, u43), (44, u44)]) ∧ (Old w2 W) ∧ (d 0 = true → u36 = .agg #[xa, ya]) ∧ (d 1 = true → d 6 = false → CR0 W u37) ∧ (d 2 = true → u38 = .agg #[xb, yb]) ∧ (d 3 = true → d 6 = false → CR1 W u39) ∧ (d 4 = true → u40 = .agg #[xc, yc]) ∧ (d 5 = true → d 6 = false → CR2 W u41) ∧ (d 6 = true → u42 = .tuple #[.agg g0, g1] ∧ w2.heap.size ≤ lo ∧ hi ≤ W.heap.size ∧ g0.size = 2 ∧ g0.all (·.oneCell') = true ∧ RES W lo hi g0 g1) ∧ (d 7 = true → u35 = .tuple #[.agg g0, g1]) ∧ (d 8 = true → u43 = .agg g0) ∧ (d 9 = true → u44 = g1) ∧ (d 10 = true → u8 = .pointer (some ⟨k0, 0, none⟩) ∧ w2.heap.size ≤ k0 ∧ k0 < W.heap.size) ∧ (d 10 = true → d 11 = false → W.heap[k0]? = some (.cells #[.bool false, .slice none 0 0] 46 (0, 0))) ∧ (d 11 = true → W.heap[k0]? = some (.cells g0 46 (0, 0))) ∧ (d 10 = true → d 6 = true → (k0 < lo ∨ hi ≤ k0)) ∧ (d 12 = true → u9 = g1) ∧ (d 7 = true → d 6 = true) ∧ (d 8 = true → d 6 = true) ∧ (d 11 = true → d 6 = true) ∧ (d 11 = true → d 10 = true) ∧ (d 9 = true → d 6 = true) ∧ (d 12 = true → d 6 = true)) rfl (by decide +kernel) (by decide +kernel) ?_ ⟨?_, ?_, ?_, ?_, ?_, ?_, ?_, ?_, ?_, ?_, ?_, ?_, ?_, trivial⟩ ?_
  · exact ⟨_, _, _, _, _, _, _, _, _, _, _, _, 0, 0, 0, #[], undef, (putAll_self a0 [8, 9, 35, 36, 37, 38, 39, 40, 41, 42, 43, 44] (by intro s hs; simp at hs; omega)).symm, Below.drew (Old.refl w2), (fun h => by cases h), (fun h => by cases h), (fun h => by cases h), (fun h => by cases h), (fun h => by cases h), (fun h => by cases h), (fun h => by cases h), (fun h => by cases h), (fun h => by cases h), (fun h => by cases h), (fun h => by cases h), (fun h => by cases h), (fun h => by cases h), (fun h => by cases h), (fun h => by cases h), (fun h => by cases h), (fun h => by cases h), (fun h => by cases h), (fun h => by cases h), (fun h => by cases h), (fun h => by cases h)⟩
  · rintro d a W ⟨u8, u9, u35, u36, u37, u38, u39, u40, u41, u42, u43, u44, k0, lo, hi, g0, g1, hfr, fold, fL0, fC0, fL1, fC1, fL2, fC2, fF, fM, fE0, fE1, fB0, fZ0, fS0, fX0, fA1, fO7_6, fO8_6, fO11_6, fO11_10, fO9_6, fO12_6⟩ hi_ hd
    simp [Region.binds] at hd
    refine op_load (k := ka) (by rw [hfr, e3]; exact ha3) (fold.block _ (lt_of_some b0) |>.trans b0) Tryd.underlying40 rfl (by kernel_rfl) ?_
    exact ⟨u8, u9, u35, .agg #[xa, ya], u37, u38, u39, u40, u41, u42, u43, u44, k0, lo, hi, g0, g1, (by rw [hfr]; exact putAll_put a0 _ _ _ rfl), (fold),
      (fun _ => rfl),
      (fun h0 h1 => fC0 h0 h1),
      (fun h0 => fL1 h0),
      (fun h0 h1 => fC1 h0 h1),
      (fun h0 => fL2 h0),
      (fun h0 h1 => fC2 h0 h1),
      (fun h0 => fF h0),
      (fun h0 => fM h0),
      (fun h0 => fE0 h0),
      (fun h0 => fE1 h0),
      (fun h0 => fB0 h0),
      (fun h0 h1 => fZ0 h0 h1),
      (fun h0 => fS0 h0),
      (fun h0 h1 => fX0 h0 h1),
      (fun h0 => fA1 h0),
      (fun h => fO7_6 h),
      (fun h => fO8_6 h),
      (fun h => fO11_6 h),
      (fun h => fO11_10 h),
      (fun h => fO9_6 h),
      (fun h => fO12_6 h)⟩
  · rintro d a W ⟨u8, u9, u35, u36, u37, u38, u39, u40, u41, u42, u43, u44, k0, lo, hi, g0, g1, hfr, fold, fL0, fC0, fL1, fC1, fL2, fC2, fF, fM, fE0, fE1, fB0, fZ0, fS0, fX0, fA1, fO7_6, fO8_6, fO11_6, fO11_10, fO9_6, fO12_6⟩ hi_ hd
    simp [Region.binds] at hd
    have HD0 : d 0 = true := by simp only [hd]
    clear hd
    have hv := fL0 HD0
    refine op_call_ret Tryd.call25 (vs := #[.agg #[xa, ya]]) (by simp [hfr, e36, getKey, hv]) (c0 W fold) ?_
    rintro v W' ⟨g, hcr⟩
    exact ⟨u8, u9, u35, u36, v, u38, u39, u40, u41, u42, u43, u44, k0, lo, hi, g0, g1, (by rw [hfr]; exact putAll_put a0 _ _ _ rfl), (Old.trans fold g),
      (fun h0 => fL0 h0),
      (fun _ _ => hcr),
      (fun h0 => fL1 h0),
      (fun h0 h1 => hCR1 _ _ _ (fC1 h0 h1) g),
      (fun h0 => fL2 h0),
      (fun h0 h1 => hCR2 _ _ _ (fC2 h0 h1) g),
      (fun h0 => by obtain ⟨e1, e2, e3, z0, y0, e9⟩ := fF h0; exact ⟨e1, e2, Nat.le_trans e3 g.size, z0, y0, far _ _ _ _ _ _ e9 (fun b _ hb => g.block b (by omega)) g.size⟩),
      (fun h0 => fM h0),
      (fun h0 => fE0 h0),
      (fun h0 => fE1 h0),
      (fun h0 => by obtain ⟨e1, e2, e3⟩ := fB0 h0; exact ⟨e1, e2, Nat.lt_of_lt_of_le e3 g.size⟩),
      (fun h0 h1 => (g.block _ (lt_of_some (fZ0 h0 h1))).trans (fZ0 h0 h1)),
      (fun h0 => (g.block _ (lt_of_some (fS0 h0))).trans (fS0 h0)),
      (fun h0 h1 => fX0 h0 h1),
      (fun h0 => fA1 h0),
      (fun h => fO7_6 h),
      (fun h => fO8_6 h),
      (fun h => fO11_6 h),
      (fun h => fO11_10 h),
      (fun h => fO9_6 h),
      (fun h => fO12_6 h)⟩
  · rintro d a W ⟨u8, u9, u35, u36, u37, u38, u39, u40, u41, u42, u43, u44, k0, lo, hi, g0, g1, hfr, fold, fL0, fC0, fL1, fC1, fL2, fC2, fF, fM, fE0, fE1, fB0, fZ0, fS0, fX0, fA1, fO7_6, fO8_6, fO11_6, fO11_10, fO9_6, fO12_6⟩ hi_ hd
    simp [Region.binds] at hd
    refine op_load (k := kb) (by rw [hfr, e4]; exact ha4) (fold.block _ (lt_of_some b1) |>.trans b1) Tryd.underlying57 rfl (by kernel_rfl) ?_
    exact ⟨u8, u9, u35, u36, u37, .agg #[xb, yb], u39, u40, u41, u42, u43, u44, k0, lo, hi, g0, g1, (by rw [hfr]; exact putAll_put a0 _ _ _ rfl), (fold),
      (fun h0 => fL0 h0),
      (fun h0 h1 => fC0 h0 h1),
      (fun _ => rfl),
      (fun h0 h1 => fC1 h0 h1),
      (fun h0 => fL2 h0),
      (fun h0 h1 => fC2 h0 h1),
      (fun h0 => fF h0),
      (fun h0 => fM h0),
      (fun h0 => fE0 h0),
      (fun h0 => fE1 h0),
      (fun h0 => fB0 h0),
      (fun h0 h1 => fZ0 h0 h1),
      (fun h0 => fS0 h0),
      (fun h0 h1 => fX0 h0 h1),
      (fun h0 => fA1 h0),
      (fun h => fO7_6 h),
      (fun h => fO8_6 h),
      (fun h => fO11_6 h),
      (fun h => fO11_10 h),
      (fun h => fO9_6 h),
      (fun h => fO12_6 h)⟩
  · rintro d a W ⟨u8, u9, u35, u36, u37, u38, u39, u40, u41, u42, u43, u44, k0, lo, hi, g0, g1, hfr, fold, fL0, fC0, fL1, fC1, fL2, fC2, fF, fM, fE0, fE1, fB0, fZ0, fS0, fX0, fA1, fO7_6, fO8_6, fO11_6, fO11_10, fO9_6, fO12_6⟩ hi_ hd
    simp [Region.binds] at hd
    have HD2 : d 2 = true := by simp only [hd]
    clear hd
    have hv := fL1 HD2
    refine op_call_ret Tryd.call35 (vs := #[.agg #[xb, yb]]) (by simp [hfr, e38, getKey, hv]) (c1 W fold) ?_
    rintro v W' ⟨g, hcr⟩
    exact ⟨u8, u9, u35, u36, u37, u38, v, u40, u41, u42, u43, u44, k0, lo, hi, g0, g1, (by rw [hfr]; exact putAll_put a0 _ _ _ rfl), (Old.trans fold g),
      (fun h0 => fL0 h0),
      (fun h0 h1 => hCR0 _ _ _ (fC0 h0 h1) g),
      (fun h0 => fL1 h0),
      (fun _ _ => hcr),
      (fun h0 => fL2 h0),
      (fun h0 h1 => hCR2 _ _ _ (fC2 h0 h1) g),
      (fun h0 => by obtain ⟨e1, e2, e3, z0, y0, e9⟩ := fF h0; exact ⟨e1, e2, Nat.le_trans e3 g.size, z0, y0, far _ _ _ _ _ _ e9 (fun b _ hb => g.block b (by omega)) g.size⟩),
      (fun h0 => fM h0),
      (fun h0 => fE0 h0),
      (fun h0 => fE1 h0),
      (fun h0 => by obtain ⟨e1, e2, e3⟩ := fB0 h0; exact ⟨e1, e2, Nat.lt_of_lt_of_le e3 g.size⟩),
      (fun h0 h1 => (g.block _ (lt_of_some (fZ0 h0 h1))).trans (fZ0 h0 h1)),
      (fun h0 => (g.block _ (lt_of_some (fS0 h0))).trans (fS0 h0)),
      (fun h0 h1 => fX0 h0 h1),
      (fun h0 => fA1 h0),
      (fun h => fO7_6 h),
      (fun h => fO8_6 h),
      (fun h => fO11_6 h),
      (fun h => fO11_10 h),
      (fun h => fO9_6 h),
      (fun h => fO12_6 h)⟩
  · rintro d a W ⟨u8, u9, u35, u36, u37, u38, u39, u40, u41, u42, u43, u44, k0, lo, hi, g0, g1, hfr, fold, fL0, fC0, fL1, fC1, fL2, fC2, fF, fM, fE0, fE1, fB0, fZ0, fS0, fX0, fA1, fO7_6, fO8_6, fO11_6, fO11_10, fO9_6, fO12_6⟩ hi_ hd
    simp [Region.binds] at hd
    refine op_load (k := kc) (by rw [hfr, e5]; exact ha5) (fold.block _ (lt_of_some b2) |>.trans b2) Tryd.underlying57 rfl (by kernel_rfl) ?_
    exact ⟨u8, u9, u35, u36, u37, u38, u39, .agg #[xc, yc], u41, u42, u43, u44, k0, lo, hi, g0, g1, (by rw [hfr]; exact putAll_put a0 _ _ _ rfl), (fold),
      (fun h0 => fL0 h0),
      (fun h0 h1 => fC0 h0 h1),
      (fun h0 => fL1 h0),
      (fun h0 h1 => fC1 h0 h1),
      (fun _ => rfl),
      (fun h0 h1 => fC2 h0 h1),
      (fun h0 => fF h0),
      (fun h0 => fM h0),
      (fun h0 => fE0 h0),
      (fun h0 => fE1 h0),
      (fun h0 => fB0 h0),
      (fun h0 h1 => fZ0 h0 h1),
      (fun h0 => fS0 h0),
      (fun h0 h1 => fX0 h0 h1),
      (fun h0 => fA1 h0),
      (fun h => fO7_6 h),
      (fun h => fO8_6 h),
      (fun h => fO11_6 h),
      (fun h => fO11_10 h),
      (fun h => fO9_6 h),
      (fun h => fO12_6 h)⟩
  · rintro d a W ⟨u8, u9, u35, u36, u37, u38, u39, u40, u41, u42, u43, u44, k0, lo, hi, g0, g1, hfr, fold, fL0, fC0, fL1, fC1, fL2, fC2, fF, fM, fE0, fE1, fB0, fZ0, fS0, fX0, fA1, fO7_6, fO8_6, fO11_6, fO11_10, fO9_6, fO12_6⟩ hi_ hd
    simp [Region.binds] at hd
    have HD4 : d 4 = true := by simp only [hd]
    clear hd
    have hv := fL2 HD4
    refine op_call_ret Tryd.call35 (vs := #[.agg #[xc, yc]]) (by simp [hfr, e40, getKey, hv]) (c2 W fold) ?_
    rintro v W' ⟨g, hcr⟩
    exact ⟨u8, u9, u35, u36, u37, u38, u39, u40, v, u42, u43, u44, k0, lo, hi, g0, g1, (by rw [hfr]; exact putAll_put a0 _ _ _ rfl), (Old.trans fold g),
      (fun h0 => fL0 h0),
      (fun h0 h1 => hCR0 _ _ _ (fC0 h0 h1) g),
      (fun h0 => fL1 h0),
      (fun h0 h1 => hCR1 _ _ _ (fC1 h0 h1) g),
      (fun h0 => fL2 h0),
      (fun _ _ => hcr),
      (fun h0 => by obtain ⟨e1, e2, e3, z0, y0, e9⟩ := fF h0; exact ⟨e1, e2, Nat.le_trans e3 g.size, z0, y0, far _ _ _ _ _ _ e9 (fun b _ hb => g.block b (by omega)) g.size⟩),
      (fun h0 => fM h0),
      (fun h0 => fE0 h0),
      (fun h0 => fE1 h0),
      (fun h0 => by obtain ⟨e1, e2, e3⟩ := fB0 h0; exact ⟨e1, e2, Nat.lt_of_lt_of_le e3 g.size⟩),
      (fun h0 h1 => (g.block _ (lt_of_some (fZ0 h0 h1))).trans (fZ0 h0 h1)),
      (fun h0 => (g.block _ (lt_of_some (fS0 h0))).trans (fS0 h0)),
      (fun h0 h1 => fX0 h0 h1),
      (fun h0 => fA1 h0),
      (fun h => fO7_6 h),
      (fun h => fO8_6 h),
      (fun h => fO11_6 h),
      (fun h => fO11_10 h),
      (fun h => fO9_6 h),
      (fun h => fO12_6 h)⟩
  · rintro d a W ⟨u8, u9, u35, u36, u37, u38, u39, u40, u41, u42, u43, u44, k0, lo, hi, g0, g1, hfr, fold, fL0, fC0, fL1, fC1, fL2, fC2, fF, fM, fE0, fE1, fB0, fZ0, fS0, fX0, fA1, fO7_6, fO8_6, fO11_6, fO11_10, fO9_6, fO12_6⟩ hi_ hd
    simp [Region.binds] at hd
    have HD1 : d 1 = true := by simp only [hd]
    have HD3 : d 3 = true := by simp only [hd]
    have HD5 : d 5 = true := by simp only [hd]
    clear hd
    refine op_call_ret (R := fun v w' => ∃ (g0 : Array Value) (g1 : Value), v = .tuple #[.agg g0, g1] ∧ Old W w' ∧ g0.size = 2 ∧ g0.all (·.oneCell') = true ∧ RES w' W.heap.size w'.heap.size g0 g1) Tryd.call34 (vs := #[u37, u39, u41]) (by simp [hfr, e37, e39, e41, getKey]) ((cf W _ _ _ fold (fC0 HD1 hi_) (fC1 HD3 hi_) (fC2 HD5 hi_)).mono (fun e w' h => by obtain ⟨g0, g1, rfl, h⟩ := h; exact ⟨_, rfl, g0, g1, rfl, h⟩)) ?_
    rintro v W' ⟨r0, r1, rfl, g, z0, y0, hres⟩
    exact ⟨u8, u9, u35, u36, u37, u38, u39, u40, u41, .tuple #[.agg r0, r1], u43, u44, k0, W.heap.size, W'.heap.size, r0, r1, (by rw [hfr]; exact putAll_put a0 _ _ _ rfl), (Old.trans fold g),
      (fun h0 => fL0 h0),
      (fun h0 h1 => by cases h1),
      (fun h0 => fL1 h0),
      (fun h0 h1 => by cases h1),
      (fun h0 => fL2 h0),
      (fun h0 h1 => by cases h1),
      (fun _ => ⟨rfl, (fold.size), Nat.le_refl _, z0, y0, hres⟩),
      (fun h0 => by have hx_ := fO7_6 h0; rw [hi_] at hx_; cases hx_),
      (fun h0 => by have hx_ := fO8_6 h0; rw [hi_] at hx_; cases hx_),
      (fun h0 => by have hx_ := fO9_6 h0; rw [hi_] at hx_; cases hx_),
      (fun h0 => by obtain ⟨e1, e2, e3⟩ := fB0 h0; exact ⟨e1, e2, Nat.lt_of_lt_of_le e3 g.size⟩),
      (fun h0 h1 => (g.block _ (lt_of_some (fZ0 h0 h1))).trans (fZ0 h0 h1)),
      (fun h0 => by have hx_ := fO11_6 h0; rw [hi_] at hx_; cases hx_),
      (fun hb _ => Or.inl (fB0 hb).2.2),
      (fun h0 => by have hx_ := fO12_6 h0; rw [hi_] at hx_; cases hx_),
      (fun _ => rfl),
      (fun _ => rfl),
      (fun _ => rfl),
      (fun h => fO11_10 h),
      (fun _ => rfl),
      (fun _ => rfl)⟩
  · rintro d a W ⟨u8, u9, u35, u36, u37, u38, u39, u40, u41, u42, u43, u44, k0, lo, hi, g0, g1, hfr, fold, fL0, fC0, fL1, fC1, fL2, fC2, fF, fM, fE0, fE1, fB0, fZ0, fS0, fX0, fA1, fO7_6, fO8_6, fO11_6, fO11_10, fO9_6, fO12_6⟩ hi_ hd
    simp [Region.binds] at hd
    have HD6 : d 6 = true := by simp only [hd]
    clear hd
    have hv := (fF HD6).1
    refine op_move ?_
    rw [show a.eval (.tmp 42) = .tuple #[.agg g0, g1] by rw [hfr, e42]; exact hv]
    exact ⟨u8, u9, .tuple #[.agg g0, g1], u36, u37, u38, u39, u40, u41, u42, u43, u44, k0, lo, hi, g0, g1, (by rw [hfr]; exact putAll_put a0 _ _ _ rfl), (fold),
      (fun h0 => fL0 h0),
      (fun h0 h1 => fC0 h0 h1),
      (fun h0 => fL1 h0),
      (fun h0 h1 => fC1 h0 h1),
      (fun h0 => fL2 h0),
      (fun h0 h1 => fC2 h0 h1),
      (fun h0 => fF h0),
      (fun _ => rfl),
      (fun h0 => fE0 h0),
      (fun h0 => fE1 h0),
      (fun h0 => fB0 h0),
      (fun h0 h1 => fZ0 h0 h1),
      (fun h0 => fS0 h0),
      (fun h0 h1 => fX0 h0 h1),
      (fun h0 => fA1 h0),
      (fun _ => HD6),
      (fun h => fO8_6 h),
      (fun h => fO11_6 h),
      (fun h => fO11_10 h),
      (fun h => fO9_6 h),
      (fun h => fO12_6 h)⟩
  · rintro d a W ⟨u8, u9, u35, u36, u37, u38, u39, u40, u41, u42, u43, u44, k0, lo, hi, g0, g1, hfr, fold, fL0, fC0, fL1, fC1, fL2, fC2, fF, fM, fE0, fE1, fB0, fZ0, fS0, fX0, fA1, fO7_6, fO8_6, fO11_6, fO11_10, fO9_6, fO12_6⟩ hi_ hd
    simp [Region.binds] at hd
    have HD7 : d 7 = true := by simp only [hd]
    have HD6 : d 6 = true := fO7_6 HD7
    clear hd
    have hv := fM HD7
    refine op_extract (by rw [hfr, e35]; exact hv) rfl ?_
    exact ⟨u8, u9, u35, u36, u37, u38, u39, u40, u41, u42, .agg g0, u44, k0, lo, hi, g0, g1, (by rw [hfr]; exact putAll_put a0 _ _ _ rfl), (fold),
      (fun h0 => fL0 h0),
      (fun h0 h1 => fC0 h0 h1),
      (fun h0 => fL1 h0),
      (fun h0 h1 => fC1 h0 h1),
      (fun h0 => fL2 h0),
      (fun h0 h1 => fC2 h0 h1),
      (fun h0 => fF h0),
      (fun h0 => fM h0),
      (fun _ => rfl),
      (fun h0 => fE1 h0),
      (fun h0 => fB0 h0),
      (fun h0 h1 => fZ0 h0 h1),
      (fun h0 => fS0 h0),
      (fun h0 h1 => fX0 h0 h1),
      (fun h0 => fA1 h0),
      (fun h => fO7_6 h),
      (fun _ => HD6),
      (fun h => fO11_6 h),
      (fun h => fO11_10 h),
      (fun h => fO9_6 h),
      (fun h => fO12_6 h)⟩
  · rintro d a W ⟨u8, u9, u35, u36, u37, u38, u39, u40, u41, u42, u43, u44, k0, lo, hi, g0, g1, hfr, fold, fL0, fC0, fL1, fC1, fL2, fC2, fF, fM, fE0, fE1, fB0, fZ0, fS0, fX0, fA1, fO7_6, fO8_6, fO11_6, fO11_10, fO9_6, fO12_6⟩ hi_ hd
    simp [Region.binds] at hd
    have HD7 : d 7 = true := by simp only [hd]
    have HD6 : d 6 = true := fO7_6 HD7
    clear hd
    have hv := fM HD7
    refine op_extract (by rw [hfr, e35]; exact hv) rfl ?_
    exact ⟨u8, u9, u35, u36, u37, u38, u39, u40, u41, u42, u43, g1, k0, lo, hi, g0, g1, (by rw [hfr]; exact putAll_put a0 _ _ _ rfl), (fold),
      (fun h0 => fL0 h0),
      (fun h0 h1 => fC0 h0 h1),
      (fun h0 => fL1 h0),
      (fun h0 h1 => fC1 h0 h1),
      (fun h0 => fL2 h0),
      (fun h0 h1 => fC2 h0 h1),
      (fun h0 => fF h0),
      (fun h0 => fM h0),
      (fun h0 => fE0 h0),
      (fun _ => rfl),
      (fun h0 => fB0 h0),
      (fun h0 h1 => fZ0 h0 h1),
      (fun h0 => fS0 h0),
      (fun h0 h1 => fX0 h0 h1),
      (fun h0 => fA1 h0),
      (fun h => fO7_6 h),
      (fun h => fO8_6 h),
      (fun h => fO11_6 h),
      (fun h => fO11_10 h),
      (fun _ => HD6),
      (fun h => fO12_6 h)⟩
  · rintro d a W ⟨u8, u9, u35, u36, u37, u38, u39, u40, u41, u42, u43, u44, k0, lo, hi, g0, g1, hfr, fold, fL0, fC0, fL1, fC1, fL2, fC2, fF, fM, fE0, fE1, fB0, fZ0, fS0, fX0, fA1, fO7_6, fO8_6, fO11_6, fO11_10, fO9_6, fO12_6⟩ hi_ hd
    simp [Region.binds] at hd
    refine op_alloc (z := .agg #[.bool false, .slice none 0 0]) (by kernel_rfl) ?_
    have g : Old W (W.alloc (.cells #[.bool false, .slice none 0 0] 46)) := (Old.refl W).alloc _
    exact ⟨.pointer (some ⟨W.heap.size, 0, none⟩), u9, u35, u36, u37, u38, u39, u40, u41, u42, u43, u44, W.heap.size, lo, hi, g0, g1, (by rw [hfr]; exact putAll_put a0 _ _ _ rfl), (Old.trans fold g),
      (fun h0 => fL0 h0),
      (fun h0 h1 => hCR0 _ _ _ (fC0 h0 h1) g),
      (fun h0 => fL1 h0),
      (fun h0 h1 => hCR1 _ _ _ (fC1 h0 h1) g),
      (fun h0 => fL2 h0),
      (fun h0 h1 => hCR2 _ _ _ (fC2 h0 h1) g),
      (fun h0 => by obtain ⟨e1, e2, e3, z0, y0, e9⟩ := fF h0; exact ⟨e1, e2, Nat.le_trans e3 g.size, z0, y0, far _ _ _ _ _ _ e9 (fun b _ hb => g.block b (by omega)) g.size⟩),
      (fun h0 => fM h0),
      (fun h0 => fE0 h0),
      (fun h0 => fE1 h0),
      (fun _ => ⟨rfl, fold.size, by simp⟩),
      (fun _ _ => heap_alloc_new W _),
      (fun h0 => by have hx_ := fO11_10 h0; rw [hi_] at hx_; cases hx_),
      (fun _ hf => Or.inr (fF hf).2.2.1),
      (fun h0 => fA1 h0),
      (fun h => fO7_6 h),
      (fun h => fO8_6 h),
      (fun h => fO11_6 h),
      (fun _ => rfl),
      (fun h => fO9_6 h),
      (fun h => fO12_6 h)⟩
  · rintro d a W ⟨u8, u9, u35, u36, u37, u38, u39, u40, u41, u42, u43, u44, k0, lo, hi, g0, g1, hfr, fold, fL0, fC0, fL1, fC1, fL2, fC2, fF, fM, fE0, fE1, fB0, fZ0, fS0, fX0, fA1, fO7_6, fO8_6, fO11_6, fO11_10, fO9_6, fO12_6⟩ hi_ hd
    simp [Region.binds] at hd
    have HD6 : d 6 = true := by simp only [hd]
    have HD8 : d 8 = true := by simp only [hd]
    have HD10 : d 10 = true := by simp only [hd]
    clear hd
    obtain ⟨hp, hlo, hlt⟩ := fB0 HD10
    have hv := fE0 HD8
    have hz := fZ0 HD10 hi_
    obtain ⟨eF, lF, hF, z0, y0, rF⟩ := fF HD6
    have hx := fX0 HD10 HD6
    refine op_store (k := k0) (by rw [hfr, e8]; exact hp) (by rw [hfr, e43]; exact hv) hz (by rw [z0]; kernel_rfl) (by rw [z0]; rfl) y0 ?_
    have hsz2 : (W.setRow k0 g0).heap.size = W.heap.size := size_setRow _ _ _
    have hot : ∀ b, b ≠ k0 → (W.setRow k0 g0).heap[b]? = W.heap[b]? := fun b hb => heap_setRow_other _ _ _ _ hb
    exact ⟨u8, u9, u35, u36, u37, u38, u39, u40, u41, u42, u43, u44, k0, lo, hi, g0, g1, hfr, (old_setRow fold hlo _),
      (fun h0 => fL0 h0),
      (fun h0 h1 => by have hx_ : d 6 = false := h1; rw [HD6] at hx_; cases hx_),
      (fun h0 => fL1 h0),
      (fun h0 h1 => by have hx_ : d 6 = false := h1; rw [HD6] at hx_; cases hx_),
      (fun h0 => fL2 h0),
      (fun h0 h1 => by have hx_ : d 6 = false := h1; rw [HD6] at hx_; cases hx_),
      (fun h0 => ⟨eF, lF, by rw [hsz2]; exact hF, z0, y0, far _ _ _ _ _ _ rF (fun b h1 h2 => hot b (by omega)) (by rw [hsz2]; exact Nat.le_refl _)⟩),
      (fun h0 => fM h0),
      (fun h0 => fE0 h0),
      (fun h0 => fE1 h0),
      (fun h0 => ⟨hp, hlo, by rw [hsz2]; exact hlt⟩),
      (fun h0 h1 => by cases h1),
      (fun _ => heap_setRow_same hz),
      (fun h0 h1 => fX0 h0 h1),
      (fun h0 => fA1 h0),
      (fun h => fO7_6 h),
      (fun h => fO8_6 h),
      (fun _ => HD6),
      (fun _ => HD10),
      (fun h => fO9_6 h),
      (fun h => fO12_6 h)⟩
  · rintro d a W ⟨u8, u9, u35, u36, u37, u38, u39, u40, u41, u42, u43, u44, k0, lo, hi, g0, g1, hfr, fold, fL0, fC0, fL1, fC1, fL2, fC2, fF, fM, fE0, fE1, fB0, fZ0, fS0, fX0, fA1, fO7_6, fO8_6, fO11_6, fO11_10, fO9_6, fO12_6⟩ hi_ hd
    simp [Region.binds] at hd
    have HD6 : d 6 = true := by simp only [hd]
    have HD9 : d 9 = true := by simp only [hd]
    clear hd
    have hv := fE1 HD9
    refine op_assign ?_
    rw [show a.eval (.tmp 44) = g1 by rw [hfr, e44]; exact hv]
    exact ⟨u8, g1, u35, u36, u37, u38, u39, u40, u41, u42, u43, u44, k0, lo, hi, g0, g1, (by rw [hfr]; exact putAll_put a0 _ _ _ rfl), (fold),
      (fun h0 => fL0 h0),
      (fun h0 h1 => fC0 h0 h1),
      (fun h0 => fL1 h0),
      (fun h0 h1 => fC1 h0 h1),
      (fun h0 => fL2 h0),
      (fun h0 h1 => fC2 h0 h1),
      (fun h0 => fF h0),
      (fun h0 => fM h0),
      (fun h0 => fE0 h0),
      (fun h0 => fE1 h0),
      (fun h0 => fB0 h0),
      (fun h0 h1 => fZ0 h0 h1),
      (fun h0 => fS0 h0),
      (fun h0 h1 => fX0 h0 h1),
      (fun _ => rfl),
      (fun h => fO7_6 h),
      (fun h => fO8_6 h),
      (fun h => fO11_6 h),
      (fun h => fO11_10 h),
      (fun h => fO9_6 h),
      (fun _ => HD6)⟩
  · rintro d a W hd ⟨u8, u9, u35, u36, u37, u38, u39, u40, u41, u42, u43, u44, k0, lo, hi, g0, g1, hfr, fold, fL0, fC0, fL1, fC1, fL2, fC2, fF, fM, fE0, fE1, fB0, fZ0, fS0, fX0, fA1, fO7_6, fO8_6, fO11_6, fO11_10, fO9_6, fO12_6⟩
    have hd2 : ∀ i, i < 13 → d i = true := hd
    clear hd
    have HD0 : d 0 = true := hd2 0 (by omega)
    have HD1 : d 1 = true := hd2 1 (by omega)
    have HD2 : d 2 = true := hd2 2 (by omega)
    have HD3 : d 3 = true := hd2 3 (by omega)
    have HD4 : d 4 = true := hd2 4 (by omega)
    have HD5 : d 5 = true := hd2 5 (by omega)
    have HD6 : d 6 = true := hd2 6 (by omega)
    have HD7 : d 7 = true := hd2 7 (by omega)
    have HD8 : d 8 = true := hd2 8 (by omega)
    have HD9 : d 9 = true := hd2 9 (by omega)
    have HD10 : d 10 = true := hd2 10 (by omega)
    have HD11 : d 11 = true := hd2 11 (by omega)
    have HD12 : d 12 = true := hd2 12 (by omega)
    obtain ⟨eF, lF, hF, z0, y0, rF⟩ := fF HD6
    obtain ⟨hp0, hlo0, hlt0⟩ := fB0 HD10
    rw [hp0] at hfr
    have ha_1 := fA1 HD12
    rw [ha_1] at hfr
    show K a W
    rw [hfr]
    exact HK.out k0 lo hi g0 g1 u35 u36 u37 u38 u39 u40 u41 u42 u43 u44 W fold lF hF rF (fS0 HD11) hlo0 hlt0 (fX0 HD10 HD6)
end Go.Proofs.YtcgnndenmcmieaaDoor
/- Proved: a drawn region of the statement FnExactMulRows, by what holds between its operations, in whatever order. -/
namespace Go.Proofs.YtcgnndenmcmieaaDoor
open Go.ChangeShapes Go.WideShapes Go.ChangeAt Go.RowKit
set_option linter.unusedVariables false
set_option linter.unusedSimpArgs false
def regionAtreg_mulrows38 (n : Nat) : Code → Option Code
  | .region i ops b => if i = n then some (.region i ops b) else none
  | .seq a b => match regionAtreg_mulrows38 n a with
    | some c => some c
    | none => regionAtreg_mulrows38 n b
  | .block _ c => regionAtreg_mulrows38 n c
  | _ => none
set_option maxRecDepth 100000 in
set_option maxHeartbeats 8000000 in
theorem reg_mulrows38 (w2 : World) (xa ya xb yb xc yc : Value) (ka kb kc : Nat)
    (CR0 : World → Value → Prop) (hCR0 : ∀ W W' v, CR0 W v → Old W W' → CR0 W' v)
    (c0 : ∀ W, Old w2 W → Calls Tryd.prog 25 #[.agg #[xa, ya]] W fun e w' => ∃ v, e = .returned v ∧ Old W w' ∧ CR0 w' v)
    (b0 : w2.heap[ka]? = some (.cells #[xa, ya] 40 (0, 0)))
    (CR1 : World → Value → Prop) (hCR1 : ∀ W W' v, CR1 W v → Old W W' → CR1 W' v)
    (c1 : ∀ W, Old w2 W → Calls Tryd.prog 35 #[.agg #[xb, yb]] W fun e w' => ∃ v, e = .returned v ∧ Old W w' ∧ CR1 w' v)
    (b1 : w2.heap[kb]? = some (.cells #[xb, yb] 57 (0, 0)))
    (CR2 : World → Value → Prop) (hCR2 : ∀ W W' v, CR2 W v → Old W W' → CR2 W' v)
    (c2 : ∀ W, Old w2 W → Calls Tryd.prog 35 #[.agg #[xc, yc]] W fun e w' => ∃ v, e = .returned v ∧ Old W w' ∧ CR2 w' v)
    (b2 : w2.heap[kc]? = some (.cells #[xc, yc] 57 (0, 0)))
    (RES : World → Nat → Nat → Array Value → Value → Prop) (far : ∀ W W' lo hi (g0 : Array Value) (g1 : Value), RES W lo hi g0 g1 → (∀ b, lo ≤ b → b < hi → W'.heap[b]? = W.heap[b]?) → W.heap.size ≤ W'.heap.size → RES W' lo hi g0 g1)
    (cf : ∀ W v0 v1 v2, Old w2 W → CR0 W v0 → CR1 W v1 → CR2 W v2 → Calls Tryd.prog 36 #[v0, v1, v2] W fun e w' => ∃ (g0 : Array Value) (g1 : Value), e = .returned (.tuple #[.agg g0, g1]) ∧ Old W w' ∧ g0.size = 2 ∧ g0.all (·.oneCell') = true ∧ RES w' W.heap.size w'.heap.size g0 g1)
    (Q : Exit → Act → World → Prop) (K : Act → World → Prop) (a0 : Act) (hsz : 142 ≤ a0.tmps.size) (ha3 : a0.eval (.tmp 3) = .pointer (some ⟨ka, 0, none⟩)) (ha4 : a0.eval (.tmp 4) = .pointer (some ⟨kb, 0, none⟩)) (ha5 : a0.eval (.tmp 5) = .pointer (some ⟨kc, 0, none⟩))
    (HK : Hid (∀ (k0 lo hi : Nat) (g0 : Array Value) (g1 : Value) (u115 u116 u117 u118 u119 u120 u121 u122 u123 u124 : Value) (W : World), Old w2 W → w2.heap.size ≤ lo → hi ≤ W.heap.size → RES W lo hi g0 g1 → W.heap[k0]? = some (.cells g0 46 (0, 0)) → w2.heap.size ≤ k0 → k0 < W.heap.size → (k0 < lo ∨ hi ≤ k0) → K (putAll a0 [(18, .pointer (some ⟨k0, 0, none⟩)), (19, g1), (115, u115), (116, u116), (117, u117), (118, u118), (119, u119), (120, u120), (121, u121), (122, u122), (123, u123), (124, u124)]) W)) :
    Code.wp Tryd.prog ((Tryd.f6.body.bind (regionAtreg_mulrows38 38)).getD .skip) (Exit.then K Q) a0 w2 := by
  conv => arg 2; whnf
  have e3 : ∀ l, (putAll a0 l).eval (.tmp 3) = (getKey l 3).getD (a0.eval (.tmp 3)) := eval_putAll a0 3 (by omega)
  have e4 : ∀ l, (putAll a0 l).eval (.tmp 4) = (getKey l 4).getD (a0.eval (.tmp 4)) := eval_putAll a0 4 (by omega)
  have e5 : ∀ l, (putAll a0 l).eval (.tmp 5) = (getKey l 5).getD (a0.eval (.tmp 5)) := eval_putAll a0 5 (by omega)
  have e18 : ∀ l, (putAll a0 l).eval (.tmp 18) = (getKey l 18).getD (a0.eval (.tmp 18)) := eval_putAll a0 18 (by omega)
  have e19 : ∀ l, (putAll a0 l).eval (.tmp 19) = (getKey l 19).getD (a0.eval (.tmp 19)) := eval_putAll a0 19 (by omega)
  have e115 : ∀ l, (putAll a0 l).eval (.tmp 115) = (getKey l 115).getD (a0.eval (.tmp 115)) := eval_putAll a0 115 (by omega)
  have e116 : ∀ l, (putAll a0 l).eval (.tmp 116) = (getKey l 116).getD (a0.eval (.tmp 116)) := eval_putAll a0 116 (by omega)
  have e117 : ∀ l, (putAll a0 l).eval (.tmp 117) = (getKey l 117).getD (a0.eval (.tmp 117)) := eval_putAll a0 117 (by omega)
  have e118 : ∀ l, (putAll a0 l).eval (.tmp 118) = (getKey l 118).getD (a0.eval (.tmp 118)) := eval_putAll a0 118 (by omega)
  have e119 : ∀ l, (putAll a0 l).eval (.tmp 119) = (getKey l 119).getD (a0.eval (.tmp 119)) := eval_putAll a0 119 (by omega)
  have e120 : ∀ l, (putAll a0 l).eval (.tmp 120) = (getKey l 120).getD (a0.eval (.tmp 120)) := eval_putAll a0 120 (by omega)
  have e121 : ∀ l, (putAll a0 l).eval (.tmp 121) = (getKey l 121).getD (a0.eval (.tmp 121)) := eval_putAll a0 121 (by omega)
  have e122 : ∀ l, (putAll a0 l).eval (.tmp 122) = (getKey l 122).getD (a0.eval (.tmp 122)) := eval_putAll a0 122 (by omega)
  have e123 : ∀ l, (putAll a0 l).eval (.tmp 123) = (getKey l 123).getD (a0.eval (.tmp 123)) := eval_putAll a0 123 (by omega)
  have e124 : ∀ l, (putAll a0 l).eval (.tmp 124) = (getKey l 124).getD (a0.eval (.tmp 124)) := eval_putAll a0 124 (by omega)
  refine wp_region_steps (fun d a W => ∃ (u18 u19 u115 u116 u117 u118 u119 u120 u121 u122 u123 u124 : Value) (k0 lo hi : Nat) (g0 : Array Value) (g1 : Value), a = (putAll a0 [(18, u18), (19, u19), (115, u115), (116, u116), (117, u117), (118, u118), (119, u119), (120, u120), (121, u121), (122, u122), (123, u123), (124, u124)]) ∧ (Old w2 W) ∧ (d 0 = true → u116 = .agg #[xa, ya]) ∧ (d 1 = true → d 6 = false → CR0 W u117) ∧ (d 2 = true → u118 = .agg #[xb, yb]) ∧ (d 3 = true → d 6 = false → CR1 W u119) ∧ (d 4 = true → u120 = .agg #[xc, yc]) ∧ (d 5 = true → d 6 = false → CR2 W u121) ∧ (d 6 = true → u122 = .tuple #[.agg g0, g1] ∧ w2.heap.size ≤ lo ∧ hi ≤ W.heap.size ∧ g0.size = 2 ∧ g0.all (·.oneCell') = true ∧ RES W lo hi g0 g1) ∧ (d 7 = true → u115 = .tuple #[.agg g0, g1]) ∧ (d 8 = true → u123 = .agg g0) ∧ (d 9 = true → u124 = g1) ∧ (d 10 = true → u18 = .pointer (some ⟨k0, 0, none⟩) ∧ w2.heap.size ≤ k0 ∧ k0 < W.heap.size) ∧ (d 10 = true → d 11 = false → W.heap[k0]? = some (.cells #[.bool false, .slice none 0 0] 46 (0, 0))) ∧ (d 11 = true → W.heap[k0]? = some (.cells g0 46 (0, 0))) ∧ (d 10 = true → d 6 = true → (k0 < lo ∨ hi ≤ k0)) ∧ (d 12 = true → u19 = g1) ∧ (d 7 = true → d 6 = true) ∧ (d 8 = true → d 6 = true) ∧ (d 11 = true → d 6 = true) ∧ (d 11 = true → d 10 = true) ∧ (d 9 = true → d 6 = true) ∧ (d 12 = true → d 6 = true)) rfl (by decide +kernel) (by decide +kernel) ?_ ⟨?_, ?_, ?_, ?_, ?_, ?_, ?_, ?_, ?_, ?_, ?_, ?_, ?_, trivial⟩ ?_
  · exact ⟨_, _, _, _, _, _, _, _, _, _, _, _, 0, 0, 0, #[], undef, (putAll_self a0 [18, 19, 115, 116, 117, 118, 119, 120, 121, 122, 123, 124] (by intro s hs; simp at hs; omega)).symm, Below.drew (Old.refl w2), (fun h => by cases h), (fun h => by cases h), (fun h => by cases h), (fun h => by cases h), (fun h => by cases h), (fun h => by cases h), (fun h => by cases h), (fun h => by cases h), (fun h => by cases h), (fun h => by cases h), (fun h => by cases h), (fun h => by cases h), (fun h => by cases h), (fun h => by cases h), (fun h => by cases h), (fun h => by cases h), (fun h => by cases h), (fun h => by cases h), (fun h => by cases h), (fun h => by cases h), (fun h => by cases h)⟩
  · rintro d a W ⟨u18, u19, u115, u116, u117, u118, u119, u120, u121, u122, u123, u124, k0, lo, hi, g0, g1, hfr, fold, fL0, fC0, fL1, fC1, fL2, fC2, fF, fM, fE0, fE1, fB0, fZ0, fS0, fX0, fA1, fO7_6, fO8_6, fO11_6, fO11_10, fO9_6, fO12_6⟩ hi_ hd
    simp [Region.binds] at hd
    refine op_load (k := ka) (by rw [hfr, e3]; exact ha3) (fold.block _ (lt_of_some b0) |>.trans b0) Tryd.underlying40 rfl (by kernel_rfl) ?_
    exact ⟨u18, u19, u115, .agg #[xa, ya], u117, u118, u119, u120, u121, u122, u123, u124, k0, lo, hi, g0, g1, (by rw [hfr]; exact putAll_put a0 _ _ _ rfl), (fold),
      (fun _ => rfl),
      (fun h0 h1 => fC0 h0 h1),
      (fun h0 => fL1 h0),
      (fun h0 h1 => fC1 h0 h1),
      (fun h0 => fL2 h0),
      (fun h0 h1 => fC2 h0 h1),
      (fun h0 => fF h0),
      (fun h0 => fM h0),
      (fun h0 => fE0 h0),
      (fun h0 => fE1 h0),
      (fun h0 => fB0 h0),
      (fun h0 h1 => fZ0 h0 h1),
      (fun h0 => fS0 h0),
      (fun h0 h1 => fX0 h0 h1),
      (fun h0 => fA1 h0),
      (fun h => fO7_6 h),
      (fun h => fO8_6 h),
      (fun h => fO11_6 h),
      (fun h => fO11_10 h),
      (fun h => fO9_6 h),
      (fun h => fO12_6 h)⟩
  · rintro d a W ⟨u18, u19, u115, u116, u117, u118, u119, u120, u121, u122, u123, u124, k0, lo, hi, g0, g1, hfr, fold, fL0, fC0, fL1, fC1, fL2, fC2, fF, fM, fE0, fE1, fB0, fZ0, fS0, fX0, fA1, fO7_6, fO8_6, fO11_6, fO11_10, fO9_6, fO12_6⟩ hi_ hd
    simp [Region.binds] at hd
    have HD0 : d 0 = true := by simp only [hd]
    clear hd
    have hv := fL0 HD0
    refine op_call_ret Tryd.call25 (vs := #[.agg #[xa, ya]]) (by simp [hfr, e116, getKey, hv]) (c0 W fold) ?_
    rintro v W' ⟨g, hcr⟩
    exact ⟨u18, u19, u115, u116, v, u118, u119, u120, u121, u122, u123, u124, k0, lo, hi, g0, g1, (by rw [hfr]; exact putAll_put a0 _ _ _ rfl), (Old.trans fold g),
      (fun h0 => fL0 h0),
      (fun _ _ => hcr),
      (fun h0 => fL1 h0),
      (fun h0 h1 => hCR1 _ _ _ (fC1 h0 h1) g),
      (fun h0 => fL2 h0),
      (fun h0 h1 => hCR2 _ _ _ (fC2 h0 h1) g),
      (fun h0 => by obtain ⟨e1, e2, e3, z0, y0, e9⟩ := fF h0; exact ⟨e1, e2, Nat.le_trans e3 g.size, z0, y0, far _ _ _ _ _ _ e9 (fun b _ hb => g.block b (by omega)) g.size⟩),
      (fun h0 => fM h0),
      (fun h0 => fE0 h0),
      (fun h0 => fE1 h0),
      (fun h0 => by obtain ⟨e1, e2, e3⟩ := fB0 h0; exact ⟨e1, e2, Nat.lt_of_lt_of_le e3 g.size⟩),
      (fun h0 h1 => (g.block _ (lt_of_some (fZ0 h0 h1))).trans (fZ0 h0 h1)),
      (fun h0 => (g.block _ (lt_of_some (fS0 h0))).trans (fS0 h0)),
      (fun h0 h1 => fX0 h0 h1),
      (fun h0 => fA1 h0),
      (fun h => fO7_6 h),
      (fun h => fO8_6 h),
      (fun h => fO11_6 h),
      (fun h => fO11_10 h),
      (fun h => fO9_6 h),
      (fun h => fO12_6 h)⟩
  · rintro d a W ⟨u18, u19, u115, u116, u117, u118, u119, u120, u121, u122, u123, u124, k0, lo, hi, g0, g1, hfr, fold, fL0, fC0, fL1, fC1, fL2, fC2, fF, fM, fE0, fE1, fB0, fZ0, fS0, fX0, fA1, fO7_6, fO8_6, fO11_6, fO11_10, fO9_6, fO12_6⟩ hi_ hd
    simp [Region.binds] at hd
    refine op_load (k := kb) (by rw [hfr, e4]; exact ha4) (fold.block _ (lt_of_some b1) |>.trans b1) Tryd.underlying57 rfl (by kernel_rfl) ?_
    exact ⟨u18, u19, u115, u116, u117, .agg #[xb, yb], u119, u120, u121, u122, u123, u124, k0, lo, hi, g0, g1, (by rw [hfr]; exact putAll_put a0 _ _ _ rfl), (fold),
      (fun h0 => fL0 h0),
      (fun h0 h1 => fC0 h0 h1),
      (fun _ => rfl),
      (fun h0 h1 => fC1 h0 h1),
      (fun h0 => fL2 h0),
      (fun h0 h1 => fC2 h0 h1),
      (fun h0 => fF h0),
      (fun h0 => fM h0),
      (fun h0 => fE0 h0),
      (fun h0 => fE1 h0),
      (fun h0 => fB0 h0),
      (fun h0 h1 => fZ0 h0 h1),
      (fun h0 => fS0 h0),
      (fun h0 h1 => fX0 h0 h1),
      (fun h0 => fA1 h0),
      (fun h => fO7_6 h),
      (fun h => fO8_6 h),
      (fun h => fO11_6 h),
      (fun h => fO11_10 h),
      (fun h => fO9_6 h),
      (fun h => fO12_6 h)⟩
  · rintro d a W ⟨u18, u19, u115, u116, u117, u118, u119, u120, u121, u122, u123, u124, k0, lo, hi, g0, g1, hfr, fold, fL0, fC0, fL1, fC1, fL2, fC2, fF, fM, fE0, fE1, fB0, fZ0, fS0, fX0, fA1, fO7_6, fO8_6, fO11_6, fO11_10, fO9_6, fO12_6⟩ hi_ hd
    simp [Region.binds] at hd
    have HD2 : d 2 = true := by simp only [hd]
    clear hd
    have hv := fL1 HD2
    refine op_call_ret Tryd.call35 (vs := #[.agg #[xb, yb]]) (by simp [hfr, e118, getKey, hv]) (c1 W fold) ?_
    rintro v W' ⟨g, hcr⟩
    exact ⟨u18, u19, u115, u116, u117, u118, v, u120, u121, u122, u123, u124, k0, lo, hi, g0, g1, (by rw [hfr]; exact putAll_put a0 _ _ _ rfl), (Old.trans fold g),
      (fun h0 => fL0 h0),
      (fun h0 h1 => hCR0 _ _ _ (fC0 h0 h1) g),
      (fun h0 => fL1 h0),
      (fun _ _ => hcr),
      (fun h0 => fL2 h0),
      (fun h0 h1 => hCR2 _ _ _ (fC2 h0 h1) g),
      (fun h0 => by obtain ⟨e1, e2, e3, z0, y0, e9⟩ := fF h0; exact ⟨e1, e2, Nat.le_trans e3 g.size, z0, y0, far _ _ _ _ _ _ e9 (fun b _ hb => g.block b (by omega)) g.size⟩),
      (fun h0 => fM h0),
      (fun h0 => fE0 h0),
      (fun h0 => fE1 h0),
      (fun h0 => by obtain ⟨e1, e2, e3⟩ := fB0 h0; exact ⟨e1, e2, Nat.lt_of_lt_of_le e3 g.size⟩),
      (fun h0 h1 => (g.block _ (lt_of_some (fZ0 h0 h1))).trans (fZ0 h0 h1)),
      (fun h0 => (g.block _ (lt_of_some (fS0 h0))).trans (fS0 h0)),
      (fun h0 h1 => fX0 h0 h1),
      (fun h0 => fA1 h0),
      (fun h => fO7_6 h),
      (fun h => fO8_6 h),
      (fun h => fO11_6 h),
      (fun h => fO11_10 h),
      (fun h => fO9_6 h),
      (fun h => fO12_6 h)⟩
  · rintro d a W ⟨u18, u19, u115, u116, u117, u118, u119, u120, u121, u122, u123, u124, k0, lo, hi, g0, g1, hfr, fold, fL0, fC0, fL1, fC1, fL2, fC2, fF, fM, fE0, fE1, fB0, fZ0, fS0, fX0, fA1, fO7_6, fO8_6, fO11_6, fO11_10, fO9_6, fO12_6⟩ hi_ hd
    simp [Region.binds] at hd
    refine op_load (k := kc) (by rw [hfr, e5]; exact ha5) (fold.block _ (lt_of_some b2) |>.trans b2) Tryd.underlying57 rfl (by kernel_rfl) ?_
    exact ⟨u18, u19, u115, u116, u117, u118, u119, .agg #[xc, yc], u121, u122, u123, u124, k0, lo, hi, g0, g1, (by rw [hfr]; exact putAll_put a0 _ _ _ rfl), (fold),
      (fun h0 => fL0 h0),
      (fun h0 h1 => fC0 h0 h1),
      (fun h0 => fL1 h0),
      (fun h0 h1 => fC1 h0 h1),
      (fun _ => rfl),
      (fun h0 h1 => fC2 h0 h1),
      (fun h0 => fF h0),
      (fun h0 => fM h0),
      (fun h0 => fE0 h0),
      (fun h0 => fE1 h0),
      (fun h0 => fB0 h0),
      (fun h0 h1 => fZ0 h0 h1),
      (fun h0 => fS0 h0),
      (fun h0 h1 => fX0 h0 h1),
      (fun h0 => fA1 h0),
      (fun h => fO7_6 h),
      (fun h => fO8_6 h),
      (fun h => fO11_6 h),
      (fun h => fO11_10 h),
      (fun h => fO9_6 h),
      (fun h => fO12_6 h)⟩
  · rintro d a W ⟨u18, u19, u115, u116, u117, u118, u119, u120, u121, u122, u123, u124, k0, lo, hi, g0, g1, hfr, fold, fL0, fC0, fL1, fC1, fL2, fC2, fF, fM, fE0, fE1, fB0, fZ0, fS0, fX0, fA1, fO7_6, fO8_6, fO11_6, fO11_10, fO9_6, fO12_6⟩ hi_ hd
    simp [Region.binds] at hd
    have HD4 : d 4 = true := by simp only [hd]
    clear hd
    have hv := fL2 HD4
    refine op_call_ret Tryd.call35 (vs := #[.agg #[xc, yc]]) (by simp [hfr, e120, getKey, hv]) (c2 W fold) ?_
    rintro v W' ⟨g, hcr⟩
    exact ⟨u18, u19, u115, u116, u117, u118, u119, u120, v, u122, u123, u124, k0, lo, hi, g0, g1, (by rw [hfr]; exact putAll_put a0 _ _ _ rfl), (Old.trans fold g),
      (fun h0 => fL0 h0),
      (fun h0 h1 => hCR0 _ _ _ (fC0 h0 h1) g),
      (fun h0 => fL1 h0),
      (fun h0 h1 => hCR1 _ _ _ (fC1 h0 h1) g),
      (fun h0 => fL2 h0),
      (fun _ _ => hcr),
      (fun h0 => by obtain ⟨e1, e2, e3, z0, y0, e9⟩ := fF h0; exact ⟨e1, e2, Nat.le_trans e3 g.size, z0, y0, far _ _ _ _ _ _ e9 (fun b _ hb => g.block b (by omega)) g.size⟩),
      (fun h0 => fM h0),
      (fun h0 => fE0 h0),
      (fun h0 => fE1 h0),
      (fun h0 => by obtain ⟨e1, e2, e3⟩ := fB0 h0; exact ⟨e1, e2, Nat.lt_of_lt_of_le e3 g.size⟩),
      (fun h0 h1 => (g.block _ (lt_of_some (fZ0 h0 h1))).trans (fZ0 h0 h1)),
      (fun h0 => (g.block _ (lt_of_some (fS0 h0))).trans (fS0 h0)),
      (fun h0 h1 => fX0 h0 h1),
      (fun h0 => fA1 h0),
      (fun h => fO7_6 h),
      (fun h => fO8_6 h),
      (fun h => fO11_6 h),
      (fun h => fO11_10 h),
      (fun h => fO9_6 h),
      (fun h => fO12_6 h)⟩
  · rintro d a W ⟨u18, u19, u115, u116, u117, u118, u119, u120, u121, u122, u123, u124, k0, lo, hi, g0, g1, hfr, fold, fL0, fC0, fL1, fC1, fL2, fC2, fF, fM, fE0, fE1, fB0, fZ0, fS0, fX0, fA1, fO7_6, fO8_6, fO11_6, fO11_10, fO9_6, fO12_6⟩ hi_ hd
    simp [Region.binds] at hd
    have HD1 : d 1 = true := by simp only [hd]
    have HD3 : d 3 = true := by simp only [hd]
    have HD5 : d 5 = true := by simp only [hd]
    clear hd
    refine op_call_ret (R := fun v w' => ∃ (g0 : Array Value) (g1 : Value), v = .tuple #[.agg g0, g1] ∧ Old W w' ∧ g0.size = 2 ∧ g0.all (·.oneCell') = true ∧ RES w' W.heap.size w'.heap.size g0 g1) Tryd.call36 (vs := #[u117, u119, u121]) (by simp [hfr, e117, e119, e121, getKey]) ((cf W _ _ _ fold (fC0 HD1 hi_) (fC1 HD3 hi_) (fC2 HD5 hi_)).mono (fun e w' h => by obtain ⟨g0, g1, rfl, h⟩ := h; exact ⟨_, rfl, g0, g1, rfl, h⟩)) ?_
    rintro v W' ⟨r0, r1, rfl, g, z0, y0, hres⟩
    exact ⟨u18, u19, u115, u116, u117, u118, u119, u120, u121, .tuple #[.agg r0, r1], u123, u124, k0, W.heap.size, W'.heap.size, r0, r1, (by rw [hfr]; exact putAll_put a0 _ _ _ rfl), (Old.trans fold g),
      (fun h0 => fL0 h0),
      (fun h0 h1 => by cases h1),
      (fun h0 => fL1 h0),
      (fun h0 h1 => by cases h1),
      (fun h0 => fL2 h0),
      (fun h0 h1 => by cases h1),
      (fun _ => ⟨rfl, (fold.size), Nat.le_refl _, z0, y0, hres⟩),
      (fun h0 => by have hx_ := fO7_6 h0; rw [hi_] at hx_; cases hx_),
      (fun h0 => by have hx_ := fO8_6 h0; rw [hi_] at hx_; cases hx_),
      (fun h0 => by have hx_ := fO9_6 h0; rw [hi_] at hx_; cases hx_),
      (fun h0 => by obtain ⟨e1, e2, e3⟩ := fB0 h0; exact ⟨e1, e2, Nat.lt_of_lt_of_le e3 g.size⟩),
      (fun h0 h1 => (g.block _ (lt_of_some (fZ0 h0 h1))).trans (fZ0 h0 h1)),
      (fun h0 => by have hx_ := fO11_6 h0; rw [hi_] at hx_; cases hx_),
      (fun hb _ => Or.inl (fB0 hb).2.2),
      (fun h0 => by have hx_ := fO12_6 h0; rw [hi_] at hx_; cases hx_),
      (fun _ => rfl),
      (fun _ => rfl),
      (fun _ => rfl),
      (fun h => fO11_10 h),
      (fun _ => rfl),
      (fun _ => rfl)⟩
  · rintro d a W ⟨u18, u19, u115, u116, u117, u118, u119, u120, u121, u122, u123, u124, k0, lo, hi, g0, g1, hfr, fold, fL0, fC0, fL1, fC1, fL2, fC2, fF, fM, fE0, fE1, fB0, fZ0, fS0, fX0, fA1, fO7_6, fO8_6, fO11_6, fO11_10, fO9_6, fO12_6⟩ hi_ hd
    simp [Region.binds] at hd
    have HD6 : d 6 = true := by simp only [hd]
    clear hd
    have hv := (fF HD6).1
    refine op_move ?_
    rw [show a.eval (.tmp 122) = .tuple #[.agg g0, g1] by rw [hfr, e122]; exact hv]
    exact ⟨u18, u19, .tuple #[.agg g0, g1], u116, u117, u118, u119, u120, u121, u122, u123, u124, k0, lo, hi, g0, g1, (by rw [hfr]; exact putAll_put a0 _ _ _ rfl), (fold),
      (fun h0 => fL0 h0),
      (fun h0 h1 => fC0 h0 h1),
      (fun h0 => fL1 h0),
      (fun h0 h1 => fC1 h0 h1),
      (fun h0 => fL2 h0),
      (fun h0 h1 => fC2 h0 h1),
      (fun h0 => fF h0),
      (fun _ => rfl),
      (fun h0 => fE0 h0),
      (fun h0 => fE1 h0),
      (fun h0 => fB0 h0),
      (fun h0 h1 => fZ0 h0 h1),
      (fun h0 => fS0 h0),
      (fun h0 h1 => fX0 h0 h1),
      (fun h0 => fA1 h0),
      (fun _ => HD6),
      (fun h => fO8_6 h),
      (fun h => fO11_6 h),
      (fun h => fO11_10 h),
      (fun h => fO9_6 h),
      (fun h => fO12_6 h)⟩
  · rintro d a W ⟨u18, u19, u115, u116, u117, u118, u119, u120, u121, u122, u123, u124, k0, lo, hi, g0, g1, hfr, fold, fL0, fC0, fL1, fC1, fL2, fC2, fF, fM, fE0, fE1, fB0, fZ0, fS0, fX0, fA1, fO7_6, fO8_6, fO11_6, fO11_10, fO9_6, fO12_6⟩ hi_ hd
    simp [Region.binds] at hd
    have HD7 : d 7 = true := by simp only [hd]
    have HD6 : d 6 = true := fO7_6 HD7
    clear hd
    have hv := fM HD7
    refine op_extract (by rw [hfr, e115]; exact hv) rfl ?_
    exact ⟨u18, u19, u115, u116, u117, u118, u119, u120, u121, u122, .agg g0, u124, k0, lo, hi, g0, g1, (by rw [hfr]; exact putAll_put a0 _ _ _ rfl), (fold),
      (fun h0 => fL0 h0),
      (fun h0 h1 => fC0 h0 h1),
      (fun h0 => fL1 h0),
      (fun h0 h1 => fC1 h0 h1),
      (fun h0 => fL2 h0),
      (fun h0 h1 => fC2 h0 h1),
      (fun h0 => fF h0),
      (fun h0 => fM h0),
      (fun _ => rfl),
      (fun h0 => fE1 h0),
      (fun h0 => fB0 h0),
      (fun h0 h1 => fZ0 h0 h1),
      (fun h0 => fS0 h0),
      (fun h0 h1 => fX0 h0 h1),
      (fun h0 => fA1 h0),
      (fun h => fO7_6 h),
      (fun _ => HD6),
      (fun h => fO11_6 h),
      (fun h => fO11_10 h),
      (fun h => fO9_6 h),
      (fun h => fO12_6 h)⟩
  · rintro d a W ⟨u18, u19, u115, u116, u117, u118, u119, u120, u121, u122, u123, u124, k0, lo, hi, g0, g1, hfr, fold, fL0, fC0, fL1, fC1, fL2, fC2, fF, fM, fE0, fE1, fB0, fZ0, fS0, fX0, fA1, fO7_6, fO8_6, fO11_6, fO11_10, fO9_6, fO12_6⟩ hi_ hd
    simp [Region.binds] at hd
    have HD7 : d 7 = true := by simp only [hd]
    have HD6 : d 6 = true := fO7_6 HD7
    clear hd
    have hv := fM HD7
    refine op_extract (by rw [hfr, e115]; exact hv) rfl ?_
    exact ⟨u18, u19, u115, u116, u117, u118, u119, u120, u121, u122, u123, g1, k0, lo, hi, g0, g1, (by rw [hfr]; exact putAll_put a0 _ _ _ rfl), (fold),
      (fun h0 => fL0 h0),
      (fun h0 h1 => fC0 h0 h1),
      (fun h0 => fL1 h0),
      (fun h0 h1 => fC1 h0 h1),
      (fun h0 => fL2 h0),
      (fun h0 h1 => fC2 h0 h1),
      (fun h0 => fF h0),
      (fun h0 => fM h0),
      (fun h0 => fE0 h0),
      (fun _ => rfl),
      (fun h0 => fB0 h0),
      (fun h0 h1 => fZ0 h0 h1),
      (fun h0 => fS0 h0),
      (fun h0 h1 => fX0 h0 h1),
      (fun h0 => fA1 h0),
      (fun h => fO7_6 h),
      (fun h => fO8_6 h),
      (fun h => fO11_6 h),
      (fun h => fO11_10 h),
      (fun _ => HD6),
      (fun h => fO12_6 h)⟩
  · rintro d a W ⟨u18, u19, u115, u116, u117, u118, u119, u120, u121, u122, u123, u124, k0, lo, hi, g0, g1, hfr, fold, fL0, fC0, fL1, fC1, fL2, fC2, fF, fM, fE0, fE1, fB0, fZ0, fS0, fX0, fA1, fO7_6, fO8_6, fO11_6, fO11_10, fO9_6, fO12_6⟩ hi_ hd
    simp [Region.binds] at hd
    refine op_alloc (z := .agg #[.bool false, .slice none 0 0]) (by kernel_rfl) ?_
    have g : Old W (W.alloc (.cells #[.bool false, .slice none 0 0] 46)) := (Old.refl W).alloc _
    exact ⟨.pointer (some ⟨W.heap.size, 0, none⟩), u19, u115, u116, u117, u118, u119, u120, u121, u122, u123, u124, W.heap.size, lo, hi, g0, g1, (by rw [hfr]; exact putAll_put a0 _ _ _ rfl), (Old.trans fold g),
      (fun h0 => fL0 h0),
      (fun h0 h1 => hCR0 _ _ _ (fC0 h0 h1) g),
      (fun h0 => fL1 h0),
      (fun h0 h1 => hCR1 _ _ _ (fC1 h0 h1) g),
      (fun h0 => fL2 h0),
      (fun h0 h1 => hCR2 _ _ _ (fC2 h0 h1) g),
      (fun h0 => by obtain ⟨e1, e2, e3, z0, y0, e9⟩ := fF h0; exact ⟨e1, e2, Nat.le_trans e3 g.size, z0, y0, far _ _ _ _ _ _ e9 (fun b _ hb => g.block b (by omega)) g.size⟩),
      (fun h0 => fM h0),
      (fun h0 => fE0 h0),
      (fun h0 => fE1 h0),
      (fun _ => ⟨rfl, fold.size, by simp⟩),
      (fun _ _ => heap_alloc_new W _),
      (fun h0 => by have hx_ := fO11_10 h0; rw [hi_] at hx_; cases hx_),
      (fun _ hf => Or.inr (fF hf).2.2.1),
      (fun h0 => fA1 h0),
      (fun h => fO7_6 h),
      (fun h => fO8_6 h),
      (fun h => fO11_6 h),
      (fun _ => rfl),
      (fun h => fO9_6 h),
      (fun h => fO12_6 h)⟩
  · rintro d a W ⟨u18, u19, u115, u116, u117, u118, u119, u120, u121, u122, u123, u124, k0, lo, hi, g0, g1, hfr, fold, fL0, fC0, fL1, fC1, fL2, fC2, fF, fM, fE0, fE1, fB0, fZ0, fS0, fX0, fA1, fO7_6, fO8_6, fO11_6, fO11_10, fO9_6, fO12_6⟩ hi_ hd
    simp [Region.binds] at hd
    have HD6 : d 6 = true := by simp only [hd]
    have HD8 : d 8 = true := by simp only [hd]
    have HD10 : d 10 = true := by simp only [hd]
    clear hd
    obtain ⟨hp, hlo, hlt⟩ := fB0 HD10
    have hv := fE0 HD8
    have hz := fZ0 HD10 hi_
    obtain ⟨eF, lF, hF, z0, y0, rF⟩ := fF HD6
    have hx := fX0 HD10 HD6
    refine op_store (k := k0) (by rw [hfr, e18]; exact hp) (by rw [hfr, e123]; exact hv) hz (by rw [z0]; kernel_rfl) (by rw [z0]; rfl) y0 ?_
    have hsz2 : (W.setRow k0 g0).heap.size = W.heap.size := size_setRow _ _ _
    have hot : ∀ b, b ≠ k0 → (W.setRow k0 g0).heap[b]? = W.heap[b]? := fun b hb => heap_setRow_other _ _ _ _ hb
    exact ⟨u18, u19, u115, u116, u117, u118, u119, u120, u121, u122, u123, u124, k0, lo, hi, g0, g1, hfr, (old_setRow fold hlo _),
      (fun h0 => fL0 h0),
      (fun h0 h1 => by have hx_ : d 6 = false := h1; rw [HD6] at hx_; cases hx_),
      (fun h0 => fL1 h0),
      (fun h0 h1 => by have hx_ : d 6 = false := h1; rw [HD6] at hx_; cases hx_),
      (fun h0 => fL2 h0),
      (fun h0 h1 => by have hx_ : d 6 = false := h1; rw [HD6] at hx_; cases hx_),
      (fun h0 => ⟨eF, lF, by rw [hsz2]; exact hF, z0, y0, far _ _ _ _ _ _ rF (fun b h1 h2 => hot b (by omega)) (by rw [hsz2]; exact Nat.le_refl _)⟩),
      (fun h0 => fM h0),
      (fun h0 => fE0 h0),
      (fun h0 => fE1 h0),
      (fun h0 => ⟨hp, hlo, by rw [hsz2]; exact hlt⟩),
      (fun h0 h1 => by cases h1),
      (fun _ => heap_setRow_same hz),
      (fun h0 h1 => fX0 h0 h1),
      (fun h0 => fA1 h0),
      (fun h => fO7_6 h),
      (fun h => fO8_6 h),
      (fun _ => HD6),
      (fun _ => HD10),
      (fun h => fO9_6 h),
      (fun h => fO12_6 h)⟩
  · rintro d a W ⟨u18, u19, u115, u116, u117, u118, u119, u120, u121, u122, u123, u124, k0, lo, hi, g0, g1, hfr, fold, fL0, fC0, fL1, fC1, fL2, fC2, fF, fM, fE0, fE1, fB0, fZ0, fS0, fX0, fA1, fO7_6, fO8_6, fO11_6, fO11_10, fO9_6, fO12_6⟩ hi_ hd
    simp [Region.binds] at hd
    have HD6 : d 6 = true := by simp only [hd]
    have HD9 : d 9 = true := by simp only [hd]
    clear hd
    have hv := fE1 HD9
    refine op_assign ?_
    rw [show a.eval (.tmp 124) = g1 by rw [hfr, e124]; exact hv]
    exact ⟨u18, g1, u115, u116, u117, u118, u119, u120, u121, u122, u123, u124, k0, lo, hi, g0, g1, (by rw [hfr]; exact putAll_put a0 _ _ _ rfl), (fold),
      (fun h0 => fL0 h0),
      (fun h0 h1 => fC0 h0 h1),
      (fun h0 => fL1 h0),
      (fun h0 h1 => fC1 h0 h1),
      (fun h0 => fL2 h0),
      (fun h0 h1 => fC2 h0 h1),
      (fun h0 => fF h0),
      (fun h0 => fM h0),
      (fun h0 => fE0 h0),
      (fun h0 => fE1 h0),
      (fun h0 => fB0 h0),
      (fun h0 h1 => fZ0 h0 h1),
      (fun h0 => fS0 h0),
      (fun h0 h1 => fX0 h0 h1),
      (fun _ => rfl),
      (fun h => fO7_6 h),
      (fun h => fO8_6 h),
      (fun h => fO11_6 h),
      (fun h => fO11_10 h),
      (fun h => fO9_6 h),
      (fun _ => HD6)⟩
  · rintro d a W hd ⟨u18, u19, u115, u116, u117, u118, u119, u120, u121, u122, u123, u124, k0, lo, hi, g0, g1, hfr, fold, fL0, fC0, fL1, fC1, fL2, fC2, fF, fM, fE0, fE1, fB0, fZ0, fS0, fX0, fA1, fO7_6, fO8_6, fO11_6, fO11_10, fO9_6, fO12_6⟩
    have hd2 : ∀ i, i < 13 → d i = true := hd
    clear hd
    have HD0 : d 0 = true := hd2 0 (by omega)
    have HD1 : d 1 = true := hd2 1 (by omega)
    have HD2 : d 2 = true := hd2 2 (by omega)
    have HD3 : d 3 = true := hd2 3 (by omega)
    have HD4 : d 4 = true := hd2 4 (by omega)
    have HD5 : d 5 = true := hd2 5 (by omega)
    have HD6 : d 6 = true := hd2 6 (by omega)
    have HD7 : d 7 = true := hd2 7 (by omega)
    have HD8 : d 8 = true := hd2 8 (by omega)
    have HD9 : d 9 = true := hd2 9 (by omega)
    have HD10 : d 10 = true := hd2 10 (by omega)
    have HD11 : d 11 = true := hd2 11 (by omega)
    have HD12 : d 12 = true := hd2 12 (by omega)
    obtain ⟨eF, lF, hF, z0, y0, rF⟩ := fF HD6
    obtain ⟨hp0, hlo0, hlt0⟩ := fB0 HD10
    rw [hp0] at hfr
    have ha_1 := fA1 HD12
    rw [ha_1] at hfr
    show K a W
    rw [hfr]
    exact HK.out k0 lo hi g0 g1 u115 u116 u117 u118 u119 u120 u121 u122 u123 u124 W fold lF hF rF (fS0 HD11) hlo0 hlt0 (fX0 HD10 HD6)
end Go.Proofs.YtcgnndenmcmieaaDoor
/- Proved: the drawn regions of the model's l5Mul and MulRows. -/
namespace Go.Proofs.YtcgnndenmcmieaaDoor
open Go.ChangeShapes Go.WideShapes Go.ChangeAt Go.RowKit
set_option linter.unusedVariables false
set_option linter.unusedSimpArgs false
def slotRgM (i : Nat) : Nat := [18, 19, 20, 21, 22, 23, 24, 25, 26, 27, 28, 29, 30, 31, 32, 33, 7].getD i 0
theorem slotRgM_lt : ∀ i, i < 17 → slotRgM i < 36 := by decide
theorem slotRgM_inj : ∀ i, i < 17 → ∀ j, j < 17 → slotRgM i = slotRgM j → i = j := by decide
theorem slotRgM_no : ∀ s, s < 18 → ∀ i, i < 16 → slotRgM i ≠ s := by decide
def qRgM (sb b1 o1 b2 o2 L cap1 cap2 k : Nat) (aa : Option Addr) (cap : Nat) (p N : Int) (x1 x2 : Option Addr) (n1 y1 n2 y2 : Nat) (zs : List Int) (base : Nat) (i : Nat) (W : World) (xv : Value) : Prop :=
  match i with
  | 0 => xv = .slice aa k cap
  | 1 => xv = .int .i64 p
  | 2 => xv = .pointer (some ⟨sb, 0, none⟩)
  | 3 => xv = .int .i64 N
  | 4 => xv = .agg #[.int .i64 p, .int .i64 N, .int .i64 0]
  | 5 => xv = .slice (some ⟨b1, o1, none⟩) L cap1
  | 6 => xv = .int .i64 k
  | 7 => xv = .pointer (some ⟨b1, o1 + k, none⟩)
  | 8 => xv = .slice x1 n1 y1
  | 9 => xv = .slice (some ⟨b2, o2, none⟩) L cap2
  | 10 => xv = .int .i64 k
  | 11 => xv = .pointer (some ⟨b2, o2 + k, none⟩)
  | 12 => xv = .slice x2 n2 y2
  | 13 => ∃ ra rc, xv = .slice ra zs.length rc ∧ zs.length ≤ rc ∧ Own W base xv zs
  | 14 => ∃ ra rc g, xv = .slice (some ⟨g, 0, none⟩) 1 1 ∧ zs.length ≤ rc ∧ Own W base (.slice ra zs.length rc) zs ∧ W.cell? ⟨g, 0, none⟩ = some (.slice ra zs.length rc) ∧ g < W.heap.size
  | _ => True
theorem qRgM_old (sb b1 o1 b2 o2 L cap1 cap2 k : Nat) (aa : Option Addr) (cap : Nat) (p N : Int) (x1 x2 : Option Addr) (n1 y1 n2 y2 : Nat) (zs : List Int) (base : Nat) (i : Nat) (W W' : World) (xv : Value) (h : qRgM sb b1 o1 b2 o2 L cap1 cap2 k aa cap p N x1 x2 n1 y1 n2 y2 zs base i W xv) (qo : Old W W') : qRgM sb b1 o1 b2 o2 L cap1 cap2 k aa cap p N x1 x2 n1 y1 n2 y2 zs base i W' xv := by
  unfold qRgM at h ⊢
  split at h
  case h_14 =>
    obtain ⟨ra, rc, e, hc, ow⟩ := h
    exact ⟨ra, rc, e, hc, ow.old qo⟩
  case h_15 =>
    obtain ⟨ra, rc, g, e, hc, ow, hcell, hlt⟩ := h
    exact ⟨ra, rc, g, e, hc, ow.old qo, (qo.cell (p := ⟨g, 0, none⟩) hlt).trans hcell, Nat.lt_of_lt_of_le hlt qo.size⟩
  all_goals first | exact h | trivial
set_option maxRecDepth 100000 in
set_option maxHeartbeats 4000000 in
theorem reg_RgM (w0 : World) (sb b1 o1 b2 o2 L cap1 cap2 k : Nat) (aa : Option Addr) (cap : Nat) (p N : Int) (x1 x2 : Option Addr) (n1 y1 n2 y2 : Nat) (zs : List Int) (base : Nat) (hbase : base ≤ w0.heap.size) (FIN : World → Value → Prop)
    (cN : w0.cell? ⟨sb, 0, none⟩ = some (.int .i64 N)) (c1 : w0.cell? ⟨b1, o1 + k, none⟩ = some (.slice x1 n1 y1)) (c2 : w0.cell? ⟨b2, o2 + k, none⟩ = some (.slice x2 n2 y2))
    (hk : k < L) (hk6 : k ≤ 6) (hL : L ≤ 1048576) (hkL : (k : Int) < (L : Int))
    (KF : ∀ W, Old w0 W → Calls Tryd.prog 45 #[.agg #[.int .i64 p, .int .i64 N, .int .i64 0], .slice x1 n1 y1, .slice x2 n2 y2] W fun e w' => ∃ v', e = .returned v' ∧ Old W w' ∧ Own w' W.heap.size v' zs)
    (HEM : ∀ (W : World) (ra : Option Addr) (rc : Nat), Old w0 W → Own W w0.heap.size (.slice ra zs.length rc) zs → zs.length ≤ rc → ∃ vs, W.ownsRow base 24 1 (.slice aa k cap) k vs ∧ (∀ v' w', w'.ownsRow base 24 1 v' (k + 1) (vs ++ [.slice ra zs.length rc]) → W.grownBy w' (Value.slice aa k cap).ownBlock → (v'.ownBlock = (Value.slice aa k cap).ownBlock ∨ v'.ownBlock = some W.heap.size) → FIN w' v'))
    (Q : Exit → Act → World → Prop) (a0 : Act) (hsz : a0.tmps.size = 36)
    (ha1 : a0.eval (.tmp 1) = .slice (some ⟨b1, o1, none⟩) L cap1) (ha2 : a0.eval (.tmp 2) = .slice (some ⟨b2, o2, none⟩) L cap2) (ha3 : a0.eval (.tmp 3) = .pointer (some ⟨sb, 0, none⟩)) (ha7 : a0.eval (.tmp 7) = .slice aa k cap) (ha8 : a0.eval (.tmp 8) = .int .i64 k) (ha9 : a0.eval (.tmp 9) = .int .i64 p)
    (HK : Hid (∀ (us : Nat → Value) W, FIN W (us 16) → Q .normal (putAll a0 ((List.range 17).map fun i => (slotRgM i, us i))) W)) :
    Code.wp Tryd.prog ((Tryd.f72.body.bind (regionAtmul 5)).getD .skip) Q a0 w0 := by
  conv => arg 2; whnf
  obtain ⟨i0, ii, iz0, iz1, iz2⟩ := info_parts Tryd.infoInt
  obtain ⟨j0, ji, jz0, jz1, jz2⟩ := info_parts Tryd.infoInts
  have hsb := block_lt_of_cell cN
  have hb1 := block_lt_of_cell c1
  have hb2 := block_lt_of_cell c2
  have un := slotRgM_no
  refine wp_region_turn 15 rfl rfl rfl (by kernel_rfl) (by kernel_rfl) (by kernel_rfl) (by kernel_rfl) (by kernel_rfl) slotRgM (fun i hi => by rw [hsz]; exact slotRgM_lt i hi) (fun i j hi hj => slotRgM_inj i hi j hj) (qRgM sb b1 o1 b2 o2 L cap1 cap2 k aa cap p N x1 x2 n1 y1 n2 y2 zs w0.heap.size) (qRgM_old sb b1 o1 b2 o2 L cap1 cap2 k aa cap p N x1 x2 n1 y1 n2 y2 zs w0.heap.size) FIN ?_ ?_ ?_ ?_
  · refine ⟨?_, ?_, ?_, ?_, ?_, ?_, ?_, ?_, ?_, ?_, ?_, ?_, ?_, ?_, ?_, trivial⟩
    · intro a W g hF hd
      have e1 := (hF.same 1 (un 1 (by decide))).trans ha1
      have e2 := (hF.same 2 (un 2 (by decide))).trans ha2
      have e3 := (hF.same 3 (un 3 (by decide))).trans ha3
      have e7 := (hF.same 7 (un 7 (by decide))).trans ha7
      have e8 := (hF.same 8 (un 8 (by decide))).trans ha8
      have e9 := (hF.same 9 (un 9 (by decide))).trans ha9
      obtain ⟨ρ, hρ⟩ : ∃ ρ, a.eval = ρ := ⟨_, rfl⟩
      rw [hρ] at  e1 e2 e3 e7 e8 e9
      refine op_val ρ hρ (.slice aa k cap) ?_ ⟨_, rfl, Old.refl _, rfl⟩
      clear g hF hd hρ HK un ha1 ha2 ha3 ha7 ha8 ha9 cN c1 c2 KF HEM
      go_simp
      all_goals (rw [IntKind.wrap_i64]; omega)
    · intro a W g hF hd
      have e1 := (hF.same 1 (un 1 (by decide))).trans ha1
      have e2 := (hF.same 2 (un 2 (by decide))).trans ha2
      have e3 := (hF.same 3 (un 3 (by decide))).trans ha3
      have e7 := (hF.same 7 (un 7 (by decide))).trans ha7
      have e8 := (hF.same 8 (un 8 (by decide))).trans ha8
      have e9 := (hF.same 9 (un 9 (by decide))).trans ha9
      obtain ⟨ρ, hρ⟩ : ∃ ρ, a.eval = ρ := ⟨_, rfl⟩
      rw [hρ] at  e1 e2 e3 e7 e8 e9
      refine op_val ρ hρ (.int .i64 p) ?_ ⟨_, rfl, Old.refl _, rfl⟩
      clear g hF hd hρ HK un ha1 ha2 ha3 ha7 ha8 ha9 cN c1 c2 KF HEM
      go_simp
      all_goals (rw [IntKind.wrap_i64]; omega)
    · intro a W g hF hd
      have e1 := (hF.same 1 (un 1 (by decide))).trans ha1
      have e2 := (hF.same 2 (un 2 (by decide))).trans ha2
      have e3 := (hF.same 3 (un 3 (by decide))).trans ha3
      have e7 := (hF.same 7 (un 7 (by decide))).trans ha7
      have e8 := (hF.same 8 (un 8 (by decide))).trans ha8
      have e9 := (hF.same 9 (un 9 (by decide))).trans ha9
      obtain ⟨ρ, hρ⟩ : ∃ ρ, a.eval = ρ := ⟨_, rfl⟩
      rw [hρ] at  e1 e2 e3 e7 e8 e9
      refine op_val ρ hρ (.pointer (some ⟨sb, 0, none⟩)) ?_ ⟨_, rfl, Old.refl _, rfl⟩
      clear g hF hd hρ HK un ha1 ha2 ha3 ha7 ha8 ha9 cN c1 c2 KF HEM
      go_simp
      all_goals (rw [IntKind.wrap_i64]; omega)
    · intro a W g hF hd
      have e1 := (hF.same 1 (un 1 (by decide))).trans ha1
      have e2 := (hF.same 2 (un 2 (by decide))).trans ha2
      have e3 := (hF.same 3 (un 3 (by decide))).trans ha3
      have e7 := (hF.same 7 (un 7 (by decide))).trans ha7
      have e8 := (hF.same 8 (un 8 (by decide))).trans ha8
      have e9 := (hF.same 9 (un 9 (by decide))).trans ha9
      have h2 := hd ⟨2, .data⟩ (by simp) rfl
      simp only [qRgM, slotRgM, List.getD_cons_zero, List.getD_cons_succ] at h2
      have kcN := (g.cell (p := ⟨sb, 0, none⟩) hsb).trans cN
      obtain ⟨ρ, hρ⟩ : ∃ ρ, a.eval = ρ := ⟨_, rfl⟩
      rw [hρ] at h2 e1 e2 e3 e7 e8 e9
      refine op_val ρ hρ (.int .i64 N) ?_ ⟨_, rfl, Old.refl _, rfl⟩
      clear g hF hd hρ HK un ha1 ha2 ha3 ha7 ha8 ha9 cN c1 c2 KF HEM
      go_simp
      all_goals (rw [IntKind.wrap_i64]; omega)
    · intro a W g hF hd
      have e1 := (hF.same 1 (un 1 (by decide))).trans ha1
      have e2 := (hF.same 2 (un 2 (by decide))).trans ha2
      have e3 := (hF.same 3 (un 3 (by decide))).trans ha3
      have e7 := (hF.same 7 (un 7 (by decide))).trans ha7
      have e8 := (hF.same 8 (un 8 (by decide))).trans ha8
      have e9 := (hF.same 9 (un 9 (by decide))).trans ha9
      have h1 := hd ⟨1, .data⟩ (by simp) rfl
      have h3 := hd ⟨3, .data⟩ (by simp) rfl
      simp only [qRgM, slotRgM, List.getD_cons_zero, List.getD_cons_succ] at h1 h3
      obtain ⟨ρ, hρ⟩ : ∃ ρ, a.eval = ρ := ⟨_, rfl⟩
      rw [hρ] at h1 h3 e1 e2 e3 e7 e8 e9
      refine op_val ρ hρ (.agg #[.int .i64 p, .int .i64 N, .int .i64 0]) ?_ ⟨_, rfl, Old.refl _, rfl⟩
      clear g hF hd hρ HK un ha1 ha2 ha3 ha7 ha8 ha9 cN c1 c2 KF HEM
      go_simp
      all_goals (rw [IntKind.wrap_i64]; omega)
    · intro a W g hF hd
      have e1 := (hF.same 1 (un 1 (by decide))).trans ha1
      have e2 := (hF.same 2 (un 2 (by decide))).trans ha2
      have e3 := (hF.same 3 (un 3 (by decide))).trans ha3
      have e7 := (hF.same 7 (un 7 (by decide))).trans ha7
      have e8 := (hF.same 8 (un 8 (by decide))).trans ha8
      have e9 := (hF.same 9 (un 9 (by decide))).trans ha9
      obtain ⟨ρ, hρ⟩ : ∃ ρ, a.eval = ρ := ⟨_, rfl⟩
      rw [hρ] at  e1 e2 e3 e7 e8 e9
      refine op_val ρ hρ (.slice (some ⟨b1, o1, none⟩) L cap1) ?_ ⟨_, rfl, Old.refl _, rfl⟩
      clear g hF hd hρ HK un ha1 ha2 ha3 ha7 ha8 ha9 cN c1 c2 KF HEM
      go_simp
      all_goals (rw [IntKind.wrap_i64]; omega)
    · intro a W g hF hd
      have e1 := (hF.same 1 (un 1 (by decide))).trans ha1
      have e2 := (hF.same 2 (un 2 (by decide))).trans ha2
      have e3 := (hF.same 3 (un 3 (by decide))).trans ha3
      have e7 := (hF.same 7 (un 7 (by decide))).trans ha7
      have e8 := (hF.same 8 (un 8 (by decide))).trans ha8
      have e9 := (hF.same 9 (un 9 (by decide))).trans ha9
      obtain ⟨ρ, hρ⟩ : ∃ ρ, a.eval = ρ := ⟨_, rfl⟩
      rw [hρ] at  e1 e2 e3 e7 e8 e9
      refine op_val ρ hρ (.int .i64 k) ?_ ⟨_, rfl, Old.refl _, rfl⟩
      clear g hF hd hρ HK un ha1 ha2 ha3 ha7 ha8 ha9 cN c1 c2 KF HEM
      go_simp
      all_goals (rw [IntKind.wrap_i64]; omega)
    · intro a W g hF hd
      have e1 := (hF.same 1 (un 1 (by decide))).trans ha1
      have e2 := (hF.same 2 (un 2 (by decide))).trans ha2
      have e3 := (hF.same 3 (un 3 (by decide))).trans ha3
      have e7 := (hF.same 7 (un 7 (by decide))).trans ha7
      have e8 := (hF.same 8 (un 8 (by decide))).trans ha8
      have e9 := (hF.same 9 (un 9 (by decide))).trans ha9
      have h5 := hd ⟨5, .data⟩ (by simp) rfl
      have h6 := hd ⟨6, .data⟩ (by simp) rfl
      simp only [qRgM, slotRgM, List.getD_cons_zero, List.getD_cons_succ] at h5 h6
      obtain ⟨ρ, hρ⟩ : ∃ ρ, a.eval = ρ := ⟨_, rfl⟩
      rw [hρ] at h5 h6 e1 e2 e3 e7 e8 e9
      refine op_val ρ hρ (.pointer (some ⟨b1, o1 + k, none⟩)) ?_ ⟨_, rfl, Old.refl _, rfl⟩
      clear g hF hd hρ HK un ha1 ha2 ha3 ha7 ha8 ha9 cN c1 c2 KF HEM
      go_simp
      all_goals (rw [IntKind.wrap_i64]; omega)
    · intro a W g hF hd
      have e1 := (hF.same 1 (un 1 (by decide))).trans ha1
      have e2 := (hF.same 2 (un 2 (by decide))).trans ha2
      have e3 := (hF.same 3 (un 3 (by decide))).trans ha3
      have e7 := (hF.same 7 (un 7 (by decide))).trans ha7
      have e8 := (hF.same 8 (un 8 (by decide))).trans ha8
      have e9 := (hF.same 9 (un 9 (by decide))).trans ha9
      have h7 := hd ⟨7, .data⟩ (by simp) rfl
      simp only [qRgM, slotRgM, List.getD_cons_zero, List.getD_cons_succ] at h7
      have kc1 := (g.cell (p := ⟨b1, o1 + k, none⟩) hb1).trans c1
      obtain ⟨ρ, hρ⟩ : ∃ ρ, a.eval = ρ := ⟨_, rfl⟩
      rw [hρ] at h7 e1 e2 e3 e7 e8 e9
      refine op_val ρ hρ (.slice x1 n1 y1) ?_ ⟨_, rfl, Old.refl _, rfl⟩
      clear g hF hd hρ HK un ha1 ha2 ha3 ha7 ha8 ha9 cN c1 c2 KF HEM
      go_simp
      all_goals (rw [IntKind.wrap_i64]; omega)
    · intro a W g hF hd
      have e1 := (hF.same 1 (un 1 (by decide))).trans ha1
      have e2 := (hF.same 2 (un 2 (by decide))).trans ha2
      have e3 := (hF.same 3 (un 3 (by decide))).trans ha3
      have e7 := (hF.same 7 (un 7 (by decide))).trans ha7
      have e8 := (hF.same 8 (un 8 (by decide))).trans ha8
      have e9 := (hF.same 9 (un 9 (by decide))).trans ha9
      obtain ⟨ρ, hρ⟩ : ∃ ρ, a.eval = ρ := ⟨_, rfl⟩
      rw [hρ] at  e1 e2 e3 e7 e8 e9
      refine op_val ρ hρ (.slice (some ⟨b2, o2, none⟩) L cap2) ?_ ⟨_, rfl, Old.refl _, rfl⟩
      clear g hF hd hρ HK un ha1 ha2 ha3 ha7 ha8 ha9 cN c1 c2 KF HEM
      go_simp
      all_goals (rw [IntKind.wrap_i64]; omega)
    · intro a W g hF hd
      have e1 := (hF.same 1 (un 1 (by decide))).trans ha1
      have e2 := (hF.same 2 (un 2 (by decide))).trans ha2
      have e3 := (hF.same 3 (un 3 (by decide))).trans ha3
      have e7 := (hF.same 7 (un 7 (by decide))).trans ha7
      have e8 := (hF.same 8 (un 8 (by decide))).trans ha8
      have e9 := (hF.same 9 (un 9 (by decide))).trans ha9
      obtain ⟨ρ, hρ⟩ : ∃ ρ, a.eval = ρ := ⟨_, rfl⟩
      rw [hρ] at  e1 e2 e3 e7 e8 e9
      refine op_val ρ hρ (.int .i64 k) ?_ ⟨_, rfl, Old.refl _, rfl⟩
      clear g hF hd hρ HK un ha1 ha2 ha3 ha7 ha8 ha9 cN c1 c2 KF HEM
      go_simp
      all_goals (rw [IntKind.wrap_i64]; omega)
    · intro a W g hF hd
      have e1 := (hF.same 1 (un 1 (by decide))).trans ha1
      have e2 := (hF.same 2 (un 2 (by decide))).trans ha2
      have e3 := (hF.same 3 (un 3 (by decide))).trans ha3
      have e7 := (hF.same 7 (un 7 (by decide))).trans ha7
      have e8 := (hF.same 8 (un 8 (by decide))).trans ha8
      have e9 := (hF.same 9 (un 9 (by decide))).trans ha9
      have h9 := hd ⟨9, .data⟩ (by simp) rfl
      have h10 := hd ⟨10, .data⟩ (by simp) rfl
      simp only [qRgM, slotRgM, List.getD_cons_zero, List.getD_cons_succ] at h9 h10
      obtain ⟨ρ, hρ⟩ : ∃ ρ, a.eval = ρ := ⟨_, rfl⟩
      rw [hρ] at h9 h10 e1 e2 e3 e7 e8 e9
      refine op_val ρ hρ (.pointer (some ⟨b2, o2 + k, none⟩)) ?_ ⟨_, rfl, Old.refl _, rfl⟩
      clear g hF hd hρ HK un ha1 ha2 ha3 ha7 ha8 ha9 cN c1 c2 KF HEM
      go_simp
      all_goals (rw [IntKind.wrap_i64]; omega)
    · intro a W g hF hd
      have e1 := (hF.same 1 (un 1 (by decide))).trans ha1
      have e2 := (hF.same 2 (un 2 (by decide))).trans ha2
      have e3 := (hF.same 3 (un 3 (by decide))).trans ha3
      have e7 := (hF.same 7 (un 7 (by decide))).trans ha7
      have e8 := (hF.same 8 (un 8 (by decide))).trans ha8
      have e9 := (hF.same 9 (un 9 (by decide))).trans ha9
      have h11 := hd ⟨11, .data⟩ (by simp) rfl
      simp only [qRgM, slotRgM, List.getD_cons_zero, List.getD_cons_succ] at h11
      have kc2 := (g.cell (p := ⟨b2, o2 + k, none⟩) hb2).trans c2
      obtain ⟨ρ, hρ⟩ : ∃ ρ, a.eval = ρ := ⟨_, rfl⟩
      rw [hρ] at h11 e1 e2 e3 e7 e8 e9
      refine op_val ρ hρ (.slice x2 n2 y2) ?_ ⟨_, rfl, Old.refl _, rfl⟩
      clear g hF hd hρ HK un ha1 ha2 ha3 ha7 ha8 ha9 cN c1 c2 KF HEM
      go_simp
      all_goals (rw [IntKind.wrap_i64]; omega)
    · intro a W g hF hd
      have h4 : a.eval (.tmp 22) = .agg #[.int .i64 p, .int .i64 N, .int .i64 0] := hd ⟨4, .data⟩ (by simp) rfl
      have h8 : a.eval (.tmp 26) = .slice x1 n1 y1 := hd ⟨8, .data⟩ (by simp) rfl
      have h12 : a.eval (.tmp 30) = .slice x2 n2 y2 := hd ⟨12, .data⟩ (by simp) rfl
      refine op_call_ret Tryd.call45 (vs := #[.agg #[.int .i64 p, .int .i64 N, .int .i64 0], .slice x1 n1 y1, .slice x2 n2 y2]) (by simp [h4, h8, h12]) (KF W g) ?_
      rintro x w' ⟨g', o'⟩
      obtain ⟨ra, rc, e, hc⟩ := own_fit o'
      subst e
      exact ⟨_, rfl, g', ra, rc, rfl, hc, o'.low g.size⟩
    · intro a W g hF hd
      obtain ⟨ra, rc, h7, hc, ow⟩ : ∃ ra rc, a.eval (.tmp 31) = .slice ra zs.length rc ∧ zs.length ≤ rc ∧ Own W w0.heap.size (a.eval (.tmp 31)) zs := hd ⟨13, .data⟩ (by simp) rfl
      rw [h7] at ow
      obtain ⟨ρ, hρ⟩ : ∃ ρ, a.eval = ρ := ⟨_, rfl⟩
      rw [hρ] at h7
      refine op_valW (W' := W.alloc (.cells #[.slice ra zs.length rc] 24)) ρ hρ (.slice (some ⟨W.heap.size, 0, none⟩) 1 1) ?_ ⟨_, rfl, (Old.refl W).alloc _, ra, rc, W.heap.size, rfl, hc, ow.alloc _, cell_at _ _ _ _ _ rfl, by simp⟩
      clear g hF hd hρ HK un ha1 ha2 ha3 ha7 ha8 ha9 cN c1 c2 KF HEM ow hc
      go_simp
  · intro a W g hF hq
    have h0 : a.eval (.tmp 18) = .slice aa k cap := hq 0 (by decide)
    obtain ⟨ra, rc, gg, h8, hc, ow, hcell, hlt⟩ : ∃ ra rc gg, a.eval (.tmp 32) = .slice (some ⟨gg, 0, none⟩) 1 1 ∧ zs.length ≤ rc ∧ Own W w0.heap.size (.slice ra zs.length rc) zs ∧ W.cell? ⟨gg, 0, none⟩ = some (.slice ra zs.length rc) ∧ gg < W.heap.size := hq 14 (by decide)
    obtain ⟨vs, ov, hem⟩ := HEM W ra rc g ow hc
    refine op_append_at _ _ 44 rfl base 24 j0 (.slice none 0 0) 1 24 Tryd.underlying44 ji jz0 jz1 jz2 rfl (by decide) _ k vs h0 ov ⟨gg, 0, none⟩ 1 1 [.slice ra zs.length rc] h8 rfl ?_ (one_sl _ _ _) (by unfold maxLen; omega) (by omega) (Nat.le_trans hbase g.size) ?_
    · intro j u hj
      match j, hj with
      | 0, hj =>
        have : Value.slice ra zs.length rc = u := by simpa using hj
        subst this
        exact hcell
      | j + 1, hj => simp at hj
    · intro v' w' o5 g5 x5 l5
      exact ⟨v', rfl, hem v' w' o5 g5 l5⟩
  · intro a W v hv
    exact op_assign (by rw [show a.eval (.tmp 33) = v from hv]; exact ⟨rfl, rfl⟩)
  · intro a W hF hq
    have hp := fram_put hF (fun i j hi hj => slotRgM_inj i hi j hj)
    have hk := HK.out (fun i => a.eval (.tmp (slotRgM i))) W hq
    rw [← hp] at hk
    exact hk
def slotRgN (i : Nat) : Nat := [47, 48, 49, 50, 51, 52, 53, 54, 55, 56, 57, 58, 59, 60, 61, 62, 63, 64, 65, 66, 67, 68, 11].getD i 0
theorem slotRgN_lt : ∀ i, i < 23 → slotRgN i < 78 := by decide
theorem slotRgN_inj : ∀ i, i < 23 → ∀ j, j < 23 → slotRgN i = slotRgN j → i = j := by decide
theorem slotRgN_no : ∀ s, s < 47 → ∀ i, i < 22 → slotRgN i ≠ s := by decide
def qRgN (ab bb b1 o1 b2 o2 b3 o3 b4 o4 L cap1 cap2 n y3 y4 k j : Nat) (ra : Option Addr) (rc : Nat) (p x y xm q : Int) (base : Nat) (i : Nat) (W : World) (xv : Value) : Prop :=
  match i with
  | 0 => xv = .slice ra j rc
  | 1 => xv = .pointer (some ⟨ab, 1, none⟩)
  | 2 => xv = .slice (some ⟨b1, o1, none⟩) L cap1
  | 3 => xv = .int .i64 k
  | 4 => xv = .pointer (some ⟨b1, o1 + k, none⟩)
  | 5 => xv = .slice (some ⟨b3, o3, none⟩) n y3
  | 6 => xv = .int .i64 j
  | 7 => xv = .pointer (some ⟨b3, o3 + j, none⟩)
  | 8 => xv = .int .i64 x
  | 9 => xv = .pointer (some ⟨bb, 1, none⟩)
  | 10 => xv = .slice (some ⟨b2, o2, none⟩) L cap2
  | 11 => xv = .int .i64 k
  | 12 => xv = .pointer (some ⟨b2, o2 + k, none⟩)
  | 13 => xv = .slice (some ⟨b4, o4, none⟩) n y4
  | 14 => xv = .int .i64 j
  | 15 => xv = .pointer (some ⟨b4, o4 + j, none⟩)
  | 16 => xv = .int .i64 y
  | 17 => xv = .int .i64 xm
  | 18 => xv = .int .i64 p
  | 19 => xv = .int .i64 q
  | 20 => ∃ g, xv = .slice (some ⟨g, 0, none⟩) 1 1 ∧ W.cell? ⟨g, 0, none⟩ = some (.int .i64 q) ∧ g < W.heap.size
  | _ => True
theorem qRgN_old (ab bb b1 o1 b2 o2 b3 o3 b4 o4 L cap1 cap2 n y3 y4 k j : Nat) (ra : Option Addr) (rc : Nat) (p x y xm q : Int) (base : Nat) (i : Nat) (W W' : World) (xv : Value) (h : qRgN ab bb b1 o1 b2 o2 b3 o3 b4 o4 L cap1 cap2 n y3 y4 k j ra rc p x y xm q base i W xv) (qo : Old W W') : qRgN ab bb b1 o1 b2 o2 b3 o3 b4 o4 L cap1 cap2 n y3 y4 k j ra rc p x y xm q base i W' xv := by
  unfold qRgN at h ⊢
  split at h
  case h_21 =>
    obtain ⟨g, e, hcell, hlt⟩ := h
    exact ⟨g, e, (qo.cell (p := ⟨g, 0, none⟩) hlt).trans hcell, Nat.lt_of_lt_of_le hlt qo.size⟩
  all_goals first | exact h | trivial
set_option maxRecDepth 100000 in
set_option maxHeartbeats 4000000 in
theorem reg_RgN (w0 : World) (ab bb b1 o1 b2 o2 b3 o3 b4 o4 L cap1 cap2 n y3 y4 k j : Nat) (ra : Option Addr) (rc : Nat) (p x y xm q : Int) (base : Nat) (hbase : base ≤ w0.heap.size) (FIN : World → Value → Prop)
    (ca : w0.cell? ⟨ab, 1, none⟩ = some (.slice (some ⟨b1, o1, none⟩) L cap1)) (cb : w0.cell? ⟨bb, 1, none⟩ = some (.slice (some ⟨b2, o2, none⟩) L cap2)) (c1 : w0.cell? ⟨b1, o1 + k, none⟩ = some (.slice (some ⟨b3, o3, none⟩) n y3)) (c2 : w0.cell? ⟨b2, o2 + k, none⟩ = some (.slice (some ⟨b4, o4, none⟩) n y4)) (cx : w0.cell? ⟨b3, o3 + j, none⟩ = some (.int .i64 x)) (cy : w0.cell? ⟨b4, o4 + j, none⟩ = some (.int .i64 y))
    (hk : k < L) (hL : L ≤ 1048576) (hkL : (k : Int) < (L : Int)) (hj : j < n) (hn : n ≤ 16) (hjn : (j : Int) < (n : Int)) (hxy : x * y = xm) (bxm : 0 ≤ xm ∧ xm ≤ 72057594037927936) (hp0 : ¬ p = 0) (e6 : xm % p = q) (e4 : xm.tmod p = q)
    (HEM : ∀ (W : World), Old w0 W → ∃ vs, W.ownsRow base 3 1 (.slice ra j rc) j vs ∧ (∀ v' w', w'.ownsRow base 3 1 v' (j + 1) (vs ++ [.int .i64 q]) → W.grownBy w' (Value.slice ra j rc).ownBlock → FIN w' v'))
    (Q : Exit → Act → World → Prop) (a0 : Act) (hsz : a0.tmps.size = 78)
    (ha4 : a0.eval (.tmp 4) = .pointer (some ⟨ab, 0, none⟩)) (ha5 : a0.eval (.tmp 5) = .pointer (some ⟨bb, 0, none⟩)) (ha9 : a0.eval (.tmp 9) = .int .i64 k) (ha10 : a0.eval (.tmp 10) = .int .i64 p) (ha11 : a0.eval (.tmp 11) = .slice ra j rc) (ha12 : a0.eval (.tmp 12) = .int .i64 j)
    (HK : Hid (∀ (us : Nat → Value) W, FIN W (us 22) → Q .normal (putAll a0 ((List.range 23).map fun i => (slotRgN i, us i))) W)) :
    Code.wp Tryd.prog ((Tryd.f34.body.bind (regionAtmul 13)).getD .skip) Q a0 w0 := by
  conv => arg 2; whnf
  obtain ⟨i0, ii, iz0, iz1, iz2⟩ := info_parts Tryd.infoInt
  obtain ⟨j0, ji, jz0, jz1, jz2⟩ := info_parts Tryd.infoInts
  have hab := block_lt_of_cell ca
  have hbb := block_lt_of_cell cb
  have hb1 := block_lt_of_cell c1
  have hb2 := block_lt_of_cell c2
  have hb3 := block_lt_of_cell cx
  have hb4 := block_lt_of_cell cy
  have un := slotRgN_no
  refine wp_region_turn 21 rfl rfl rfl (by kernel_rfl) (by kernel_rfl) (by kernel_rfl) (by kernel_rfl) (by kernel_rfl) slotRgN (fun i hi => by rw [hsz]; exact slotRgN_lt i hi) (fun i j hi hj => slotRgN_inj i hi j hj) (qRgN ab bb b1 o1 b2 o2 b3 o3 b4 o4 L cap1 cap2 n y3 y4 k j ra rc p x y xm q w0.heap.size) (qRgN_old ab bb b1 o1 b2 o2 b3 o3 b4 o4 L cap1 cap2 n y3 y4 k j ra rc p x y xm q w0.heap.size) FIN ?_ ?_ ?_ ?_
  · refine ⟨?_, ?_, ?_, ?_, ?_, ?_, ?_, ?_, ?_, ?_, ?_, ?_, ?_, ?_, ?_, ?_, ?_, ?_, ?_, ?_, ?_, trivial⟩
    · intro a W g hF hd
      have e4 := (hF.same 4 (un 4 (by decide))).trans ha4
      have e5 := (hF.same 5 (un 5 (by decide))).trans ha5
      have e9 := (hF.same 9 (un 9 (by decide))).trans ha9
      have e10 := (hF.same 10 (un 10 (by decide))).trans ha10
      have e11 := (hF.same 11 (un 11 (by decide))).trans ha11
      have e12 := (hF.same 12 (un 12 (by decide))).trans ha12
      obtain ⟨ρ, hρ⟩ : ∃ ρ, a.eval = ρ := ⟨_, rfl⟩
      rw [hρ] at  e4 e5 e9 e10 e11 e12
      refine op_val ρ hρ (.slice ra j rc) ?_ ⟨_, rfl, Old.refl _, rfl⟩
      clear g hF hd hρ HK un ha4 ha5 ha9 ha10 ha11 ha12 ca cb c1 c2 cx cy HEM
      go_simp
      all_goals (rw [IntKind.wrap_i64]; omega)
    · intro a W g hF hd
      have e4 := (hF.same 4 (un 4 (by decide))).trans ha4
      have e5 := (hF.same 5 (un 5 (by decide))).trans ha5
      have e9 := (hF.same 9 (un 9 (by decide))).trans ha9
      have e10 := (hF.same 10 (un 10 (by decide))).trans ha10
      have e11 := (hF.same 11 (un 11 (by decide))).trans ha11
      have e12 := (hF.same 12 (un 12 (by decide))).trans ha12
      obtain ⟨ρ, hρ⟩ : ∃ ρ, a.eval = ρ := ⟨_, rfl⟩
      rw [hρ] at  e4 e5 e9 e10 e11 e12
      refine op_val ρ hρ (.pointer (some ⟨ab, 1, none⟩)) ?_ ⟨_, rfl, Old.refl _, rfl⟩
      clear g hF hd hρ HK un ha4 ha5 ha9 ha10 ha11 ha12 ca cb c1 c2 cx cy HEM
      go_simp
      all_goals (rw [IntKind.wrap_i64]; omega)
    · intro a W g hF hd
      have e4 := (hF.same 4 (un 4 (by decide))).trans ha4
      have e5 := (hF.same 5 (un 5 (by decide))).trans ha5
      have e9 := (hF.same 9 (un 9 (by decide))).trans ha9
      have e10 := (hF.same 10 (un 10 (by decide))).trans ha10
      have e11 := (hF.same 11 (un 11 (by decide))).trans ha11
      have e12 := (hF.same 12 (un 12 (by decide))).trans ha12
      have h1 := hd ⟨1, .data⟩ (by simp) rfl
      simp only [qRgN, slotRgN, List.getD_cons_zero, List.getD_cons_succ] at h1
      have kca := (g.cell (p := ⟨ab, 1, none⟩) hab).trans ca
      obtain ⟨ρ, hρ⟩ : ∃ ρ, a.eval = ρ := ⟨_, rfl⟩
      rw [hρ] at h1 e4 e5 e9 e10 e11 e12
      refine op_val ρ hρ (.slice (some ⟨b1, o1, none⟩) L cap1) ?_ ⟨_, rfl, Old.refl _, rfl⟩
      clear g hF hd hρ HK un ha4 ha5 ha9 ha10 ha11 ha12 ca cb c1 c2 cx cy HEM
      go_simp
      all_goals (rw [IntKind.wrap_i64]; omega)
    · intro a W g hF hd
      have e4 := (hF.same 4 (un 4 (by decide))).trans ha4
      have e5 := (hF.same 5 (un 5 (by decide))).trans ha5
      have e9 := (hF.same 9 (un 9 (by decide))).trans ha9
      have e10 := (hF.same 10 (un 10 (by decide))).trans ha10
      have e11 := (hF.same 11 (un 11 (by decide))).trans ha11
      have e12 := (hF.same 12 (un 12 (by decide))).trans ha12
      obtain ⟨ρ, hρ⟩ : ∃ ρ, a.eval = ρ := ⟨_, rfl⟩
      rw [hρ] at  e4 e5 e9 e10 e11 e12
      refine op_val ρ hρ (.int .i64 k) ?_ ⟨_, rfl, Old.refl _, rfl⟩
      clear g hF hd hρ HK un ha4 ha5 ha9 ha10 ha11 ha12 ca cb c1 c2 cx cy HEM
      go_simp
      all_goals (rw [IntKind.wrap_i64]; omega)
    · intro a W g hF hd
      have e4 := (hF.same 4 (un 4 (by decide))).trans ha4
      have e5 := (hF.same 5 (un 5 (by decide))).trans ha5
      have e9 := (hF.same 9 (un 9 (by decide))).trans ha9
      have e10 := (hF.same 10 (un 10 (by decide))).trans ha10
      have e11 := (hF.same 11 (un 11 (by decide))).trans ha11
      have e12 := (hF.same 12 (un 12 (by decide))).trans ha12
      have h2 := hd ⟨2, .data⟩ (by simp) rfl
      have h3 := hd ⟨3, .data⟩ (by simp) rfl
      simp only [qRgN, slotRgN, List.getD_cons_zero, List.getD_cons_succ] at h2 h3
      obtain ⟨ρ, hρ⟩ : ∃ ρ, a.eval = ρ := ⟨_, rfl⟩
      rw [hρ] at h2 h3 e4 e5 e9 e10 e11 e12
      refine op_val ρ hρ (.pointer (some ⟨b1, o1 + k, none⟩)) ?_ ⟨_, rfl, Old.refl _, rfl⟩
      clear g hF hd hρ HK un ha4 ha5 ha9 ha10 ha11 ha12 ca cb c1 c2 cx cy HEM
      go_simp
      all_goals (rw [IntKind.wrap_i64]; omega)
    · intro a W g hF hd
      have e4 := (hF.same 4 (un 4 (by decide))).trans ha4
      have e5 := (hF.same 5 (un 5 (by decide))).trans ha5
      have e9 := (hF.same 9 (un 9 (by decide))).trans ha9
      have e10 := (hF.same 10 (un 10 (by decide))).trans ha10
      have e11 := (hF.same 11 (un 11 (by decide))).trans ha11
      have e12 := (hF.same 12 (un 12 (by decide))).trans ha12
      have h4 := hd ⟨4, .data⟩ (by simp) rfl
      simp only [qRgN, slotRgN, List.getD_cons_zero, List.getD_cons_succ] at h4
      have kc1 := (g.cell (p := ⟨b1, o1 + k, none⟩) hb1).trans c1
      obtain ⟨ρ, hρ⟩ : ∃ ρ, a.eval = ρ := ⟨_, rfl⟩
      rw [hρ] at h4 e4 e5 e9 e10 e11 e12
      refine op_val ρ hρ (.slice (some ⟨b3, o3, none⟩) n y3) ?_ ⟨_, rfl, Old.refl _, rfl⟩
      clear g hF hd hρ HK un ha4 ha5 ha9 ha10 ha11 ha12 ca cb c1 c2 cx cy HEM
      go_simp
      all_goals (rw [IntKind.wrap_i64]; omega)
    · intro a W g hF hd
      have e4 := (hF.same 4 (un 4 (by decide))).trans ha4
      have e5 := (hF.same 5 (un 5 (by decide))).trans ha5
      have e9 := (hF.same 9 (un 9 (by decide))).trans ha9
      have e10 := (hF.same 10 (un 10 (by decide))).trans ha10
      have e11 := (hF.same 11 (un 11 (by decide))).trans ha11
      have e12 := (hF.same 12 (un 12 (by decide))).trans ha12
      obtain ⟨ρ, hρ⟩ : ∃ ρ, a.eval = ρ := ⟨_, rfl⟩
      rw [hρ] at  e4 e5 e9 e10 e11 e12
      refine op_val ρ hρ (.int .i64 j) ?_ ⟨_, rfl, Old.refl _, rfl⟩
      clear g hF hd hρ HK un ha4 ha5 ha9 ha10 ha11 ha12 ca cb c1 c2 cx cy HEM
      go_simp
      all_goals (rw [IntKind.wrap_i64]; omega)
    · intro a W g hF hd
      have e4 := (hF.same 4 (un 4 (by decide))).trans ha4
      have e5 := (hF.same 5 (un 5 (by decide))).trans ha5
      have e9 := (hF.same 9 (un 9 (by decide))).trans ha9
      have e10 := (hF.same 10 (un 10 (by decide))).trans ha10
      have e11 := (hF.same 11 (un 11 (by decide))).trans ha11
      have e12 := (hF.same 12 (un 12 (by decide))).trans ha12
      have h5 := hd ⟨5, .data⟩ (by simp) rfl
      have h6 := hd ⟨6, .data⟩ (by simp) rfl
      simp only [qRgN, slotRgN, List.getD_cons_zero, List.getD_cons_succ] at h5 h6
      obtain ⟨ρ, hρ⟩ : ∃ ρ, a.eval = ρ := ⟨_, rfl⟩
      rw [hρ] at h5 h6 e4 e5 e9 e10 e11 e12
      refine op_val ρ hρ (.pointer (some ⟨b3, o3 + j, none⟩)) ?_ ⟨_, rfl, Old.refl _, rfl⟩
      clear g hF hd hρ HK un ha4 ha5 ha9 ha10 ha11 ha12 ca cb c1 c2 cx cy HEM
      go_simp
      all_goals (rw [IntKind.wrap_i64]; omega)
    · intro a W g hF hd
      have e4 := (hF.same 4 (un 4 (by decide))).trans ha4
      have e5 := (hF.same 5 (un 5 (by decide))).trans ha5
      have e9 := (hF.same 9 (un 9 (by decide))).trans ha9
      have e10 := (hF.same 10 (un 10 (by decide))).trans ha10
      have e11 := (hF.same 11 (un 11 (by decide))).trans ha11
      have e12 := (hF.same 12 (un 12 (by decide))).trans ha12
      have h7 := hd ⟨7, .data⟩ (by simp) rfl
      simp only [qRgN, slotRgN, List.getD_cons_zero, List.getD_cons_succ] at h7
      have kcx := (g.cell (p := ⟨b3, o3 + j, none⟩) hb3).trans cx
      obtain ⟨ρ, hρ⟩ : ∃ ρ, a.eval = ρ := ⟨_, rfl⟩
      rw [hρ] at h7 e4 e5 e9 e10 e11 e12
      refine op_val ρ hρ (.int .i64 x) ?_ ⟨_, rfl, Old.refl _, rfl⟩
      clear g hF hd hρ HK un ha4 ha5 ha9 ha10 ha11 ha12 ca cb c1 c2 cx cy HEM
      go_simp
      all_goals (rw [IntKind.wrap_i64]; omega)
    · intro a W g hF hd
      have e4 := (hF.same 4 (un 4 (by decide))).trans ha4
      have e5 := (hF.same 5 (un 5 (by decide))).trans ha5
      have e9 := (hF.same 9 (un 9 (by decide))).trans ha9
      have e10 := (hF.same 10 (un 10 (by decide))).trans ha10
      have e11 := (hF.same 11 (un 11 (by decide))).trans ha11
      have e12 := (hF.same 12 (un 12 (by decide))).trans ha12
      obtain ⟨ρ, hρ⟩ : ∃ ρ, a.eval = ρ := ⟨_, rfl⟩
      rw [hρ] at  e4 e5 e9 e10 e11 e12
      refine op_val ρ hρ (.pointer (some ⟨bb, 1, none⟩)) ?_ ⟨_, rfl, Old.refl _, rfl⟩
      clear g hF hd hρ HK un ha4 ha5 ha9 ha10 ha11 ha12 ca cb c1 c2 cx cy HEM
      go_simp
      all_goals (rw [IntKind.wrap_i64]; omega)
    · intro a W g hF hd
      have e4 := (hF.same 4 (un 4 (by decide))).trans ha4
      have e5 := (hF.same 5 (un 5 (by decide))).trans ha5
      have e9 := (hF.same 9 (un 9 (by decide))).trans ha9
      have e10 := (hF.same 10 (un 10 (by decide))).trans ha10
      have e11 := (hF.same 11 (un 11 (by decide))).trans ha11
      have e12 := (hF.same 12 (un 12 (by decide))).trans ha12
      have h9 := hd ⟨9, .data⟩ (by simp) rfl
      simp only [qRgN, slotRgN, List.getD_cons_zero, List.getD_cons_succ] at h9
      have kcb := (g.cell (p := ⟨bb, 1, none⟩) hbb).trans cb
      obtain ⟨ρ, hρ⟩ : ∃ ρ, a.eval = ρ := ⟨_, rfl⟩
      rw [hρ] at h9 e4 e5 e9 e10 e11 e12
      refine op_val ρ hρ (.slice (some ⟨b2, o2, none⟩) L cap2) ?_ ⟨_, rfl, Old.refl _, rfl⟩
      clear g hF hd hρ HK un ha4 ha5 ha9 ha10 ha11 ha12 ca cb c1 c2 cx cy HEM
      go_simp
      all_goals (rw [IntKind.wrap_i64]; omega)
    · intro a W g hF hd
      have e4 := (hF.same 4 (un 4 (by decide))).trans ha4
      have e5 := (hF.same 5 (un 5 (by decide))).trans ha5
      have e9 := (hF.same 9 (un 9 (by decide))).trans ha9
      have e10 := (hF.same 10 (un 10 (by decide))).trans ha10
      have e11 := (hF.same 11 (un 11 (by decide))).trans ha11
      have e12 := (hF.same 12 (un 12 (by decide))).trans ha12
      obtain ⟨ρ, hρ⟩ : ∃ ρ, a.eval = ρ := ⟨_, rfl⟩
      rw [hρ] at  e4 e5 e9 e10 e11 e12
      refine op_val ρ hρ (.int .i64 k) ?_ ⟨_, rfl, Old.refl _, rfl⟩
      clear g hF hd hρ HK un ha4 ha5 ha9 ha10 ha11 ha12 ca cb c1 c2 cx cy HEM
      go_simp
      all_goals (rw [IntKind.wrap_i64]; omega)
    · intro a W g hF hd
      have e4 := (hF.same 4 (un 4 (by decide))).trans ha4
      have e5 := (hF.same 5 (un 5 (by decide))).trans ha5
      have e9 := (hF.same 9 (un 9 (by decide))).trans ha9
      have e10 := (hF.same 10 (un 10 (by decide))).trans ha10
      have e11 := (hF.same 11 (un 11 (by decide))).trans ha11
      have e12 := (hF.same 12 (un 12 (by decide))).trans ha12
      have h10 := hd ⟨10, .data⟩ (by simp) rfl
      have h11 := hd ⟨11, .data⟩ (by simp) rfl
      simp only [qRgN, slotRgN, List.getD_cons_zero, List.getD_cons_succ] at h10 h11
      obtain ⟨ρ, hρ⟩ : ∃ ρ, a.eval = ρ := ⟨_, rfl⟩
      rw [hρ] at h10 h11 e4 e5 e9 e10 e11 e12
      refine op_val ρ hρ (.pointer (some ⟨b2, o2 + k, none⟩)) ?_ ⟨_, rfl, Old.refl _, rfl⟩
      clear g hF hd hρ HK un ha4 ha5 ha9 ha10 ha11 ha12 ca cb c1 c2 cx cy HEM
      go_simp
      all_goals (rw [IntKind.wrap_i64]; omega)
    · intro a W g hF hd
      have e4 := (hF.same 4 (un 4 (by decide))).trans ha4
      have e5 := (hF.same 5 (un 5 (by decide))).trans ha5
      have e9 := (hF.same 9 (un 9 (by decide))).trans ha9
      have e10 := (hF.same 10 (un 10 (by decide))).trans ha10
      have e11 := (hF.same 11 (un 11 (by decide))).trans ha11
      have e12 := (hF.same 12 (un 12 (by decide))).trans ha12
      have h12 := hd ⟨12, .data⟩ (by simp) rfl
      simp only [qRgN, slotRgN, List.getD_cons_zero, List.getD_cons_succ] at h12
      have kc2 := (g.cell (p := ⟨b2, o2 + k, none⟩) hb2).trans c2
      obtain ⟨ρ, hρ⟩ : ∃ ρ, a.eval = ρ := ⟨_, rfl⟩
      rw [hρ] at h12 e4 e5 e9 e10 e11 e12
      refine op_val ρ hρ (.slice (some ⟨b4, o4, none⟩) n y4) ?_ ⟨_, rfl, Old.refl _, rfl⟩
      clear g hF hd hρ HK un ha4 ha5 ha9 ha10 ha11 ha12 ca cb c1 c2 cx cy HEM
      go_simp
      all_goals (rw [IntKind.wrap_i64]; omega)
    · intro a W g hF hd
      have e4 := (hF.same 4 (un 4 (by decide))).trans ha4
      have e5 := (hF.same 5 (un 5 (by decide))).trans ha5
      have e9 := (hF.same 9 (un 9 (by decide))).trans ha9
      have e10 := (hF.same 10 (un 10 (by decide))).trans ha10
      have e11 := (hF.same 11 (un 11 (by decide))).trans ha11
      have e12 := (hF.same 12 (un 12 (by decide))).trans ha12
      obtain ⟨ρ, hρ⟩ : ∃ ρ, a.eval = ρ := ⟨_, rfl⟩
      rw [hρ] at  e4 e5 e9 e10 e11 e12
      refine op_val ρ hρ (.int .i64 j) ?_ ⟨_, rfl, Old.refl _, rfl⟩
      clear g hF hd hρ HK un ha4 ha5 ha9 ha10 ha11 ha12 ca cb c1 c2 cx cy HEM
      go_simp
      all_goals (rw [IntKind.wrap_i64]; omega)
    · intro a W g hF hd
      have e4 := (hF.same 4 (un 4 (by decide))).trans ha4
      have e5 := (hF.same 5 (un 5 (by decide))).trans ha5
      have e9 := (hF.same 9 (un 9 (by decide))).trans ha9
      have e10 := (hF.same 10 (un 10 (by decide))).trans ha10
      have e11 := (hF.same 11 (un 11 (by decide))).trans ha11
      have e12 := (hF.same 12 (un 12 (by decide))).trans ha12
      have h13 := hd ⟨13, .data⟩ (by simp) rfl
      have h14 := hd ⟨14, .data⟩ (by simp) rfl
      simp only [qRgN, slotRgN, List.getD_cons_zero, List.getD_cons_succ] at h13 h14
      obtain ⟨ρ, hρ⟩ : ∃ ρ, a.eval = ρ := ⟨_, rfl⟩
      rw [hρ] at h13 h14 e4 e5 e9 e10 e11 e12
      refine op_val ρ hρ (.pointer (some ⟨b4, o4 + j, none⟩)) ?_ ⟨_, rfl, Old.refl _, rfl⟩
      clear g hF hd hρ HK un ha4 ha5 ha9 ha10 ha11 ha12 ca cb c1 c2 cx cy HEM
      go_simp
      all_goals (rw [IntKind.wrap_i64]; omega)
    · intro a W g hF hd
      have e4 := (hF.same 4 (un 4 (by decide))).trans ha4
      have e5 := (hF.same 5 (un 5 (by decide))).trans ha5
      have e9 := (hF.same 9 (un 9 (by decide))).trans ha9
      have e10 := (hF.same 10 (un 10 (by decide))).trans ha10
      have e11 := (hF.same 11 (un 11 (by decide))).trans ha11
      have e12 := (hF.same 12 (un 12 (by decide))).trans ha12
      have h15 := hd ⟨15, .data⟩ (by simp) rfl
      simp only [qRgN, slotRgN, List.getD_cons_zero, List.getD_cons_succ] at h15
      have kcy := (g.cell (p := ⟨b4, o4 + j, none⟩) hb4).trans cy
      obtain ⟨ρ, hρ⟩ : ∃ ρ, a.eval = ρ := ⟨_, rfl⟩
      rw [hρ] at h15 e4 e5 e9 e10 e11 e12
      refine op_val ρ hρ (.int .i64 y) ?_ ⟨_, rfl, Old.refl _, rfl⟩
      clear g hF hd hρ HK un ha4 ha5 ha9 ha10 ha11 ha12 ca cb c1 c2 cx cy HEM
      go_simp
      all_goals (rw [IntKind.wrap_i64]; omega)
    · intro a W g hF hd
      have e4 := (hF.same 4 (un 4 (by decide))).trans ha4
      have e5 := (hF.same 5 (un 5 (by decide))).trans ha5
      have e9 := (hF.same 9 (un 9 (by decide))).trans ha9
      have e10 := (hF.same 10 (un 10 (by decide))).trans ha10
      have e11 := (hF.same 11 (un 11 (by decide))).trans ha11
      have e12 := (hF.same 12 (un 12 (by decide))).trans ha12
      have h8 := hd ⟨8, .data⟩ (by simp) rfl
      have h16 := hd ⟨16, .data⟩ (by simp) rfl
      simp only [qRgN, slotRgN, List.getD_cons_zero, List.getD_cons_succ] at h8 h16
      obtain ⟨ρ, hρ⟩ : ∃ ρ, a.eval = ρ := ⟨_, rfl⟩
      rw [hρ] at h8 h16 e4 e5 e9 e10 e11 e12
      refine op_val ρ hρ (.int .i64 xm) ?_ ⟨_, rfl, Old.refl _, rfl⟩
      clear g hF hd hρ HK un ha4 ha5 ha9 ha10 ha11 ha12 ca cb c1 c2 cx cy HEM
      go_simp
      all_goals (rw [IntKind.wrap_i64]; omega)
    · intro a W g hF hd
      have e4 := (hF.same 4 (un 4 (by decide))).trans ha4
      have e5 := (hF.same 5 (un 5 (by decide))).trans ha5
      have e9 := (hF.same 9 (un 9 (by decide))).trans ha9
      have e10 := (hF.same 10 (un 10 (by decide))).trans ha10
      have e11 := (hF.same 11 (un 11 (by decide))).trans ha11
      have e12 := (hF.same 12 (un 12 (by decide))).trans ha12
      obtain ⟨ρ, hρ⟩ : ∃ ρ, a.eval = ρ := ⟨_, rfl⟩
      rw [hρ] at  e4 e5 e9 e10 e11 e12
      refine op_val ρ hρ (.int .i64 p) ?_ ⟨_, rfl, Old.refl _, rfl⟩
      clear g hF hd hρ HK un ha4 ha5 ha9 ha10 ha11 ha12 ca cb c1 c2 cx cy HEM
      go_simp
      all_goals (rw [IntKind.wrap_i64]; omega)
    · intro a W g hF hd
      have e4 := (hF.same 4 (un 4 (by decide))).trans ha4
      have e5 := (hF.same 5 (un 5 (by decide))).trans ha5
      have e9 := (hF.same 9 (un 9 (by decide))).trans ha9
      have e10 := (hF.same 10 (un 10 (by decide))).trans ha10
      have e11 := (hF.same 11 (un 11 (by decide))).trans ha11
      have e12 := (hF.same 12 (un 12 (by decide))).trans ha12
      have h17 := hd ⟨17, .data⟩ (by simp) rfl
      have h18 := hd ⟨18, .data⟩ (by simp) rfl
      simp only [qRgN, slotRgN, List.getD_cons_zero, List.getD_cons_succ] at h17 h18
      obtain ⟨ρ, hρ⟩ : ∃ ρ, a.eval = ρ := ⟨_, rfl⟩
      rw [hρ] at h17 h18 e4 e5 e9 e10 e11 e12
      refine op_val ρ hρ (.int .i64 q) ?_ ⟨_, rfl, Old.refl _, rfl⟩
      clear g hF hd hρ HK un ha4 ha5 ha9 ha10 ha11 ha12 ca cb c1 c2 cx cy HEM
      go_simp
      all_goals (rw [IntKind.wrap_i64]; omega)
    · intro a W g hF hd
      have h7 : a.eval (.tmp 66) = .int .i64 q := hd ⟨19, .data⟩ (by simp) rfl
      obtain ⟨ρ, hρ⟩ : ∃ ρ, a.eval = ρ := ⟨_, rfl⟩
      rw [hρ] at h7
      refine op_valW (W' := W.alloc (.cells #[.int .i64 q] 3)) ρ hρ (.slice (some ⟨W.heap.size, 0, none⟩) 1 1) ?_ ⟨_, rfl, (Old.refl W).alloc _, W.heap.size, rfl, cell_at _ _ _ _ _ rfl, by simp⟩
      clear g hF hd hρ HK un ha4 ha5 ha9 ha10 ha11 ha12 ca cb c1 c2 cx cy HEM
      go_simp
  · intro a W g hF hq
    have h0 : a.eval (.tmp 47) = .slice ra j rc := hq 0 (by decide)
    obtain ⟨gg, h8, hcell, hlt⟩ : ∃ gg, a.eval (.tmp 67) = .slice (some ⟨gg, 0, none⟩) 1 1 ∧ W.cell? ⟨gg, 0, none⟩ = some (.int .i64 q) ∧ gg < W.heap.size := hq 20 (by decide)
    obtain ⟨vs, ov, hem⟩ := HEM W g
    refine op_append_at _ _ 24 rfl base 3 i0 (.int .i64 0) 1 8 Tryd.underlying24 ii iz0 iz1 iz2 rfl (by decide) _ j vs h0 ov ⟨gg, 0, none⟩ 1 1 [.int .i64 q] h8 rfl ?_ (by simp [Value.oneCell']) (by unfold maxLen; omega) (by omega) (Nat.le_trans hbase g.size) ?_
    · intro j u hj
      match j, hj with
      | 0, hj =>
        have : Value.int .i64 q = u := by simpa using hj
        subst this
        exact hcell
      | j + 1, hj => simp at hj
    · intro v' w' o5 g5 x5 l5
      exact ⟨v', rfl, hem v' w' o5 g5⟩
  · intro a W v hv
    exact op_assign (by rw [show a.eval (.tmp 68) = v from hv]; exact ⟨rfl, rfl⟩)
  · intro a W hF hq
    have hp := fram_put hF (fun i j hi hj => slotRgN_inj i hi j hj)
    have hk := HK.out (fun i => a.eval (.tmp (slotRgN i))) W hq
    rw [← hp] at hk
    exact hk
end Go.Proofs.YtcgnndenmcmieaaDoor
/- Proved: the model's product of rows that are not ahead (l5Mul). -/
namespace Go.Proofs.YtcgnndenmcmieaaDoor
open Go.ChangeShapes Go.WideShapes Go.ChangeAt Go.RowKit
open M1
set_option linter.unusedVariables false
set_option linter.unusedSimpArgs false
set_option maxRecDepth 100000 in
set_option maxHeartbeats 8000000 in
theorem spec_l5Mul (N : Int) (ps : List Int) (xss yss zss : List (List Int)) (v u1 u2 : Value) (w : World) (hv : Row w v ps) (h1 : RowS w u1 xss) (h2 : RowS w u2 yss) (hps : 1 ≤ ps.length ∧ ps.length ≤ 6) (hx : xss.length = ps.length) (hy : yss.length = ps.length) (hzl : zss.length = ps.length)
    (KF : ∀ k, k < ps.length → ∀ W u t, Row W u (xss.getD k []) → Row W t (yss.getD k []) → Calls Tryd.prog 45 #[.agg #[.int .i64 (ps.getD k 0), .int .i64 N, .int .i64 0], u, t] W fun e w' => ∃ v', e = .returned v' ∧ Old W w' ∧ Own w' W.heap.size v' (zss.getD k [])) :
    Calls Tryd.prog 72 #[.agg #[.int .i64 N, v], u1, u2] w fun e w' => ∃ v', e = .returned v' ∧ Old w w' ∧ OwS zss w' w.heap.size w'.heap.size v' := by
  have HKF : Hid (∀ k, k < ps.length → ∀ W u t, Row W u (xss.getD k []) → Row W t (yss.getD k []) → Calls Tryd.prog 45 #[.agg #[.int .i64 (ps.getD k 0), .int .i64 N, .int .i64 0], u, t] W fun e w' => ∃ v', e = .returned v' ∧ Old W w' ∧ Own w' W.heap.size v' (zss.getD k [])) := KF
  clear KF
  obtain ⟨a0, cap0, ev⟩ := hv.slice
  obtain ⟨a1, cap1, e1⟩ := h1.slice
  obtain ⟨a2, cap2, e2⟩ := h2.slice
  rw [hx] at e1
  rw [hy] at e2
  subst ev e1 e2
  rcases hv with ⟨a, cap, e, e'⟩ | ⟨b, o, cap, e, hb, h0, hc⟩
  · subst e'
    simp at hps
  rcases h1 with ⟨a, cap, e, e'⟩ | ⟨b1, o1, cap, us1, e_1, hb1, h01, hc1⟩
  · subst e'
    simp at hx
    omega
  rcases h2 with ⟨a, cap, e, e'⟩ | ⟨b2, o2, cap, us2, e_2, hb2, h02, hc2⟩
  · subst e'
    simp at hy
    omega
  simp only [Value.slice.injEq, true_and] at e e_1 e_2
  obtain ⟨rfl, rfl⟩ := e
  obtain ⟨rfl, hq1, rfl⟩ := e_1
  obtain ⟨rfl, hq2, rfl⟩ := e_2
  have HC : Hid (∀ j, j < ps.length → w.cell? ⟨b, o + j, none⟩ = some (.int .i64 (ps.getD j 0))) := hc
  have HC1 : Hid (∀ j, j < ps.length → w.cell? ⟨b1, o1 + j, none⟩ = some (us1 j) ∧ Row w (us1 j) (xss.getD j [])) := fun j hj => hc1 j (by omega)
  have HC2 : Hid (∀ j, j < ps.length → w.cell? ⟨b2, o2 + j, none⟩ = some (us2 j) ∧ Row w (us2 j) (yss.getD j [])) := fun j hj => hc2 j (by omega)
  have HZ : Hid (∀ k, k < ps.length → zss.take (k + 1) = zss.take k ++ [zss.getD k []]) := fun k hk => take_succL _ _ (by omega)
  have HZL : Hid (zss.length = ps.length) := hzl
  obtain ⟨wB, hwB⟩ : ∃ wB, wB = w.alloc (.cells #[.int .i64 N, .slice (some ⟨b, o, none⟩) ps.length cap0] 49) := ⟨_, rfl⟩
  have HAO : Hid (Old w wB) := by rw [hwB]; exact (Old.refl w).alloc _
  have hq0 : wB.cell? ⟨w.heap.size, 0, none⟩ = some (.int .i64 N) := by rw [hwB]; exact cell_at _ _ _ _ _ rfl
  have hq1' : wB.cell? ⟨w.heap.size, 1, none⟩ = some (.slice (some ⟨b, o, none⟩) ps.length cap0) := by rw [hwB]; exact cell_at _ _ _ _ _ rfl
  have hqs : w.heap.size < wB.heap.size := by rw [hwB]; simp
  clear hc hc1 hc2 hzl hq1 hq2 h0 h01 h02 hx hy
  go_enter Tryd.func72, Tryd.ntmps72
  go_wp2_with fail
  rw [← hwB]
  clear hwB
  go_loopw [7, 13] (fun x i W => ∃ (k : Nat) (a : Option Addr) (cap : Nat), k ≤ ps.length ∧ i = .int .i64 k ∧ x = .slice a k cap ∧ Hid (OwS (zss.take k) W wB.heap.size W.heap.size (.slice a k cap)) ∧ Hid (Old wB W)) (fun _ i _ => ps.length - (intOf i).toNat)
  case atStart => exact ⟨0, none, 0, by omega, rfl, rfl, ⟨Nat.le_refl _, Or.inl ⟨rfl, by simp⟩⟩, Old.refl _⟩
  case round =>
    obtain ⟨k, a, cap, hk, rfl, rfl, HO, HG⟩ := hrel
    have hsr := HG.out.size
    by_cases hlt : k < ps.length
    · have d1 : decide ((k : Int) < (ps.length : Int)) = true := by simp; omega
      have hkL : (k : Int) < (ps.length : Int) := by omega
      have HGW : Hid (Old w wr) := Old.trans HAO.out HG.out
      have c0 : wr.cell? ⟨b, o + k, none⟩ = some (.int .i64 (ps.getD k 0)) := (HGW.out.cell (p := ⟨b, o + k, none⟩) hb).trans (HC.out k hlt)
      obtain ⟨p1, p2⟩ := HC1.out k hlt
      obtain ⟨xa, ya, f1⟩ := p2.slice
      rw [f1] at p1 p2
      obtain ⟨p3, p4⟩ := HC2.out k hlt
      obtain ⟨xb, yb, f2⟩ := p4.slice
      rw [f2] at p3 p4
      have c1 : wr.cell? ⟨b1, o1 + k, none⟩ = some (.slice xa (xss.getD k []).length ya) := (HGW.out.cell (p := ⟨b1, o1 + k, none⟩) hb1).trans p1
      have c2 : wr.cell? ⟨b2, o2 + k, none⟩ = some (.slice xb (yss.getD k []).length yb) := (HGW.out.cell (p := ⟨b2, o2 + k, none⟩) hb2).trans p3
      have R1 : Hid (Row wr (.slice xa (xss.getD k []).length ya) (xss.getD k [])) := p2.old HGW.out
      have R2 : Hid (Row wr (.slice xb (yss.getD k []).length yb) (yss.getD k [])) := p4.old HGW.out
      have n0 := (HG.out.cell (p := ⟨w.heap.size, 0, none⟩) hqs).trans hq0
      have HZK : Hid (zss.take (k + 1) = zss.take k ++ [zss.getD k []]) := HZ.out k hlt
      have KFk := HKF.out k hlt
      clear p1 p2 p3 p4 f1 f2
      generalize zss.getD k [] = zs at *
      generalize xss.getD k [] = xs at *
      generalize yss.getD k [] = ys at *
      generalize ps.getD k 0 = p at *
      have HEMB : Hid (∀ (W : World) (ra : Option Addr) (rc : Nat), Old wr W → Own W wr.heap.size (.slice ra zs.length rc) zs → zs.length ≤ rc → ∃ vs, W.ownsRow wB.heap.size 24 1 (.slice a k cap) k vs ∧ (∀ v' w', w'.ownsRow wB.heap.size 24 1 v' (k + 1) (vs ++ [.slice ra zs.length rc]) → W.grownBy w' (Value.slice a k cap).ownBlock → (v'.ownBlock = (Value.slice a k cap).ownBlock ∨ v'.ownBlock = some W.heap.size) → OwS (zss.take (k + 1)) w' wB.heap.size w'.heap.size v' ∧ Below (wB.heap.size) wr w')) := fun W ra rc g o hc => by
        have hl : (zss.take k).length = k := by rw [List.length_take]; have := HZL.out; omega
        have := OwS.app HO.out hsr g o hc
        rw [hl] at this
        rw [HZK.out]
        obtain ⟨vs, t1, t2⟩ := this
        refine ⟨vs, t1, fun v' w' q1 q2 q3 => ⟨t2 v' w' q1 q2 q3, ?_⟩⟩
        refine Below.grown (g.mono hsr) q2 (Nat.le_trans hsr g.size) (fun p hp => ?_)
        obtain ⟨hh, ⟨e, e2⟩ | ⟨p', cap', vs, e, hcap, hl, hhi, _⟩⟩ := HO.out
        · rw [e] at hp
          cases hp
        · rw [e] at hp
          simp only [Value.ownBlock, Option.some.injEq] at hp
          omega
      go_wp2_with fail
      refine reg_RgM wr w.heap.size b1 o1 b2 o2 ps.length cap1 cap2 k a cap p N xa xb xs.length ya ys.length yb zs wB.heap.size hsr (fun W v => OwS (zss.take (k + 1)) W wB.heap.size W.heap.size v ∧ Old wB W) n0 c1 c2 hlt (by omega) (by omega) hkL (fun W g => KFk W _ _ (R1.out.old g) (R2.out.old g)) (fun W ra rc g o hc => by
        obtain ⟨vs, t1, t2⟩ := HEMB.out W ra rc g o hc
        exact ⟨vs, t1, fun v' w' q1 q2 q3 => ⟨(t2 v' w' q1 q2 q3).1, Below.trans HG.out (t2 v' w' q1 q2 q3).2⟩⟩) _ _ ?_ ?_ ?_ ?_ ?_ ?_ ?_ ?_
      iterate 7 (· exact rfl)
      intro us W' hfin
      obtain ⟨O5, G5⟩ := hfin
      have HO5 : Hid (OwS (zss.take (k + 1)) W' wB.heap.size W'.heap.size (us 16)) := O5
      have HG5 : Hid (Old wB W') := G5
      clear O5 G5 c0 c1 c2 n0 KFk HEMB
      simp only [putAll, Act.put, slotRgM, List.range, List.range.loop, List.map_cons, List.map_nil, List.getD_cons_zero, List.getD_cons_succ, List.setIfInBounds_toArray, List.set_cons_succ, List.set_cons_zero]
      have hl1 : (zss.take (k + 1)).length = k + 1 := by rw [List.length_take]; have := HZL.out; omega
      obtain ⟨a5, cap5, e5⟩ := HO5.out.slice
      rw [hl1] at e5
      rw [e5] at HO5
      generalize us 16 = u10 at *
      subst e5
      go_wp2_with fail
      exact ⟨⟨k + 1, _, _, by omega, by go_num, rfl, HO5, HG5⟩, by simp [intOf]; omega⟩
    · have d1 : decide ((k : Int) < (ps.length : Int)) = false := by simp; omega
      obtain rfl : k = ps.length := by omega
      have HF : Hid (OwS zss wr wB.heap.size wr.heap.size (.slice a ps.length cap)) := by
        have := HO.out
        rw [List.take_of_length_le (by have := HZL.out; omega)] at this
        exact this
      go_wp2_with fail
      go_ret
      exact ⟨_, rfl, Old.trans HAO.out HG.out, HF.out.low HAO.out.size⟩
end Go.Proofs.YtcgnndenmcmieaaDoor
/- Proved: the model's MulRows. -/
namespace Go.Proofs.YtcgnndenmcmieaaDoor
open Go.ChangeShapes Go.WideShapes Go.ChangeAt Go.RowKit
open M1
set_option linter.unusedVariables false
set_option linter.unusedSimpArgs false
set_option maxRecDepth 100000 in
set_option maxHeartbeats 8000000 in
theorem spec_MulRows_no (N : Int) (ps : List Int) (a b : Bool) (xss yss : List (List Int)) (v u1 u2 : Value) (w : World) (hv : Row w v ps) (hf : Fit v) (h1 : RowS w u1 xss) (h2 : RowS w u2 yss) (hlp : ps.length ≤ 1048576) (hx : ∀ x ∈ ps, -9223372036854775808 ≤ x ∧ x ≤ 9223372036854775807) (hl1 : xss.length ≤ 1048576) (hr1 : ∀ r ∈ xss, r.length ≤ 1048576) (hl2 : yss.length ≤ 1048576) (hr2 : ∀ r ∈ yss, r.length ≤ 1048576) (hno : twoB N ps a b xss yss = false) :
    Calls Tryd.prog 34 #[.agg #[.int .i64 N, v], .agg #[.bool a, u1], .agg #[.bool b, u2]] w (Rs w false [] false) := by
  have c1 := fun W (h : Old w W) => spec_l5Two N ps a b xss yss v u1 u2 W (hv.old h) hf (h1.old h) (h2.old h) hlp hx hl1 hr1 hl2 hr2
  rw [hno] at c1
  obtain ⟨a0, cap0, ev⟩ := hv.slice
  obtain ⟨a1, cap1, e1⟩ := h1.slice
  obtain ⟨a2, cap2, e2⟩ := h2.slice
  subst ev e1 e2
  have HA : Hid (Old w ((((w.alloc (.cells #[.int .i64 N, .slice a0 ps.length cap0] 49)).alloc (.cells #[.bool a, .slice a1 xss.length cap1] 46)).alloc (.cells #[.bool b, .slice a2 yss.length cap2] 46)).alloc (.cells #[.bool false, .slice none 0 0] 46))) := ((((Old.refl w).alloc _).alloc _).alloc _).alloc _
  have HS : Hid (StW ((((w.alloc (.cells #[.int .i64 N, .slice a0 ps.length cap0] 49)).alloc (.cells #[.bool a, .slice a1 xss.length cap1] 46)).alloc (.cells #[.bool b, .slice a2 yss.length cap2] 46)).alloc (.cells #[.bool false, .slice none 0 0] 46)) (w.heap.size + 1 + 1 + 1) (.bool false) (.slice none 0 0) 46) := by
    have := StW.new (((w.alloc (.cells #[.int .i64 N, .slice a0 ps.length cap0] 49)).alloc (.cells #[.bool a, .slice a1 xss.length cap1] 46)).alloc (.cells #[.bool b, .slice a2 yss.length cap2] 46)) (.bool false) (.slice none 0 0) 46
    simp at this
    exact this
  have HAS : Hid (∀ W', Old ((((w.alloc (.cells #[.int .i64 N, .slice a0 ps.length cap0] 49)).alloc (.cells #[.bool a, .slice a1 xss.length cap1] 46)).alloc (.cells #[.bool b, .slice a2 yss.length cap2] 46)).alloc (.cells #[.bool false, .slice none 0 0] 46)) W' → (W'.cell? ⟨w.heap.size, 0, none⟩ = some (.int .i64 N) ∧ W'.cell? ⟨w.heap.size, 1, none⟩ = some (.slice a0 ps.length cap0) ∧ W'.cell? ⟨w.heap.size + 1, 0, none⟩ = some (.bool a) ∧ W'.cell? ⟨w.heap.size + 1, 1, none⟩ = some (.slice a1 xss.length cap1) ∧ W'.cell? ⟨w.heap.size + 1 + 1, 0, none⟩ = some (.bool b) ∧ W'.cell? ⟨w.heap.size + 1 + 1, 1, none⟩ = some (.slice a2 yss.length cap2))) := fun W' g => by
    have g' := Old.trans ((Old.refl _).alloc _) g
    exact ⟨((StW.at31 w _ _ _ _ _ _ _ _ _).old g').c0, ((StW.at31 w _ _ _ _ _ _ _ _ _).old g').c1, ((StW.at32 w _ _ _ _ _ _ _ _ _).old g').c0, ((StW.at32 w _ _ _ _ _ _ _ _ _).old g').c1, ((StW.at33 w _ _ _ _ _ _ _ _ _).old g').c0, ((StW.at33 w _ _ _ _ _ _ _ _ _).old g').c1⟩
  clear hv h1 h2 hf hx hr1 hr2
  go_enter Tryd.func34, Tryd.ntmps34
  go_wp2_with fail
  refine (c1 _ HA.out).mono ?_
  rintro e w1 ⟨rfl, g1⟩
  have HG1 : Hid (Old w w1) := Old.trans HA.out g1
  have S1 : Hid (StW w1 (w.heap.size + 1 + 1 + 1) (.bool false) (.slice none 0 0) 46) := HS.out.old g1
  have q0 := S1.out.c0
  have q1 := S1.out.c1
  have f0 := S1.out.f0
  have f1 := S1.out.f1
  clear g1
  go_wp2_with fail
  have hs : w.heap.size + 1 + 1 + 1 < w1.heap.size := S1.out.lt
  refine bodyPost_ret (ret_rb (x := .bool false) (y := .slice none 0 0) (z := .bool false) Tryd.results34 _ _ rfl rfl (st_put2 S1.out _ _)) rfl ⟨_, rfl, ?_, XR.nil _ _ _ _ (Nat.le_refl _)⟩
  exact (HG1.out.own (p := ⟨w.heap.size + 1 + 1 + 1, 0, none⟩) (by simp; omega) _).own (p := ⟨w.heap.size + 1 + 1 + 1, 1, none⟩) (by simp; omega) _
set_option maxRecDepth 100000 in
set_option maxHeartbeats 8000000 in
theorem spec_MulRows_back (N : Int) (ps : List Int) (a b : Bool) (xss yss : List (List Int)) (v u1 u2 : Value) (w : World) (hv : Row w v ps) (hf : Fit v) (h1 : RowS w u1 xss) (h2 : RowS w u2 yss) (hlp : ps.length ≤ 1048576) (hx : ∀ x ∈ ps, -9223372036854775808 ≤ x ∧ x ≤ 9223372036854775807) (hl1 : xss.length ≤ 1048576) (hr1 : ∀ r ∈ xss, r.length ≤ 1048576) (hl2 : yss.length ≤ 1048576) (hr2 : ∀ r ∈ yss, r.length ≤ 1048576) (hyes : twoB N ps a b xss yss = true) (ha : a = false) (zss : List (List Int))
    (c4 : ∀ W, Old w W → Calls Tryd.prog 72 #[.agg #[.int .i64 N, v], u1, u2] W fun e w' => ∃ v', e = .returned v' ∧ Old W w' ∧ OwS zss w' W.heap.size w'.heap.size v') :
    Calls Tryd.prog 34 #[.agg #[.int .i64 N, v], .agg #[.bool a, u1], .agg #[.bool b, u2]] w (Rs w a zss true) := by
  have c1 := fun W (h : Old w W) => spec_l5Two N ps a b xss yss v u1 u2 W (hv.old h) hf (h1.old h) (h2.old h) hlp hx hl1 hr1 hl2 hr2
  rw [hyes] at c1
  obtain ⟨a0, cap0, ev⟩ := hv.slice
  obtain ⟨a1, cap1, e1⟩ := h1.slice
  obtain ⟨a2, cap2, e2⟩ := h2.slice
  subst ev e1 e2
  have HA : Hid (Old w ((((w.alloc (.cells #[.int .i64 N, .slice a0 ps.length cap0] 49)).alloc (.cells #[.bool a, .slice a1 xss.length cap1] 46)).alloc (.cells #[.bool b, .slice a2 yss.length cap2] 46)).alloc (.cells #[.bool false, .slice none 0 0] 46))) := ((((Old.refl w).alloc _).alloc _).alloc _).alloc _
  have HS : Hid (StW ((((w.alloc (.cells #[.int .i64 N, .slice a0 ps.length cap0] 49)).alloc (.cells #[.bool a, .slice a1 xss.length cap1] 46)).alloc (.cells #[.bool b, .slice a2 yss.length cap2] 46)).alloc (.cells #[.bool false, .slice none 0 0] 46)) (w.heap.size + 1 + 1 + 1) (.bool false) (.slice none 0 0) 46) := by
    have := StW.new (((w.alloc (.cells #[.int .i64 N, .slice a0 ps.length cap0] 49)).alloc (.cells #[.bool a, .slice a1 xss.length cap1] 46)).alloc (.cells #[.bool b, .slice a2 yss.length cap2] 46)) (.bool false) (.slice none 0 0) 46
    simp at this
    exact this
  have HAS : Hid (∀ W', Old ((((w.alloc (.cells #[.int .i64 N, .slice a0 ps.length cap0] 49)).alloc (.cells #[.bool a, .slice a1 xss.length cap1] 46)).alloc (.cells #[.bool b, .slice a2 yss.length cap2] 46)).alloc (.cells #[.bool false, .slice none 0 0] 46)) W' → (W'.cell? ⟨w.heap.size, 0, none⟩ = some (.int .i64 N) ∧ W'.cell? ⟨w.heap.size, 1, none⟩ = some (.slice a0 ps.length cap0) ∧ W'.cell? ⟨w.heap.size + 1, 0, none⟩ = some (.bool a) ∧ W'.cell? ⟨w.heap.size + 1, 1, none⟩ = some (.slice a1 xss.length cap1) ∧ W'.cell? ⟨w.heap.size + 1 + 1, 0, none⟩ = some (.bool b) ∧ W'.cell? ⟨w.heap.size + 1 + 1, 1, none⟩ = some (.slice a2 yss.length cap2))) := fun W' g => by
    have g' := Old.trans ((Old.refl _).alloc _) g
    exact ⟨((StW.at31 w _ _ _ _ _ _ _ _ _).old g').c0, ((StW.at31 w _ _ _ _ _ _ _ _ _).old g').c1, ((StW.at32 w _ _ _ _ _ _ _ _ _).old g').c0, ((StW.at32 w _ _ _ _ _ _ _ _ _).old g').c1, ((StW.at33 w _ _ _ _ _ _ _ _ _).old g').c0, ((StW.at33 w _ _ _ _ _ _ _ _ _).old g').c1⟩
  clear hv h1 h2 hf hx hr1 hr2 hyes
  subst ha
  go_enter Tryd.func34, Tryd.ntmps34
  go_wp2_with fail
  refine (c1 _ HA.out).mono ?_
  rintro e w1 ⟨rfl, g1⟩
  have HG1 : Hid (Old w w1) := Old.trans HA.out g1
  have S1 : Hid (StW w1 (w.heap.size + 1 + 1 + 1) (.bool false) (.slice none 0 0) 46) := HS.out.old g1
  have hs : w.heap.size + 1 + 1 + 1 < w1.heap.size := S1.out.lt
  obtain ⟨x0, x1, x2, x3, x4, x5⟩ := HAS.out w1 g1
  clear g1
  go_wp2_with fail
  refine (c4 _ HG1.out).mono ?_
  rintro e w2 ⟨v2, rfl, g2, o2⟩
  obtain ⟨a5, cap5, rfl⟩ := o2.slice
  have HG2 : Hid (Old w w2) := Old.trans HG1.out g2
  have S2 : Hid (StW w2 (w.heap.size + 1 + 1 + 1) (.bool false) (.slice none 0 0) 46) := S1.out.old g2
  have OX : Hid (OwS zss w2 w1.heap.size w2.heap.size (.slice a5 zss.length cap5)) := o2
  have q0 := S2.out.c0
  have q1 := S2.out.c1
  have f0 := S2.out.f0
  have f1 := S2.out.f1
  clear g2 o2 x0 x1 x2 x3 x4 x5
  go_wp2_with fail
  refine bodyPost_ret (ret_rb Tryd.results34 _ _ rfl rfl (st_put2 S2.out _ _)) rfl ⟨_, rfl, ?_, a5, cap5, rfl, ?_⟩
  · exact (HG2.out.own (p := ⟨w.heap.size + 1 + 1 + 1, 0, none⟩) (by simp; omega) _).own (p := ⟨w.heap.size + 1 + 1 + 1, 1, none⟩) (by simp; omega) _
  · have h2 := (OX.out.put (k := w.heap.size + 1 + 1 + 1) (j := 0) (x := .bool false) (by omega)).put (k := w.heap.size + 1 + 1 + 1) (j := 1) (x := .slice a5 zss.length cap5) (by omega)
    have h3 := h2.low (lo' := w.heap.size) (by omega)
    exact h3.high (by simp) (Nat.le_refl _)
end Go.Proofs.YtcgnndenmcmieaaDoor
/- Proved: the model's MulRows of rows that are ahead. -/
namespace Go.Proofs.YtcgnndenmcmieaaDoor
open Go.ChangeShapes Go.WideShapes Go.ChangeAt Go.RowKit
open M1
set_option linter.unusedVariables false
set_option linter.unusedSimpArgs false
theorem st_put1 {w : World} {k : Nat} {x y : Value} {t : TypeId} (h : StW w k x y t) (y' : Value) : StW (w.setCell ⟨k, 1, none⟩ y') k x y' t := heap_setCell_same w k 1 _ _ y' h
set_option maxRecDepth 100000 in
set_option maxHeartbeats 8000000 in
theorem spec_MulRows_ahead (N : Int) (ps : List Int) (xss yss : List (List Int)) (v u1 u2 : Value) (w : World) (hv : Row w v ps) (hf : Fit v) (h1 : RowS w u1 xss) (h2 : RowS w u2 yss) (hlp : ps.length ≤ 1048576) (hxb : ∀ x ∈ ps, -9223372036854775808 ≤ x ∧ x ≤ 9223372036854775807) (hl1 : xss.length ≤ 1048576) (hr1 : ∀ r ∈ xss, r.length ≤ 1048576) (hl2 : yss.length ≤ 1048576) (hr2 : ∀ r ∈ yss, r.length ≤ 1048576) (hyes : twoB N ps true true xss yss = true) (zss : List (List Int)) (hps : 1 ≤ ps.length ∧ ps.length ≤ 6) (hx : xss.length = ps.length) (hy : yss.length = ps.length) (hzl : zss.length = ps.length)
    (hzt : ∀ k, k < ps.length → ((xss.getD k []).length ≤ 16 ∧ 1 ≤ (xss.getD k []).length) ∧ (yss.getD k []).length = (xss.getD k []).length ∧ (zss.getD k []).length = (xss.getD k []).length ∧ (2 ≤ ps.getD k 0 ∧ ps.getD k 0 ≤ 268435456) ∧ ∀ i, i < (xss.getD k []).length → (0 ≤ (xss.getD k []).getD i 0 ∧ (xss.getD k []).getD i 0 ≤ 268435456) ∧ (0 ≤ (yss.getD k []).getD i 0 ∧ (yss.getD k []).getD i 0 ≤ 268435456) ∧ (zss.getD k []).getD i 0 = (xss.getD k []).getD i 0 * (yss.getD k []).getD i 0 % ps.getD k 0) :
    Calls Tryd.prog 34 #[.agg #[.int .i64 N, v], .agg #[.bool true, u1], .agg #[.bool true, u2]] w (Rs w true zss true) := by
  obtain ⟨i0, hi, hz0, hz1, hz2⟩ := info_parts Tryd.infoInt
  obtain ⟨j0, ji, jz0, jz1, jz2⟩ := info_parts Tryd.infoInts
  have c1 := fun W (h : Old w W) => spec_l5Two N ps true true xss yss v u1 u2 W (hv.old h) hf (h1.old h) (h2.old h) hlp hxb hl1 hr1 hl2 hr2
  rw [hyes] at c1
  have HZT : Hid (∀ k, k < ps.length → ((xss.getD k []).length ≤ 16 ∧ 1 ≤ (xss.getD k []).length) ∧ (yss.getD k []).length = (xss.getD k []).length ∧ (zss.getD k []).length = (xss.getD k []).length ∧ (2 ≤ ps.getD k 0 ∧ ps.getD k 0 ≤ 268435456) ∧ ∀ i, i < (xss.getD k []).length → (0 ≤ (xss.getD k []).getD i 0 ∧ (xss.getD k []).getD i 0 ≤ 268435456) ∧ (0 ≤ (yss.getD k []).getD i 0 ∧ (yss.getD k []).getD i 0 ≤ 268435456) ∧ (zss.getD k []).getD i 0 = (xss.getD k []).getD i 0 * (yss.getD k []).getD i 0 % ps.getD k 0) := hzt
  clear hf hxb hr1 hr2 hyes hzt
  obtain ⟨a0, cap0, ev⟩ := hv.slice
  obtain ⟨a1, cap1, e1⟩ := h1.slice
  obtain ⟨a2, cap2, e2⟩ := h2.slice
  rw [hx] at e1
  rw [hy] at e2
  subst ev e1 e2
  rcases hv with ⟨a, cap, e, e'⟩ | ⟨b, o, cap, e, hb, h0, hc⟩
  · subst e'
    simp at hps
  rcases h1 with ⟨a, cap, e, e'⟩ | ⟨b1, o1, cap, us1, e_1, hb1, h01, hc1⟩
  · subst e'
    simp at hx
    omega
  rcases h2 with ⟨a, cap, e, e'⟩ | ⟨b2, o2, cap, us2, e_2, hb2, h02, hc2⟩
  · subst e'
    simp at hy
    omega
  simp only [Value.slice.injEq, true_and] at e e_1 e_2
  obtain ⟨rfl, rfl⟩ := e
  obtain ⟨rfl, hq1, rfl⟩ := e_1
  obtain ⟨rfl, hq2, rfl⟩ := e_2
  have HC : Hid (∀ j, j < ps.length → w.cell? ⟨b, o + j, none⟩ = some (.int .i64 (ps.getD j 0))) := hc
  have HC1 : Hid (∀ j, j < ps.length → w.cell? ⟨b1, o1 + j, none⟩ = some (us1 j) ∧ Row w (us1 j) (xss.getD j [])) := fun j hj => hc1 j (by omega)
  have HC2 : Hid (∀ j, j < ps.length → w.cell? ⟨b2, o2 + j, none⟩ = some (us2 j) ∧ Row w (us2 j) (yss.getD j [])) := fun j hj => hc2 j (by omega)
  have HZ : Hid (∀ k, k < ps.length → zss.take (k + 1) = zss.take k ++ [zss.getD k []]) := fun k hk => take_succL _ _ (by omega)
  have HZL : Hid (zss.length = ps.length) := hzl
  have HA : Hid (Old w ((((w.alloc (.cells #[.int .i64 N, .slice (some ⟨b, o, none⟩) ps.length cap0] 49)).alloc (.cells #[.bool true, .slice (some ⟨b1, o1, none⟩) ps.length cap1] 46)).alloc (.cells #[.bool true, .slice (some ⟨b2, o2, none⟩) ps.length cap2] 46)).alloc (.cells #[.bool false, .slice none 0 0] 46))) := ((((Old.refl w).alloc _).alloc _).alloc _).alloc _
  have HS : Hid (StW ((((w.alloc (.cells #[.int .i64 N, .slice (some ⟨b, o, none⟩) ps.length cap0] 49)).alloc (.cells #[.bool true, .slice (some ⟨b1, o1, none⟩) ps.length cap1] 46)).alloc (.cells #[.bool true, .slice (some ⟨b2, o2, none⟩) ps.length cap2] 46)).alloc (.cells #[.bool false, .slice none 0 0] 46)) (w.heap.size + 1 + 1 + 1) (.bool false) (.slice none 0 0) 46) := by
    have := StW.new (((w.alloc (.cells #[.int .i64 N, .slice (some ⟨b, o, none⟩) ps.length cap0] 49)).alloc (.cells #[.bool true, .slice (some ⟨b1, o1, none⟩) ps.length cap1] 46)).alloc (.cells #[.bool true, .slice (some ⟨b2, o2, none⟩) ps.length cap2] 46)) (.bool false) (.slice none 0 0) 46
    simp at this
    exact this
  have HAS : Hid (∀ W', Old ((((w.alloc (.cells #[.int .i64 N, .slice (some ⟨b, o, none⟩) ps.length cap0] 49)).alloc (.cells #[.bool true, .slice (some ⟨b1, o1, none⟩) ps.length cap1] 46)).alloc (.cells #[.bool true, .slice (some ⟨b2, o2, none⟩) ps.length cap2] 46)).alloc (.cells #[.bool false, .slice none 0 0] 46)) W' → (W'.cell? ⟨w.heap.size, 0, none⟩ = some (.int .i64 N) ∧ W'.cell? ⟨w.heap.size, 1, none⟩ = some (.slice (some ⟨b, o, none⟩) ps.length cap0) ∧ W'.cell? ⟨w.heap.size + 1, 0, none⟩ = some (.bool true) ∧ W'.cell? ⟨w.heap.size + 1, 1, none⟩ = some (.slice (some ⟨b1, o1, none⟩) ps.length cap1) ∧ W'.cell? ⟨w.heap.size + 1 + 1, 0, none⟩ = some (.bool true) ∧ W'.cell? ⟨w.heap.size + 1 + 1, 1, none⟩ = some (.slice (some ⟨b2, o2, none⟩) ps.length cap2))) := fun W' g => by
    have g' := Old.trans ((Old.refl _).alloc _) g
    exact ⟨((StW.at31 w _ _ _ _ _ _ _ _ _).old g').c0, ((StW.at31 w _ _ _ _ _ _ _ _ _).old g').c1, ((StW.at32 w _ _ _ _ _ _ _ _ _).old g').c0, ((StW.at32 w _ _ _ _ _ _ _ _ _).old g').c1, ((StW.at33 w _ _ _ _ _ _ _ _ _).old g').c0, ((StW.at33 w _ _ _ _ _ _ _ _ _).old g').c1⟩
  clear hc hc1 hc2 hzl hq1 hq2 h0 h01 h02 hx hy
  go_enter Tryd.func34, Tryd.ntmps34
  go_wp2_with fail
  refine (c1 _ HA.out).mono ?_
  rintro e w1 ⟨rfl, g1⟩
  have HG1 : Hid (Old w w1) := Old.trans HA.out g1
  have HGA : Hid (Old ((((w.alloc (.cells #[.int .i64 N, .slice (some ⟨b, o, none⟩) ps.length cap0] 49)).alloc (.cells #[.bool true, .slice (some ⟨b1, o1, none⟩) ps.length cap1] 46)).alloc (.cells #[.bool true, .slice (some ⟨b2, o2, none⟩) ps.length cap2] 46)).alloc (.cells #[.bool false, .slice none 0 0] 46)) w1) := g1
  have S1 : Hid (StW w1 (w.heap.size + 1 + 1 + 1) (.bool false) (.slice none 0 0) 46) := HS.out.old g1
  have hs : w.heap.size + 1 + 1 + 1 < w1.heap.size := S1.out.lt
  obtain ⟨x0, x1, x2, x3, x4, x5⟩ := HAS.out w1 g1
  obtain ⟨z0, z1, z2, z3, z4, z5⟩ := HAS.out (w1.alloc (.cells #[.bool true, .slice none 0 0] 46)) (g1.alloc _)
  clear g1
  go_wp2_with fail
  clear z0 z1 z2 z3 z4 z5 x0 x1 x2 x3 x4 x5
  go_loopw [33] (fun i W => ∃ (k : Nat) (a : Option Addr) (cap : Nat), k ≤ ps.length ∧ i = .int .i64 k ∧ Hid (StW W w1.heap.size (.bool true) (.slice a k cap) 46) ∧ Hid (OwS (zss.take k) W (w1.heap.size + 1) W.heap.size (.slice a k cap)) ∧ Hid (Old w1 W)) (fun i _ => ps.length - (intOf i).toNat)
  case atStart => exact ⟨0, none, 0, by omega, rfl, StW.new w1 _ _ _, ⟨(by simp), Or.inl ⟨rfl, by simp⟩⟩, (Old.refl w1).alloc _⟩
  case round =>
    obtain ⟨k, a, cap, hk, rfl, HSO, HO, HG⟩ := hrel
    have hob : w1.heap.size < wr.heap.size := HSO.out.lt
    have hsr : w1.heap.size + 1 ≤ wr.heap.size := by omega
    by_cases hlt : k < ps.length
    · have d1 : decide ((k : Int) < (ps.length : Int)) = true := by simp; omega
      have hkL : (k : Int) < (ps.length : Int) := by omega
      have HGW : Hid (Old w wr) := Old.trans HG1.out HG.out
      have c0 : wr.cell? ⟨b, o + k, none⟩ = some (.int .i64 (ps.getD k 0)) := (HGW.out.cell (p := ⟨b, o + k, none⟩) hb).trans (HC.out k hlt)
      obtain ⟨p1, p2⟩ := HC1.out k hlt
      obtain ⟨p3, p4⟩ := HC2.out k hlt
      obtain ⟨⟨t0, t0'⟩, t1, t2, t3, t4⟩ := HZT.out k hlt
      rcases p2 with ⟨xa, ya, e, e'⟩ | ⟨b3, o3, y3, e, hb3, h03, hc3⟩
      · rw [e'] at t0'
        simp at t0'
      rcases p4 with ⟨xa, ya, e4, e'⟩ | ⟨b4, o4, y4, e4, hb4, h04, hc4⟩
      · rw [e'] at t1
        rw [List.length_nil] at t1
        omega
      rw [e] at p1
      rw [e4, t1] at p3
      have c1 : wr.cell? ⟨b1, o1 + k, none⟩ = some (.slice (some ⟨b3, o3, none⟩) (xss.getD k []).length y3) := (HGW.out.cell (p := ⟨b1, o1 + k, none⟩) hb1).trans p1
      have c2 : wr.cell? ⟨b2, o2 + k, none⟩ = some (.slice (some ⟨b4, o4, none⟩) (xss.getD k []).length y4) := (HGW.out.cell (p := ⟨b2, o2 + k, none⟩) hb2).trans p3
      have HB1 : Hid (b1 < wr.heap.size ∧ b2 < wr.heap.size ∧ b3 < wr.heap.size ∧ b4 < wr.heap.size ∧ w.heap.size + 1 + 1 < wr.heap.size) := by
        have := HGW.out.size
        exact ⟨by omega, by omega, by omega, by omega, by omega⟩
      obtain ⟨x0, x1, x2, x3, x4, x5⟩ := HAS.out wr (Old.trans HGA.out HG.out)
      have HCX : Hid (∀ j, j < (xss.getD k []).length → wr.cell? ⟨b3, o3 + j, none⟩ = some (.int .i64 ((xss.getD k []).getD j 0))) := fun j hj => (HGW.out.cell (p := ⟨b3, o3 + j, none⟩) hb3).trans (hc3 j hj)
      have HCY : Hid (∀ j, j < (xss.getD k []).length → wr.cell? ⟨b4, o4 + j, none⟩ = some (.int .i64 ((yss.getD k []).getD j 0))) := fun j hj => (HGW.out.cell (p := ⟨b4, o4 + j, none⟩) hb4).trans (hc4 j (by omega))
      have HT : Hid (∀ i, i < (xss.getD k []).length → (0 ≤ (xss.getD k []).getD i 0 ∧ (xss.getD k []).getD i 0 ≤ 268435456) ∧ (0 ≤ (yss.getD k []).getD i 0 ∧ (yss.getD k []).getD i 0 ≤ 268435456) ∧ (zss.getD k []).take (i + 1) = (zss.getD k []).take i ++ [(xss.getD k []).getD i 0 * (yss.getD k []).getD i 0 % ps.getD k 0]) := fun i hi => by
        obtain ⟨q1, q2, q3⟩ := t4 i hi
        exact ⟨q1, q2, by rw [take_succI _ _ (by omega), q3]⟩
      have HZK : Hid (zss.take (k + 1) = zss.take k ++ [zss.getD k []]) := HZ.out k hlt
      clear p1 p3 e e4 hc3 hc4 h03 h04 t1 t4
      generalize zss.getD k [] = zs at *
      generalize xss.getD k [] = xs at *
      generalize yss.getD k [] = ys at *
      generalize ps.getD k 0 = p at *
      have HEMB : Hid (∀ (W : World) (ra : Option Addr) (rc : Nat), Old wr W → Own W wr.heap.size (.slice ra zs.length rc) zs → zs.length ≤ rc → ∃ vs, W.ownsRow (w1.heap.size + 1) 24 1 (.slice a k cap) k vs ∧ (∀ v' w', w'.ownsRow (w1.heap.size + 1) 24 1 v' (k + 1) (vs ++ [.slice ra zs.length rc]) → W.grownBy w' (Value.slice a k cap).ownBlock → (v'.ownBlock = (Value.slice a k cap).ownBlock ∨ v'.ownBlock = some W.heap.size) → OwS (zss.take (k + 1)) w' (w1.heap.size + 1) w'.heap.size v' ∧ Below ((w1.heap.size + 1)) wr w')) := fun W ra rc g o hc => by
        have hl : (zss.take k).length = k := by rw [List.length_take]; have := HZL.out; omega
        have := OwS.app HO.out hsr g o hc
        rw [hl] at this
        rw [HZK.out]
        obtain ⟨vs, t1, t2⟩ := this
        refine ⟨vs, t1, fun v' w' q1 q2 q3 => ⟨t2 v' w' q1 q2 q3, ?_⟩⟩
        refine Below.grown (g.mono hsr) q2 (Nat.le_trans hsr g.size) (fun p hp => ?_)
        obtain ⟨hh, ⟨e, e2⟩ | ⟨p', cap', vs, e, hcap, hl, hhi, _⟩⟩ := HO.out
        · rw [e] at hp
          cases hp
        · rw [e] at hp
          simp only [Value.ownBlock, Option.some.injEq] at hp
          omega
      have n1 := HSO.out.c1
      rename World => wq
      go_wp2_with fail
      go_loopw [11, 44] (fun x i W => ∃ (j : Nat) (ra : Option Addr) (rc : Nat), j ≤ xs.length ∧ i = .int .i64 j ∧ x = .slice ra j rc ∧ Hid (Own W wq.heap.size (.slice ra j rc) (zs.take j)) ∧ Hid (Old wq W)) (fun _ i _ => xs.length - (intOf i).toNat)
      case atStart => exact ⟨0, none, 0, by omega, rfl, rfl, (by exact own_nil _ _), Old.refl _⟩
      case round =>
        obtain ⟨j, ra, rc, hj, rfl, rfl, HO2, HG2⟩ := hrel
        have hs2 := HG2.out.size
        obtain ⟨l1, l2, l3, l4, l5⟩ := HB1.out
        by_cases hjl : j < xs.length
        · have d2 : decide ((j : Int) < (xs.length : Int)) = true := by simp; omega
          have hjn : (j : Int) < (xs.length : Int) := by omega
          obtain ⟨⟨bx1, bx2⟩, ⟨by1, by2⟩, HT2⟩ := HT.out j hjl
          have kx := (HG2.out.cell (p := ⟨b3, o3 + j, none⟩) l3).trans (HCX.out j hjl)
          have ky := (HG2.out.cell (p := ⟨b4, o4 + j, none⟩) l4).trans (HCY.out j hjl)
          have ka := (HG2.out.cell (p := ⟨w.heap.size + 1, 1, none⟩) (by show w.heap.size + 1 < _; omega)).trans x3
          have kb := (HG2.out.cell (p := ⟨w.heap.size + 1 + 1, 1, none⟩) l5).trans x5
          have k1 := (HG2.out.cell (p := ⟨b1, o1 + k, none⟩) l1).trans c1
          have k2 := (HG2.out.cell (p := ⟨b2, o2 + k, none⟩) l2).trans c2
          have htk : (zs.take j).length = j := by rw [List.length_take]; omega
          generalize xs.getD j 0 = x at *
          generalize ys.getD j 0 = y at *
          obtain ⟨xm, hxm⟩ : ∃ z, x * y = z := ⟨_, rfl⟩
          have bxm : 0 ≤ xm ∧ xm ≤ 72057594037927936 := by
            rw [← hxm]
            refine ⟨Int.mul_nonneg bx1 by1, ?_⟩
            have h1 := Int.mul_le_mul_of_nonneg_right bx2 by1
            have h2 := Int.mul_le_mul_of_nonneg_left by2 (show (0 : Int) ≤ 268435456 by omega)
            omega
          obtain ⟨q, hq⟩ : ∃ q, xm % p = q := ⟨_, rfl⟩
          have e4 : xm.tmod p = q := by rw [Int.tmod_eq_emod_of_nonneg bxm.1]; exact hq
          rw [hxm, hq] at HT2
          have HT3 : Hid (zs.take (j + 1) = zs.take j ++ [q]) := HT2
          clear HT2
          go_wp2_with fail
          refine reg_RgN wr (w.heap.size + 1) (w.heap.size + 1 + 1) b1 o1 b2 o2 b3 o3 b4 o4 ps.length cap1 cap2 xs.length y3 y4 k j ra rc p x y xm q wq.heap.size hs2 (fun W v => Own W wq.heap.size v (zs.take (j + 1)) ∧ Old wq W) ka kb k1 k2 kx ky hlt (by omega) hkL hjl t0 hjn hxm bxm (by omega) hq e4 (fun W g => by
            have h5 := HO2.out.old g
            unfold Own at h5
            rw [htk] at h5
            refine ⟨_, h5, fun v' w' o5 g5 => ⟨?_, Below.grown (Old.trans HG2.out g) g5 (Old.trans HG2.out g).size (fun i hi => (HO2.out.lt i hi).1)⟩⟩
            rw [HT3.out]
            exact Own.snoc (by rw [htk]; exact o5)) _ _ ?_ ?_ ?_ ?_ ?_ ?_ ?_ ?_
          iterate 7 (· exact rfl)
          intro us W' hfin
          obtain ⟨O5, G5⟩ := hfin
          have HO5 : Hid (Own W' wq.heap.size (us 22) (zs.take (j + 1))) := O5
          have HG5 : Hid (Old wq W') := G5
          clear O5 G5 ka kb k1 k2 kx ky
          simp only [putAll, Act.put, slotRgN, List.range, List.range.loop, List.map_cons, List.map_nil, List.getD_cons_zero, List.getD_cons_succ, List.setIfInBounds_toArray, List.set_cons_succ, List.set_cons_zero]
          have htk1 : (zs.take (j + 1)).length = j + 1 := by rw [List.length_take]; omega
          obtain ⟨a5, cap5, e5⟩ := (Own.row HO5.out).slice
          rw [htk1] at e5
          rw [e5] at HO5
          generalize us 22 = u22 at *
          subst e5
          go_wp2_with fail
          exact ⟨⟨j + 1, _, _, by omega, by go_num, rfl, HO5, HG5⟩, by simp [intOf]; omega⟩
        · have d2 : decide ((j : Int) < (xs.length : Int)) = false := by simp; omega
          obtain rfl : j = xs.length := by omega
          have own2 := HO2.out
          rw [List.take_of_length_le (by omega)] at own2
          have hrc : xs.length ≤ rc := by
            rcases own2.2 with ⟨e, hn⟩ | ⟨_, _, _, e, _, _, hn, _⟩
            · simp only [Value.slice.injEq] at e
              omega
            · simp only [Value.slice.injEq, true_and] at e
              omega
          rw [← t2] at own2 hrc
          obtain ⟨vs, ov, hem⟩ := HEMB.out (wr.alloc (.cells #[.slice ra zs.length rc] 24)) ra rc (HG2.out.alloc _) (own2.alloc _) hrc
          rw [t2] at ov hem
          have OV : Hid ((wr.alloc (.cells #[.slice ra xs.length rc] 24)).ownsRow (w1.heap.size + 1) 24 1 (.slice a k cap) k vs) := ov
          have HEM : Hid (∀ v' w', w'.ownsRow (w1.heap.size + 1) 24 1 v' (k + 1) (vs ++ [.slice ra xs.length rc]) → (wr.alloc (.cells #[.slice ra xs.length rc] 24)).grownBy w' (Value.slice a k cap).ownBlock → (v'.ownBlock = (Value.slice a k cap).ownBlock ∨ v'.ownBlock = some (wr.alloc (.cells #[.slice ra xs.length rc] 24)).heap.size) → OwS (zss.take (k + 1)) w' (w1.heap.size + 1) w'.heap.size v' ∧ Below (w1.heap.size + 1) wq w') := hem
          have n1' := (HSO.out.old HG2.out).c1
          clear own2 ov hem hrc HO2 n1
          have hl1 : (zss.take (k + 1)).length = k + 1 := by rw [List.length_take]; have := HZL.out; omega
          go_wp2_with (at_builtin; (refine wpList_append_own_at _ rfl _ _ 44 rfl (w1.heap.size + 1) 24 j0 (.slice none 0 0) 1 24 Tryd.underlying44 ji jz0 jz1 jz2 rfl (by decide) _ _ _ rfl OV.out ⟨wr.heap.size, 0, none⟩ 1 1 [.slice ra xs.length rc] rfl rfl (one_cell _ _ _) (one_sl _ _ _) (by unfold maxLen; omega) (by omega) (by simp; omega) ?_; intro v5 w5 o5 g5 x5 l5; have O5 : Hid (OwS (zss.take (k + 1)) w5 (w1.heap.size + 1) w5.heap.size v5 ∧ Below (w1.heap.size + 1) wq w5) := HEM.out v5 w5 o5 g5 l5; obtain ⟨a5, cap5, e5⟩ := O5.out.1.slice; rw [hl1] at e5; subst e5; have S5 : Hid (StW w5 w1.heap.size (.bool true) (.slice a k cap) 46) := (O5.out.2.block w1.heap.size (by omega)).trans HSO.out; have m1 := S5.out.c1; have m2 := S5.out.f1; clear o5 g5 x5 l5 n1'))
          have N1 : Hid (StW (w5.setCell ⟨w1.heap.size, 1, none⟩ (.slice a5 (k + 1) cap5)) w1.heap.size (.bool true) (.slice a5 (k + 1) cap5) 46) := st_put1 S5.out _
          have N2 : Hid (OwS (zss.take (k + 1)) (w5.setCell ⟨w1.heap.size, 1, none⟩ (.slice a5 (k + 1) cap5)) (w1.heap.size + 1) (w5.setCell ⟨w1.heap.size, 1, none⟩ (.slice a5 (k + 1) cap5)).heap.size (.slice a5 (k + 1) cap5)) := by
            have h5 := O5.out.1.put (k := w1.heap.size) (j := 1) (x := .slice a5 (k + 1) cap5) (by omega)
            exact h5.high (by simp) (by simp)
          have G5 : Old w1 w5 := Below.trans HG.out (O5.out.2.mono (by omega))
          have N3 : Hid (Old w1 (w5.setCell ⟨w1.heap.size, 1, none⟩ (.slice a5 (k + 1) cap5))) := G5.own (p := ⟨w1.heap.size, 1, none⟩) (Nat.le_refl _) _
          exact ⟨⟨k + 1, _, _, by omega, by go_num, N1, N2, N3⟩, by simp [intOf]; omega⟩
    · have d1 : decide ((k : Int) < (ps.length : Int)) = false := by simp; omega
      obtain rfl : k = ps.length := by omega
      have HF : Hid (OwS zss wr (w1.heap.size + 1) wr.heap.size (.slice a ps.length cap)) := by
        have := HO.out
        rw [List.take_of_length_le (by have := HZL.out; omega)] at this
        exact this
      have o0 := HSO.out.c0
      have o1' := HSO.out.c1
      have SF : Hid (StW wr (w.heap.size + 1 + 1 + 1) (.bool false) (.slice none 0 0) 46) := S1.out.old HG.out
      have q0 := SF.out.c0
      have q1 := SF.out.c1
      have f0 := SF.out.f0
      have f1 := SF.out.f1
      go_wp2_with fail
      refine bodyPost_ret (ret_rb Tryd.results34 _ _ rfl rfl (st_put2 SF.out _ _)) rfl ⟨_, rfl, ?_, a, cap, by rw [HZL.out], ?_⟩
      · exact ((Old.trans HG1.out HG.out).own (p := ⟨w.heap.size + 1 + 1 + 1, 0, none⟩) (by simp; omega) _).own (p := ⟨w.heap.size + 1 + 1 + 1, 1, none⟩) (by simp; omega) _
      · rw [HZL.out]
        have h2 := (HF.out.put (k := w.heap.size + 1 + 1 + 1) (j := 0) (x := .bool true) (by omega)).put (k := w.heap.size + 1 + 1 + 1) (j := 1) (x := .slice a ps.length cap) (by omega)
        have h3 := h2.low (lo' := w.heap.size) (by omega)
        exact h3.high (by simp) (Nat.le_refl _)
end Go.Proofs.YtcgnndenmcmieaaDoor
/- Proved: the program's product of two rows of a ring. -/
namespace Go.Proofs.YtcgnndenmcmieaaDoor
open Go.ChangeShapes Go.WideShapes Go.ChangeAt Go.RowKit
set_option linter.unusedVariables false
set_option linter.unusedSimpArgs false
set_option maxRecDepth 100000 in
set_option maxHeartbeats 4000000 in
theorem impl_times_true (p r : Int) (Nn : Nat) (n2 : Bool) (zs : List Int) (ua ub : Option Addr) (w : World) (KC : ∀ W, Old w W → Calls Tryd.prog 93 #[.agg #[.int .i64 p, .int .i64 Nn, .int .i64 r], .slice ua Nn Nn, .slice ub Nn Nn] W fun e w' => ∃ v', e = .returned v' ∧ Old W w' ∧ Own w' W.heap.size v' zs) (hz : zs.length = Nn) (h0 : 0 < Nn) :
    Calls Tryd.prog 75 #[.agg #[.int .i64 p, .int .i64 Nn, .int .i64 r, .bool true, .slice ua Nn Nn], .agg #[.int .i64 p, .int .i64 Nn, .int .i64 r, .bool n2, .slice ub Nn Nn]] w fun e w' => ∃ g cp, e = .returned (.slice (some ⟨g, 0, none⟩) Nn cp) ∧ Nn ≤ cp ∧ Old w w' ∧ Own w' w.heap.size (.slice (some ⟨g, 0, none⟩) Nn cp) zs := by
  obtain ⟨wB, hwB⟩ : ∃ wB, wB = (w.alloc (.cells #[.int .i64 p, .int .i64 Nn, .int .i64 r, .bool true, .slice ua Nn Nn] 105)).alloc (.cells #[.int .i64 p, .int .i64 Nn, .int .i64 r, .bool n2, .slice ub Nn Nn] 105) := ⟨_, rfl⟩
  have HWB : Hid (Old w wB) := by rw [hwB]; exact ((Old.refl w).alloc _).alloc _
  have kc := KC wB HWB.out
  clear KC
  go_enter Tryd.func75, Tryd.ntmps75
  go_wp2_with fail
  rw [← hwB]
  refine kc.mono ?_
  rintro e w2 ⟨v2, rfl, g2, o2⟩
  have HG2 : Hid (Old w w2) := Old.trans HWB.out g2
  obtain ⟨g, cp, e2, hcp⟩ := own_some o2 (by omega)
  rw [hz] at e2 hcp
  subst e2
  have HO2 : Hid (Own w2 w.heap.size (.slice (some ⟨g, 0, none⟩) Nn cp) zs) := o2.low HWB.out.size
  clear g2 o2
  go_wp2_with fail
  go_ret
  exact ⟨g, cp, rfl, hcp, HG2.out, HO2.out⟩
set_option maxRecDepth 100000 in
set_option maxHeartbeats 4000000 in
theorem impl_times_false (p r : Int) (Nn : Nat) (n2 : Bool) (zs : List Int) (ua ub : Option Addr) (w : World) (KC : ∀ W, Old w W → Calls Tryd.prog 48 #[.agg #[.int .i64 p, .int .i64 Nn, .int .i64 r], .slice ua Nn Nn, .slice ub Nn Nn] W fun e w' => ∃ v', e = .returned v' ∧ Old W w' ∧ Own w' W.heap.size v' zs) (hz : zs.length = Nn) (h0 : 0 < Nn) :
    Calls Tryd.prog 75 #[.agg #[.int .i64 p, .int .i64 Nn, .int .i64 r, .bool false, .slice ua Nn Nn], .agg #[.int .i64 p, .int .i64 Nn, .int .i64 r, .bool n2, .slice ub Nn Nn]] w fun e w' => ∃ g cp, e = .returned (.slice (some ⟨g, 0, none⟩) Nn cp) ∧ Nn ≤ cp ∧ Old w w' ∧ Own w' w.heap.size (.slice (some ⟨g, 0, none⟩) Nn cp) zs := by
  obtain ⟨wB, hwB⟩ : ∃ wB, wB = (w.alloc (.cells #[.int .i64 p, .int .i64 Nn, .int .i64 r, .bool false, .slice ua Nn Nn] 105)).alloc (.cells #[.int .i64 p, .int .i64 Nn, .int .i64 r, .bool n2, .slice ub Nn Nn] 105) := ⟨_, rfl⟩
  have HWB : Hid (Old w wB) := by rw [hwB]; exact ((Old.refl w).alloc _).alloc _
  have kc := KC wB HWB.out
  clear KC
  go_enter Tryd.func75, Tryd.ntmps75
  go_wp2_with fail
  rw [← hwB]
  refine kc.mono ?_
  rintro e w2 ⟨v2, rfl, g2, o2⟩
  have HG2 : Hid (Old w w2) := Old.trans HWB.out g2
  obtain ⟨g, cp, e2, hcp⟩ := own_some o2 (by omega)
  rw [hz] at e2 hcp
  subst e2
  have HO2 : Hid (Own w2 w.heap.size (.slice (some ⟨g, 0, none⟩) Nn cp) zs) := o2.low HWB.out.size
  clear g2 o2
  go_wp2_with fail
  go_ret
  exact ⟨g, cp, rfl, hcp, HG2.out, HO2.out⟩
end Go.Proofs.YtcgnndenmcmieaaDoor
/- Proved: the program's eachPair. -/
namespace Go.Proofs.YtcgnndenmcmieaaDoor
open Go.ChangeShapes Go.WideShapes Go.ChangeAt Go.RowKit
open M1
set_option linter.unusedVariables false
set_option linter.unusedSimpArgs false
set_option maxRecDepth 100000 in
set_option maxHeartbeats 4000000 in
theorem eachPair_times_no (N : Int) (ps : List Int) (a b : Bool) (xss yss : List (List Int)) (Rf : Nat → Int) (us1 us2 : Nat → Option Addr) (v : Value) (a1 a2 : Option Addr) (cap1 cap2 : Nat) (w : World) (hP : PrsW w) (hT : TabW w) (hv : Row w v ps)
    (c1 : ∀ W, PrsW W → TabW W → Old w W → Calls Tryd.prog 112 #[.agg #[.int .i64 N, v], .agg #[.bool a, .slice a1 xss.length cap1]] W fun e w' => Old W w' ∧ ((grB N ps xss = false ∧ e = .returned (.tuple #[.slice none 0 0, .bool false])) ∨ (grB N ps xss = true ∧ ∃ g, W.heap.size ≤ g ∧ e = .returned (.tuple #[.slice (some ⟨g, 0, none⟩) ps.length ps.length, .bool true]) ∧ RRs w' g N a ps Rf us1 ps.length)))
    (c2 : ∀ W, PrsW W → TabW W → Old w W → Calls Tryd.prog 112 #[.agg #[.int .i64 N, v], .agg #[.bool b, .slice a2 yss.length cap2]] W fun e w' => Old W w' ∧ ((grB N ps yss = false ∧ e = .returned (.tuple #[.slice none 0 0, .bool false])) ∨ (grB N ps yss = true ∧ ∃ g, W.heap.size ≤ g ∧ e = .returned (.tuple #[.slice (some ⟨g, 0, none⟩) ps.length ps.length, .bool true]) ∧ RRs w' g N b ps Rf us2 ps.length))) (hno : ¬ (grB N ps xss = true ∧ grB N ps yss = true ∧ a = b)) :
    Calls Tryd.prog 74 #[.agg #[.int .i64 N, v], .agg #[.bool a, .slice a1 xss.length cap1], .agg #[.bool b, .slice a2 yss.length cap2], .func (.func 75) #[] #[]] w (Rs w false [] false) := by
  have HP : Hid (PrsW w) := hP
  have HT : Hid (TabW w) := hT
  obtain ⟨a0, cap0, ev⟩ := hv.slice
  subst ev
  have HA : Hid (Old w ((((w.alloc (.cells #[.int .i64 N, .slice a0 ps.length cap0] 49)).alloc (.cells #[.bool a, .slice a1 xss.length cap1] 46)).alloc (.cells #[.bool b, .slice a2 yss.length cap2] 46)).alloc (.cells #[.bool false, .slice none 0 0] 46))) := ((((Old.refl w).alloc _).alloc _).alloc _).alloc _
  have HS : Hid (StW ((((w.alloc (.cells #[.int .i64 N, .slice a0 ps.length cap0] 49)).alloc (.cells #[.bool a, .slice a1 xss.length cap1] 46)).alloc (.cells #[.bool b, .slice a2 yss.length cap2] 46)).alloc (.cells #[.bool false, .slice none 0 0] 46)) (w.heap.size + 1 + 1 + 1) (.bool false) (.slice none 0 0) 46) := by
    have := StW.new (((w.alloc (.cells #[.int .i64 N, .slice a0 ps.length cap0] 49)).alloc (.cells #[.bool a, .slice a1 xss.length cap1] 46)).alloc (.cells #[.bool b, .slice a2 yss.length cap2] 46)) (.bool false) (.slice none 0 0) 46
    simp at this
    exact this
  have HAS : Hid (∀ W', Old ((((w.alloc (.cells #[.int .i64 N, .slice a0 ps.length cap0] 49)).alloc (.cells #[.bool a, .slice a1 xss.length cap1] 46)).alloc (.cells #[.bool b, .slice a2 yss.length cap2] 46)).alloc (.cells #[.bool false, .slice none 0 0] 46)) W' → (W'.cell? ⟨w.heap.size, 0, none⟩ = some (.int .i64 N) ∧ W'.cell? ⟨w.heap.size, 1, none⟩ = some (.slice a0 ps.length cap0) ∧ W'.cell? ⟨w.heap.size + 1, 0, none⟩ = some (.bool a) ∧ W'.cell? ⟨w.heap.size + 1, 1, none⟩ = some (.slice a1 xss.length cap1) ∧ W'.cell? ⟨w.heap.size + 1 + 1, 0, none⟩ = some (.bool b) ∧ W'.cell? ⟨w.heap.size + 1 + 1, 1, none⟩ = some (.slice a2 yss.length cap2))) := fun W' g => by
    have g' := Old.trans ((Old.refl _).alloc _) g
    exact ⟨((StW.at31 w _ _ _ _ _ _ _ _ _).old g').c0, ((StW.at31 w _ _ _ _ _ _ _ _ _).old g').c1, ((StW.at32 w _ _ _ _ _ _ _ _ _).old g').c0, ((StW.at32 w _ _ _ _ _ _ _ _ _).old g').c1, ((StW.at33 w _ _ _ _ _ _ _ _ _).old g').c0, ((StW.at33 w _ _ _ _ _ _ _ _ _).old g').c1⟩
  clear hv hP hT
  go_enter Tryd.func74, Tryd.ntmps74
  go_wp2_with fail
  refine (c1 _ (HP.out.old HA.out) (HT.out.old HA.out) HA.out).mono ?_
  rintro e w1 ⟨g1, hl⟩
  have HG1 : Hid (Old w w1) := Old.trans HA.out g1
  have G1 : Hid (Old ((((w.alloc (.cells #[.int .i64 N, .slice a0 ps.length cap0] 49)).alloc (.cells #[.bool a, .slice a1 xss.length cap1] 46)).alloc (.cells #[.bool b, .slice a2 yss.length cap2] 46)).alloc (.cells #[.bool false, .slice none 0 0] 46)) w1) := g1
  clear g1
  rcases hl with ⟨hB, rfl⟩ | ⟨hB, g, hg, rfl, hrr⟩
  · clear hno hB
    obtain ⟨z1, z2, z3, z4, z5, z6⟩ := HAS.out w1 G1.out
    go_wp2_with fail
    refine (c2 _ (HP.out.old HG1.out) (HT.out.old HG1.out) HG1.out).mono ?_
    rintro e w2 ⟨g2, hr⟩
    have HG2 : Hid (Old w w2) := Old.trans HG1.out g2
    have G2 : Hid (Old ((((w.alloc (.cells #[.int .i64 N, .slice a0 ps.length cap0] 49)).alloc (.cells #[.bool a, .slice a1 xss.length cap1] 46)).alloc (.cells #[.bool b, .slice a2 yss.length cap2] 46)).alloc (.cells #[.bool false, .slice none 0 0] 46)) w2) := Old.trans G1.out g2
    have S2 : Hid (StW w2 (w.heap.size + 1 + 1 + 1) (.bool false) (.slice none 0 0) 46) := HS.out.old G2.out
    clear g2 z1 z2 z3 z4 z5 z6
    obtain ⟨z1, z2, z3, z4, z5, z6⟩ := HAS.out w2 G2.out
    rcases hr with ⟨hB, rfl⟩ | ⟨hB, g, hg, rfl, hrr⟩
    · clear hB
      have q0 := S2.out.c0
      have q1 := S2.out.c1
      have f0 := S2.out.f0
      have f1 := S2.out.f1
      have hs : w.heap.size + 1 + 1 + 1 < w2.heap.size := S2.out.lt
      go_wp2_with fail
      refine bodyPost_ret (ret_rb (x := .bool false) (y := .slice none 0 0) (z := .bool false) Tryd.results74 _ _ rfl rfl (st_put2 S2.out _ _)) rfl ⟨_, rfl, ?_, XR.nil _ _ _ _ (Nat.le_refl _)⟩
      exact (HG2.out.own (p := ⟨w.heap.size + 1 + 1 + 1, 0, none⟩) (by simp; omega) _).own (p := ⟨w.heap.size + 1 + 1 + 1, 1, none⟩) (by simp; omega) _
    · clear hB hrr hg
      have q0 := S2.out.c0
      have q1 := S2.out.c1
      have f0 := S2.out.f0
      have f1 := S2.out.f1
      have hs : w.heap.size + 1 + 1 + 1 < w2.heap.size := S2.out.lt
      go_wp2_with fail
      refine bodyPost_ret (ret_rb (x := .bool false) (y := .slice none 0 0) (z := .bool false) Tryd.results74 _ _ rfl rfl (st_put2 S2.out _ _)) rfl ⟨_, rfl, ?_, XR.nil _ _ _ _ (Nat.le_refl _)⟩
      exact (HG2.out.own (p := ⟨w.heap.size + 1 + 1 + 1, 0, none⟩) (by simp; omega) _).own (p := ⟨w.heap.size + 1 + 1 + 1, 1, none⟩) (by simp; omega) _
  · clear hrr hg
    obtain ⟨z1, z2, z3, z4, z5, z6⟩ := HAS.out w1 G1.out
    go_wp2_with fail
    refine (c2 _ (HP.out.old HG1.out) (HT.out.old HG1.out) HG1.out).mono ?_
    rintro e w2 ⟨g2, hr⟩
    have HG2 : Hid (Old w w2) := Old.trans HG1.out g2
    have G2 : Hid (Old ((((w.alloc (.cells #[.int .i64 N, .slice a0 ps.length cap0] 49)).alloc (.cells #[.bool a, .slice a1 xss.length cap1] 46)).alloc (.cells #[.bool b, .slice a2 yss.length cap2] 46)).alloc (.cells #[.bool false, .slice none 0 0] 46)) w2) := Old.trans G1.out g2
    have S2 : Hid (StW w2 (w.heap.size + 1 + 1 + 1) (.bool false) (.slice none 0 0) 46) := HS.out.old G2.out
    clear g2 z1 z2 z3 z4 z5 z6
    obtain ⟨z1, z2, z3, z4, z5, z6⟩ := HAS.out w2 G2.out
    rcases hr with ⟨hB2, rfl⟩ | ⟨hB2, g', hg', rfl, hrr'⟩
    · clear hB hB2 hno
      have q0 := S2.out.c0
      have q1 := S2.out.c1
      have f0 := S2.out.f0
      have f1 := S2.out.f1
      have hs : w.heap.size + 1 + 1 + 1 < w2.heap.size := S2.out.lt
      go_wp2_with fail
      refine bodyPost_ret (ret_rb (x := .bool false) (y := .slice none 0 0) (z := .bool false) Tryd.results74 _ _ rfl rfl (st_put2 S2.out _ _)) rfl ⟨_, rfl, ?_, XR.nil _ _ _ _ (Nat.le_refl _)⟩
      exact (HG2.out.own (p := ⟨w.heap.size + 1 + 1 + 1, 0, none⟩) (by simp; omega) _).own (p := ⟨w.heap.size + 1 + 1 + 1, 1, none⟩) (by simp; omega) _
    · have dab : (!(a == b)) = true := by
        simp only [Bool.not_eq_true', beq_eq_false_iff_ne, ne_eq]
        exact fun e => hno ⟨hB, hB2, e⟩
      clear hB hB2 hno hrr' hg'
      have q0 := S2.out.c0
      have q1 := S2.out.c1
      have f0 := S2.out.f0
      have f1 := S2.out.f1
      have hs : w.heap.size + 1 + 1 + 1 < w2.heap.size := S2.out.lt
      go_wp2_with fail
      refine bodyPost_ret (ret_rb (x := .bool false) (y := .slice none 0 0) (z := .bool false) Tryd.results74 _ _ rfl rfl (st_put2 S2.out _ _)) rfl ⟨_, rfl, ?_, XR.nil _ _ _ _ (Nat.le_refl _)⟩
      exact (HG2.out.own (p := ⟨w.heap.size + 1 + 1 + 1, 0, none⟩) (by simp; omega) _).own (p := ⟨w.heap.size + 1 + 1 + 1, 1, none⟩) (by simp; omega) _
end Go.Proofs.YtcgnndenmcmieaaDoor
/- Proved: the program's eachPair where both rows are good. -/
namespace Go.Proofs.YtcgnndenmcmieaaDoor
open Go.ChangeShapes Go.WideShapes Go.ChangeAt Go.RowKit
open M1
set_option linter.unusedVariables false
set_option linter.unusedSimpArgs false
set_option maxRecDepth 100000 in
set_option maxHeartbeats 8000000 in
theorem eachPair_times_yes (Nn : Nat) (ps : List Int) (a b : Bool) (xss yss : List (List Int)) (Rf : Nat → Int) (us1 us2 : Nat → Option Addr) (v : Value) (a1 a2 : Option Addr) (cap1 cap2 : Nat) (w : World) (hP : PrsW w) (hT : TabW w) (hv : Row w v ps)
    (c1 : ∀ W, PrsW W → TabW W → Old w W → Calls Tryd.prog 112 #[.agg #[.int .i64 Nn, v], .agg #[.bool a, .slice a1 xss.length cap1]] W fun e w' => Old W w' ∧ ((grB Nn ps xss = false ∧ e = .returned (.tuple #[.slice none 0 0, .bool false])) ∨ (grB Nn ps xss = true ∧ ∃ g, W.heap.size ≤ g ∧ e = .returned (.tuple #[.slice (some ⟨g, 0, none⟩) ps.length ps.length, .bool true]) ∧ RRs w' g Nn a ps Rf us1 ps.length)))
    (c2 : ∀ W, PrsW W → TabW W → Old w W → Calls Tryd.prog 112 #[.agg #[.int .i64 Nn, v], .agg #[.bool b, .slice a2 yss.length cap2]] W fun e w' => Old W w' ∧ ((grB Nn ps yss = false ∧ e = .returned (.tuple #[.slice none 0 0, .bool false])) ∨ (grB Nn ps yss = true ∧ ∃ g, W.heap.size ≤ g ∧ e = .returned (.tuple #[.slice (some ⟨g, 0, none⟩) ps.length ps.length, .bool true]) ∧ RRs w' g Nn b ps Rf us2 ps.length))) (hx : grB Nn ps xss = true) (hy : grB Nn ps yss = true) (hab : a = b) (zss : List (List Int)) (hzl : zss.length = ps.length) (hps : ps.length ≤ 6)
    (cj : ∀ k, k < ps.length → (zss.getD k []).length = Nn ∧ ∀ W, Old w W → Calls Tryd.prog 75 #[.agg #[.int .i64 (ps.getD k 0), .int .i64 Nn, .int .i64 (Rf k), .bool a, .slice (us1 k) Nn Nn], .agg #[.int .i64 (ps.getD k 0), .int .i64 Nn, .int .i64 (Rf k), .bool b, .slice (us2 k) Nn Nn]] W fun e w' => ∃ g cp, e = .returned (.slice (some ⟨g, 0, none⟩) Nn cp) ∧ Nn ≤ cp ∧ Old W w' ∧ Own w' W.heap.size (.slice (some ⟨g, 0, none⟩) Nn cp) (zss.getD k [])) :
    Calls Tryd.prog 74 #[.agg #[.int .i64 Nn, v], .agg #[.bool a, .slice a1 xss.length cap1], .agg #[.bool b, .slice a2 yss.length cap2], .func (.func 75) #[] #[]] w (Rs w a zss true) := by
  obtain ⟨i0, hi, hz0, hz1, hz2⟩ := info_parts Tryd.infoInts
  have dab : (!(a == b)) = false := by simp [hab]
  have HZL : Hid (zss.length = ps.length) := hzl
  have HCJ : Hid (∀ k, k < ps.length → (zss.getD k []).length = Nn ∧ ∀ W, Old w W → Calls Tryd.prog 75 #[.agg #[.int .i64 (ps.getD k 0), .int .i64 Nn, .int .i64 (Rf k), .bool a, .slice (us1 k) Nn Nn], .agg #[.int .i64 (ps.getD k 0), .int .i64 Nn, .int .i64 (Rf k), .bool b, .slice (us2 k) Nn Nn]] W fun e w' => ∃ g cp, e = .returned (.slice (some ⟨g, 0, none⟩) Nn cp) ∧ Nn ≤ cp ∧ Old W w' ∧ Own w' W.heap.size (.slice (some ⟨g, 0, none⟩) Nn cp) (zss.getD k [])) := cj
  clear hzl cj hab
  have HP : Hid (PrsW w) := hP
  have HT : Hid (TabW w) := hT
  obtain ⟨a0, cap0, ev⟩ := hv.slice
  subst ev
  have HA : Hid (Old w ((((w.alloc (.cells #[.int .i64 Nn, .slice a0 ps.length cap0] 49)).alloc (.cells #[.bool a, .slice a1 xss.length cap1] 46)).alloc (.cells #[.bool b, .slice a2 yss.length cap2] 46)).alloc (.cells #[.bool false, .slice none 0 0] 46))) := ((((Old.refl w).alloc _).alloc _).alloc _).alloc _
  have HS : Hid (StW ((((w.alloc (.cells #[.int .i64 Nn, .slice a0 ps.length cap0] 49)).alloc (.cells #[.bool a, .slice a1 xss.length cap1] 46)).alloc (.cells #[.bool b, .slice a2 yss.length cap2] 46)).alloc (.cells #[.bool false, .slice none 0 0] 46)) (w.heap.size + 1 + 1 + 1) (.bool false) (.slice none 0 0) 46) := by
    have := StW.new (((w.alloc (.cells #[.int .i64 Nn, .slice a0 ps.length cap0] 49)).alloc (.cells #[.bool a, .slice a1 xss.length cap1] 46)).alloc (.cells #[.bool b, .slice a2 yss.length cap2] 46)) (.bool false) (.slice none 0 0) 46
    simp at this
    exact this
  have HAS : Hid (∀ W', Old ((((w.alloc (.cells #[.int .i64 Nn, .slice a0 ps.length cap0] 49)).alloc (.cells #[.bool a, .slice a1 xss.length cap1] 46)).alloc (.cells #[.bool b, .slice a2 yss.length cap2] 46)).alloc (.cells #[.bool false, .slice none 0 0] 46)) W' → (W'.cell? ⟨w.heap.size, 0, none⟩ = some (.int .i64 Nn) ∧ W'.cell? ⟨w.heap.size, 1, none⟩ = some (.slice a0 ps.length cap0) ∧ W'.cell? ⟨w.heap.size + 1, 0, none⟩ = some (.bool a) ∧ W'.cell? ⟨w.heap.size + 1, 1, none⟩ = some (.slice a1 xss.length cap1) ∧ W'.cell? ⟨w.heap.size + 1 + 1, 0, none⟩ = some (.bool b) ∧ W'.cell? ⟨w.heap.size + 1 + 1, 1, none⟩ = some (.slice a2 yss.length cap2))) := fun W' g => by
    have g' := Old.trans ((Old.refl _).alloc _) g
    exact ⟨((StW.at31 w _ _ _ _ _ _ _ _ _).old g').c0, ((StW.at31 w _ _ _ _ _ _ _ _ _).old g').c1, ((StW.at32 w _ _ _ _ _ _ _ _ _).old g').c0, ((StW.at32 w _ _ _ _ _ _ _ _ _).old g').c1, ((StW.at33 w _ _ _ _ _ _ _ _ _).old g').c0, ((StW.at33 w _ _ _ _ _ _ _ _ _).old g').c1⟩
  clear hv hP hT
  go_enter Tryd.func74, Tryd.ntmps74
  go_wp2_with fail
  refine (c1 _ (HP.out.old HA.out) (HT.out.old HA.out) HA.out).mono ?_
  rintro e w1 ⟨g1, hl⟩
  have HG1 : Hid (Old w w1) := Old.trans HA.out g1
  have G1 : Hid (Old ((((w.alloc (.cells #[.int .i64 Nn, .slice a0 ps.length cap0] 49)).alloc (.cells #[.bool a, .slice a1 xss.length cap1] 46)).alloc (.cells #[.bool b, .slice a2 yss.length cap2] 46)).alloc (.cells #[.bool false, .slice none 0 0] 46)) w1) := g1
  clear g1
  rcases hl with ⟨hB, rfl⟩ | ⟨hB, g, hg, rfl, hrr⟩
  · rw [hx] at hB
    cases hB
  · have HLA : Hid (RRs w1 g Nn a ps Rf us1 ps.length) := hrr
    clear hrr hg hB
    obtain ⟨z1, z2, z3, z4, z5, z6⟩ := HAS.out w1 G1.out
    go_wp2_with fail
    refine (c2 _ (HP.out.old HG1.out) (HT.out.old HG1.out) HG1.out).mono ?_
    rintro e w2 ⟨g2, hr⟩
    have HG2 : Hid (Old w w2) := Old.trans HG1.out g2
    have G2 : Hid (Old ((((w.alloc (.cells #[.int .i64 Nn, .slice a0 ps.length cap0] 49)).alloc (.cells #[.bool a, .slice a1 xss.length cap1] 46)).alloc (.cells #[.bool b, .slice a2 yss.length cap2] 46)).alloc (.cells #[.bool false, .slice none 0 0] 46)) w2) := Old.trans G1.out g2
    have S2 : Hid (StW w2 (w.heap.size + 1 + 1 + 1) (.bool false) (.slice none 0 0) 46) := HS.out.old G2.out
    have HG2w := g2
    clear z1 z2 z3 z4 z5 z6
    obtain ⟨z1, z2, z3, z4, z5, z6⟩ := HAS.out w2 G2.out
    rcases hr with ⟨hB, rfl⟩ | ⟨hB, g', hg', rfl, hrr⟩
    · rw [hy] at hB
      cases hB
    have HRA : Hid (RRs w2 g' Nn b ps Rf us2 ps.length) := hrr
    have HLB : Hid (RRs w2 g Nn a ps Rf us1 ps.length) := HLA.out.old (by have := HG2w; exact this)
    clear hrr hg' hB hx hy HLA HG2w
    go_wp2_with (at_make; refine wpList_make_full _ rfl _ _ 44 rfl w2.heap.size 24 i0 (.slice none 0 0) 1 Tryd.underlying44 hi hz0 hz1 .i64 .i64 _ _ ps.length rfl rfl rfl rfl (by rw [hz2]; omega) (by unfold maxLen; omega) (Nat.le_refl _) ?_; intro w3 hown hgrow)
    have hmade : (madeCells (Value.slice none 0 0).cells (ps.length * 1)).toList = List.replicate ps.length (Value.slice none 0 0) := by
      rw [Nat.mul_one]
      exact toList_madeCells_one (.slice none 0 0) ps.length
    rw [hmade] at hown
    have HM0 : Hid (MkS zss w3 w2.heap.size w2.heap.size 0) := MkS.start (by rw [HZL.out]; exact hown)
    have HG3 : Hid (Old w2 w3) := Below.grown (Below.refl _ _) hgrow (Nat.le_refl _) (fun _ h => by cases h)
    have hs3 : w2.heap.size < w3.heap.size := (hown.lt w2.heap.size rfl).2
    have hs2 : w.heap.size + 1 + 1 + 1 < w2.heap.size := S2.out.lt
    have HLT : Hid (g < w2.heap.size ∧ g' < w2.heap.size) := ⟨HLB.out.lt, HRA.out.lt⟩
    clear hown hgrow hmade z1 z2 z3 z4 z5 z6
    go_loopw [48] (fun i W => ∃ k : Nat, k ≤ ps.length ∧ i = .int .i64 k ∧ Hid (MkS zss W w2.heap.size w2.heap.size k) ∧ Hid (Old w2 W) ∧ w2.heap.size < W.heap.size) (fun i _ => ps.length - (intOf i).toNat)
    case atStart => exact ⟨0, by omega, rfl, HM0, HG3, hs3⟩
    case round =>
      obtain ⟨k, hk, rfl, HM, HG, hsr⟩ := hrel
      clear HM0 HG3 hs3
      by_cases hlt : k < ps.length
      · have d1 : decide ((k : Int) < (ps.length : Int)) = true := by simp; omega
        obtain ⟨jl, cj⟩ := HCJ.out k hlt
        obtain ⟨x0, x1, x2, x3, x4⟩ := (HLB.out.old HG.out).at k hlt hlt
        obtain ⟨y0, y1, y2, y3, y4⟩ := (HRA.out.old HG.out).at k hlt hlt
        rw [Int.toNat_natCast] at x4 y4
        have hkz : k < zss.length := by rw [HZL.out]; exact hlt
        have HGW : Hid (Old w wr) := Old.trans HG2.out HG.out
        have HJL : Hid ((zss.getD k []).length = Nn) := jl
        clear jl
        generalize ps.getD k 0 = p at *
        generalize Rf k = r at *
        generalize us1 k = ua at *
        generalize us2 k = ub at *
        have hgw : g' < wr.heap.size := by have := HLT.out.2; omega
        have HAS5 : Hid (∀ W', Old (wr.alloc (.cells #[.int .i64 p, .int .i64 Nn, .int .i64 r, .bool a, .slice ua Nn Nn] 105)) W' → (W'.cell? ⟨wr.heap.size, 0, none⟩ = some (.int .i64 p) ∧ W'.cell? ⟨wr.heap.size, 1, none⟩ = some (.int .i64 Nn) ∧ W'.cell? ⟨wr.heap.size, 2, none⟩ = some (.int .i64 r) ∧ W'.cell? ⟨wr.heap.size, 3, none⟩ = some (.bool a) ∧ W'.cell? ⟨wr.heap.size, 4, none⟩ = some (.slice ua Nn Nn) ∧ W'.cell? ⟨g', k * 5, none⟩ = some (.int .i64 p) ∧ W'.cell? ⟨g', k * 5 + 1, none⟩ = some (.int .i64 Nn) ∧ W'.cell? ⟨g', k * 5 + 2, none⟩ = some (.int .i64 r) ∧ W'.cell? ⟨g', k * 5 + 3, none⟩ = some (.bool b) ∧ W'.cell? ⟨g', k * 5 + 4, none⟩ = some (.slice ub Nn Nn))) := fun W' q => by
          have q' := Old.trans ((Old.refl wr).alloc _) q
          exact ⟨(q.cell (p := ⟨wr.heap.size, 0, none⟩) (by simp)).trans (cell_at _ _ _ _ _ rfl), (q.cell (p := ⟨wr.heap.size, 1, none⟩) (by simp)).trans (cell_at _ _ _ _ _ rfl), (q.cell (p := ⟨wr.heap.size, 2, none⟩) (by simp)).trans (cell_at _ _ _ _ _ rfl), (q.cell (p := ⟨wr.heap.size, 3, none⟩) (by simp)).trans (cell_at _ _ _ _ _ rfl), (q.cell (p := ⟨wr.heap.size, 4, none⟩) (by simp)).trans (cell_at _ _ _ _ _ rfl), (q'.cell (p := ⟨g', k * 5, none⟩) hgw).trans y0, (q'.cell (p := ⟨g', k * 5 + 1, none⟩) hgw).trans y1, (q'.cell (p := ⟨g', k * 5 + 2, none⟩) hgw).trans y2, (q'.cell (p := ⟨g', k * 5 + 3, none⟩) hgw).trans y3, (q'.cell (p := ⟨g', k * 5 + 4, none⟩) hgw).trans y4⟩
        have hgm : g' ≠ w2.heap.size := by have := HLT.out.2; omega
        have HAS6 : Hid (∀ W' x, Old (wr.alloc (.cells #[.int .i64 p, .int .i64 Nn, .int .i64 r, .bool a, .slice ua Nn Nn] 105)) W' → ((fun W' => W'.cell? ⟨wr.heap.size, 0, none⟩ = some (.int .i64 p) ∧ W'.cell? ⟨wr.heap.size, 1, none⟩ = some (.int .i64 Nn) ∧ W'.cell? ⟨wr.heap.size, 2, none⟩ = some (.int .i64 r) ∧ W'.cell? ⟨wr.heap.size, 3, none⟩ = some (.bool a) ∧ W'.cell? ⟨wr.heap.size, 4, none⟩ = some (.slice ua Nn Nn) ∧ W'.cell? ⟨g', k * 5, none⟩ = some (.int .i64 p) ∧ W'.cell? ⟨g', k * 5 + 1, none⟩ = some (.int .i64 Nn) ∧ W'.cell? ⟨g', k * 5 + 2, none⟩ = some (.int .i64 r) ∧ W'.cell? ⟨g', k * 5 + 3, none⟩ = some (.bool b) ∧ W'.cell? ⟨g', k * 5 + 4, none⟩ = some (.slice ub Nn Nn)) (W'.setCell ⟨w2.heap.size, k, none⟩ x))) := fun W' x q => by
          obtain ⟨s0, s1, s2, s3, s4, s5, s6, s7, s8, s9⟩ := HAS5.out W' q
          have hne1 : wr.heap.size ≠ w2.heap.size := by omega
          have key : ∀ (bb j : Nat) (z : Value), bb ≠ w2.heap.size → W'.cell? ⟨bb, j, none⟩ = some z → (W'.setCell ⟨w2.heap.size, k, none⟩ x).cell? ⟨bb, j, none⟩ = some z := fun bb j z hb hz => (cellO _ _ _ _ hb).trans hz
          exact ⟨key _ _ _ hne1 s0, key _ _ _ hne1 s1, key _ _ _ hne1 s2, key _ _ _ hne1 s3, key _ _ _ hne1 s4, key _ _ _ hgm s5, key _ _ _ hgm s6, key _ _ _ hgm s7, key _ _ _ hgm s8, key _ _ _ hgm s9⟩
        have HGA : Hid (Old w (wr.alloc (.cells #[.int .i64 p, .int .i64 Nn, .int .i64 r, .bool a, .slice ua Nn Nn] 105))) := HGW.out.alloc _
        clear y0 y1 y2 y3 y4
        go_wp2_with fail
        go_region_held3 (fun W' => W'.cell? ⟨wr.heap.size, 0, none⟩ = some (.int .i64 p) ∧ W'.cell? ⟨wr.heap.size, 1, none⟩ = some (.int .i64 Nn) ∧ W'.cell? ⟨wr.heap.size, 2, none⟩ = some (.int .i64 r) ∧ W'.cell? ⟨wr.heap.size, 3, none⟩ = some (.bool a) ∧ W'.cell? ⟨wr.heap.size, 4, none⟩ = some (.slice ua Nn Nn) ∧ W'.cell? ⟨g', k * 5, none⟩ = some (.int .i64 p) ∧ W'.cell? ⟨g', k * 5 + 1, none⟩ = some (.int .i64 Nn) ∧ W'.cell? ⟨g', k * 5 + 2, none⟩ = some (.int .i64 r) ∧ W'.cell? ⟨g', k * 5 + 3, none⟩ = some (.bool b) ∧ W'.cell? ⟨g', k * 5 + 4, none⟩ = some (.slice ub Nn Nn)) (first | with_reducible exact HAS5.out _ Q5.out | with_reducible exact HAS5.out _ (Below.drew (Old.refl _)) | with_reducible exact HAS6.out _ _ Q5.out | with_reducible exact HAS5.out _ (Old.refl _)) (first
          | (go_at_call 75; refine (cj _ (Below.drew HGA.out)).mono ?_; rintro e w5 ⟨g5, cp5, rfl, hcp, q5, o5⟩; have Q5 : Hid (Old (wr.alloc (.cells #[.int .i64 p, .int .i64 Nn, .int .i64 r, .bool a, .slice ua Nn Nn] 105)) w5) := Old.trans (Below.drew (Old.refl _)) q5; have O5 : Hid (Own w5 (wr.heap.size + 1) (.slice (some ⟨g5, 0, none⟩) Nn cp5) (zss.getD k [])) := (by simp at o5; exact o5); clear q5 o5; obtain ⟨⟨ym, m1⟩, m2⟩ := (HM.out.own_old (Old.trans ((Old.refl wr).alloc _) Q5.out)).cell k hkz)
          | fail)
        all_goals
          have hg5 : wr.heap.size + 1 ≤ g5 := (O5.out.lt g5 rfl).1
          have hs5 := Q5.out.size
          have N1 : Hid (MkS zss (w5.setCell ⟨w2.heap.size, k, none⟩ (.slice (some ⟨g5, 0, none⟩) Nn cp5)) w2.heap.size w2.heap.size (k + 1)) := MkS.step HM.out hkz (Old.trans ((Old.refl wr).alloc _) Q5.out) (by omega) hsr HJL.out hcp (O5.out.low (by omega)) (by omega)
          have N2 : Hid (Old w2 (w5.setCell ⟨w2.heap.size, k, none⟩ (.slice (some ⟨g5, 0, none⟩) Nn cp5))) := (Old.trans HG.out (Old.trans ((Old.refl wr).alloc _) Q5.out)).own (p := ⟨w2.heap.size, k, none⟩) (Nat.le_refl _) _
          have N3 : w2.heap.size < (w5.setCell ⟨w2.heap.size, k, none⟩ (.slice (some ⟨g5, 0, none⟩) Nn cp5)).heap.size := by simp at hs5 ⊢; omega
          go_wp2_with fail
          exact ⟨⟨k + 1, by omega, by go_num, N1, N2, N3⟩, by simp [intOf]; omega⟩
      · have d1 : decide ((k : Int) < (ps.length : Int)) = false := by simp; omega
        obtain rfl : k = ps.length := by omega
        have HFD : Hid (OwS zss wr w2.heap.size wr.heap.size (.slice (some ⟨w2.heap.size, 0, none⟩) ps.length ps.length)) := by
          have := HM.out
          rw [← HZL.out] at this ⊢
          exact this.done (Nat.le_refl _) hsr
        have SF : Hid (StW wr (w.heap.size + 1 + 1 + 1) (.bool false) (.slice none 0 0) 46) := S2.out.old HG.out
        have z3 := (HAS.out wr (Old.trans G2.out HG.out)).2.2.1
        have q0 := SF.out.c0
        have q1 := SF.out.c1
        have f0 := SF.out.f0
        have f1 := SF.out.f1
        go_wp2_with fail
        refine bodyPost_ret (ret_rb Tryd.results74 _ _ rfl rfl (st_put2 SF.out _ _)) rfl ⟨_, rfl, ?_, some ⟨w2.heap.size, 0, none⟩, ps.length, by rw [HZL.out], ?_⟩
        · exact ((Old.trans HG2.out HG.out).own (p := ⟨w.heap.size + 1 + 1 + 1, 0, none⟩) (by simp; omega) _).own (p := ⟨w.heap.size + 1 + 1 + 1, 1, none⟩) (by simp; omega) _
        · rw [HZL.out]
          have h2 := (HFD.out.put (k := w.heap.size + 1 + 1 + 1) (j := 0) (x := .bool a) (by omega)).put (k := w.heap.size + 1 + 1 + 1) (j := 1) (x := .slice (some ⟨w2.heap.size, 0, none⟩) ps.length ps.length) (by omega)
          have h3 := h2.low (lo' := w.heap.size) (by omega)
          exact h3.high (by simp) (Nat.le_refl _)
end Go.Proofs.YtcgnndenmcmieaaDoor
/- Proved: the program's MulRows. -/
namespace Go.Proofs.YtcgnndenmcmieaaDoor
open Go.ChangeShapes Go.WideShapes Go.ChangeAt Go.RowKit
open M1
set_option linter.unusedVariables false
set_option linter.unusedSimpArgs false
set_option maxRecDepth 100000 in
set_option maxHeartbeats 4000000 in
theorem impl_MulRows_of (N : Int) (a b : Bool) (a0 a1 a2 : Option Addr) (l0 l1 l2 cap0 cap1 cap2 : Nat) (w : World) (n : Bool) (zss : List (List Int)) (ok : Bool)
    (c : ∀ W, Old w W → Calls Tryd.prog 74 #[.agg #[.int .i64 N, .slice a0 l0 cap0], .agg #[.bool a, .slice a1 l1 cap1], .agg #[.bool b, .slice a2 l2 cap2], .func (.func 75) #[] #[]] W (Rs W n zss ok)) :
    Calls Tryd.prog 36 #[.agg #[.int .i64 N, .slice a0 l0 cap0], .agg #[.bool a, .slice a1 l1 cap1], .agg #[.bool b, .slice a2 l2 cap2]] w (Rs w n zss ok) := by
  have HA : Hid (Old w ((((w.alloc (.cells #[.int .i64 N, .slice a0 l0 cap0] 49)).alloc (.cells #[.bool a, .slice a1 l1 cap1] 46)).alloc (.cells #[.bool b, .slice a2 l2 cap2] 46)).alloc (.cells #[.bool false, .slice none 0 0] 46))) := ((((Old.refl w).alloc _).alloc _).alloc _).alloc _
  have HS : Hid (StW ((((w.alloc (.cells #[.int .i64 N, .slice a0 l0 cap0] 49)).alloc (.cells #[.bool a, .slice a1 l1 cap1] 46)).alloc (.cells #[.bool b, .slice a2 l2 cap2] 46)).alloc (.cells #[.bool false, .slice none 0 0] 46)) (w.heap.size + 1 + 1 + 1) (.bool false) (.slice none 0 0) 46) := by
    have := StW.new (((w.alloc (.cells #[.int .i64 N, .slice a0 l0 cap0] 49)).alloc (.cells #[.bool a, .slice a1 l1 cap1] 46)).alloc (.cells #[.bool b, .slice a2 l2 cap2] 46)) (.bool false) (.slice none 0 0) 46
    simp at this
    exact this
  go_enter Tryd.func36, Tryd.ntmps36
  go_wp2_with fail
  refine (c _ HA.out).mono ?_
  rintro e w1 ⟨r0, rfl, g1, x1⟩
  obtain ⟨ax, cx, rfl, ox⟩ := x1
  have HG1 : Hid (Old w w1) := Old.trans HA.out g1
  have S1 : Hid (StW w1 (w.heap.size + 1 + 1 + 1) (.bool false) (.slice none 0 0) 46) := HS.out.old g1
  have OX : Hid (OwS zss w1 (w.heap.size + 1 + 1 + 1 + 1) w1.heap.size (.slice ax zss.length cx)) := by
    simp at ox
    exact ox
  have q0 := S1.out.c0
  have q1 := S1.out.c1
  have f0 := S1.out.f0
  have f1 := S1.out.f1
  clear g1 ox
  go_wp2_with fail
  refine bodyPost_ret (ret_rb Tryd.results36 _ _ rfl rfl (st_put2 S1.out _ _)) rfl ⟨_, rfl, ?_, ax, cx, rfl, ?_⟩
  · exact (HG1.out.own (p := ⟨w.heap.size + 1 + 1 + 1, 0, none⟩) (by simp; omega) _).own (p := ⟨w.heap.size + 1 + 1 + 1, 1, none⟩) (by simp; omega) _
  · have h2 := (OX.out.put (k := w.heap.size + 1 + 1 + 1) (j := 0) (x := .bool n) (by omega)).put (k := w.heap.size + 1 + 1 + 1) (j := 1) (x := .slice ax zss.length cx) (by omega)
    have h3 := h2.low (lo' := w.heap.size) (by omega)
    exact h3.high (by simp) (Nat.le_refl _)
end Go.Proofs.YtcgnndenmcmieaaDoor
