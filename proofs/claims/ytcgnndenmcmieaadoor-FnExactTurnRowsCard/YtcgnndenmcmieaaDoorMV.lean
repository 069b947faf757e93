/- Proved: several texts in one: what each proves is said ahead of it. -/
import Derived.Test.YtcgnndenmcmieaaDoorROps
import Derived.Test.YtcgnndenmcmieaaDoorMB
import Derived.Test.YtcgnndenmcmieaaDoorMP
import Derived.Test.YtcgnndenmcmieaaDoorMI
import Derived.Test.YtcgnndenmcmieaaDoorKE
import Derived.Test.YtcgnndenmcmieaaDoorMG
import Derived.Test.YtcgnndenmcmieaaDoorMC
import Derived.Deep.RegionWith
import Derived.Deep.RegionHeld3
import Derived.Deep.DeepCutAuto
import Derived.Test.YtcgnndenmcmieaaDoorMW
/- Proved: a drawn region of the statement FnExactTurnRows, by what holds between its operations, in whatever order. -/
namespace Go.Proofs.YtcgnndenmcmieaaDoor
open Go.ChangeShapes Go.WideShapes Go.ChangeAt Go.RowKit
set_option linter.unusedVariables false
set_option linter.unusedSimpArgs false
def regionAtreg_turnrows8 (n : Nat) : Code → Option Code
  | .region i ops b => if i = n then some (.region i ops b) else none
  | .seq a b => match regionAtreg_turnrows8 n a with
    | some c => some c
    | none => regionAtreg_turnrows8 n b
  | .block _ c => regionAtreg_turnrows8 n c
  | _ => none
set_option maxRecDepth 100000 in
set_option maxHeartbeats 8000000 in
theorem reg_turnrows8 (w2 : World) (xa ya xb yb : Value) (t : Int) (ka kb : Nat)
    (CR0 : World → Value → Prop) (hCR0 : ∀ W W' v, CR0 W v → Old W W' → CR0 W' v)
    (c0 : ∀ W, Old w2 W → Calls Tryd.prog 25 #[.agg #[xa, ya]] W fun e w' => ∃ v, e = .returned v ∧ Old W w' ∧ CR0 w' v)
    (b0 : w2.heap[ka]? = some (.cells #[xa, ya] 40 (0, 0)))
    (CR1 : World → Value → Prop) (hCR1 : ∀ W W' v, CR1 W v → Old W W' → CR1 W' v)
    (c1 : ∀ W, Old w2 W → Calls Tryd.prog 35 #[.agg #[xb, yb]] W fun e w' => ∃ v, e = .returned v ∧ Old W w' ∧ CR1 w' v)
    (b1 : w2.heap[kb]? = some (.cells #[xb, yb] 57 (0, 0)))
    (RES : World → Nat → Nat → Array Value → Value → Prop) (far : ∀ W W' lo hi (g0 : Array Value) (g1 : Value), RES W lo hi g0 g1 → (∀ b, lo ≤ b → b < hi → W'.heap[b]? = W.heap[b]?) → W.heap.size ≤ W'.heap.size → RES W' lo hi g0 g1)
    (cf : ∀ W v0 v1, Old w2 W → CR0 W v0 → CR1 W v1 → Calls Tryd.prog 37 #[v0, v1, .int .i64 t] W fun e w' => ∃ (g0 : Array Value) (g1 : Value), e = .returned (.tuple #[.agg g0, g1]) ∧ Old W w' ∧ g0.size = 2 ∧ g0.all (·.oneCell') = true ∧ RES w' W.heap.size w'.heap.size g0 g1)
    (Q : Exit → Act → World → Prop) (K : Act → World → Prop) (a0 : Act) (hsz : 124 ≤ a0.tmps.size) (ha2 : a0.eval (.tmp 2) = .int .i64 t) (ha3 : a0.eval (.tmp 3) = .pointer (some ⟨ka, 0, none⟩)) (ha4 : a0.eval (.tmp 4) = .pointer (some ⟨kb, 0, none⟩))
    (HK : Hid (∀ (k0 lo hi : Nat) (g0 : Array Value) (g1 : Value) (u29 u30 u31 u32 u33 u34 u35 u36 u37 : Value) (W : World), Old w2 W → w2.heap.size ≤ lo → hi ≤ W.heap.size → RES W lo hi g0 g1 → W.heap[k0]? = some (.cells g0 46 (0, 0)) → w2.heap.size ≤ k0 → k0 < W.heap.size → (k0 < lo ∨ hi ≤ k0) → K (putAll a0 [(8, .pointer (some ⟨k0, 0, none⟩)), (9, g1), (29, u29), (30, u30), (31, u31), (32, u32), (33, u33), (34, u34), (35, u35), (36, u36), (37, u37)]) W)) :
    Code.wp Tryd.prog ((Tryd.f7.body.bind (regionAtreg_turnrows8 8)).getD .skip) (Exit.then K Q) a0 w2 := by
  conv => arg 2; whnf
  have e2 : ∀ l, (putAll a0 l).eval (.tmp 2) = (getKey l 2).getD (a0.eval (.tmp 2)) := eval_putAll a0 2 (by omega)
  have e3 : ∀ l, (putAll a0 l).eval (.tmp 3) = (getKey l 3).getD (a0.eval (.tmp 3)) := eval_putAll a0 3 (by omega)
  have e4 : ∀ l, (putAll a0 l).eval (.tmp 4) = (getKey l 4).getD (a0.eval (.tmp 4)) := eval_putAll a0 4 (by omega)
  have e8 : ∀ l, (putAll a0 l).eval (.tmp 8) = (getKey l 8).getD (a0.eval (.tmp 8)) := eval_putAll a0 8 (by omega)
  have e9 : ∀ l, (putAll a0 l).eval (.tmp 9) = (getKey l 9).getD (a0.eval (.tmp 9)) := eval_putAll a0 9 (by omega)
  have e29 : ∀ l, (putAll a0 l).eval (.tmp 29) = (getKey l 29).getD (a0.eval (.tmp 29)) := eval_putAll a0 29 (by omega)
  have e30 : ∀ l, (putAll a0 l).eval (.tmp 30) = (getKey l 30).getD (a0.eval (.tmp 30)) := eval_putAll a0 30 (by omega)
  have e31 : ∀ l, (putAll a0 l).eval (.tmp 31) = (getKey l 31).getD (a0.eval (.tmp 31)) := eval_putAll a0 31 (by omega)
  have e32 : ∀ l, (putAll a0 l).eval (.tmp 32) = (getKey l 32).getD (a0.eval (.tmp 32)) := eval_putAll a0 32 (by omega)
  have e33 : ∀ l, (putAll a0 l).eval (.tmp 33) = (getKey l 33).getD (a0.eval (.tmp 33)) := eval_putAll a0 33 (by omega)
  have e34 : ∀ l, (putAll a0 l).eval (.tmp 34) = (getKey l 34).getD (a0.eval (.tmp 34)) := eval_putAll a0 34 (by omega)
  have e35 : ∀ l, (putAll a0 l).eval (.tmp 35) = (getKey l 35).getD (a0.eval (.tmp 35)) := eval_putAll a0 35 (by omega)
  have e36 : ∀ l, (putAll a0 l).eval (.tmp 36) = (getKey l 36).getD (a0.eval (.tmp 36)) := eval_putAll a0 36 (by omega)
  have e37 : ∀ l, (putAll a0 l).eval (.tmp 37) = (getKey l 37).getD (a0.eval (.tmp 37)) := eval_putAll a0 37 (by omega)
  refine wp_region_steps (fun d a W => ∃ (u8 u9 u29 u30 u31 u32 u33 u34 u35 u36 u37 : Value) (k0 lo hi : Nat) (g0 : Array Value) (g1 : Value), a = (putAll a0 [(8, u8), (9, u9), (29, u29), (30, u30), (31, u31), (32, u32), (33, u33), (34, u34), (35, u35), (36, u36), (37, u37)]) ∧ (Old w2 W) ∧ (d 0 = true → u30 = .agg #[xa, ya]) ∧ (d 1 = true → d 5 = false → CR0 W u31) ∧ (d 2 = true → u32 = .agg #[xb, yb]) ∧ (d 3 = true → d 5 = false → CR1 W u33) ∧ (d 4 = true → u34 = .int .i64 t) ∧ (d 5 = true → u35 = .tuple #[.agg g0, g1] ∧ w2.heap.size ≤ lo ∧ hi ≤ W.heap.size ∧ g0.size = 2 ∧ g0.all (·.oneCell') = true ∧ RES W lo hi g0 g1) ∧ (d 6 = true → u29 = .tuple #[.agg g0, g1]) ∧ (d 7 = true → u36 = .agg g0) ∧ (d 8 = true → u37 = g1) ∧ (d 9 = true → u8 = .pointer (some ⟨k0, 0, none⟩) ∧ w2.heap.size ≤ k0 ∧ k0 < W.heap.size) ∧ (d 9 = true → d 10 = false → W.heap[k0]? = some (.cells #[.bool false, .slice none 0 0] 46 (0, 0))) ∧ (d 10 = true → W.heap[k0]? = some (.cells g0 46 (0, 0))) ∧ (d 9 = true → d 5 = true → (k0 < lo ∨ hi ≤ k0)) ∧ (d 11 = true → u9 = g1) ∧ (d 6 = true → d 5 = true) ∧ (d 7 = true → d 5 = true) ∧ (d 10 = true → d 5 = true) ∧ (d 10 = true → d 9 = true) ∧ (d 8 = true → d 5 = true) ∧ (d 11 = true → d 5 = true)) rfl (by decide +kernel) (by decide +kernel) ?_ ⟨?_, ?_, ?_, ?_, ?_, ?_, ?_, ?_, ?_, ?_, ?_, ?_, trivial⟩ ?_
  · exact ⟨_, _, _, _, _, _, _, _, _, _, _, 0, 0, 0, #[], undef, (putAll_self a0 [8, 9, 29, 30, 31, 32, 33, 34, 35, 36, 37] (by intro s hs; simp at hs; omega)).symm, Below.drew (Old.refl w2), (fun h => by cases h), (fun h => by cases h), (fun h => by cases h), (fun h => by cases h), (fun h => by cases h), (fun h => by cases h), (fun h => by cases h), (fun h => by cases h), (fun h => by cases h), (fun h => by cases h), (fun h => by cases h), (fun h => by cases h), (fun h => by cases h), (fun h => by cases h), (fun h => by cases h), (fun h => by cases h), (fun h => by cases h), (fun h => by cases h), (fun h => by cases h), (fun h => by cases h)⟩
  · rintro d a W ⟨u8, u9, u29, u30, u31, u32, u33, u34, u35, u36, u37, k0, lo, hi, g0, g1, hfr, fold, fL0, fC0, fL1, fC1, fI, fF, fM, fE0, fE1, fB0, fZ0, fS0, fX0, fA1, fO6_5, fO7_5, fO10_5, fO10_9, fO8_5, fO11_5⟩ hi_ hd
    simp [Region.binds] at hd
    refine op_load (k := ka) (by rw [hfr, e3]; exact ha3) (fold.block _ (lt_of_some b0) |>.trans b0) Tryd.underlying40 rfl (by kernel_rfl) ?_
    exact ⟨u8, u9, u29, .agg #[xa, ya], u31, u32, u33, u34, u35, u36, u37, k0, lo, hi, g0, g1, (by rw [hfr]; exact putAll_put a0 _ _ _ rfl), (fold),
      (fun _ => rfl),
      (fun h0 h1 => fC0 h0 h1),
      (fun h0 => fL1 h0),
      (fun h0 h1 => fC1 h0 h1),
      (fun h0 => fI h0),
      (fun h0 => fF h0),
      (fun h0 => fM h0),
      (fun h0 => fE0 h0),
      (fun h0 => fE1 h0),
      (fun h0 => fB0 h0),
      (fun h0 h1 => fZ0 h0 h1),
      (fun h0 => fS0 h0),
      (fun h0 h1 => fX0 h0 h1),
      (fun h0 => fA1 h0),
      (fun h => fO6_5 h),
      (fun h => fO7_5 h),
      (fun h => fO10_5 h),
      (fun h => fO10_9 h),
      (fun h => fO8_5 h),
      (fun h => fO11_5 h)⟩
  · rintro d a W ⟨u8, u9, u29, u30, u31, u32, u33, u34, u35, u36, u37, k0, lo, hi, g0, g1, hfr, fold, fL0, fC0, fL1, fC1, fI, fF, fM, fE0, fE1, fB0, fZ0, fS0, fX0, fA1, fO6_5, fO7_5, fO10_5, fO10_9, fO8_5, fO11_5⟩ hi_ hd
    simp [Region.binds] at hd
    have HD0 : d 0 = true := by simp only [hd]
    clear hd
    have hv := fL0 HD0
    refine op_call_ret Tryd.call25 (vs := #[.agg #[xa, ya]]) (by simp [hfr, e30, getKey, hv]) (c0 W fold) ?_
    rintro v W' ⟨g, hcr⟩
    exact ⟨u8, u9, u29, u30, v, u32, u33, u34, u35, u36, u37, k0, lo, hi, g0, g1, (by rw [hfr]; exact putAll_put a0 _ _ _ rfl), (Old.trans fold g),
      (fun h0 => fL0 h0),
      (fun _ _ => hcr),
      (fun h0 => fL1 h0),
      (fun h0 h1 => hCR1 _ _ _ (fC1 h0 h1) g),
      (fun h0 => fI h0),
      (fun h0 => by obtain ⟨e1, e2, e3, z0, y0, e9⟩ := fF h0; exact ⟨e1, e2, Nat.le_trans e3 g.size, z0, y0, far _ _ _ _ _ _ e9 (fun b _ hb => g.block b (by omega)) g.size⟩),
      (fun h0 => fM h0),
      (fun h0 => fE0 h0),
      (fun h0 => fE1 h0),
      (fun h0 => by obtain ⟨e1, e2, e3⟩ := fB0 h0; exact ⟨e1, e2, Nat.lt_of_lt_of_le e3 g.size⟩),
      (fun h0 h1 => (g.block _ (lt_of_some (fZ0 h0 h1))).trans (fZ0 h0 h1)),
      (fun h0 => (g.block _ (lt_of_some (fS0 h0))).trans (fS0 h0)),
      (fun h0 h1 => fX0 h0 h1),
      (fun h0 => fA1 h0),
      (fun h => fO6_5 h),
      (fun h => fO7_5 h),
      (fun h => fO10_5 h),
      (fun h => fO10_9 h),
      (fun h => fO8_5 h),
      (fun h => fO11_5 h)⟩
  · rintro d a W ⟨u8, u9, u29, u30, u31, u32, u33, u34, u35, u36, u37, k0, lo, hi, g0, g1, hfr, fold, fL0, fC0, fL1, fC1, fI, fF, fM, fE0, fE1, fB0, fZ0, fS0, fX0, fA1, fO6_5, fO7_5, fO10_5, fO10_9, fO8_5, fO11_5⟩ hi_ hd
    simp [Region.binds] at hd
    refine op_load (k := kb) (by rw [hfr, e4]; exact ha4) (fold.block _ (lt_of_some b1) |>.trans b1) Tryd.underlying57 rfl (by kernel_rfl) ?_
    exact ⟨u8, u9, u29, u30, u31, .agg #[xb, yb], u33, u34, u35, u36, u37, k0, lo, hi, g0, g1, (by rw [hfr]; exact putAll_put a0 _ _ _ rfl), (fold),
      (fun h0 => fL0 h0),
      (fun h0 h1 => fC0 h0 h1),
      (fun _ => rfl),
      (fun h0 h1 => fC1 h0 h1),
      (fun h0 => fI h0),
      (fun h0 => fF h0),
      (fun h0 => fM h0),
      (fun h0 => fE0 h0),
      (fun h0 => fE1 h0),
      (fun h0 => fB0 h0),
      (fun h0 h1 => fZ0 h0 h1),
      (fun h0 => fS0 h0),
      (fun h0 h1 => fX0 h0 h1),
      (fun h0 => fA1 h0),
      (fun h => fO6_5 h),
      (fun h => fO7_5 h),
      (fun h => fO10_5 h),
      (fun h => fO10_9 h),
      (fun h => fO8_5 h),
      (fun h => fO11_5 h)⟩
  · rintro d a W ⟨u8, u9, u29, u30, u31, u32, u33, u34, u35, u36, u37, k0, lo, hi, g0, g1, hfr, fold, fL0, fC0, fL1, fC1, fI, fF, fM, fE0, fE1, fB0, fZ0, fS0, fX0, fA1, fO6_5, fO7_5, fO10_5, fO10_9, fO8_5, fO11_5⟩ hi_ hd
    simp [Region.binds] at hd
    have HD2 : d 2 = true := by simp only [hd]
    clear hd
    have hv := fL1 HD2
    refine op_call_ret Tryd.call35 (vs := #[.agg #[xb, yb]]) (by simp [hfr, e32, getKey, hv]) (c1 W fold) ?_
    rintro v W' ⟨g, hcr⟩
    exact ⟨u8, u9, u29, u30, u31, u32, v, u34, u35, u36, u37, k0, lo, hi, g0, g1, (by rw [hfr]; exact putAll_put a0 _ _ _ rfl), (Old.trans fold g),
      (fun h0 => fL0 h0),
      (fun h0 h1 => hCR0 _ _ _ (fC0 h0 h1) g),
      (fun h0 => fL1 h0),
      (fun _ _ => hcr),
      (fun h0 => fI h0),
      (fun h0 => by obtain ⟨e1, e2, e3, z0, y0, e9⟩ := fF h0; exact ⟨e1, e2, Nat.le_trans e3 g.size, z0, y0, far _ _ _ _ _ _ e9 (fun b _ hb => g.block b (by omega)) g.size⟩),
      (fun h0 => fM h0),
      (fun h0 => fE0 h0),
      (fun h0 => fE1 h0),
      (fun h0 => by obtain ⟨e1, e2, e3⟩ := fB0 h0; exact ⟨e1, e2, Nat.lt_of_lt_of_le e3 g.size⟩),
      (fun h0 h1 => (g.block _ (lt_of_some (fZ0 h0 h1))).trans (fZ0 h0 h1)),
      (fun h0 => (g.block _ (lt_of_some (fS0 h0))).trans (fS0 h0)),
      (fun h0 h1 => fX0 h0 h1),
      (fun h0 => fA1 h0),
      (fun h => fO6_5 h),
      (fun h => fO7_5 h),
      (fun h => fO10_5 h),
      (fun h => fO10_9 h),
      (fun h => fO8_5 h),
      (fun h => fO11_5 h)⟩
  · rintro d a W ⟨u8, u9, u29, u30, u31, u32, u33, u34, u35, u36, u37, k0, lo, hi, g0, g1, hfr, fold, fL0, fC0, fL1, fC1, fI, fF, fM, fE0, fE1, fB0, fZ0, fS0, fX0, fA1, fO6_5, fO7_5, fO10_5, fO10_9, fO8_5, fO11_5⟩ hi_ hd
    simp [Region.binds] at hd
    refine op_move ?_
    rw [show a.eval (.tmp 2) = .int .i64 t by rw [hfr, e2]; exact ha2]
    exact ⟨u8, u9, u29, u30, u31, u32, u33, .int .i64 t, u35, u36, u37, k0, lo, hi, g0, g1, (by rw [hfr]; exact putAll_put a0 _ _ _ rfl), (fold),
      (fun h0 => fL0 h0),
      (fun h0 h1 => fC0 h0 h1),
      (fun h0 => fL1 h0),
      (fun h0 h1 => fC1 h0 h1),
      (fun _ => rfl),
      (fun h0 => fF h0),
      (fun h0 => fM h0),
      (fun h0 => fE0 h0),
      (fun h0 => fE1 h0),
      (fun h0 => fB0 h0),
      (fun h0 h1 => fZ0 h0 h1),
      (fun h0 => fS0 h0),
      (fun h0 h1 => fX0 h0 h1),
      (fun h0 => fA1 h0),
      (fun h => fO6_5 h),
      (fun h => fO7_5 h),
      (fun h => fO10_5 h),
      (fun h => fO10_9 h),
      (fun h => fO8_5 h),
      (fun h => fO11_5 h)⟩
  · rintro d a W ⟨u8, u9, u29, u30, u31, u32, u33, u34, u35, u36, u37, k0, lo, hi, g0, g1, hfr, fold, fL0, fC0, fL1, fC1, fI, fF, fM, fE0, fE1, fB0, fZ0, fS0, fX0, fA1, fO6_5, fO7_5, fO10_5, fO10_9, fO8_5, fO11_5⟩ hi_ hd
    simp [Region.binds] at hd
    have HD1 : d 1 = true := by simp only [hd]
    have HD3 : d 3 = true := by simp only [hd]
    have HD4 : d 4 = true := by simp only [hd]
    clear hd
    have hvI := fI HD4
    refine op_call_ret (R := fun v w' => ∃ (g0 : Array Value) (g1 : Value), v = .tuple #[.agg g0, g1] ∧ Old W w' ∧ g0.size = 2 ∧ g0.all (·.oneCell') = true ∧ RES w' W.heap.size w'.heap.size g0 g1) Tryd.call37 (vs := #[u31, u33, .int .i64 t]) (by simp [hfr, e31, e33, e34, hvI, getKey]) ((cf W _ _ fold (fC0 HD1 hi_) (fC1 HD3 hi_)).mono (fun e w' h => by obtain ⟨g0, g1, rfl, h⟩ := h; exact ⟨_, rfl, g0, g1, rfl, h⟩)) ?_
    rintro v W' ⟨r0, r1, rfl, g, z0, y0, hres⟩
    exact ⟨u8, u9, u29, u30, u31, u32, u33, u34, .tuple #[.agg r0, r1], u36, u37, k0, W.heap.size, W'.heap.size, r0, r1, (by rw [hfr]; exact putAll_put a0 _ _ _ rfl), (Old.trans fold g),
      (fun h0 => fL0 h0),
      (fun h0 h1 => by cases h1),
      (fun h0 => fL1 h0),
      (fun h0 h1 => by cases h1),
      (fun h0 => fI h0),
      (fun _ => ⟨rfl, (fold.size), Nat.le_refl _, z0, y0, hres⟩),
      (fun h0 => by have hx_ := fO6_5 h0; rw [hi_] at hx_; cases hx_),
      (fun h0 => by have hx_ := fO7_5 h0; rw [hi_] at hx_; cases hx_),
      (fun h0 => by have hx_ := fO8_5 h0; rw [hi_] at hx_; cases hx_),
      (fun h0 => by obtain ⟨e1, e2, e3⟩ := fB0 h0; exact ⟨e1, e2, Nat.lt_of_lt_of_le e3 g.size⟩),
      (fun h0 h1 => (g.block _ (lt_of_some (fZ0 h0 h1))).trans (fZ0 h0 h1)),
      (fun h0 => by have hx_ := fO10_5 h0; rw [hi_] at hx_; cases hx_),
      (fun hb _ => Or.inl (fB0 hb).2.2),
      (fun h0 => by have hx_ := fO11_5 h0; rw [hi_] at hx_; cases hx_),
      (fun _ => rfl),
      (fun _ => rfl),
      (fun _ => rfl),
      (fun h => fO10_9 h),
      (fun _ => rfl),
      (fun _ => rfl)⟩
  · rintro d a W ⟨u8, u9, u29, u30, u31, u32, u33, u34, u35, u36, u37, k0, lo, hi, g0, g1, hfr, fold, fL0, fC0, fL1, fC1, fI, fF, fM, fE0, fE1, fB0, fZ0, fS0, fX0, fA1, fO6_5, fO7_5, fO10_5, fO10_9, fO8_5, fO11_5⟩ hi_ hd
    simp [Region.binds] at hd
    have HD5 : d 5 = true := by simp only [hd]
    clear hd
    have hv := (fF HD5).1
    refine op_move ?_
    rw [show a.eval (.tmp 35) = .tuple #[.agg g0, g1] by rw [hfr, e35]; exact hv]
    exact ⟨u8, u9, .tuple #[.agg g0, g1], u30, u31, u32, u33, u34, u35, u36, u37, k0, lo, hi, g0, g1, (by rw [hfr]; exact putAll_put a0 _ _ _ rfl), (fold),
      (fun h0 => fL0 h0),
      (fun h0 h1 => fC0 h0 h1),
      (fun h0 => fL1 h0),
      (fun h0 h1 => fC1 h0 h1),
      (fun h0 => fI h0),
      (fun h0 => fF h0),
      (fun _ => rfl),
      (fun h0 => fE0 h0),
      (fun h0 => fE1 h0),
      (fun h0 => fB0 h0),
      (fun h0 h1 => fZ0 h0 h1),
      (fun h0 => fS0 h0),
      (fun h0 h1 => fX0 h0 h1),
      (fun h0 => fA1 h0),
      (fun _ => HD5),
      (fun h => fO7_5 h),
      (fun h => fO10_5 h),
      (fun h => fO10_9 h),
      (fun h => fO8_5 h),
      (fun h => fO11_5 h)⟩
  · rintro d a W ⟨u8, u9, u29, u30, u31, u32, u33, u34, u35, u36, u37, k0, lo, hi, g0, g1, hfr, fold, fL0, fC0, fL1, fC1, fI, fF, fM, fE0, fE1, fB0, fZ0, fS0, fX0, fA1, fO6_5, fO7_5, fO10_5, fO10_9, fO8_5, fO11_5⟩ hi_ hd
    simp [Region.binds] at hd
    have HD6 : d 6 = true := by simp only [hd]
    have HD5 : d 5 = true := fO6_5 HD6
    clear hd
    have hv := fM HD6
    refine op_extract (by rw [hfr, e29]; exact hv) rfl ?_
    exact ⟨u8, u9, u29, u30, u31, u32, u33, u34, u35, .agg g0, u37, k0, lo, hi, g0, g1, (by rw [hfr]; exact putAll_put a0 _ _ _ rfl), (fold),
      (fun h0 => fL0 h0),
      (fun h0 h1 => fC0 h0 h1),
      (fun h0 => fL1 h0),
      (fun h0 h1 => fC1 h0 h1),
      (fun h0 => fI h0),
      (fun h0 => fF h0),
      (fun h0 => fM h0),
      (fun _ => rfl),
      (fun h0 => fE1 h0),
      (fun h0 => fB0 h0),
      (fun h0 h1 => fZ0 h0 h1),
      (fun h0 => fS0 h0),
      (fun h0 h1 => fX0 h0 h1),
      (fun h0 => fA1 h0),
      (fun h => fO6_5 h),
      (fun _ => HD5),
      (fun h => fO10_5 h),
      (fun h => fO10_9 h),
      (fun h => fO8_5 h),
      (fun h => fO11_5 h)⟩
  · rintro d a W ⟨u8, u9, u29, u30, u31, u32, u33, u34, u35, u36, u37, k0, lo, hi, g0, g1, hfr, fold, fL0, fC0, fL1, fC1, fI, fF, fM, fE0, fE1, fB0, fZ0, fS0, fX0, fA1, fO6_5, fO7_5, fO10_5, fO10_9, fO8_5, fO11_5⟩ hi_ hd
    simp [Region.binds] at hd
    have HD6 : d 6 = true := by simp only [hd]
    have HD5 : d 5 = true := fO6_5 HD6
    clear hd
    have hv := fM HD6
    refine op_extract (by rw [hfr, e29]; exact hv) rfl ?_
    exact ⟨u8, u9, u29, u30, u31, u32, u33, u34, u35, u36, g1, k0, lo, hi, g0, g1, (by rw [hfr]; exact putAll_put a0 _ _ _ rfl), (fold),
      (fun h0 => fL0 h0),
      (fun h0 h1 => fC0 h0 h1),
      (fun h0 => fL1 h0),
      (fun h0 h1 => fC1 h0 h1),
      (fun h0 => fI h0),
      (fun h0 => fF h0),
      (fun h0 => fM h0),
      (fun h0 => fE0 h0),
      (fun _ => rfl),
      (fun h0 => fB0 h0),
      (fun h0 h1 => fZ0 h0 h1),
      (fun h0 => fS0 h0),
      (fun h0 h1 => fX0 h0 h1),
      (fun h0 => fA1 h0),
      (fun h => fO6_5 h),
      (fun h => fO7_5 h),
      (fun h => fO10_5 h),
      (fun h => fO10_9 h),
      (fun _ => HD5),
      (fun h => fO11_5 h)⟩
  · rintro d a W ⟨u8, u9, u29, u30, u31, u32, u33, u34, u35, u36, u37, k0, lo, hi, g0, g1, hfr, fold, fL0, fC0, fL1, fC1, fI, fF, fM, fE0, fE1, fB0, fZ0, fS0, fX0, fA1, fO6_5, fO7_5, fO10_5, fO10_9, fO8_5, fO11_5⟩ hi_ hd
    simp [Region.binds] at hd
    refine op_alloc (z := .agg #[.bool false, .slice none 0 0]) (by kernel_rfl) ?_
    have g : Old W (W.alloc (.cells #[.bool false, .slice none 0 0] 46)) := (Old.refl W).alloc _
    exact ⟨.pointer (some ⟨W.heap.size, 0, none⟩), u9, u29, u30, u31, u32, u33, u34, u35, u36, u37, W.heap.size, lo, hi, g0, g1, (by rw [hfr]; exact putAll_put a0 _ _ _ rfl), (Old.trans fold g),
      (fun h0 => fL0 h0),
      (fun h0 h1 => hCR0 _ _ _ (fC0 h0 h1) g),
      (fun h0 => fL1 h0),
      (fun h0 h1 => hCR1 _ _ _ (fC1 h0 h1) g),
      (fun h0 => fI h0),
      (fun h0 => by obtain ⟨e1, e2, e3, z0, y0, e9⟩ := fF h0; exact ⟨e1, e2, Nat.le_trans e3 g.size, z0, y0, far _ _ _ _ _ _ e9 (fun b _ hb => g.block b (by omega)) g.size⟩),
      (fun h0 => fM h0),
      (fun h0 => fE0 h0),
      (fun h0 => fE1 h0),
      (fun _ => ⟨rfl, fold.size, by simp⟩),
      (fun _ _ => heap_alloc_new W _),
      (fun h0 => by have hx_ := fO10_9 h0; rw [hi_] at hx_; cases hx_),
      (fun _ hf => Or.inr (fF hf).2.2.1),
      (fun h0 => fA1 h0),
      (fun h => fO6_5 h),
      (fun h => fO7_5 h),
      (fun h => fO10_5 h),
      (fun _ => rfl),
      (fun h => fO8_5 h),
      (fun h => fO11_5 h)⟩
  · rintro d a W ⟨u8, u9, u29, u30, u31, u32, u33, u34, u35, u36, u37, k0, lo, hi, g0, g1, hfr, fold, fL0, fC0, fL1, fC1, fI, fF, fM, fE0, fE1, fB0, fZ0, fS0, fX0, fA1, fO6_5, fO7_5, fO10_5, fO10_9, fO8_5, fO11_5⟩ hi_ hd
    simp [Region.binds] at hd
    have HD5 : d 5 = true := by simp only [hd]
    have HD7 : d 7 = true := by simp only [hd]
    have HD9 : d 9 = true := by simp only [hd]
    clear hd
    obtain ⟨hp, hlo, hlt⟩ := fB0 HD9
    have hv := fE0 HD7
    have hz := fZ0 HD9 hi_
    obtain ⟨eF, lF, hF, z0, y0, rF⟩ := fF HD5
    have hx := fX0 HD9 HD5
    refine op_store (k := k0) (by rw [hfr, e8]; exact hp) (by rw [hfr, e36]; exact hv) hz (by rw [z0]; kernel_rfl) (by rw [z0]; rfl) y0 ?_
    have hsz2 : (W.setRow k0 g0).heap.size = W.heap.size := size_setRow _ _ _
    have hot : ∀ b, b ≠ k0 → (W.setRow k0 g0).heap[b]? = W.heap[b]? := fun b hb => heap_setRow_other _ _ _ _ hb
    exact ⟨u8, u9, u29, u30, u31, u32, u33, u34, u35, u36, u37, k0, lo, hi, g0, g1, hfr, (old_setRow fold hlo _),
      (fun h0 => fL0 h0),
      (fun h0 h1 => by have hx_ : d 5 = false := h1; rw [HD5] at hx_; cases hx_),
      (fun h0 => fL1 h0),
      (fun h0 h1 => by have hx_ : d 5 = false := h1; rw [HD5] at hx_; cases hx_),
      (fun h0 => fI h0),
      (fun h0 => ⟨eF, lF, by rw [hsz2]; exact hF, z0, y0, far _ _ _ _ _ _ rF (fun b h1 h2 => hot b (by omega)) (by rw [hsz2]; exact Nat.le_refl _)⟩),
      (fun h0 => fM h0),
      (fun h0 => fE0 h0),
      (fun h0 => fE1 h0),
      (fun h0 => ⟨hp, hlo, by rw [hsz2]; exact hlt⟩),
      (fun h0 h1 => by cases h1),
      (fun _ => heap_setRow_same hz),
      (fun h0 h1 => fX0 h0 h1),
      (fun h0 => fA1 h0),
      (fun h => fO6_5 h),
      (fun h => fO7_5 h),
      (fun _ => HD5),
      (fun _ => HD9),
      (fun h => fO8_5 h),
      (fun h => fO11_5 h)⟩
  · rintro d a W ⟨u8, u9, u29, u30, u31, u32, u33, u34, u35, u36, u37, k0, lo, hi, g0, g1, hfr, fold, fL0, fC0, fL1, fC1, fI, fF, fM, fE0, fE1, fB0, fZ0, fS0, fX0, fA1, fO6_5, fO7_5, fO10_5, fO10_9, fO8_5, fO11_5⟩ hi_ hd
    simp [Region.binds] at hd
    have HD5 : d 5 = true := by simp only [hd]
    have HD8 : d 8 = true := by simp only [hd]
    clear hd
    have hv := fE1 HD8
    refine op_assign ?_
    rw [show a.eval (.tmp 37) = g1 by rw [hfr, e37]; exact hv]
    exact ⟨u8, g1, u29, u30, u31, u32, u33, u34, u35, u36, u37, k0, lo, hi, g0, g1, (by rw [hfr]; exact putAll_put a0 _ _ _ rfl), (fold),
      (fun h0 => fL0 h0),
      (fun h0 h1 => fC0 h0 h1),
      (fun h0 => fL1 h0),
      (fun h0 h1 => fC1 h0 h1),
      (fun h0 => fI h0),
      (fun h0 => fF h0),
      (fun h0 => fM h0),
      (fun h0 => fE0 h0),
      (fun h0 => fE1 h0),
      (fun h0 => fB0 h0),
      (fun h0 h1 => fZ0 h0 h1),
      (fun h0 => fS0 h0),
      (fun h0 h1 => fX0 h0 h1),
      (fun _ => rfl),
      (fun h => fO6_5 h),
      (fun h => fO7_5 h),
      (fun h => fO10_5 h),
      (fun h => fO10_9 h),
      (fun h => fO8_5 h),
      (fun _ => HD5)⟩
  · rintro d a W hd ⟨u8, u9, u29, u30, u31, u32, u33, u34, u35, u36, u37, k0, lo, hi, g0, g1, hfr, fold, fL0, fC0, fL1, fC1, fI, fF, fM, fE0, fE1, fB0, fZ0, fS0, fX0, fA1, fO6_5, fO7_5, fO10_5, fO10_9, fO8_5, fO11_5⟩
    have hd2 : ∀ i, i < 12 → d i = true := hd
    clear hd
    have HD0 : d 0 = true := hd2 0 (by omega)
    have HD1 : d 1 = true := hd2 1 (by omega)
    have HD2 : d 2 = true := hd2 2 (by omega)
    have HD3 : d 3 = true := hd2 3 (by omega)
    have HD4 : d 4 = true := hd2 4 (by omega)
    have HD5 : d 5 = true := hd2 5 (by omega)
    have HD6 : d 6 = true := hd2 6 (by omega)
    have HD7 : d 7 = true := hd2 7 (by omega)
    have HD8 : d 8 = true := hd2 8 (by omega)
    have HD9 : d 9 = true := hd2 9 (by omega)
    have HD10 : d 10 = true := hd2 10 (by omega)
    have HD11 : d 11 = true := hd2 11 (by omega)
    obtain ⟨eF, lF, hF, z0, y0, rF⟩ := fF HD5
    obtain ⟨hp0, hlo0, hlt0⟩ := fB0 HD9
    rw [hp0] at hfr
    have ha_1 := fA1 HD11
    rw [ha_1] at hfr
    show K a W
    rw [hfr]
    exact HK.out k0 lo hi g0 g1 u29 u30 u31 u32 u33 u34 u35 u36 u37 W fold lF hF rF (fS0 HD10) hlo0 hlt0 (fX0 HD9 HD5)
end Go.Proofs.YtcgnndenmcmieaaDoor
/- Proved: a drawn region of the statement FnExactTurnRows, by what holds between its operations, in whatever order. -/
namespace Go.Proofs.YtcgnndenmcmieaaDoor
open Go.ChangeShapes Go.WideShapes Go.ChangeAt Go.RowKit
set_option linter.unusedVariables false
set_option linter.unusedSimpArgs false
def regionAtreg_turnrows31 (n : Nat) : Code → Option Code
  | .region i ops b => if i = n then some (.region i ops b) else none
  | .seq a b => match regionAtreg_turnrows31 n a with
    | some c => some c
    | none => regionAtreg_turnrows31 n b
  | .block _ c => regionAtreg_turnrows31 n c
  | _ => none
set_option maxRecDepth 100000 in
set_option maxHeartbeats 8000000 in
theorem reg_turnrows31 (w2 : World) (xa ya xb yb : Value) (t : Int) (ka kb : Nat)
    (CR0 : World → Value → Prop) (hCR0 : ∀ W W' v, CR0 W v → Old W W' → CR0 W' v)
    (c0 : ∀ W, Old w2 W → Calls Tryd.prog 25 #[.agg #[xa, ya]] W fun e w' => ∃ v, e = .returned v ∧ Old W w' ∧ CR0 w' v)
    (b0 : w2.heap[ka]? = some (.cells #[xa, ya] 40 (0, 0)))
    (CR1 : World → Value → Prop) (hCR1 : ∀ W W' v, CR1 W v → Old W W' → CR1 W' v)
    (c1 : ∀ W, Old w2 W → Calls Tryd.prog 35 #[.agg #[xb, yb]] W fun e w' => ∃ v, e = .returned v ∧ Old W w' ∧ CR1 w' v)
    (b1 : w2.heap[kb]? = some (.cells #[xb, yb] 57 (0, 0)))
    (RES : World → Nat → Nat → Array Value → Value → Prop) (far : ∀ W W' lo hi (g0 : Array Value) (g1 : Value), RES W lo hi g0 g1 → (∀ b, lo ≤ b → b < hi → W'.heap[b]? = W.heap[b]?) → W.heap.size ≤ W'.heap.size → RES W' lo hi g0 g1)
    (cf : ∀ W v0 v1, Old w2 W → CR0 W v0 → CR1 W v1 → Calls Tryd.prog 38 #[v0, v1, .int .i64 t] W fun e w' => ∃ (g0 : Array Value) (g1 : Value), e = .returned (.tuple #[.agg g0, g1]) ∧ Old W w' ∧ g0.size = 2 ∧ g0.all (·.oneCell') = true ∧ RES w' W.heap.size w'.heap.size g0 g1)
    (Q : Exit → Act → World → Prop) (K : Act → World → Prop) (a0 : Act) (hsz : 124 ≤ a0.tmps.size) (ha2 : a0.eval (.tmp 2) = .int .i64 t) (ha3 : a0.eval (.tmp 3) = .pointer (some ⟨ka, 0, none⟩)) (ha4 : a0.eval (.tmp 4) = .pointer (some ⟨kb, 0, none⟩))
    (HK : Hid (∀ (k0 lo hi : Nat) (g0 : Array Value) (g1 : Value) (u98 u99 u100 u101 u102 u103 u104 u105 u106 : Value) (W : World), Old w2 W → w2.heap.size ≤ lo → hi ≤ W.heap.size → RES W lo hi g0 g1 → W.heap[k0]? = some (.cells g0 46 (0, 0)) → w2.heap.size ≤ k0 → k0 < W.heap.size → (k0 < lo ∨ hi ≤ k0) → K (putAll a0 [(17, .pointer (some ⟨k0, 0, none⟩)), (18, g1), (98, u98), (99, u99), (100, u100), (101, u101), (102, u102), (103, u103), (104, u104), (105, u105), (106, u106)]) W)) :
    Code.wp Tryd.prog ((Tryd.f7.body.bind (regionAtreg_turnrows31 31)).getD .skip) (Exit.then K Q) a0 w2 := by
  conv => arg 2; whnf
  have e2 : ∀ l, (putAll a0 l).eval (.tmp 2) = (getKey l 2).getD (a0.eval (.tmp 2)) := eval_putAll a0 2 (by omega)
  have e3 : ∀ l, (putAll a0 l).eval (.tmp 3) = (getKey l 3).getD (a0.eval (.tmp 3)) := eval_putAll a0 3 (by omega)
  have e4 : ∀ l, (putAll a0 l).eval (.tmp 4) = (getKey l 4).getD (a0.eval (.tmp 4)) := eval_putAll a0 4 (by omega)
  have e17 : ∀ l, (putAll a0 l).eval (.tmp 17) = (getKey l 17).getD (a0.eval (.tmp 17)) := eval_putAll a0 17 (by omega)
  have e18 : ∀ l, (putAll a0 l).eval (.tmp 18) = (getKey l 18).getD (a0.eval (.tmp 18)) := eval_putAll a0 18 (by omega)
  have e98 : ∀ l, (putAll a0 l).eval (.tmp 98) = (getKey l 98).getD (a0.eval (.tmp 98)) := eval_putAll a0 98 (by omega)
  have e99 : ∀ l, (putAll a0 l).eval (.tmp 99) = (getKey l 99).getD (a0.eval (.tmp 99)) := eval_putAll a0 99 (by omega)
  have e100 : ∀ l, (putAll a0 l).eval (.tmp 100) = (getKey l 100).getD (a0.eval (.tmp 100)) := eval_putAll a0 100 (by omega)
  have e101 : ∀ l, (putAll a0 l).eval (.tmp 101) = (getKey l 101).getD (a0.eval (.tmp 101)) := eval_putAll a0 101 (by omega)
  have e102 : ∀ l, (putAll a0 l).eval (.tmp 102) = (getKey l 102).getD (a0.eval (.tmp 102)) := eval_putAll a0 102 (by omega)
  have e103 : ∀ l, (putAll a0 l).eval (.tmp 103) = (getKey l 103).getD (a0.eval (.tmp 103)) := eval_putAll a0 103 (by omega)
  have e104 : ∀ l, (putAll a0 l).eval (.tmp 104) = (getKey l 104).getD (a0.eval (.tmp 104)) := eval_putAll a0 104 (by omega)
  have e105 : ∀ l, (putAll a0 l).eval (.tmp 105) = (getKey l 105).getD (a0.eval (.tmp 105)) := eval_putAll a0 105 (by omega)
  have e106 : ∀ l, (putAll a0 l).eval (.tmp 106) = (getKey l 106).getD (a0.eval (.tmp 106)) := eval_putAll a0 106 (by omega)
  refine wp_region_steps (fun d a W => ∃ (u17 u18 u98 u99 u100 u101 u102 u103 u104 u105 u106 : Value) (k0 lo hi : Nat) (g0 : Array Value) (g1 : Value), a = (putAll a0 [(17, u17), (18, u18), (98, u98), (99, u99), (100, u100), (101, u101), (102, u102), (103, u103), (104, u104), (105, u105), (106, u106)]) ∧ (Old w2 W) ∧ (d 0 = true → u99 = .agg #[xa, ya]) ∧ (d 1 = true → d 5 = false → CR0 W u100) ∧ (d 2 = true → u101 = .agg #[xb, yb]) ∧ (d 3 = true → d 5 = false → CR1 W u102) ∧ (d 4 = true → u103 = .int .i64 t) ∧ (d 5 = true → u104 = .tuple #[.agg g0, g1] ∧ w2.heap.size ≤ lo ∧ hi ≤ W.heap.size ∧ g0.size = 2 ∧ g0.all (·.oneCell') = true ∧ RES W lo hi g0 g1) ∧ (d 6 = true → u98 = .tuple #[.agg g0, g1]) ∧ (d 7 = true → u105 = .agg g0) ∧ (d 8 = true → u106 = g1) ∧ (d 9 = true → u17 = .pointer (some ⟨k0, 0, none⟩) ∧ w2.heap.size ≤ k0 ∧ k0 < W.heap.size) ∧ (d 9 = true → d 10 = false → W.heap[k0]? = some (.cells #[.bool false, .slice none 0 0] 46 (0, 0))) ∧ (d 10 = true → W.heap[k0]? = some (.cells g0 46 (0, 0))) ∧ (d 9 = true → d 5 = true → (k0 < lo ∨ hi ≤ k0)) ∧ (d 11 = true → u18 = g1) ∧ (d 6 = true → d 5 = true) ∧ (d 7 = true → d 5 = true) ∧ (d 10 = true → d 5 = true) ∧ (d 10 = true → d 9 = true) ∧ (d 8 = true → d 5 = true) ∧ (d 11 = true → d 5 = true)) rfl (by decide +kernel) (by decide +kernel) ?_ ⟨?_, ?_, ?_, ?_, ?_, ?_, ?_, ?_, ?_, ?_, ?_, ?_, trivial⟩ ?_
  · exact ⟨_, _, _, _, _, _, _, _, _, _, _, 0, 0, 0, #[], undef, (putAll_self a0 [17, 18, 98, 99, 100, 101, 102, 103, 104, 105, 106] (by intro s hs; simp at hs; omega)).symm, Below.drew (Old.refl w2), (fun h => by cases h), (fun h => by cases h), (fun h => by cases h), (fun h => by cases h), (fun h => by cases h), (fun h => by cases h), (fun h => by cases h), (fun h => by cases h), (fun h => by cases h), (fun h => by cases h), (fun h => by cases h), (fun h => by cases h), (fun h => by cases h), (fun h => by cases h), (fun h => by cases h), (fun h => by cases h), (fun h => by cases h), (fun h => by cases h), (fun h => by cases h), (fun h => by cases h)⟩
  · rintro d a W ⟨u17, u18, u98, u99, u100, u101, u102, u103, u104, u105, u106, k0, lo, hi, g0, g1, hfr, fold, fL0, fC0, fL1, fC1, fI, fF, fM, fE0, fE1, fB0, fZ0, fS0, fX0, fA1, fO6_5, fO7_5, fO10_5, fO10_9, fO8_5, fO11_5⟩ hi_ hd
    simp [Region.binds] at hd
    refine op_load (k := ka) (by rw [hfr, e3]; exact ha3) (fold.block _ (lt_of_some b0) |>.trans b0) Tryd.underlying40 rfl (by kernel_rfl) ?_
    exact ⟨u17, u18, u98, .agg #[xa, ya], u100, u101, u102, u103, u104, u105, u106, k0, lo, hi, g0, g1, (by rw [hfr]; exact putAll_put a0 _ _ _ rfl), (fold),
      (fun _ => rfl),
      (fun h0 h1 => fC0 h0 h1),
      (fun h0 => fL1 h0),
      (fun h0 h1 => fC1 h0 h1),
      (fun h0 => fI h0),
      (fun h0 => fF h0),
      (fun h0 => fM h0),
      (fun h0 => fE0 h0),
      (fun h0 => fE1 h0),
      (fun h0 => fB0 h0),
      (fun h0 h1 => fZ0 h0 h1),
      (fun h0 => fS0 h0),
      (fun h0 h1 => fX0 h0 h1),
      (fun h0 => fA1 h0),
      (fun h => fO6_5 h),
      (fun h => fO7_5 h),
      (fun h => fO10_5 h),
      (fun h => fO10_9 h),
      (fun h => fO8_5 h),
      (fun h => fO11_5 h)⟩
  · rintro d a W ⟨u17, u18, u98, u99, u100, u101, u102, u103, u104, u105, u106, k0, lo, hi, g0, g1, hfr, fold, fL0, fC0, fL1, fC1, fI, fF, fM, fE0, fE1, fB0, fZ0, fS0, fX0, fA1, fO6_5, fO7_5, fO10_5, fO10_9, fO8_5, fO11_5⟩ hi_ hd
    simp [Region.binds] at hd
    have HD0 : d 0 = true := by simp only [hd]
    clear hd
    have hv := fL0 HD0
    refine op_call_ret Tryd.call25 (vs := #[.agg #[xa, ya]]) (by simp [hfr, e99, getKey, hv]) (c0 W fold) ?_
    rintro v W' ⟨g, hcr⟩
    exact ⟨u17, u18, u98, u99, v, u101, u102, u103, u104, u105, u106, k0, lo, hi, g0, g1, (by rw [hfr]; exact putAll_put a0 _ _ _ rfl), (Old.trans fold g),
      (fun h0 => fL0 h0),
      (fun _ _ => hcr),
      (fun h0 => fL1 h0),
      (fun h0 h1 => hCR1 _ _ _ (fC1 h0 h1) g),
      (fun h0 => fI h0),
      (fun h0 => by obtain ⟨e1, e2, e3, z0, y0, e9⟩ := fF h0; exact ⟨e1, e2, Nat.le_trans e3 g.size, z0, y0, far _ _ _ _ _ _ e9 (fun b _ hb => g.block b (by omega)) g.size⟩),
      (fun h0 => fM h0),
      (fun h0 => fE0 h0),
      (fun h0 => fE1 h0),
      (fun h0 => by obtain ⟨e1, e2, e3⟩ := fB0 h0; exact ⟨e1, e2, Nat.lt_of_lt_of_le e3 g.size⟩),
      (fun h0 h1 => (g.block _ (lt_of_some (fZ0 h0 h1))).trans (fZ0 h0 h1)),
      (fun h0 => (g.block _ (lt_of_some (fS0 h0))).trans (fS0 h0)),
      (fun h0 h1 => fX0 h0 h1),
      (fun h0 => fA1 h0),
      (fun h => fO6_5 h),
      (fun h => fO7_5 h),
      (fun h => fO10_5 h),
      (fun h => fO10_9 h),
      (fun h => fO8_5 h),
      (fun h => fO11_5 h)⟩
  · rintro d a W ⟨u17, u18, u98, u99, u100, u101, u102, u103, u104, u105, u106, k0, lo, hi, g0, g1, hfr, fold, fL0, fC0, fL1, fC1, fI, fF, fM, fE0, fE1, fB0, fZ0, fS0, fX0, fA1, fO6_5, fO7_5, fO10_5, fO10_9, fO8_5, fO11_5⟩ hi_ hd
    simp [Region.binds] at hd
    refine op_load (k := kb) (by rw [hfr, e4]; exact ha4) (fold.block _ (lt_of_some b1) |>.trans b1) Tryd.underlying57 rfl (by kernel_rfl) ?_
    exact ⟨u17, u18, u98, u99, u100, .agg #[xb, yb], u102, u103, u104, u105, u106, k0, lo, hi, g0, g1, (by rw [hfr]; exact putAll_put a0 _ _ _ rfl), (fold),
      (fun h0 => fL0 h0),
      (fun h0 h1 => fC0 h0 h1),
      (fun _ => rfl),
      (fun h0 h1 => fC1 h0 h1),
      (fun h0 => fI h0),
      (fun h0 => fF h0),
      (fun h0 => fM h0),
      (fun h0 => fE0 h0),
      (fun h0 => fE1 h0),
      (fun h0 => fB0 h0),
      (fun h0 h1 => fZ0 h0 h1),
      (fun h0 => fS0 h0),
      (fun h0 h1 => fX0 h0 h1),
      (fun h0 => fA1 h0),
      (fun h => fO6_5 h),
      (fun h => fO7_5 h),
      (fun h => fO10_5 h),
      (fun h => fO10_9 h),
      (fun h => fO8_5 h),
      (fun h => fO11_5 h)⟩
  · rintro d a W ⟨u17, u18, u98, u99, u100, u101, u102, u103, u104, u105, u106, k0, lo, hi, g0, g1, hfr, fold, fL0, fC0, fL1, fC1, fI, fF, fM, fE0, fE1, fB0, fZ0, fS0, fX0, fA1, fO6_5, fO7_5, fO10_5, fO10_9, fO8_5, fO11_5⟩ hi_ hd
    simp [Region.binds] at hd
    have HD2 : d 2 = true := by simp only [hd]
    clear hd
    have hv := fL1 HD2
    refine op_call_ret Tryd.call35 (vs := #[.agg #[xb, yb]]) (by simp [hfr, e101, getKey, hv]) (c1 W fold) ?_
    rintro v W' ⟨g, hcr⟩
    exact ⟨u17, u18, u98, u99, u100, u101, v, u103, u104, u105, u106, k0, lo, hi, g0, g1, (by rw [hfr]; exact putAll_put a0 _ _ _ rfl), (Old.trans fold g),
      (fun h0 => fL0 h0),
      (fun h0 h1 => hCR0 _ _ _ (fC0 h0 h1) g),
      (fun h0 => fL1 h0),
      (fun _ _ => hcr),
      (fun h0 => fI h0),
      (fun h0 => by obtain ⟨e1, e2, e3, z0, y0, e9⟩ := fF h0; exact ⟨e1, e2, Nat.le_trans e3 g.size, z0, y0, far _ _ _ _ _ _ e9 (fun b _ hb => g.block b (by omega)) g.size⟩),
      (fun h0 => fM h0),
      (fun h0 => fE0 h0),
      (fun h0 => fE1 h0),
      (fun h0 => by obtain ⟨e1, e2, e3⟩ := fB0 h0; exact ⟨e1, e2, Nat.lt_of_lt_of_le e3 g.size⟩),
      (fun h0 h1 => (g.block _ (lt_of_some (fZ0 h0 h1))).trans (fZ0 h0 h1)),
      (fun h0 => (g.block _ (lt_of_some (fS0 h0))).trans (fS0 h0)),
      (fun h0 h1 => fX0 h0 h1),
      (fun h0 => fA1 h0),
      (fun h => fO6_5 h),
      (fun h => fO7_5 h),
      (fun h => fO10_5 h),
      (fun h => fO10_9 h),
      (fun h => fO8_5 h),
      (fun h => fO11_5 h)⟩
  · rintro d a W ⟨u17, u18, u98, u99, u100, u101, u102, u103, u104, u105, u106, k0, lo, hi, g0, g1, hfr, fold, fL0, fC0, fL1, fC1, fI, fF, fM, fE0, fE1, fB0, fZ0, fS0, fX0, fA1, fO6_5, fO7_5, fO10_5, fO10_9, fO8_5, fO11_5⟩ hi_ hd
    simp [Region.binds] at hd
    refine op_move ?_
    rw [show a.eval (.tmp 2) = .int .i64 t by rw [hfr, e2]; exact ha2]
    exact ⟨u17, u18, u98, u99, u100, u101, u102, .int .i64 t, u104, u105, u106, k0, lo, hi, g0, g1, (by rw [hfr]; exact putAll_put a0 _ _ _ rfl), (fold),
      (fun h0 => fL0 h0),
      (fun h0 h1 => fC0 h0 h1),
      (fun h0 => fL1 h0),
      (fun h0 h1 => fC1 h0 h1),
      (fun _ => rfl),
      (fun h0 => fF h0),
      (fun h0 => fM h0),
      (fun h0 => fE0 h0),
      (fun h0 => fE1 h0),
      (fun h0 => fB0 h0),
      (fun h0 h1 => fZ0 h0 h1),
      (fun h0 => fS0 h0),
      (fun h0 h1 => fX0 h0 h1),
      (fun h0 => fA1 h0),
      (fun h => fO6_5 h),
      (fun h => fO7_5 h),
      (fun h => fO10_5 h),
      (fun h => fO10_9 h),
      (fun h => fO8_5 h),
      (fun h => fO11_5 h)⟩
  · rintro d a W ⟨u17, u18, u98, u99, u100, u101, u102, u103, u104, u105, u106, k0, lo, hi, g0, g1, hfr, fold, fL0, fC0, fL1, fC1, fI, fF, fM, fE0, fE1, fB0, fZ0, fS0, fX0, fA1, fO6_5, fO7_5, fO10_5, fO10_9, fO8_5, fO11_5⟩ hi_ hd
    simp [Region.binds] at hd
    have HD1 : d 1 = true := by simp only [hd]
    have HD3 : d 3 = true := by simp only [hd]
    have HD4 : d 4 = true := by simp only [hd]
    clear hd
    have hvI := fI HD4
    refine op_call_ret (R := fun v w' => ∃ (g0 : Array Value) (g1 : Value), v = .tuple #[.agg g0, g1] ∧ Old W w' ∧ g0.size = 2 ∧ g0.all (·.oneCell') = true ∧ RES w' W.heap.size w'.heap.size g0 g1) Tryd.call38 (vs := #[u100, u102, .int .i64 t]) (by simp [hfr, e100, e102, e103, hvI, getKey]) ((cf W _ _ fold (fC0 HD1 hi_) (fC1 HD3 hi_)).mono (fun e w' h => by obtain ⟨g0, g1, rfl, h⟩ := h; exact ⟨_, rfl, g0, g1, rfl, h⟩)) ?_
    rintro v W' ⟨r0, r1, rfl, g, z0, y0, hres⟩
    exact ⟨u17, u18, u98, u99, u100, u101, u102, u103, .tuple #[.agg r0, r1], u105, u106, k0, W.heap.size, W'.heap.size, r0, r1, (by rw [hfr]; exact putAll_put a0 _ _ _ rfl), (Old.trans fold g),
      (fun h0 => fL0 h0),
      (fun h0 h1 => by cases h1),
      (fun h0 => fL1 h0),
      (fun h0 h1 => by cases h1),
      (fun h0 => fI h0),
      (fun _ => ⟨rfl, (fold.size), Nat.le_refl _, z0, y0, hres⟩),
      (fun h0 => by have hx_ := fO6_5 h0; rw [hi_] at hx_; cases hx_),
      (fun h0 => by have hx_ := fO7_5 h0; rw [hi_] at hx_; cases hx_),
      (fun h0 => by have hx_ := fO8_5 h0; rw [hi_] at hx_; cases hx_),
      (fun h0 => by obtain ⟨e1, e2, e3⟩ := fB0 h0; exact ⟨e1, e2, Nat.lt_of_lt_of_le e3 g.size⟩),
      (fun h0 h1 => (g.block _ (lt_of_some (fZ0 h0 h1))).trans (fZ0 h0 h1)),
      (fun h0 => by have hx_ := fO10_5 h0; rw [hi_] at hx_; cases hx_),
      (fun hb _ => Or.inl (fB0 hb).2.2),
      (fun h0 => by have hx_ := fO11_5 h0; rw [hi_] at hx_; cases hx_),
      (fun _ => rfl),
      (fun _ => rfl),
      (fun _ => rfl),
      (fun h => fO10_9 h),
      (fun _ => rfl),
      (fun _ => rfl)⟩
  · rintro d a W ⟨u17, u18, u98, u99, u100, u101, u102, u103, u104, u105, u106, k0, lo, hi, g0, g1, hfr, fold, fL0, fC0, fL1, fC1, fI, fF, fM, fE0, fE1, fB0, fZ0, fS0, fX0, fA1, fO6_5, fO7_5, fO10_5, fO10_9, fO8_5, fO11_5⟩ hi_ hd
    simp [Region.binds] at hd
    have HD5 : d 5 = true := by simp only [hd]
    clear hd
    have hv := (fF HD5).1
    refine op_move ?_
    rw [show a.eval (.tmp 104) = .tuple #[.agg g0, g1] by rw [hfr, e104]; exact hv]
    exact ⟨u17, u18, .tuple #[.agg g0, g1], u99, u100, u101, u102, u103, u104, u105, u106, k0, lo, hi, g0, g1, (by rw [hfr]; exact putAll_put a0 _ _ _ rfl), (fold),
      (fun h0 => fL0 h0),
      (fun h0 h1 => fC0 h0 h1),
      (fun h0 => fL1 h0),
      (fun h0 h1 => fC1 h0 h1),
      (fun h0 => fI h0),
      (fun h0 => fF h0),
      (fun _ => rfl),
      (fun h0 => fE0 h0),
      (fun h0 => fE1 h0),
      (fun h0 => fB0 h0),
      (fun h0 h1 => fZ0 h0 h1),
      (fun h0 => fS0 h0),
      (fun h0 h1 => fX0 h0 h1),
      (fun h0 => fA1 h0),
      (fun _ => HD5),
      (fun h => fO7_5 h),
      (fun h => fO10_5 h),
      (fun h => fO10_9 h),
      (fun h => fO8_5 h),
      (fun h => fO11_5 h)⟩
  · rintro d a W ⟨u17, u18, u98, u99, u100, u101, u102, u103, u104, u105, u106, k0, lo, hi, g0, g1, hfr, fold, fL0, fC0, fL1, fC1, fI, fF, fM, fE0, fE1, fB0, fZ0, fS0, fX0, fA1, fO6_5, fO7_5, fO10_5, fO10_9, fO8_5, fO11_5⟩ hi_ hd
    simp [Region.binds] at hd
    have HD6 : d 6 = true := by simp only [hd]
    have HD5 : d 5 = true := fO6_5 HD6
    clear hd
    have hv := fM HD6
    refine op_extract (by rw [hfr, e98]; exact hv) rfl ?_
    exact ⟨u17, u18, u98, u99, u100, u101, u102, u103, u104, .agg g0, u106, k0, lo, hi, g0, g1, (by rw [hfr]; exact putAll_put a0 _ _ _ rfl), (fold),
      (fun h0 => fL0 h0),
      (fun h0 h1 => fC0 h0 h1),
      (fun h0 => fL1 h0),
      (fun h0 h1 => fC1 h0 h1),
      (fun h0 => fI h0),
      (fun h0 => fF h0),
      (fun h0 => fM h0),
      (fun _ => rfl),
      (fun h0 => fE1 h0),
      (fun h0 => fB0 h0),
      (fun h0 h1 => fZ0 h0 h1),
      (fun h0 => fS0 h0),
      (fun h0 h1 => fX0 h0 h1),
      (fun h0 => fA1 h0),
      (fun h => fO6_5 h),
      (fun _ => HD5),
      (fun h => fO10_5 h),
      (fun h => fO10_9 h),
      (fun h => fO8_5 h),
      (fun h => fO11_5 h)⟩
  · rintro d a W ⟨u17, u18, u98, u99, u100, u101, u102, u103, u104, u105, u106, k0, lo, hi, g0, g1, hfr, fold, fL0, fC0, fL1, fC1, fI, fF, fM, fE0, fE1, fB0, fZ0, fS0, fX0, fA1, fO6_5, fO7_5, fO10_5, fO10_9, fO8_5, fO11_5⟩ hi_ hd
    simp [Region.binds] at hd
    have HD6 : d 6 = true := by simp only [hd]
    have HD5 : d 5 = true := fO6_5 HD6
    clear hd
    have hv := fM HD6
    refine op_extract (by rw [hfr, e98]; exact hv) rfl ?_
    exact ⟨u17, u18, u98, u99, u100, u101, u102, u103, u104, u105, g1, k0, lo, hi, g0, g1, (by rw [hfr]; exact putAll_put a0 _ _ _ rfl), (fold),
      (fun h0 => fL0 h0),
      (fun h0 h1 => fC0 h0 h1),
      (fun h0 => fL1 h0),
      (fun h0 h1 => fC1 h0 h1),
      (fun h0 => fI h0),
      (fun h0 => fF h0),
      (fun h0 => fM h0),
      (fun h0 => fE0 h0),
      (fun _ => rfl),
      (fun h0 => fB0 h0),
      (fun h0 h1 => fZ0 h0 h1),
      (fun h0 => fS0 h0),
      (fun h0 h1 => fX0 h0 h1),
      (fun h0 => fA1 h0),
      (fun h => fO6_5 h),
      (fun h => fO7_5 h),
      (fun h => fO10_5 h),
      (fun h => fO10_9 h),
      (fun _ => HD5),
      (fun h => fO11_5 h)⟩
  · rintro d a W ⟨u17, u18, u98, u99, u100, u101, u102, u103, u104, u105, u106, k0, lo, hi, g0, g1, hfr, fold, fL0, fC0, fL1, fC1, fI, fF, fM, fE0, fE1, fB0, fZ0, fS0, fX0, fA1, fO6_5, fO7_5, fO10_5, fO10_9, fO8_5, fO11_5⟩ hi_ hd
    simp [Region.binds] at hd
    refine op_alloc (z := .agg #[.bool false, .slice none 0 0]) (by kernel_rfl) ?_
    have g : Old W (W.alloc (.cells #[.bool false, .slice none 0 0] 46)) := (Old.refl W).alloc _
    exact ⟨.pointer (some ⟨W.heap.size, 0, none⟩), u18, u98, u99, u100, u101, u102, u103, u104, u105, u106, W.heap.size, lo, hi, g0, g1, (by rw [hfr]; exact putAll_put a0 _ _ _ rfl), (Old.trans fold g),
      (fun h0 => fL0 h0),
      (fun h0 h1 => hCR0 _ _ _ (fC0 h0 h1) g),
      (fun h0 => fL1 h0),
      (fun h0 h1 => hCR1 _ _ _ (fC1 h0 h1) g),
      (fun h0 => fI h0),
      (fun h0 => by obtain ⟨e1, e2, e3, z0, y0, e9⟩ := fF h0; exact ⟨e1, e2, Nat.le_trans e3 g.size, z0, y0, far _ _ _ _ _ _ e9 (fun b _ hb => g.block b (by omega)) g.size⟩),
      (fun h0 => fM h0),
      (fun h0 => fE0 h0),
      (fun h0 => fE1 h0),
      (fun _ => ⟨rfl, fold.size, by simp⟩),
      (fun _ _ => heap_alloc_new W _),
      (fun h0 => by have hx_ := fO10_9 h0; rw [hi_] at hx_; cases hx_),
      (fun _ hf => Or.inr (fF hf).2.2.1),
      (fun h0 => fA1 h0),
      (fun h => fO6_5 h),
      (fun h => fO7_5 h),
      (fun h => fO10_5 h),
      (fun _ => rfl),
      (fun h => fO8_5 h),
      (fun h => fO11_5 h)⟩
  · rintro d a W ⟨u17, u18, u98, u99, u100, u101, u102, u103, u104, u105, u106, k0, lo, hi, g0, g1, hfr, fold, fL0, fC0, fL1, fC1, fI, fF, fM, fE0, fE1, fB0, fZ0, fS0, fX0, fA1, fO6_5, fO7_5, fO10_5, fO10_9, fO8_5, fO11_5⟩ hi_ hd
    simp [Region.binds] at hd
    have HD5 : d 5 = true := by simp only [hd]
    have HD7 : d 7 = true := by simp only [hd]
    have HD9 : d 9 = true := by simp only [hd]
    clear hd
    obtain ⟨hp, hlo, hlt⟩ := fB0 HD9
    have hv := fE0 HD7
    have hz := fZ0 HD9 hi_
    obtain ⟨eF, lF, hF, z0, y0, rF⟩ := fF HD5
    have hx := fX0 HD9 HD5
    refine op_store (k := k0) (by rw [hfr, e17]; exact hp) (by rw [hfr, e105]; exact hv) hz (by rw [z0]; kernel_rfl) (by rw [z0]; rfl) y0 ?_
    have hsz2 : (W.setRow k0 g0).heap.size = W.heap.size := size_setRow _ _ _
    have hot : ∀ b, b ≠ k0 → (W.setRow k0 g0).heap[b]? = W.heap[b]? := fun b hb => heap_setRow_other _ _ _ _ hb
    exact ⟨u17, u18, u98, u99, u100, u101, u102, u103, u104, u105, u106, k0, lo, hi, g0, g1, hfr, (old_setRow fold hlo _),
      (fun h0 => fL0 h0),
      (fun h0 h1 => by have hx_ : d 5 = false := h1; rw [HD5] at hx_; cases hx_),
      (fun h0 => fL1 h0),
      (fun h0 h1 => by have hx_ : d 5 = false := h1; rw [HD5] at hx_; cases hx_),
      (fun h0 => fI h0),
      (fun h0 => ⟨eF, lF, by rw [hsz2]; exact hF, z0, y0, far _ _ _ _ _ _ rF (fun b h1 h2 => hot b (by omega)) (by rw [hsz2]; exact Nat.le_refl _)⟩),
      (fun h0 => fM h0),
      (fun h0 => fE0 h0),
      (fun h0 => fE1 h0),
      (fun h0 => ⟨hp, hlo, by rw [hsz2]; exact hlt⟩),
      (fun h0 h1 => by cases h1),
      (fun _ => heap_setRow_same hz),
      (fun h0 h1 => fX0 h0 h1),
      (fun h0 => fA1 h0),
      (fun h => fO6_5 h),
      (fun h => fO7_5 h),
      (fun _ => HD5),
      (fun _ => HD9),
      (fun h => fO8_5 h),
      (fun h => fO11_5 h)⟩
  · rintro d a W ⟨u17, u18, u98, u99, u100, u101, u102, u103, u104, u105, u106, k0, lo, hi, g0, g1, hfr, fold, fL0, fC0, fL1, fC1, fI, fF, fM, fE0, fE1, fB0, fZ0, fS0, fX0, fA1, fO6_5, fO7_5, fO10_5, fO10_9, fO8_5, fO11_5⟩ hi_ hd
    simp [Region.binds] at hd
    have HD5 : d 5 = true := by simp only [hd]
    have HD8 : d 8 = true := by simp only [hd]
    clear hd
    have hv := fE1 HD8
    refine op_assign ?_
    rw [show a.eval (.tmp 106) = g1 by rw [hfr, e106]; exact hv]
    exact ⟨u17, g1, u98, u99, u100, u101, u102, u103, u104, u105, u106, k0, lo, hi, g0, g1, (by rw [hfr]; exact putAll_put a0 _ _ _ rfl), (fold),
      (fun h0 => fL0 h0),
      (fun h0 h1 => fC0 h0 h1),
      (fun h0 => fL1 h0),
      (fun h0 h1 => fC1 h0 h1),
      (fun h0 => fI h0),
      (fun h0 => fF h0),
      (fun h0 => fM h0),
      (fun h0 => fE0 h0),
      (fun h0 => fE1 h0),
      (fun h0 => fB0 h0),
      (fun h0 h1 => fZ0 h0 h1),
      (fun h0 => fS0 h0),
      (fun h0 h1 => fX0 h0 h1),
      (fun _ => rfl),
      (fun h => fO6_5 h),
      (fun h => fO7_5 h),
      (fun h => fO10_5 h),
      (fun h => fO10_9 h),
      (fun h => fO8_5 h),
      (fun _ => HD5)⟩
  · rintro d a W hd ⟨u17, u18, u98, u99, u100, u101, u102, u103, u104, u105, u106, k0, lo, hi, g0, g1, hfr, fold, fL0, fC0, fL1, fC1, fI, fF, fM, fE0, fE1, fB0, fZ0, fS0, fX0, fA1, fO6_5, fO7_5, fO10_5, fO10_9, fO8_5, fO11_5⟩
    have hd2 : ∀ i, i < 12 → d i = true := hd
    clear hd
    have HD0 : d 0 = true := hd2 0 (by omega)
    have HD1 : d 1 = true := hd2 1 (by omega)
    have HD2 : d 2 = true := hd2 2 (by omega)
    have HD3 : d 3 = true := hd2 3 (by omega)
    have HD4 : d 4 = true := hd2 4 (by omega)
    have HD5 : d 5 = true := hd2 5 (by omega)
    have HD6 : d 6 = true := hd2 6 (by omega)
    have HD7 : d 7 = true := hd2 7 (by omega)
    have HD8 : d 8 = true := hd2 8 (by omega)
    have HD9 : d 9 = true := hd2 9 (by omega)
    have HD10 : d 10 = true := hd2 10 (by omega)
    have HD11 : d 11 = true := hd2 11 (by omega)
    obtain ⟨eF, lF, hF, z0, y0, rF⟩ := fF HD5
    obtain ⟨hp0, hlo0, hlt0⟩ := fB0 HD9
    rw [hp0] at hfr
    have ha_1 := fA1 HD11
    rw [ha_1] at hfr
    show K a W
    rw [hfr]
    exact HK.out k0 lo hi g0 g1 u98 u99 u100 u101 u102 u103 u104 u105 u106 W fold lF hF rF (fS0 HD10) hlo0 hlt0 (fX0 HD9 HD5)
end Go.Proofs.YtcgnndenmcmieaaDoor
/- Proved: the drawn region of the model's l5Turn. -/
namespace Go.Proofs.YtcgnndenmcmieaaDoor
open Go.ChangeShapes Go.WideShapes Go.ChangeAt Go.RowKit
set_option linter.unusedVariables false
set_option linter.unusedSimpArgs false
def slotRgT (i : Nat) : Nat := [18, 19, 20, 21, 22, 23, 24, 25, 26, 27, 28, 29, 7].getD i 0
theorem slotRgT_lt : ∀ i, i < 13 → slotRgT i < 32 := by decide
theorem slotRgT_inj : ∀ i, i < 13 → ∀ j, j < 13 → slotRgT i = slotRgT j → i = j := by decide
theorem slotRgT_no : ∀ s, s < 18 → ∀ i, i < 12 → slotRgT i ≠ s := by decide
def qRgT (sb b1 o1 L cap1 k : Nat) (aa : Option Addr) (cap : Nat) (p N t : Int) (x1 : Option Addr) (n1 y1 : Nat) (zs : List Int) (base : Nat) (i : Nat) (W : World) (xv : Value) : Prop :=
  match i with
  | 0 => xv = .slice aa k cap
  | 1 => xv = .int .i64 p
  | 2 => xv = .pointer (some ⟨sb, 0, none⟩)
  | 3 => xv = .int .i64 N
  | 4 => xv = .slice (some ⟨b1, o1, none⟩) L cap1
  | 5 => xv = .int .i64 k
  | 6 => xv = .pointer (some ⟨b1, o1 + k, none⟩)
  | 7 => xv = .slice x1 n1 y1
  | 8 => xv = .int .i64 t
  | 9 => ∃ ra rc, xv = .slice ra zs.length rc ∧ zs.length ≤ rc ∧ Own W base xv zs
  | 10 => ∃ ra rc g, xv = .slice (some ⟨g, 0, none⟩) 1 1 ∧ zs.length ≤ rc ∧ Own W base (.slice ra zs.length rc) zs ∧ W.cell? ⟨g, 0, none⟩ = some (.slice ra zs.length rc) ∧ g < W.heap.size
  | _ => True
theorem qRgT_old (sb b1 o1 L cap1 k : Nat) (aa : Option Addr) (cap : Nat) (p N t : Int) (x1 : Option Addr) (n1 y1 : Nat) (zs : List Int) (base : Nat) (i : Nat) (W W' : World) (xv : Value) (h : qRgT sb b1 o1 L cap1 k aa cap p N t x1 n1 y1 zs base i W xv) (qo : Old W W') : qRgT sb b1 o1 L cap1 k aa cap p N t x1 n1 y1 zs base i W' xv := by
  unfold qRgT at h ⊢
  split at h
  case h_10 =>
    obtain ⟨ra, rc, e, hc, ow⟩ := h
    exact ⟨ra, rc, e, hc, ow.old qo⟩
  case h_11 =>
    obtain ⟨ra, rc, g, e, hc, ow, hcell, hlt⟩ := h
    exact ⟨ra, rc, g, e, hc, ow.old qo, (qo.cell (p := ⟨g, 0, none⟩) hlt).trans hcell, Nat.lt_of_lt_of_le hlt qo.size⟩
  all_goals first | exact h | trivial
set_option maxRecDepth 100000 in
set_option maxHeartbeats 4000000 in
theorem reg_RgT (w0 : World) (sb b1 o1 L cap1 k : Nat) (aa : Option Addr) (cap : Nat) (p N t : Int) (x1 : Option Addr) (n1 y1 : Nat) (zs : List Int) (base : Nat) (hbase : base ≤ w0.heap.size) (FIN : World → Value → Prop)
    (cN : w0.cell? ⟨sb, 0, none⟩ = some (.int .i64 N)) (c1 : w0.cell? ⟨b1, o1 + k, none⟩ = some (.slice x1 n1 y1))
    (hk : k < L) (hk6 : k ≤ 6) (hL : L ≤ 1048576) (hkL : (k : Int) < (L : Int))
    (KF : ∀ W, Old w0 W → Calls Tryd.prog 113 #[.int .i64 p, .int .i64 N, .slice x1 n1 y1, .int .i64 t] W fun e w' => ∃ v', e = .returned v' ∧ Old W w' ∧ Own w' W.heap.size v' zs)
    (HEM : ∀ (W : World) (ra : Option Addr) (rc : Nat), Old w0 W → Own W w0.heap.size (.slice ra zs.length rc) zs → zs.length ≤ rc → ∃ vs, W.ownsRow base 24 1 (.slice aa k cap) k vs ∧ (∀ v' w', w'.ownsRow base 24 1 v' (k + 1) (vs ++ [.slice ra zs.length rc]) → W.grownBy w' (Value.slice aa k cap).ownBlock → (v'.ownBlock = (Value.slice aa k cap).ownBlock ∨ v'.ownBlock = some W.heap.size) → FIN w' v'))
    (Q : Exit → Act → World → Prop) (a0 : Act) (hsz : a0.tmps.size = 32)
    (ha1 : a0.eval (.tmp 1) = .slice (some ⟨b1, o1, none⟩) L cap1) (ha2 : a0.eval (.tmp 2) = .int .i64 t) (ha3 : a0.eval (.tmp 3) = .pointer (some ⟨sb, 0, none⟩)) (ha7 : a0.eval (.tmp 7) = .slice aa k cap) (ha8 : a0.eval (.tmp 8) = .int .i64 k) (ha9 : a0.eval (.tmp 9) = .int .i64 p)
    (HK : Hid (∀ (us : Nat → Value) W, FIN W (us 12) → Q .normal (putAll a0 ((List.range 13).map fun i => (slotRgT i, us i))) W)) :
    Code.wp Tryd.prog ((Tryd.f78.body.bind (regionAtmul 5)).getD .skip) Q a0 w0 := by
  conv => arg 2; whnf
  obtain ⟨i0, ii, iz0, iz1, iz2⟩ := info_parts Tryd.infoInt
  obtain ⟨j0, ji, jz0, jz1, jz2⟩ := info_parts Tryd.infoInts
  have hsb := block_lt_of_cell cN
  have hb1 := block_lt_of_cell c1
  have un := slotRgT_no
  refine wp_region_turn 11 rfl rfl rfl (by kernel_rfl) (by kernel_rfl) (by kernel_rfl) (by kernel_rfl) (by kernel_rfl) slotRgT (fun i hi => by rw [hsz]; exact slotRgT_lt i hi) (fun i j hi hj => slotRgT_inj i hi j hj) (qRgT sb b1 o1 L cap1 k aa cap p N t x1 n1 y1 zs w0.heap.size) (qRgT_old sb b1 o1 L cap1 k aa cap p N t x1 n1 y1 zs w0.heap.size) FIN ?_ ?_ ?_ ?_
  · refine ⟨?_, ?_, ?_, ?_, ?_, ?_, ?_, ?_, ?_, ?_, ?_, trivial⟩
    · intro a W g hF hd
      have e1 := (hF.same 1 (un 1 (by decide))).trans ha1
      have e2 := (hF.same 2 (un 2 (by decide))).trans ha2
      have e3 := (hF.same 3 (un 3 (by decide))).trans ha3
      have e7 := (hF.same 7 (un 7 (by decide))).trans ha7
      have e8 := (hF.same 8 (un 8 (by decide))).trans ha8
      have e9 := (hF.same 9 (un 9 (by decide))).trans ha9
      obtain ⟨ρ, hρ⟩ : ∃ ρ, a.eval = ρ := ⟨_, rfl⟩
      rw [hρ] at  e1 e2 e3 e7 e8 e9
      refine op_val ρ hρ (.slice aa k cap) ?_ ⟨_, rfl, Old.refl _, rfl⟩
      clear g hF hd hρ HK un ha1 ha2 ha3 ha7 ha8 ha9 cN c1 KF HEM
      go_simp
      all_goals (rw [IntKind.wrap_i64]; omega)
    · intro a W g hF hd
      have e1 := (hF.same 1 (un 1 (by decide))).trans ha1
      have e2 := (hF.same 2 (un 2 (by decide))).trans ha2
      have e3 := (hF.same 3 (un 3 (by decide))).trans ha3
      have e7 := (hF.same 7 (un 7 (by decide))).trans ha7
      have e8 := (hF.same 8 (un 8 (by decide))).trans ha8
      have e9 := (hF.same 9 (un 9 (by decide))).trans ha9
      obtain ⟨ρ, hρ⟩ : ∃ ρ, a.eval = ρ := ⟨_, rfl⟩
      rw [hρ] at  e1 e2 e3 e7 e8 e9
      refine op_val ρ hρ (.int .i64 p) ?_ ⟨_, rfl, Old.refl _, rfl⟩
      clear g hF hd hρ HK un ha1 ha2 ha3 ha7 ha8 ha9 cN c1 KF HEM
      go_simp
      all_goals (rw [IntKind.wrap_i64]; omega)
    · intro a W g hF hd
      have e1 := (hF.same 1 (un 1 (by decide))).trans ha1
      have e2 := (hF.same 2 (un 2 (by decide))).trans ha2
      have e3 := (hF.same 3 (un 3 (by decide))).trans ha3
      have e7 := (hF.same 7 (un 7 (by decide))).trans ha7
      have e8 := (hF.same 8 (un 8 (by decide))).trans ha8
      have e9 := (hF.same 9 (un 9 (by decide))).trans ha9
      obtain ⟨ρ, hρ⟩ : ∃ ρ, a.eval = ρ := ⟨_, rfl⟩
      rw [hρ] at  e1 e2 e3 e7 e8 e9
      refine op_val ρ hρ (.pointer (some ⟨sb, 0, none⟩)) ?_ ⟨_, rfl, Old.refl _, rfl⟩
      clear g hF hd hρ HK un ha1 ha2 ha3 ha7 ha8 ha9 cN c1 KF HEM
      go_simp
      all_goals (rw [IntKind.wrap_i64]; omega)
    · intro a W g hF hd
      have e1 := (hF.same 1 (un 1 (by decide))).trans ha1
      have e2 := (hF.same 2 (un 2 (by decide))).trans ha2
      have e3 := (hF.same 3 (un 3 (by decide))).trans ha3
      have e7 := (hF.same 7 (un 7 (by decide))).trans ha7
      have e8 := (hF.same 8 (un 8 (by decide))).trans ha8
      have e9 := (hF.same 9 (un 9 (by decide))).trans ha9
      have h2 := hd ⟨2, .data⟩ (by simp) rfl
      simp only [qRgT, slotRgT, List.getD_cons_zero, List.getD_cons_succ] at h2
      have kcN := (g.cell (p := ⟨sb, 0, none⟩) hsb).trans cN
      obtain ⟨ρ, hρ⟩ : ∃ ρ, a.eval = ρ := ⟨_, rfl⟩
      rw [hρ] at h2 e1 e2 e3 e7 e8 e9
      refine op_val ρ hρ (.int .i64 N) ?_ ⟨_, rfl, Old.refl _, rfl⟩
      clear g hF hd hρ HK un ha1 ha2 ha3 ha7 ha8 ha9 cN c1 KF HEM
      go_simp
      all_goals (rw [IntKind.wrap_i64]; omega)
    · intro a W g hF hd
      have e1 := (hF.same 1 (un 1 (by decide))).trans ha1
      have e2 := (hF.same 2 (un 2 (by decide))).trans ha2
      have e3 := (hF.same 3 (un 3 (by decide))).trans ha3
      have e7 := (hF.same 7 (un 7 (by decide))).trans ha7
      have e8 := (hF.same 8 (un 8 (by decide))).trans ha8
      have e9 := (hF.same 9 (un 9 (by decide))).trans ha9
      obtain ⟨ρ, hρ⟩ : ∃ ρ, a.eval = ρ := ⟨_, rfl⟩
      rw [hρ] at  e1 e2 e3 e7 e8 e9
      refine op_val ρ hρ (.slice (some ⟨b1, o1, none⟩) L cap1) ?_ ⟨_, rfl, Old.refl _, rfl⟩
      clear g hF hd hρ HK un ha1 ha2 ha3 ha7 ha8 ha9 cN c1 KF HEM
      go_simp
      all_goals (rw [IntKind.wrap_i64]; omega)
    · intro a W g hF hd
      have e1 := (hF.same 1 (un 1 (by decide))).trans ha1
      have e2 := (hF.same 2 (un 2 (by decide))).trans ha2
      have e3 := (hF.same 3 (un 3 (by decide))).trans ha3
      have e7 := (hF.same 7 (un 7 (by decide))).trans ha7
      have e8 := (hF.same 8 (un 8 (by decide))).trans ha8
      have e9 := (hF.same 9 (un 9 (by decide))).trans ha9
      obtain ⟨ρ, hρ⟩ : ∃ ρ, a.eval = ρ := ⟨_, rfl⟩
      rw [hρ] at  e1 e2 e3 e7 e8 e9
      refine op_val ρ hρ (.int .i64 k) ?_ ⟨_, rfl, Old.refl _, rfl⟩
      clear g hF hd hρ HK un ha1 ha2 ha3 ha7 ha8 ha9 cN c1 KF HEM
      go_simp
      all_goals (rw [IntKind.wrap_i64]; omega)
    · intro a W g hF hd
      have e1 := (hF.same 1 (un 1 (by decide))).trans ha1
      have e2 := (hF.same 2 (un 2 (by decide))).trans ha2
      have e3 := (hF.same 3 (un 3 (by decide))).trans ha3
      have e7 := (hF.same 7 (un 7 (by decide))).trans ha7
      have e8 := (hF.same 8 (un 8 (by decide))).trans ha8
      have e9 := (hF.same 9 (un 9 (by decide))).trans ha9
      have h4 := hd ⟨4, .data⟩ (by simp) rfl
      have h5 := hd ⟨5, .data⟩ (by simp) rfl
      simp only [qRgT, slotRgT, List.getD_cons_zero, List.getD_cons_succ] at h4 h5
      obtain ⟨ρ, hρ⟩ : ∃ ρ, a.eval = ρ := ⟨_, rfl⟩
      rw [hρ] at h4 h5 e1 e2 e3 e7 e8 e9
      refine op_val ρ hρ (.pointer (some ⟨b1, o1 + k, none⟩)) ?_ ⟨_, rfl, Old.refl _, rfl⟩
      clear g hF hd hρ HK un ha1 ha2 ha3 ha7 ha8 ha9 cN c1 KF HEM
      go_simp
      all_goals (rw [IntKind.wrap_i64]; omega)
    · intro a W g hF hd
      have e1 := (hF.same 1 (un 1 (by decide))).trans ha1
      have e2 := (hF.same 2 (un 2 (by decide))).trans ha2
      have e3 := (hF.same 3 (un 3 (by decide))).trans ha3
      have e7 := (hF.same 7 (un 7 (by decide))).trans ha7
      have e8 := (hF.same 8 (un 8 (by decide))).trans ha8
      have e9 := (hF.same 9 (un 9 (by decide))).trans ha9
      have h6 := hd ⟨6, .data⟩ (by simp) rfl
      simp only [qRgT, slotRgT, List.getD_cons_zero, List.getD_cons_succ] at h6
      have kc1 := (g.cell (p := ⟨b1, o1 + k, none⟩) hb1).trans c1
      obtain ⟨ρ, hρ⟩ : ∃ ρ, a.eval = ρ := ⟨_, rfl⟩
      rw [hρ] at h6 e1 e2 e3 e7 e8 e9
      refine op_val ρ hρ (.slice x1 n1 y1) ?_ ⟨_, rfl, Old.refl _, rfl⟩
      clear g hF hd hρ HK un ha1 ha2 ha3 ha7 ha8 ha9 cN c1 KF HEM
      go_simp
      all_goals (rw [IntKind.wrap_i64]; omega)
    · intro a W g hF hd
      have e1 := (hF.same 1 (un 1 (by decide))).trans ha1
      have e2 := (hF.same 2 (un 2 (by decide))).trans ha2
      have e3 := (hF.same 3 (un 3 (by decide))).trans ha3
      have e7 := (hF.same 7 (un 7 (by decide))).trans ha7
      have e8 := (hF.same 8 (un 8 (by decide))).trans ha8
      have e9 := (hF.same 9 (un 9 (by decide))).trans ha9
      obtain ⟨ρ, hρ⟩ : ∃ ρ, a.eval = ρ := ⟨_, rfl⟩
      rw [hρ] at  e1 e2 e3 e7 e8 e9
      refine op_val ρ hρ (.int .i64 t) ?_ ⟨_, rfl, Old.refl _, rfl⟩
      clear g hF hd hρ HK un ha1 ha2 ha3 ha7 ha8 ha9 cN c1 KF HEM
      go_simp
      all_goals (rw [IntKind.wrap_i64]; omega)
    · intro a W g hF hd
      have h1 : a.eval (.tmp 19) = .int .i64 p := hd ⟨1, .data⟩ (by simp) rfl
      have h3 : a.eval (.tmp 21) = .int .i64 N := hd ⟨3, .data⟩ (by simp) rfl
      have h7 : a.eval (.tmp 25) = .slice x1 n1 y1 := hd ⟨7, .data⟩ (by simp) rfl
      have h8 : a.eval (.tmp 26) = .int .i64 t := hd ⟨8, .data⟩ (by simp) rfl
      refine op_call_ret Tryd.call113 (vs := #[.int .i64 p, .int .i64 N, .slice x1 n1 y1, .int .i64 t]) (by simp [h1, h3, h7, h8]) (KF W g) ?_
      rintro x w' ⟨g', o'⟩
      obtain ⟨ra, rc, e, hc⟩ := own_fit o'
      subst e
      exact ⟨_, rfl, g', ra, rc, rfl, hc, o'.low g.size⟩
    · intro a W g hF hd
      obtain ⟨ra, rc, h7, hc, ow⟩ : ∃ ra rc, a.eval (.tmp 27) = .slice ra zs.length rc ∧ zs.length ≤ rc ∧ Own W w0.heap.size (a.eval (.tmp 27)) zs := hd ⟨9, .data⟩ (by simp) rfl
      rw [h7] at ow
      obtain ⟨ρ, hρ⟩ : ∃ ρ, a.eval = ρ := ⟨_, rfl⟩
      rw [hρ] at h7
      refine op_valW (W' := W.alloc (.cells #[.slice ra zs.length rc] 24)) ρ hρ (.slice (some ⟨W.heap.size, 0, none⟩) 1 1) ?_ ⟨_, rfl, (Old.refl W).alloc _, ra, rc, W.heap.size, rfl, hc, ow.alloc _, cell_at _ _ _ _ _ rfl, by simp⟩
      clear g hF hd hρ HK un ha1 ha2 ha3 ha7 ha8 ha9 cN c1 KF HEM ow hc
      go_simp
  · intro a W g hF hq
    have h0 : a.eval (.tmp 18) = .slice aa k cap := hq 0 (by decide)
    obtain ⟨ra, rc, gg, h8, hc, ow, hcell, hlt⟩ : ∃ ra rc gg, a.eval (.tmp 28) = .slice (some ⟨gg, 0, none⟩) 1 1 ∧ zs.length ≤ rc ∧ Own W w0.heap.size (.slice ra zs.length rc) zs ∧ W.cell? ⟨gg, 0, none⟩ = some (.slice ra zs.length rc) ∧ gg < W.heap.size := hq 10 (by decide)
    obtain ⟨vs, ov, hem⟩ := HEM W ra rc g ow hc
    refine op_append_at _ _ 44 rfl base 24 j0 (.slice none 0 0) 1 24 Tryd.underlying44 ji jz0 jz1 jz2 rfl (by decide) _ k vs h0 ov ⟨gg, 0, none⟩ 1 1 [.slice ra zs.length rc] h8 rfl ?_ (one_sl _ _ _) (by unfold maxLen; omega) (by omega) (Nat.le_trans hbase g.size) ?_
    · intro j u hj
      match j, hj with
      | 0, hj =>
        have : Value.slice ra zs.length rc = u := by simpa using hj
        subst this
        exact hcell
      | j + 1, hj => simp at hj
    · intro v' w' o5 g5 x5 l5
      exact ⟨v', rfl, hem v' w' o5 g5 l5⟩
  · intro a W v hv
    exact op_assign (by rw [show a.eval (.tmp 29) = v from hv]; exact ⟨rfl, rfl⟩)
  · intro a W hF hq
    have hp := fram_put hF (fun i j hi hj => slotRgT_inj i hi j hj)
    have hk := HK.out (fun i => a.eval (.tmp (slotRgT i))) W hq
    rw [← hp] at hk
    exact hk
end Go.Proofs.YtcgnndenmcmieaaDoor
/- Proved: the model's rows turned (l5Turn). -/
namespace Go.Proofs.YtcgnndenmcmieaaDoor
open Go.ChangeShapes Go.WideShapes Go.ChangeAt Go.RowKit
open M1
set_option linter.unusedVariables false
set_option linter.unusedSimpArgs false
set_option maxRecDepth 100000 in
set_option maxHeartbeats 8000000 in
theorem spec_l5Turn (N t : Int) (ps : List Int) (xss zss : List (List Int)) (v u1 : Value) (w : World) (hv : Row w v ps) (h1 : RowS w u1 xss) (hps : 1 ≤ ps.length ∧ ps.length ≤ 6) (hx : xss.length = ps.length) (hzl : zss.length = ps.length)
    (KF : ∀ k, k < ps.length → ∀ W u, Row W u (xss.getD k []) → Calls Tryd.prog 113 #[.int .i64 (ps.getD k 0), .int .i64 N, u, .int .i64 t] W fun e w' => ∃ v', e = .returned v' ∧ Old W w' ∧ Own w' W.heap.size v' (zss.getD k [])) :
    Calls Tryd.prog 78 #[.agg #[.int .i64 N, v], u1, .int .i64 t] w fun e w' => ∃ v', e = .returned v' ∧ Old w w' ∧ OwS zss w' w.heap.size w'.heap.size v' := by
  have HKF : Hid (∀ k, k < ps.length → ∀ W u, Row W u (xss.getD k []) → Calls Tryd.prog 113 #[.int .i64 (ps.getD k 0), .int .i64 N, u, .int .i64 t] W fun e w' => ∃ v', e = .returned v' ∧ Old W w' ∧ Own w' W.heap.size v' (zss.getD k [])) := KF
  clear KF
  obtain ⟨a0, cap0, ev⟩ := hv.slice
  obtain ⟨a1, cap1, e1⟩ := h1.slice
  rw [hx] at e1
  subst ev e1
  rcases hv with ⟨a, cap, e, e'⟩ | ⟨b, o, cap, e, hb, h0, hc⟩
  · subst e'
    simp at hps
  rcases h1 with ⟨a, cap, e, e'⟩ | ⟨b1, o1, cap, us1, e_1, hb1, h01, hc1⟩
  · subst e'
    simp at hx
    omega
  simp only [Value.slice.injEq, true_and] at e e_1
  obtain ⟨rfl, rfl⟩ := e
  obtain ⟨rfl, hq1, rfl⟩ := e_1
  have HC : Hid (∀ j, j < ps.length → w.cell? ⟨b, o + j, none⟩ = some (.int .i64 (ps.getD j 0))) := hc
  have HC1 : Hid (∀ j, j < ps.length → w.cell? ⟨b1, o1 + j, none⟩ = some (us1 j) ∧ Row w (us1 j) (xss.getD j [])) := fun j hj => hc1 j (by omega)
  have HZ : Hid (∀ k, k < ps.length → zss.take (k + 1) = zss.take k ++ [zss.getD k []]) := fun k hk => take_succL _ _ (by omega)
  have HZL : Hid (zss.length = ps.length) := hzl
  obtain ⟨wB, hwB⟩ : ∃ wB, wB = w.alloc (.cells #[.int .i64 N, .slice (some ⟨b, o, none⟩) ps.length cap0] 49) := ⟨_, rfl⟩
  have HAO : Hid (Old w wB) := by rw [hwB]; exact (Old.refl w).alloc _
  have hq0 : wB.cell? ⟨w.heap.size, 0, none⟩ = some (.int .i64 N) := by rw [hwB]; exact cell_at _ _ _ _ _ rfl
  have hq1' : wB.cell? ⟨w.heap.size, 1, none⟩ = some (.slice (some ⟨b, o, none⟩) ps.length cap0) := by rw [hwB]; exact cell_at _ _ _ _ _ rfl
  have hqs : w.heap.size < wB.heap.size := by rw [hwB]; simp
  clear hc hc1 hzl hq1 h0 h01 hx
  go_enter Tryd.func78, Tryd.ntmps78
  go_wp2_with fail
  rw [← hwB]
  clear hwB
  go_loopw [7, 13] (fun x i W => ∃ (k : Nat) (a : Option Addr) (cap : Nat), k ≤ ps.length ∧ i = .int .i64 k ∧ x = .slice a k cap ∧ Hid (OwS (zss.take k) W wB.heap.size W.heap.size (.slice a k cap)) ∧ Hid (Old wB W)) (fun _ i _ => ps.length - (intOf i).toNat)
  case atStart => exact ⟨0, none, 0, by omega, rfl, rfl, ⟨Nat.le_refl _, Or.inl ⟨rfl, by simp⟩⟩, Old.refl _⟩
  case round =>
    obtain ⟨k, a, cap, hk, rfl, rfl, HO, HG⟩ := hrel
    have hsr := HG.out.size
    by_cases hlt : k < ps.length
    · have d1 : decide ((k : Int) < (ps.length : Int)) = true := by simp; omega
      have hkL : (k : Int) < (ps.length : Int) := by omega
      have HGW : Hid (Old w wr) := Old.trans HAO.out HG.out
      have c0 : wr.cell? ⟨b, o + k, none⟩ = some (.int .i64 (ps.getD k 0)) := (HGW.out.cell (p := ⟨b, o + k, none⟩) hb).trans (HC.out k hlt)
      obtain ⟨p1, p2⟩ := HC1.out k hlt
      obtain ⟨xa, ya, f1⟩ := p2.slice
      rw [f1] at p1 p2
      have c1 : wr.cell? ⟨b1, o1 + k, none⟩ = some (.slice xa (xss.getD k []).length ya) := (HGW.out.cell (p := ⟨b1, o1 + k, none⟩) hb1).trans p1
      have R1 : Hid (Row wr (.slice xa (xss.getD k []).length ya) (xss.getD k [])) := p2.old HGW.out
      have n0 := (HG.out.cell (p := ⟨w.heap.size, 0, none⟩) hqs).trans hq0
      have HZK : Hid (zss.take (k + 1) = zss.take k ++ [zss.getD k []]) := HZ.out k hlt
      have KFk := HKF.out k hlt
      clear p1 p2 f1
      generalize zss.getD k [] = zs at *
      generalize xss.getD k [] = xs at *
      generalize ps.getD k 0 = p at *
      have HEMB : Hid (∀ (W : World) (ra : Option Addr) (rc : Nat), Old wr W → Own W wr.heap.size (.slice ra zs.length rc) zs → zs.length ≤ rc → ∃ vs, W.ownsRow wB.heap.size 24 1 (.slice a k cap) k vs ∧ (∀ v' w', w'.ownsRow wB.heap.size 24 1 v' (k + 1) (vs ++ [.slice ra zs.length rc]) → W.grownBy w' (Value.slice a k cap).ownBlock → (v'.ownBlock = (Value.slice a k cap).ownBlock ∨ v'.ownBlock = some W.heap.size) → OwS (zss.take (k + 1)) w' wB.heap.size w'.heap.size v' ∧ Below (wB.heap.size) wr w')) := fun W ra rc g o hc => by
        have hl : (zss.take k).length = k := by rw [List.length_take]; have := HZL.out; omega
        have := OwS.app HO.out hsr g o hc
        rw [hl] at this
        rw [HZK.out]
        obtain ⟨vs, t1, t2⟩ := this
        refine ⟨vs, t1, fun v' w' q1 q2 q3 => ⟨t2 v' w' q1 q2 q3, ?_⟩⟩
        refine Below.grown (g.mono hsr) q2 (Nat.le_trans hsr g.size) (fun p hp => ?_)
        obtain ⟨hh, ⟨e, e2⟩ | ⟨p', cap', vs, e, hcap, hl, hhi, _⟩⟩ := HO.out
        · rw [e] at hp
          cases hp
        · rw [e] at hp
          simp only [Value.ownBlock, Option.some.injEq] at hp
          omega
      go_wp2_with fail
      refine reg_RgT wr w.heap.size b1 o1 ps.length cap1 k a cap p N t xa xs.length ya zs wB.heap.size hsr (fun W v => OwS (zss.take (k + 1)) W wB.heap.size W.heap.size v ∧ Old wB W) n0 c1 hlt (by omega) (by omega) hkL (fun W g => KFk W _ (R1.out.old g)) (fun W ra rc g o hc => by
        obtain ⟨vs, t1, t2⟩ := HEMB.out W ra rc g o hc
        exact ⟨vs, t1, fun v' w' q1 q2 q3 => ⟨(t2 v' w' q1 q2 q3).1, Below.trans HG.out (t2 v' w' q1 q2 q3).2⟩⟩) _ _ ?_ ?_ ?_ ?_ ?_ ?_ ?_ ?_
      iterate 7 (· exact rfl)
      intro us W' hfin
      obtain ⟨O5, G5⟩ := hfin
      have HO5 : Hid (OwS (zss.take (k + 1)) W' wB.heap.size W'.heap.size (us 12)) := O5
      have HG5 : Hid (Old wB W') := G5
      clear O5 G5 c0 c1 n0 KFk HEMB
      simp only [putAll, Act.put, slotRgT, List.range, List.range.loop, List.map_cons, List.map_nil, List.getD_cons_zero, List.getD_cons_succ, List.setIfInBounds_toArray, List.set_cons_succ, List.set_cons_zero]
      have hl1 : (zss.take (k + 1)).length = k + 1 := by rw [List.length_take]; have := HZL.out; omega
      obtain ⟨a5, cap5, e5⟩ := HO5.out.slice
      rw [hl1] at e5
      rw [e5] at HO5
      generalize us 12 = u10 at *
      subst e5
      go_wp2_with fail
      exact ⟨⟨k + 1, _, _, by omega, by go_num, rfl, HO5, HG5⟩, by simp [intOf]; omega⟩
    · have d1 : decide ((k : Int) < (ps.length : Int)) = false := by simp; omega
      obtain rfl : k = ps.length := by omega
      have HF : Hid (OwS zss wr wB.heap.size wr.heap.size (.slice a ps.length cap)) := by
        have := HO.out
        rw [List.take_of_length_le (by have := HZL.out; omega)] at this
        exact this
      go_wp2_with fail
      go_ret
      exact ⟨_, rfl, Old.trans HAO.out HG.out, HF.out.low HAO.out.size⟩
end Go.Proofs.YtcgnndenmcmieaaDoor
/- Proved: the drawn region of the model's TurnRows: rows are brought back and turned, and laid in a box. -/
namespace Go.Proofs.YtcgnndenmcmieaaDoor
open Go.ChangeShapes Go.WideShapes Go.ChangeAt Go.RowKit
set_option linter.unusedVariables false
set_option linter.unusedSimpArgs false
theorem own_setT {W : World} {lo g : Nat} {v : Value} {xs : List Int} {cs : Array Value} {fr : Nat × Nat} (h : Own W lo v xs) (hg : W.heap[g]? = some (.cells cs 46 fr)) (c : Array Value) : Own (W.setRow g c) lo v xs := by
  refine ⟨h.1, ?_⟩
  rcases h.2 with hn | ⟨p, cap, cur, rfl, hb, hgg, rest⟩
  · exact .inl hn
  · refine .inr ⟨p, cap, cur, rfl, hb, ?_, rest⟩
    rw [heap_setRow_other _ _ _ _ (fun e => by rw [e, hg] at hgg; simp at hgg)]
    exact hgg
theorem OwS.setT {xss : List (List Int)} {W : World} {lo hi g : Nat} {v : Value} {cs : Array Value} {fr : Nat × Nat} (h : OwS xss W lo hi v) (hg : W.heap[g]? = some (.cells cs 46 fr)) (c : Array Value) : OwS xss (W.setRow g c) lo hi v := by
  obtain ⟨hh, h | ⟨p, cap, vs, e, hcap, hlo, hhi, ho, hvl, hj, hd⟩⟩ := h
  · exact ⟨by rw [size_setRow]; exact hh, Or.inl h⟩
  · refine ⟨by rw [size_setRow]; exact hh, Or.inr ⟨p, cap, vs, e, hcap, hlo, hhi, ⟨ho.1, ?_⟩, hvl, fun j hjl => ?_, hd⟩⟩
    · rcases ho.2 with hn | ⟨p', cap', cur, e', hb', hgg, rest⟩
      · exact .inl hn
      · refine .inr ⟨p', cap', cur, e', hb', ?_, rest⟩
        rw [heap_setRow_other _ _ _ _ (fun e => by rw [e, hg] at hgg; simp at hgg)]
        exact hgg
    · obtain ⟨a, c', e1, hc, o, hb⟩ := hj j hjl
      exact ⟨a, c', e1, hc, ⟨own_setT o.1 hg c, by rw [size_setRow]; exact o.2.1, o.2.2⟩, hb⟩
theorem OwS.grow {xss : List (List Int)} {W W' : World} {lo : Nat} {v : Value} (h : OwS xss W lo W.heap.size v) (g : Old W W') : OwS xss W' lo W'.heap.size v :=
  ((far_OwS xss).old h g (Nat.le_refl _)).high g.size (Nat.le_refl _)
def slotTr (i : Nat) : Nat := [21, 22, 23, 24, 25, 26, 27, 8].getD i 0
theorem slotTr_lt : ∀ i, i < 8 → slotTr i < 35 := by decide
theorem slotTr_inj : ∀ i, i < 8 → ∀ j, j < 8 → slotTr i = slotTr j → i = j := by decide
theorem slotTr_no : ∀ s, s < 8 → ∀ i, i < 8 → slotTr i ≠ s := by decide
def qTr (A B : Array Value) (t : Int) (yss zss : List (List Int)) (base : Nat) (i : Nat) (W : World) (x : Value) : Prop :=
  match i with
  | 0 => x = .agg A
  | 1 => x = .agg A
  | 2 => x = .agg B
  | 3 => RowS W x yss
  | 4 => x = .int .i64 t
  | 5 => ∃ a5 c5, x = .slice a5 zss.length c5 ∧ OwS zss W base W.heap.size (.slice a5 zss.length c5)
  | 6 => ∃ a5 c5, x = .agg #[.bool false, .slice a5 zss.length c5] ∧ OwS zss W base W.heap.size (.slice a5 zss.length c5)
  | 7 => ∃ g, x = .pointer (some ⟨g, 0, none⟩) ∧ base ≤ g ∧ W.heap[g]? = some (.cells #[.bool false, .slice none 0 0] 46 (0, 0))
  | _ => True
theorem qTr_old (A B : Array Value) (t : Int) (yss zss : List (List Int)) (base : Nat) (i : Nat) (W W' : World) (x : Value) (h : qTr A B t yss zss base i W x) (q : Old W W') : qTr A B t yss zss base i W' x := by
  unfold qTr at h ⊢
  split at h
  case h_4 => exact h.old q
  case h_6 =>
    obtain ⟨a5, c5, e, o⟩ := h
    exact ⟨a5, c5, e, o.grow q⟩
  case h_7 =>
    obtain ⟨a5, c5, e, o⟩ := h
    exact ⟨a5, c5, e, o.grow q⟩
  case h_8 =>
    obtain ⟨g, e, hb, hg⟩ := h
    exact ⟨g, e, hb, (q.block g (lt_of_some hg)).trans hg⟩
  all_goals first | exact h | trivial
set_option maxRecDepth 100000 in
set_option maxHeartbeats 8000000 in
theorem reg_tr3 (w0 : World) (sb rb : Nat) (A B : Array Value) (t : Int) (yss zss : List (List Int)) (bA : w0.heap[sb]? = some (.cells A 49 (0, 0))) (bB : w0.heap[rb]? = some (.cells B 46 (0, 0))) (hA : A.size = 2) (hB : B.size = 2)
    (KB : ∀ W, Old w0 W → Calls Tryd.prog 79 #[.agg A, .agg B] W fun e w' => ∃ v', e = .returned v' ∧ Old W w' ∧ OwS yss w' W.heap.size w'.heap.size v')
    (KT : ∀ W x, Old w0 W → RowS W x yss → Calls Tryd.prog 78 #[.agg A, x, .int .i64 t] W fun e w' => ∃ v', e = .returned v' ∧ Old W w' ∧ OwS zss w' W.heap.size w'.heap.size v')
    (Q : Exit → Act → World → Prop) (a0 : Act) (hsz : a0.tmps.size = 35)
    (ha2 : a0.eval (.tmp 2) = .int .i64 t) (ha3 : a0.eval (.tmp 3) = .pointer (some ⟨sb, 0, none⟩)) (ha4 : a0.eval (.tmp 4) = .pointer (some ⟨rb, 0, none⟩))
    (HK : Hid (∀ (us : Nat → Value) W g a5 c5, Old w0 W → w0.heap.size ≤ g → us 7 = .pointer (some ⟨g, 0, none⟩) → W.heap[g]? = some (.cells #[.bool false, .slice a5 zss.length c5] 46 (0, 0)) → OwS zss W w0.heap.size W.heap.size (.slice a5 zss.length c5) → Q .normal (putAll a0 ((List.range 8).map fun i => (slotTr i, us i))) W)) :
    Code.wp Tryd.prog ((Tryd.f37.body.bind (regionAtmul 3)).getD .skip) Q a0 w0 := by
  conv => arg 2; whnf
  have un := slotTr_no
  have spc : ∀ W, Old w0 W → W.heap[sb]? = some (.cells A 49 (0, 0)) := fun W g => (g.block sb (lt_of_some bA)).trans bA
  have rws : ∀ W, Old w0 W → W.heap[rb]? = some (.cells B 46 (0, 0)) := fun W g => (g.block rb (lt_of_some bB)).trans bB
  have iA : (Tryd.prog.info? 49).map (·.size) = some A.size := by rw [hA]; kernel_rfl
  have iB : (Tryd.prog.info? 46).map (·.size) = some B.size := by rw [hB]; kernel_rfl
  refine wp_region_end 8 rfl rfl (by kernel_rfl) (by kernel_rfl) (by kernel_rfl) (by kernel_rfl) slotTr (fun i hi => by rw [hsz]; exact slotTr_lt i hi) (fun i j hi hj => slotTr_inj i hi j hj) (qTr A B t yss zss w0.heap.size) (qTr_old A B t yss zss w0.heap.size) ?_ ?_
  · refine ⟨?_, ?_, ?_, ?_, ?_, ?_, ?_, ?_, trivial⟩
    · intro a W g hF hd
      refine op_load (k := sb) ((hF.same 3 (un 3 (by decide))).trans ha3) (spc W g) Tryd.underlying49 rfl iA ?_
      exact ⟨_, rfl, Old.refl _, rfl⟩
    · intro a W g hF hd
      refine op_load (k := sb) ((hF.same 3 (un 3 (by decide))).trans ha3) (spc W g) Tryd.underlying49 rfl iA ?_
      exact ⟨_, rfl, Old.refl _, rfl⟩
    · intro a W g hF hd
      refine op_load (k := rb) ((hF.same 4 (un 4 (by decide))).trans ha4) (rws W g) Tryd.underlying46 rfl iB ?_
      exact ⟨_, rfl, Old.refl _, rfl⟩
    · intro a W g hF hd
      have h1 : a.eval (.tmp 22) = .agg A := hd ⟨1, .data⟩ (by simp) rfl
      have h2 : a.eval (.tmp 23) = .agg B := hd ⟨2, .data⟩ (by simp) rfl
      refine op_call_ret Tryd.call79 (vs := #[.agg A, .agg B]) (by simp [h1, h2]) (KB W g) ?_
      rintro x w' ⟨g', o'⟩
      exact ⟨_, rfl, g', o'.rowS⟩
    · intro a W g hF hd
      refine op_move ?_
      exact ⟨_, rfl, Old.refl _, (hF.same 2 (un 2 (by decide))).trans ha2⟩
    · intro a W g hF hd
      have h0 : a.eval (.tmp 21) = .agg A := hd ⟨0, .data⟩ (by simp) rfl
      have h3 : RowS W (a.eval (.tmp 24)) yss := hd ⟨3, .data⟩ (by simp) rfl
      have h4 : a.eval (.tmp 25) = .int .i64 t := hd ⟨4, .data⟩ (by simp) rfl
      refine op_call_ret Tryd.call78 (vs := #[.agg A, a.eval (.tmp 24), .int .i64 t]) (by simp [h0, h4]) (KT W _ g h3) ?_
      rintro x w' ⟨g', o'⟩
      obtain ⟨a5, c5, e⟩ := o'.slice
      subst e
      exact ⟨_, rfl, g', a5, c5, rfl, o'.low g.size⟩
    · intro a W g hF hd
      obtain ⟨a5, c5, h5, o5⟩ : ∃ a5 c5, a.eval (.tmp 26) = .slice a5 zss.length c5 ∧ OwS zss W w0.heap.size W.heap.size (.slice a5 zss.length c5) := hd ⟨5, .data⟩ (by simp) rfl
      obtain ⟨ρ, hρ⟩ : ∃ ρ, a.eval = ρ := ⟨_, rfl⟩
      rw [hρ] at h5
      refine op_val ρ hρ (.agg #[.bool false, .slice a5 zss.length c5]) ?_ ⟨_, rfl, Old.refl _, a5, c5, rfl, o5⟩
      clear g hF hd hρ ha2 ha3 ha4 HK un KB KT bA bB spc rws o5
      go_simp
    · intro a W g hF hd
      refine op_alloc (z := .agg #[.bool false, .slice none 0 0]) (by kernel_rfl) ?_
      exact ⟨_, rfl, (Old.refl W).alloc _, W.heap.size, rfl, g.size, heap_alloc_new W _⟩
  · intro a W g hF hq
    obtain ⟨a5, c5, h6, o6⟩ : ∃ a5 c5, a.eval (.tmp 27) = .agg #[.bool false, .slice a5 zss.length c5] ∧ OwS zss W w0.heap.size W.heap.size (.slice a5 zss.length c5) := hq 6 (by decide)
    obtain ⟨k, h7, hk, hz⟩ : ∃ k, a.eval (.tmp 8) = .pointer (some ⟨k, 0, none⟩) ∧ w0.heap.size ≤ k ∧ W.heap[k]? = some (.cells #[.bool false, .slice none 0 0] 46 (0, 0)) := hq 7 (by decide)
    have hp := fram_put hF (fun i j hi hj => slotTr_inj i hi j hj)
    have hk2 := HK.out (fun i => a.eval (.tmp (slotTr i))) (W.setRow k #[.bool false, .slice a5 zss.length c5]) k a5 c5 (old_setRow g hk _) hk h7 (heap_setRow_same hz) (by rw [size_setRow]; exact o6.setT hz _)
    rw [← hp] at hk2
    exact op_store (k := k) h7 h6 hz (by kernel_rfl) rfl (by simp [Value.oneCell']) hk2
end Go.Proofs.YtcgnndenmcmieaaDoor
/- Proved: the model's TurnRows, out of its parts. -/
namespace Go.Proofs.YtcgnndenmcmieaaDoor
open Go.ChangeShapes Go.WideShapes Go.ChangeAt Go.RowKit
set_option linter.unusedVariables false
set_option linter.unusedSimpArgs false
set_option maxRecDepth 100000 in
set_option maxHeartbeats 8000000 in
theorem spec_TurnRows_no1 (N t : Int) (ps : List Int) (a : Bool) (xss : List (List Int)) (v u1 : Value) (w : World) (ht : -9223372036854775808 ≤ t ∧ t ≤ 9223372036854775807) (hv : Row w v ps) (hf : Fit v) (h1 : RowS w u1 xss) (hlp : ps.length ≤ 1048576) (hx : ∀ x ∈ ps, -9223372036854775808 ≤ x ∧ x ≤ 9223372036854775807) (hl1 : xss.length ≤ 1048576) (hr1 : ∀ r ∈ xss, r.length ≤ 1048576) (hg : grB N ps xss = false) : Calls Tryd.prog 37 #[.agg #[.int .i64 N, v], .agg #[.bool a, u1], .int .i64 t] w (Rs w false [] false) := by
  have c1 := fun W (h : Old w W) => spec_goodRows N ps a xss v u1 W (hv.old h) hf (h1.old h) hlp hx hl1 hr1
  rw [hg] at c1
  obtain ⟨a0, cap0, ev⟩ := hv.slice
  obtain ⟨a1, cap1, e1⟩ := h1.slice
  subst ev e1
  have HA : Hid (Old w (((w.alloc (.cells #[.int .i64 N, .slice a0 ps.length cap0] 49)).alloc (.cells #[.bool a, .slice a1 xss.length cap1] 46)).alloc (.cells #[.bool false, .slice none 0 0] 46))) := (((Old.refl w).alloc _).alloc _).alloc _
  have HS : Hid (StW (((w.alloc (.cells #[.int .i64 N, .slice a0 ps.length cap0] 49)).alloc (.cells #[.bool a, .slice a1 xss.length cap1] 46)).alloc (.cells #[.bool false, .slice none 0 0] 46)) (w.heap.size + 1 + 1) (.bool false) (.slice none 0 0) 46) := by
    have := StW.new ((w.alloc (.cells #[.int .i64 N, .slice a0 ps.length cap0] 49)).alloc (.cells #[.bool a, .slice a1 xss.length cap1] 46)) (.bool false) (.slice none 0 0) 46
    simp at this
    exact this
  have HBX : Hid (∀ W', Old (((w.alloc (.cells #[.int .i64 N, .slice a0 ps.length cap0] 49)).alloc (.cells #[.bool a, .slice a1 xss.length cap1] 46)).alloc (.cells #[.bool false, .slice none 0 0] 46)) W' → StW W' w.heap.size (.int .i64 N) (.slice a0 ps.length cap0) 49 ∧ StW W' (w.heap.size + 1) (.bool a) (.slice a1 xss.length cap1) 46) := fun W' g => by
    have g1 := Old.trans ((Old.refl _).alloc _) g
    have g0 := Old.trans ((Old.refl _).alloc _) g1
    refine ⟨(StW.new w (.int .i64 N) (.slice a0 ps.length cap0) 49).old g0, ?_⟩
    have h := (StW.new (w.alloc (.cells #[.int .i64 N, .slice a0 ps.length cap0] 49)) (.bool a) (.slice a1 xss.length cap1) 46).old g1
    simp at h
    exact h
  clear hv h1 hf hx hr1 hg
  go_enter Tryd.func37, Tryd.ntmps37
  go_wp2_with fail
  refine (c1 _ HA.out).mono ?_
  rintro e w1 ⟨rfl, g1⟩
  have HG1 : Hid (Old w w1) := Old.trans HA.out g1
  have HGA : Hid (Old (((w.alloc (.cells #[.int .i64 N, .slice a0 ps.length cap0] 49)).alloc (.cells #[.bool a, .slice a1 xss.length cap1] 46)).alloc (.cells #[.bool false, .slice none 0 0] 46)) w1) := g1
  have S1 : Hid (StW w1 (w.heap.size + 1 + 1) (.bool false) (.slice none 0 0) 46) := HS.out.old g1
  have hs : w.heap.size + 1 + 1 < w1.heap.size := S1.out.lt
  clear g1
  have q0 := S1.out.c0
  have q1 := S1.out.c1
  have f0 := S1.out.f0
  have f1 := S1.out.f1
  go_wp2_with fail
  refine bodyPost_ret (ret_rb (x := .bool false) (y := .slice none 0 0) (z := .bool false) Tryd.results37 _ _ rfl rfl (st_put2 S1.out _ _)) rfl ⟨_, rfl, ?_, XR.nil _ _ _ _ (Nat.le_refl _)⟩
  exact (HG1.out.own (p := ⟨w.heap.size + 1 + 1, 0, none⟩) (by simp; omega) _).own (p := ⟨w.heap.size + 1 + 1, 1, none⟩) (by simp; omega) _
set_option maxRecDepth 100000 in
set_option maxHeartbeats 8000000 in
theorem spec_TurnRows_no2 (N t : Int) (ps : List Int) (a : Bool) (xss : List (List Int)) (v u1 : Value) (w : World) (ht : -9223372036854775808 ≤ t ∧ t ≤ 9223372036854775807) (hv : Row w v ps) (hf : Fit v) (h1 : RowS w u1 xss) (hlp : ps.length ≤ 1048576) (hx : ∀ x ∈ ps, -9223372036854775808 ≤ x ∧ x ≤ 9223372036854775807) (hl1 : xss.length ≤ 1048576) (hr1 : ∀ r ∈ xss, r.length ≤ 1048576) (hg : grB N ps xss = true) (hN : 2 ≤ N ∧ N ≤ 16) (ho : turnB N t = false) : Calls Tryd.prog 37 #[.agg #[.int .i64 N, v], .agg #[.bool a, u1], .int .i64 t] w (Rs w false [] false) := by
  have c1 := fun W (h : Old w W) => spec_goodRows N ps a xss v u1 W (hv.old h) hf (h1.old h) hlp hx hl1 hr1
  rw [hg] at c1
  have c2 := fun W => spec_odd N t W ht hN
  rw [ho] at c2
  obtain ⟨a0, cap0, ev⟩ := hv.slice
  obtain ⟨a1, cap1, e1⟩ := h1.slice
  subst ev e1
  have HA : Hid (Old w (((w.alloc (.cells #[.int .i64 N, .slice a0 ps.length cap0] 49)).alloc (.cells #[.bool a, .slice a1 xss.length cap1] 46)).alloc (.cells #[.bool false, .slice none 0 0] 46))) := (((Old.refl w).alloc _).alloc _).alloc _
  have HS : Hid (StW (((w.alloc (.cells #[.int .i64 N, .slice a0 ps.length cap0] 49)).alloc (.cells #[.bool a, .slice a1 xss.length cap1] 46)).alloc (.cells #[.bool false, .slice none 0 0] 46)) (w.heap.size + 1 + 1) (.bool false) (.slice none 0 0) 46) := by
    have := StW.new ((w.alloc (.cells #[.int .i64 N, .slice a0 ps.length cap0] 49)).alloc (.cells #[.bool a, .slice a1 xss.length cap1] 46)) (.bool false) (.slice none 0 0) 46
    simp at this
    exact this
  have HBX : Hid (∀ W', Old (((w.alloc (.cells #[.int .i64 N, .slice a0 ps.length cap0] 49)).alloc (.cells #[.bool a, .slice a1 xss.length cap1] 46)).alloc (.cells #[.bool false, .slice none 0 0] 46)) W' → StW W' w.heap.size (.int .i64 N) (.slice a0 ps.length cap0) 49 ∧ StW W' (w.heap.size + 1) (.bool a) (.slice a1 xss.length cap1) 46) := fun W' g => by
    have g1 := Old.trans ((Old.refl _).alloc _) g
    have g0 := Old.trans ((Old.refl _).alloc _) g1
    refine ⟨(StW.new w (.int .i64 N) (.slice a0 ps.length cap0) 49).old g0, ?_⟩
    have h := (StW.new (w.alloc (.cells #[.int .i64 N, .slice a0 ps.length cap0] 49)) (.bool a) (.slice a1 xss.length cap1) 46).old g1
    simp at h
    exact h
  clear hv h1 hf hx hr1 hg
  go_enter Tryd.func37, Tryd.ntmps37
  go_wp2_with fail
  refine (c1 _ HA.out).mono ?_
  rintro e w1 ⟨rfl, g1⟩
  have HG1 : Hid (Old w w1) := Old.trans HA.out g1
  have HGA : Hid (Old (((w.alloc (.cells #[.int .i64 N, .slice a0 ps.length cap0] 49)).alloc (.cells #[.bool a, .slice a1 xss.length cap1] 46)).alloc (.cells #[.bool false, .slice none 0 0] 46)) w1) := g1
  have S1 : Hid (StW w1 (w.heap.size + 1 + 1) (.bool false) (.slice none 0 0) 46) := HS.out.old g1
  have hs : w.heap.size + 1 + 1 < w1.heap.size := S1.out.lt
  have x0 := (HBX.out w1 g1).1.c0
  clear g1
  go_wp2_with fail
  refine (c2 _).mono ?_
  rintro e w1' ⟨rfl, hw'⟩
  rw [hw']
  clear x0 hw' w1'
  have q0 := S1.out.c0
  have q1 := S1.out.c1
  have f0 := S1.out.f0
  have f1 := S1.out.f1
  go_wp2_with fail
  refine bodyPost_ret (ret_rb (x := .bool false) (y := .slice none 0 0) (z := .bool false) Tryd.results37 _ _ rfl rfl (st_put2 S1.out _ _)) rfl ⟨_, rfl, ?_, XR.nil _ _ _ _ (Nat.le_refl _)⟩
  exact (HG1.out.own (p := ⟨w.heap.size + 1 + 1, 0, none⟩) (by simp; omega) _).own (p := ⟨w.heap.size + 1 + 1, 1, none⟩) (by simp; omega) _
set_option maxRecDepth 100000 in
set_option maxHeartbeats 8000000 in
theorem spec_TurnRows_back (N t : Int) (ps : List Int) (xss : List (List Int)) (v u1 : Value) (w : World) (ht : -9223372036854775808 ≤ t ∧ t ≤ 9223372036854775807) (hv : Row w v ps) (hf : Fit v) (h1 : RowS w u1 xss) (hlp : ps.length ≤ 1048576) (hx : ∀ x ∈ ps, -9223372036854775808 ≤ x ∧ x ≤ 9223372036854775807) (hl1 : xss.length ≤ 1048576) (hr1 : ∀ r ∈ xss, r.length ≤ 1048576) (hg : grB N ps xss = true) (hN : 2 ≤ N ∧ N ≤ 16) (ho : turnB N t = true) (yss zss : List (List Int))
    (KB : ∀ W, Old w W → Calls Tryd.prog 79 #[.agg #[.int .i64 N, v], .agg #[.bool false, u1]] W fun e w' => ∃ v', e = .returned v' ∧ Old W w' ∧ OwS yss w' W.heap.size w'.heap.size v')
    (KT : ∀ W x, Old w W → RowS W x yss → Calls Tryd.prog 78 #[.agg #[.int .i64 N, v], x, .int .i64 t] W fun e w' => ∃ v', e = .returned v' ∧ Old W w' ∧ OwS zss w' W.heap.size w'.heap.size v') : Calls Tryd.prog 37 #[.agg #[.int .i64 N, v], .agg #[.bool false, u1], .int .i64 t] w (Rs w false zss true) := by
  have c1 := fun W (h : Old w W) => spec_goodRows N ps false xss v u1 W (hv.old h) hf (h1.old h) hlp hx hl1 hr1
  rw [hg] at c1
  have c2 := fun W => spec_odd N t W ht hN
  rw [ho] at c2
  obtain ⟨a0, cap0, ev⟩ := hv.slice
  obtain ⟨a1, cap1, e1⟩ := h1.slice
  subst ev e1
  have HA : Hid (Old w (((w.alloc (.cells #[.int .i64 N, .slice a0 ps.length cap0] 49)).alloc (.cells #[.bool false, .slice a1 xss.length cap1] 46)).alloc (.cells #[.bool false, .slice none 0 0] 46))) := (((Old.refl w).alloc _).alloc _).alloc _
  have HS : Hid (StW (((w.alloc (.cells #[.int .i64 N, .slice a0 ps.length cap0] 49)).alloc (.cells #[.bool false, .slice a1 xss.length cap1] 46)).alloc (.cells #[.bool false, .slice none 0 0] 46)) (w.heap.size + 1 + 1) (.bool false) (.slice none 0 0) 46) := by
    have := StW.new ((w.alloc (.cells #[.int .i64 N, .slice a0 ps.length cap0] 49)).alloc (.cells #[.bool false, .slice a1 xss.length cap1] 46)) (.bool false) (.slice none 0 0) 46
    simp at this
    exact this
  have HBX : Hid (∀ W', Old (((w.alloc (.cells #[.int .i64 N, .slice a0 ps.length cap0] 49)).alloc (.cells #[.bool false, .slice a1 xss.length cap1] 46)).alloc (.cells #[.bool false, .slice none 0 0] 46)) W' → StW W' w.heap.size (.int .i64 N) (.slice a0 ps.length cap0) 49 ∧ StW W' (w.heap.size + 1) (.bool false) (.slice a1 xss.length cap1) 46) := fun W' g => by
    have g1 := Old.trans ((Old.refl _).alloc _) g
    have g0 := Old.trans ((Old.refl _).alloc _) g1
    refine ⟨(StW.new w (.int .i64 N) (.slice a0 ps.length cap0) 49).old g0, ?_⟩
    have h := (StW.new (w.alloc (.cells #[.int .i64 N, .slice a0 ps.length cap0] 49)) (.bool false) (.slice a1 xss.length cap1) 46).old g1
    simp at h
    exact h
  clear hv h1 hf hx hr1 hg
  go_enter Tryd.func37, Tryd.ntmps37
  go_wp2_with fail
  refine (c1 _ HA.out).mono ?_
  rintro e w1 ⟨rfl, g1⟩
  have HG1 : Hid (Old w w1) := Old.trans HA.out g1
  have HGA : Hid (Old (((w.alloc (.cells #[.int .i64 N, .slice a0 ps.length cap0] 49)).alloc (.cells #[.bool false, .slice a1 xss.length cap1] 46)).alloc (.cells #[.bool false, .slice none 0 0] 46)) w1) := g1
  have S1 : Hid (StW w1 (w.heap.size + 1 + 1) (.bool false) (.slice none 0 0) 46) := HS.out.old g1
  have hs : w.heap.size + 1 + 1 < w1.heap.size := S1.out.lt
  have x0 := (HBX.out w1 g1).1.c0
  clear g1
  go_wp2_with fail
  refine (c2 _).mono ?_
  rintro e w1' ⟨rfl, hw'⟩
  rw [hw']
  clear x0 hw' w1'
  have bA := (HBX.out w1 HGA.out).1
  have bB := (HBX.out w1 HGA.out).2
  go_wp2_with fail
  refine reg_tr3 w1 w.heap.size (w.heap.size + 1) _ _ t yss zss bA bB rfl rfl (fun W g => KB W (Old.trans HG1.out g)) (fun W x g h => KT W x (Old.trans HG1.out g) h) _ _ ?_ ?_ ?_ ?_ ?_
  iterate 4 (· exact rfl)
  intro us W g a5 c5 gw hgl e7 hgs ow
  simp only [putAll, Act.put, slotTr, List.range, List.range.loop, List.map_cons, List.map_nil, List.getD_cons_zero, List.getD_cons_succ, List.setIfInBounds_toArray, List.set_cons_succ, List.set_cons_zero]
  rw [e7]
  have HGW : Hid (Old w1 W) := gw
  have OW : Hid (OwS zss W w1.heap.size W.heap.size (.slice a5 zss.length c5)) := ow
  have SF : Hid (StW W (w.heap.size + 1 + 1) (.bool false) (.slice none 0 0) 46) := S1.out.old HGW.out
  have q0 := SF.out.c0
  have q1 := SF.out.c1
  have f0 := SF.out.f0
  have f1 := SF.out.f1
  have y2 := (HBX.out W (Old.trans HGA.out HGW.out)).2.c0
  have SG : Hid (StW W g (.bool false) (.slice a5 zss.length c5) 46) := hgs
  have m0 := SG.out.c0
  have m1 := SG.out.c1
  clear gw ow hgs bA bB
  go_wp2_with fail
  refine bodyPost_ret (ret_rb Tryd.results37 _ _ rfl rfl (st_put2 SF.out _ _)) rfl ⟨_, rfl, ?_, a5, c5, rfl, ?_⟩
  · exact ((Old.trans HG1.out HGW.out).own (p := ⟨w.heap.size + 1 + 1, 0, none⟩) (by simp; omega) _).own (p := ⟨w.heap.size + 1 + 1, 1, none⟩) (by simp; omega) _
  · have h2 := (OW.out.put (k := w.heap.size + 1 + 1) (j := 0) (x := .bool false) (by omega)).put (k := w.heap.size + 1 + 1) (j := 1) (x := .slice a5 zss.length c5) (by omega)
    have h3 := h2.low (lo' := w.heap.size) (by omega)
    exact h3.high (by simp) (Nat.le_refl _)
set_option maxRecDepth 100000 in
set_option maxHeartbeats 8000000 in
theorem spec_TurnRows_ahead (N t : Int) (ps : List Int) (xss : List (List Int)) (v u1 : Value) (w : World) (ht : -9223372036854775808 ≤ t ∧ t ≤ 9223372036854775807) (hv : Row w v ps) (hf : Fit v) (h1 : RowS w u1 xss) (hlp : ps.length ≤ 1048576) (hx : ∀ x ∈ ps, -9223372036854775808 ≤ x ∧ x ≤ 9223372036854775807) (hl1 : xss.length ≤ 1048576) (hr1 : ∀ r ∈ xss, r.length ≤ 1048576) (hg : grB N ps xss = true) (hN : 2 ≤ N ∧ N ≤ 16) (ho : turnB N t = true) (yss zss : List (List Int))
    (KB : ∀ W, Old w W → Calls Tryd.prog 79 #[.agg #[.int .i64 N, v], .agg #[.bool true, u1]] W fun e w' => ∃ v', e = .returned v' ∧ Old W w' ∧ OwS yss w' W.heap.size w'.heap.size v')
    (KT : ∀ W x, Old w W → RowS W x yss → Calls Tryd.prog 78 #[.agg #[.int .i64 N, v], x, .int .i64 t] W fun e w' => ∃ v', e = .returned v' ∧ Old W w' ∧ OwS zss w' W.heap.size w'.heap.size v') (qss : List (List Int))
    (KA : ∀ W x, Old w W → RowS W x zss → Calls Tryd.prog 80 #[.agg #[.int .i64 N, v], .agg #[.bool false, x]] W fun e w' => ∃ v', e = .returned v' ∧ Old W w' ∧ OwS qss w' W.heap.size w'.heap.size v') : Calls Tryd.prog 37 #[.agg #[.int .i64 N, v], .agg #[.bool true, u1], .int .i64 t] w (Rs w true qss true) := by
  have c1 := fun W (h : Old w W) => spec_goodRows N ps true xss v u1 W (hv.old h) hf (h1.old h) hlp hx hl1 hr1
  rw [hg] at c1
  have c2 := fun W => spec_odd N t W ht hN
  rw [ho] at c2
  obtain ⟨a0, cap0, ev⟩ := hv.slice
  obtain ⟨a1, cap1, e1⟩ := h1.slice
  subst ev e1
  have HA : Hid (Old w (((w.alloc (.cells #[.int .i64 N, .slice a0 ps.length cap0] 49)).alloc (.cells #[.bool true, .slice a1 xss.length cap1] 46)).alloc (.cells #[.bool false, .slice none 0 0] 46))) := (((Old.refl w).alloc _).alloc _).alloc _
  have HS : Hid (StW (((w.alloc (.cells #[.int .i64 N, .slice a0 ps.length cap0] 49)).alloc (.cells #[.bool true, .slice a1 xss.length cap1] 46)).alloc (.cells #[.bool false, .slice none 0 0] 46)) (w.heap.size + 1 + 1) (.bool false) (.slice none 0 0) 46) := by
    have := StW.new ((w.alloc (.cells #[.int .i64 N, .slice a0 ps.length cap0] 49)).alloc (.cells #[.bool true, .slice a1 xss.length cap1] 46)) (.bool false) (.slice none 0 0) 46
    simp at this
    exact this
  have HBX : Hid (∀ W', Old (((w.alloc (.cells #[.int .i64 N, .slice a0 ps.length cap0] 49)).alloc (.cells #[.bool true, .slice a1 xss.length cap1] 46)).alloc (.cells #[.bool false, .slice none 0 0] 46)) W' → StW W' w.heap.size (.int .i64 N) (.slice a0 ps.length cap0) 49 ∧ StW W' (w.heap.size + 1) (.bool true) (.slice a1 xss.length cap1) 46) := fun W' g => by
    have g1 := Old.trans ((Old.refl _).alloc _) g
    have g0 := Old.trans ((Old.refl _).alloc _) g1
    refine ⟨(StW.new w (.int .i64 N) (.slice a0 ps.length cap0) 49).old g0, ?_⟩
    have h := (StW.new (w.alloc (.cells #[.int .i64 N, .slice a0 ps.length cap0] 49)) (.bool true) (.slice a1 xss.length cap1) 46).old g1
    simp at h
    exact h
  clear hv h1 hf hx hr1 hg
  go_enter Tryd.func37, Tryd.ntmps37
  go_wp2_with fail
  refine (c1 _ HA.out).mono ?_
  rintro e w1 ⟨rfl, g1⟩
  have HG1 : Hid (Old w w1) := Old.trans HA.out g1
  have HGA : Hid (Old (((w.alloc (.cells #[.int .i64 N, .slice a0 ps.length cap0] 49)).alloc (.cells #[.bool true, .slice a1 xss.length cap1] 46)).alloc (.cells #[.bool false, .slice none 0 0] 46)) w1) := g1
  have S1 : Hid (StW w1 (w.heap.size + 1 + 1) (.bool false) (.slice none 0 0) 46) := HS.out.old g1
  have hs : w.heap.size + 1 + 1 < w1.heap.size := S1.out.lt
  have x0 := (HBX.out w1 g1).1.c0
  clear g1
  go_wp2_with fail
  refine (c2 _).mono ?_
  rintro e w1' ⟨rfl, hw'⟩
  rw [hw']
  clear x0 hw' w1'
  have bA := (HBX.out w1 HGA.out).1
  have bB := (HBX.out w1 HGA.out).2
  go_wp2_with fail
  refine reg_tr3 w1 w.heap.size (w.heap.size + 1) _ _ t yss zss bA bB rfl rfl (fun W g => KB W (Old.trans HG1.out g)) (fun W x g h => KT W x (Old.trans HG1.out g) h) _ _ ?_ ?_ ?_ ?_ ?_
  iterate 4 (· exact rfl)
  intro us W g a5 c5 gw hgl e7 hgs ow
  simp only [putAll, Act.put, slotTr, List.range, List.range.loop, List.map_cons, List.map_nil, List.getD_cons_zero, List.getD_cons_succ, List.setIfInBounds_toArray, List.set_cons_succ, List.set_cons_zero]
  rw [e7]
  have HGW : Hid (Old w1 W) := gw
  have OW : Hid (OwS zss W w1.heap.size W.heap.size (.slice a5 zss.length c5)) := ow
  have SF : Hid (StW W (w.heap.size + 1 + 1) (.bool false) (.slice none 0 0) 46) := S1.out.old HGW.out
  have q0 := SF.out.c0
  have q1 := SF.out.c1
  have f0 := SF.out.f0
  have f1 := SF.out.f1
  have y2 := (HBX.out W (Old.trans HGA.out HGW.out)).2.c0
  have SG : Hid (StW W g (.bool false) (.slice a5 zss.length c5) 46) := hgs
  have m0 := SG.out.c0
  have m1 := SG.out.c1
  clear gw ow hgs bA bB
  have y0 := (HBX.out W (Old.trans HGA.out HGW.out)).1.c0
  have y1 := (HBX.out W (Old.trans HGA.out HGW.out)).1.c1
  have hsW := HGW.out.size
  have hgW := SG.out.lt
  go_wp2_with fail
  refine (KA _ _ (Old.trans HG1.out HGW.out) OW.out.rowS).mono ?_
  rintro e w5 ⟨v5, rfl, g5, o5⟩
  obtain ⟨a6, c6, rfl⟩ := o5.slice
  have HG5 : Hid (Old W w5) := g5
  have O5 : Hid (OwS qss w5 W.heap.size w5.heap.size (.slice a6 qss.length c6)) := o5
  have S5 : Hid (StW w5 g (.bool false) (.slice a5 zss.length c5) 46) := SG.out.old g5
  clear g5 o5 y0 y1 y2 m0 m1 q0 q1 f0 f1
  have n0 := S5.out.c0
  have n1 := S5.out.c1
  have n2 := S5.out.f0
  have n3 := S5.out.f1
  obtain ⟨w6, hw6⟩ : ∃ w6, w6 = (w5.setCell ⟨g, 0, none⟩ (.bool true)).setCell ⟨g, 1, none⟩ (.slice a6 qss.length c6) := ⟨_, rfl⟩
  have S6 : Hid (StW w6 g (.bool true) (.slice a6 qss.length c6) 46) := by rw [hw6]; exact st_put2 S5.out _ _
  have G15 : Old w1 w5 := Old.trans HGW.out HG5.out
  have HG6 : Hid (Old w1 w6) := by
    rw [hw6]
    exact (G15.own (p := ⟨g, 0, none⟩) hgl _).own (p := ⟨g, 1, none⟩) hgl _
  have SR6 : Hid (StW w6 (w.heap.size + 1 + 1) (.bool false) (.slice none 0 0) 46) := S1.out.old HG6.out
  have O6 : Hid (OwS qss w6 W.heap.size w6.heap.size (.slice a6 qss.length c6)) := by
    rw [hw6]
    have h5 := (O5.out.put (k := g) (j := 0) (x := .bool true) (by omega)).put (k := g) (j := 1) (x := .slice a6 qss.length c6) (by omega)
    exact h5.high (by simp) (by simp)
  have e0 := S6.out.c0
  have e1 := S6.out.c1
  have q0 := SR6.out.c0
  have q1 := SR6.out.c1
  have f0 := SR6.out.f0
  have f1 := SR6.out.f1
  rw [hw6] at e0 e1 q0 q1 f0 f1
  go_wp2_with fail
  rw [← hw6]
  refine bodyPost_ret (ret_rb Tryd.results37 _ _ rfl rfl (st_put2 SR6.out _ _)) rfl ⟨_, rfl, ?_, a6, c6, rfl, ?_⟩
  · exact ((Old.trans HG1.out HG6.out).own (p := ⟨w.heap.size + 1 + 1, 0, none⟩) (by simp; omega) _).own (p := ⟨w.heap.size + 1 + 1, 1, none⟩) (by simp; omega) _
  · have h2 := (O6.out.put (k := w.heap.size + 1 + 1) (j := 0) (x := .bool true) (by omega)).put (k := w.heap.size + 1 + 1) (j := 1) (x := .slice a6 qss.length c6) (by omega)
    have h3 := h2.low (lo' := w.heap.size) (by omega)
    exact h3.high (by simp) (Nat.le_refl _)
end Go.Proofs.YtcgnndenmcmieaaDoor
/- Proved: the program's picked, and the change that TurnRows makes of a row. -/
namespace Go.Proofs.YtcgnndenmcmieaaDoor
open Go.ChangeShapes Go.WideShapes Go.ChangeAt Go.RowKit
open M1
set_option linter.unusedVariables false
set_option linter.unusedSimpArgs false
set_option maxRecDepth 100000 in
set_option maxHeartbeats 8000000 in
theorem impl_picked (p r : Int) (n : Bool) (Nn : Nat) (xs ts zs : List Int) (ua : Option Addr) (tv : Value) (w : World) (hv : Row w (.slice ua Nn Nn) xs) (ht : Row w tv ts) (hN : 2 ≤ Nn ∧ Nn ≤ 16) (la : xs.length = Nn) (lt : ts.length = Nn) (lz : zs.length = Nn) (hz : ∀ i, i < Nn → (0 ≤ ts.getD i 0 ∧ ts.getD i 0 < Nn) ∧ zs.getD i 0 = xs.getD (ts.getD i 0).toNat 0) :
    Calls Tryd.prog 84 #[.agg #[.int .i64 p, .int .i64 Nn, .int .i64 r, .bool n, .slice ua Nn Nn], tv] w fun e w' => ∃ g cp, e = .returned (.slice (some ⟨g, 0, none⟩) Nn cp) ∧ Nn ≤ cp ∧ Old w w' ∧ Own w' w.heap.size (.slice (some ⟨g, 0, none⟩) Nn cp) zs := by
  obtain ⟨i0, hi, hz0, hz1, hz2⟩ := info_parts Tryd.infoInt
  obtain ⟨at0, tc, et⟩ := ht.slice
  rw [lt] at et
  subst et
  rcases hv with ⟨_, _, e, e'⟩ | ⟨b1, o1, cap1, e, hb1, h01, hc1⟩
  · subst e'
    simp at la
    omega
  rcases ht with ⟨_, _, e', e''⟩ | ⟨b2, o2, cap2, e', hb2, h02, hc2⟩
  · subst e''
    simp at lt
    omega
  simp only [Value.slice.injEq] at e e'
  obtain ⟨rfl, e7, e8⟩ := e
  obtain ⟨rfl, e9, e10⟩ := e'
  have HC1 : Hid (∀ j, j < Nn → w.cell? ⟨b1, o1 + j, none⟩ = some (.int .i64 (xs.getD j 0))) := fun j hj => hc1 j (by omega)
  have HC2 : Hid (∀ j, j < Nn → w.cell? ⟨b2, o2 + j, none⟩ = some (.int .i64 (ts.getD j 0))) := fun j hj => hc2 j (by omega)
  have HE : Hid (∀ i, i < Nn → (0 ≤ ts.getD i 0 ∧ ts.getD i 0 < Nn) ∧ zs.getD i 0 = xs.getD (ts.getD i 0).toNat 0) := hz
  clear hc1 hc2 e7 e8 e9 e10 h01 h02 hz la lt
  obtain ⟨wB, hwB⟩ : ∃ wB, wB = w.alloc (.cells #[.int .i64 p, .int .i64 Nn, .int .i64 r, .bool n, .slice (some ⟨b1, o1, none⟩) Nn Nn] 105) := ⟨_, rfl⟩
  have HWB : Hid (Old w wB) := by rw [hwB]; exact (Old.refl w).alloc _
  have HB : Hid (∀ W', Old wB W' → (W'.cell? ⟨w.heap.size, 1, none⟩ = some (.int .i64 Nn) ∧ W'.cell? ⟨w.heap.size, 4, none⟩ = some (.slice (some ⟨b1, o1, none⟩) Nn Nn))) := fun W' g => by
    rw [hwB] at g
    exact ⟨(g.cell (p := ⟨w.heap.size, 1, none⟩) (by simp)).trans (cell_at _ _ _ _ _ rfl), (g.cell (p := ⟨w.heap.size, 4, none⟩) (by simp)).trans (cell_at _ _ _ _ _ rfl)⟩
  have HSZ : wB.heap.size = w.heap.size + 1 := by rw [hwB]; simp
  go_enter Tryd.func84, Tryd.ntmps84
  go_wp2_with (at_make; rw [← hwB]; refine wpList_make_full _ rfl _ _ 24 rfl wB.heap.size 3 i0 (.int .i64 0) 1 Tryd.underlying24 hi hz0 hz1 .i64 .i64 _ _ Nn rfl rfl rfl rfl (by rw [hz2]; omega) (by unfold maxLen; omega) (Nat.le_refl _) ?_; intro w1 hown hgrow; have HO1 : Hid (OwnI w1 (w.heap.size + 1) (w.heap.size + 1) Nn (List.replicate Nn 0)) := (by rw [made_ints, HSZ] at hown; exact hown); have HG1 : Hid (Old wB w1) := Old.by_ (Old.refl _) hgrow (fun b hb => by cases hb); rw [HSZ]; clear hown hgrow)
  go_loopw [14] (fun i W => ∃ k : Nat, k ≤ Nn ∧ i = .int .i64 k ∧ Hid (OwnI W (w.heap.size + 1) (w.heap.size + 1) Nn (fillN zs k)) ∧ Hid (Old wB W)) (fun i _ => Nn - (intOf i).toNat)
  case atStart => exact ⟨0, by omega, rfl, (by show OwnI _ _ _ _ _; rw [fillN_zero, lz]; exact HO1.out), HG1⟩
  case round =>
    obtain ⟨k, hk, rfl, HO, HG2⟩ := hrel
    have HGW : Hid (Old w wr) := Old.trans HWB.out HG2.out
    by_cases hlt : k < Nn
    · have d1 : decide ((k : Int) < (Nn : Int)) = true := by simp; omega
      have i1 : (k : Int) < (Nn : Int) := by omega
      obtain ⟨⟨t1, t2⟩, hzk⟩ := HE.out k hlt
      obtain ⟨m, hm⟩ : ∃ m : Nat, ts.getD k 0 = m := ⟨(ts.getD k 0).toNat, by omega⟩
      have c2 : wr.cell? ⟨b2, o2 + k, none⟩ = some (.int .i64 (ts.getD k 0)) := (HGW.out.cell (p := ⟨b2, o2 + k, none⟩) hb2).trans (HC2.out k hlt)
      rw [hm] at c2 t2 hzk
      rw [Int.toNat_natCast] at hzk
      have i2 : (m : Int) < (Nn : Int) := t2
      have c1 : wr.cell? ⟨b1, o1 + m, none⟩ = some (.int .i64 (xs.getD m 0)) := (HGW.out.cell (p := ⟨b1, o1 + m, none⟩) hb1).trans (HC1.out m (by omega))
      obtain ⟨z1, z4⟩ := HB.out wr HG2.out
      have c3 := HO.out.get (fillN_len zs k (by omega) |>.trans lz) k hlt
      have c4 := HO.out.free k
      have HP : Hid (OwnI (wr.setCell ⟨w.heap.size + 1, k, none⟩ (.int .i64 (xs.getD m 0))) (w.heap.size + 1) (w.heap.size + 1) Nn (fillN zs (k + 1))) := by
        have := HO.out.put k (xs.getD m 0)
        rw [← hzk, fillN_set zs k (by omega)] at this
        rw [← hzk]
        exact this
      have HN2 : Hid (Old wB (wr.setCell ⟨w.heap.size + 1, k, none⟩ (.int .i64 (xs.getD m 0)))) := HG2.out.own (p := ⟨w.heap.size + 1, k, none⟩) (by rw [HSZ]; exact Nat.le_refl _) _
      generalize xs.getD m 0 = x at *
      generalize (fillN zs k).getD k 0 = oldv at *
      clear HO1 HG1 hzk hm
      go_wp2_with fail
      exact ⟨⟨k + 1, by omega, by go_num, HP.out, HN2.out⟩, by simp [intOf]; omega⟩
    · have d1 : decide ((k : Int) < (Nn : Int)) = false := by simp; omega
      obtain rfl : k = Nn := by omega
      have HF : Hid (Own wr (w.heap.size + 1) (.slice (some ⟨w.heap.size + 1, 0, none⟩) k k) zs) := by
        have := HO.out.own ((fillN_len zs k (by omega)).trans lz)
        rw [show fillN zs k = zs by rw [← lz]; exact fillN_all zs] at this
        exact this
      go_wp2_with fail
      go_ret
      exact ⟨_, _, rfl, Nat.le_refl _, HGW.out, HF.out.low (by omega)⟩
set_option maxRecDepth 100000 in
set_option maxHeartbeats 8000000 in
theorem turn_change_true (p r t : Int) (Nn : Nat) (zs : List Int) (ua : Option Addr) (tb gb : Nat) (at0 : Option Addr) (tl tc : Nat) (w : World) (ht : w.cell? ⟨tb, 0, none⟩ = some (.slice at0 tl tc)) (hg : w.cell? ⟨gb, 0, none⟩ = some (.int .i64 t)) (KC : ∀ W, Old w W → Calls Tryd.prog 84 #[.agg #[.int .i64 p, .int .i64 Nn, .int .i64 r, .bool true, .slice ua Nn Nn], .slice at0 tl tc] W fun e w' => ∃ g cp, e = .returned (.slice (some ⟨g, 0, none⟩) Nn cp) ∧ Nn ≤ cp ∧ Old W w' ∧ Own w' W.heap.size (.slice (some ⟨g, 0, none⟩) Nn cp) zs) :
    Calls Tryd.prog 83 #[.agg #[.int .i64 p, .int .i64 Nn, .int .i64 r, .bool true, .slice ua Nn Nn], .pointer (some ⟨tb, 0, none⟩), .pointer (some ⟨gb, 0, none⟩)] w fun e w' => ∃ g cp, e = .returned (.slice (some ⟨g, 0, none⟩) Nn cp) ∧ Nn ≤ cp ∧ Old w w' ∧ Own w' w.heap.size (.slice (some ⟨g, 0, none⟩) Nn cp) zs := by
  have htb := block_lt_of_cell ht
  have hgb := block_lt_of_cell hg
  obtain ⟨wB, hwB⟩ : ∃ wB, wB = w.alloc (.cells #[.int .i64 p, .int .i64 Nn, .int .i64 r, .bool true, .slice ua Nn Nn] 105) := ⟨_, rfl⟩
  have HWB : Hid (Old w wB) := by rw [hwB]; exact (Old.refl w).alloc _
  have kc := KC wB HWB.out
  have k1 := (HWB.out.cell (p := ⟨tb, 0, none⟩) htb).trans ht
  have k2 := (HWB.out.cell (p := ⟨gb, 0, none⟩) hgb).trans hg
  rw [hwB] at k1 k2
  clear KC ht hg
  go_enter Tryd.func83, Tryd.ntmps83
  go_wp2_with fail
  rw [← hwB]
  refine kc.mono ?_
  rintro e w2 ⟨g, cp, rfl, hcp, g2, o2⟩
  have HG2 : Hid (Old w w2) := Old.trans HWB.out g2
  have HO2 : Hid (Own w2 w.heap.size (.slice (some ⟨g, 0, none⟩) Nn cp) zs) := o2.low HWB.out.size
  clear g2 o2
  go_wp2_with fail
  go_ret
  exact ⟨g, cp, rfl, hcp, HG2.out, HO2.out⟩
set_option maxRecDepth 100000 in
set_option maxHeartbeats 8000000 in
theorem turn_change_false (p r t : Int) (Nn : Nat) (zs : List Int) (ua : Option Addr) (tb gb : Nat) (at0 : Option Addr) (tl tc : Nat) (w : World) (ht : w.cell? ⟨tb, 0, none⟩ = some (.slice at0 tl tc)) (hg : w.cell? ⟨gb, 0, none⟩ = some (.int .i64 t)) (KC : ∀ W, Old w W → Calls Tryd.prog 85 #[.agg #[.int .i64 p, .int .i64 Nn, .int .i64 r], .slice ua Nn Nn, .int .i64 t] W fun e w' => ∃ v', e = .returned v' ∧ Old W w' ∧ Own w' W.heap.size v' zs) (hz : zs.length = Nn) (h0 : 0 < Nn) :
    Calls Tryd.prog 83 #[.agg #[.int .i64 p, .int .i64 Nn, .int .i64 r, .bool false, .slice ua Nn Nn], .pointer (some ⟨tb, 0, none⟩), .pointer (some ⟨gb, 0, none⟩)] w fun e w' => ∃ g cp, e = .returned (.slice (some ⟨g, 0, none⟩) Nn cp) ∧ Nn ≤ cp ∧ Old w w' ∧ Own w' w.heap.size (.slice (some ⟨g, 0, none⟩) Nn cp) zs := by
  have htb := block_lt_of_cell ht
  have hgb := block_lt_of_cell hg
  obtain ⟨wB, hwB⟩ : ∃ wB, wB = w.alloc (.cells #[.int .i64 p, .int .i64 Nn, .int .i64 r, .bool false, .slice ua Nn Nn] 105) := ⟨_, rfl⟩
  have HWB : Hid (Old w wB) := by rw [hwB]; exact (Old.refl w).alloc _
  have kc := KC wB HWB.out
  have k1 := (HWB.out.cell (p := ⟨tb, 0, none⟩) htb).trans ht
  have k2 := (HWB.out.cell (p := ⟨gb, 0, none⟩) hgb).trans hg
  rw [hwB] at k1 k2
  clear KC ht hg
  go_enter Tryd.func83, Tryd.ntmps83
  go_wp2_with fail
  rw [← hwB]
  refine kc.mono ?_
  rintro e w2 ⟨v2, rfl, g2, o2⟩
  have HG2 : Hid (Old w w2) := Old.trans HWB.out g2
  obtain ⟨g, cp, e2, hcp⟩ := own_some o2 (by omega)
  rw [hz] at e2 hcp
  subst e2
  have HO2 : Hid (Own w2 w.heap.size (.slice (some ⟨g, 0, none⟩) Nn cp) zs) := o2.low HWB.out.size
  clear g2 o2
  go_wp2_with fail
  go_ret
  exact ⟨g, cp, rfl, hcp, HG2.out, HO2.out⟩
end Go.Proofs.YtcgnndenmcmieaaDoor
/- Proved: the program's eachRow. -/
namespace Go.Proofs.YtcgnndenmcmieaaDoor
open Go.ChangeShapes Go.WideShapes Go.ChangeAt Go.RowKit
open M1
set_option linter.unusedVariables false
set_option linter.unusedSimpArgs false
set_option maxRecDepth 100000 in
set_option maxHeartbeats 4000000 in
theorem eachRow_turn_no (tb gb : Nat) (N : Int) (ps : List Int) (a ah : Bool) (xss : List (List Int)) (Rf : Nat → Int) (us1 : Nat → Option Addr) (v : Value) (a1 : Option Addr) (cap1 : Nat) (w : World) (hP : PrsW w) (hT : TabW w) (hv : Row w v ps)
    (c1 : ∀ W, PrsW W → TabW W → Old w W → Calls Tryd.prog 112 #[.agg #[.int .i64 N, v], .agg #[.bool a, .slice a1 xss.length cap1]] W fun e w' => Old W w' ∧ ((grB N ps xss = false ∧ e = .returned (.tuple #[.slice none 0 0, .bool false])) ∨ (grB N ps xss = true ∧ ∃ g, W.heap.size ≤ g ∧ e = .returned (.tuple #[.slice (some ⟨g, 0, none⟩) ps.length ps.length, .bool true]) ∧ RRs w' g N a ps Rf us1 ps.length))) (hno : grB N ps xss = false) :
    Calls Tryd.prog 82 #[.agg #[.int .i64 N, v], .agg #[.bool a, .slice a1 xss.length cap1], .bool ah, .func (.func 83) #[] #[.pointer (some ⟨tb, 0, none⟩), .pointer (some ⟨gb, 0, none⟩)]] w (Rs w false [] false) := by
  have HP : Hid (PrsW w) := hP
  have HT : Hid (TabW w) := hT
  obtain ⟨a0, cap0, ev⟩ := hv.slice
  subst ev
  have HA : Hid (Old w (((w.alloc (.cells #[.int .i64 N, .slice a0 ps.length cap0] 49)).alloc (.cells #[.bool a, .slice a1 xss.length cap1] 46)).alloc (.cells #[.bool false, .slice none 0 0] 46))) := (((Old.refl w).alloc _).alloc _).alloc _
  have HS : Hid (StW (((w.alloc (.cells #[.int .i64 N, .slice a0 ps.length cap0] 49)).alloc (.cells #[.bool a, .slice a1 xss.length cap1] 46)).alloc (.cells #[.bool false, .slice none 0 0] 46)) (w.heap.size + 1 + 1) (.bool false) (.slice none 0 0) 46) := by
    have := StW.new ((w.alloc (.cells #[.int .i64 N, .slice a0 ps.length cap0] 49)).alloc (.cells #[.bool a, .slice a1 xss.length cap1] 46)) (.bool false) (.slice none 0 0) 46
    simp at this
    exact this
  clear hv hP hT
  go_enter Tryd.func82, Tryd.ntmps82
  go_wp2_with fail
  refine (c1 _ (HP.out.old HA.out) (HT.out.old HA.out) HA.out).mono ?_
  rintro e w2 ⟨g1, hl⟩
  have HG2 : Hid (Old w w2) := Old.trans HA.out g1
  have S2 : Hid (StW w2 (w.heap.size + 1 + 1) (.bool false) (.slice none 0 0) 46) := HS.out.old g1
  have hs2 : w.heap.size + 1 + 1 < w2.heap.size := S2.out.lt
  clear g1
  rcases hl with ⟨hB, rfl⟩ | ⟨hB, g, hg, rfl, hrr⟩
  · have q0 := S2.out.c0
    have q1 := S2.out.c1
    have f0 := S2.out.f0
    have f1 := S2.out.f1
    clear hB hno
    go_wp2_with fail
    refine bodyPost_ret (ret_rb (x := .bool false) (y := .slice none 0 0) (z := .bool false) Tryd.results82 _ _ rfl rfl (st_put2 S2.out _ _)) rfl ⟨_, rfl, ?_, XR.nil _ _ _ _ (Nat.le_refl _)⟩
    exact (HG2.out.own (p := ⟨w.heap.size + 1 + 1, 0, none⟩) (by simp; omega) _).own (p := ⟨w.heap.size + 1 + 1, 1, none⟩) (by simp; omega) _
  · rw [hno] at hB
    cases hB
set_option maxRecDepth 100000 in
set_option maxHeartbeats 8000000 in
theorem eachRow_turn_yes (tb gb : Nat) (Nn : Nat) (ps : List Int) (a ah : Bool) (xss : List (List Int)) (Rf : Nat → Int) (us1 : Nat → Option Addr) (v : Value) (a1 : Option Addr) (cap1 : Nat) (w : World) (hP : PrsW w) (hT : TabW w) (hv : Row w v ps)
    (c1 : ∀ W, PrsW W → TabW W → Old w W → Calls Tryd.prog 112 #[.agg #[.int .i64 Nn, v], .agg #[.bool a, .slice a1 xss.length cap1]] W fun e w' => Old W w' ∧ ((grB Nn ps xss = false ∧ e = .returned (.tuple #[.slice none 0 0, .bool false])) ∨ (grB Nn ps xss = true ∧ ∃ g, W.heap.size ≤ g ∧ e = .returned (.tuple #[.slice (some ⟨g, 0, none⟩) ps.length ps.length, .bool true]) ∧ RRs w' g Nn a ps Rf us1 ps.length))) (hx : grB Nn ps xss = true) (zss : List (List Int)) (hzl : zss.length = ps.length) (hps : ps.length ≤ 6)
    (cj : ∀ k, k < ps.length → (zss.getD k []).length = Nn ∧ ∀ W, Old w W → Calls Tryd.prog 83 #[.agg #[.int .i64 (ps.getD k 0), .int .i64 Nn, .int .i64 (Rf k), .bool a, .slice (us1 k) Nn Nn], .pointer (some ⟨tb, 0, none⟩), .pointer (some ⟨gb, 0, none⟩)] W fun e w' => ∃ g cp, e = .returned (.slice (some ⟨g, 0, none⟩) Nn cp) ∧ Nn ≤ cp ∧ Old W w' ∧ Own w' W.heap.size (.slice (some ⟨g, 0, none⟩) Nn cp) (zss.getD k [])) :
    Calls Tryd.prog 82 #[.agg #[.int .i64 Nn, v], .agg #[.bool a, .slice a1 xss.length cap1], .bool ah, .func (.func 83) #[] #[.pointer (some ⟨tb, 0, none⟩), .pointer (some ⟨gb, 0, none⟩)]] w (Rs w ah zss true) := by
  obtain ⟨i0, hi, hz0, hz1, hz2⟩ := info_parts Tryd.infoInts
  have HZL : Hid (zss.length = ps.length) := hzl
  have HCJ : Hid (∀ k, k < ps.length → (zss.getD k []).length = Nn ∧ ∀ W, Old w W → Calls Tryd.prog 83 #[.agg #[.int .i64 (ps.getD k 0), .int .i64 Nn, .int .i64 (Rf k), .bool a, .slice (us1 k) Nn Nn], .pointer (some ⟨tb, 0, none⟩), .pointer (some ⟨gb, 0, none⟩)] W fun e w' => ∃ g cp, e = .returned (.slice (some ⟨g, 0, none⟩) Nn cp) ∧ Nn ≤ cp ∧ Old W w' ∧ Own w' W.heap.size (.slice (some ⟨g, 0, none⟩) Nn cp) (zss.getD k [])) := cj
  clear hzl cj
  have HP : Hid (PrsW w) := hP
  have HT : Hid (TabW w) := hT
  obtain ⟨a0, cap0, ev⟩ := hv.slice
  subst ev
  have HA : Hid (Old w (((w.alloc (.cells #[.int .i64 Nn, .slice a0 ps.length cap0] 49)).alloc (.cells #[.bool a, .slice a1 xss.length cap1] 46)).alloc (.cells #[.bool false, .slice none 0 0] 46))) := (((Old.refl w).alloc _).alloc _).alloc _
  have HS : Hid (StW (((w.alloc (.cells #[.int .i64 Nn, .slice a0 ps.length cap0] 49)).alloc (.cells #[.bool a, .slice a1 xss.length cap1] 46)).alloc (.cells #[.bool false, .slice none 0 0] 46)) (w.heap.size + 1 + 1) (.bool false) (.slice none 0 0) 46) := by
    have := StW.new ((w.alloc (.cells #[.int .i64 Nn, .slice a0 ps.length cap0] 49)).alloc (.cells #[.bool a, .slice a1 xss.length cap1] 46)) (.bool false) (.slice none 0 0) 46
    simp at this
    exact this
  clear hv hP hT
  go_enter Tryd.func82, Tryd.ntmps82
  go_wp2_with fail
  refine (c1 _ (HP.out.old HA.out) (HT.out.old HA.out) HA.out).mono ?_
  rintro e w2 ⟨g1, hl⟩
  have HG2 : Hid (Old w w2) := Old.trans HA.out g1
  have S2 : Hid (StW w2 (w.heap.size + 1 + 1) (.bool false) (.slice none 0 0) 46) := HS.out.old g1
  have hs2 : w.heap.size + 1 + 1 < w2.heap.size := S2.out.lt
  clear g1
  rcases hl with ⟨hB, rfl⟩ | ⟨hB, g, hg, rfl, hrr⟩
  · rw [hx] at hB
    cases hB
  · have HLB : Hid (RRs w2 g Nn a ps Rf us1 ps.length) := hrr
    clear hrr hg hB hx
    go_wp2_with (at_make; refine wpList_make_full _ rfl _ _ 44 rfl w2.heap.size 24 i0 (.slice none 0 0) 1 Tryd.underlying44 hi hz0 hz1 .i64 .i64 _ _ ps.length rfl rfl rfl rfl (by rw [hz2]; omega) (by unfold maxLen; omega) (Nat.le_refl _) ?_; intro w3 hown hgrow)
    have hmade : (madeCells (Value.slice none 0 0).cells (ps.length * 1)).toList = List.replicate ps.length (Value.slice none 0 0) := by
      rw [Nat.mul_one]
      exact toList_madeCells_one (.slice none 0 0) ps.length
    rw [hmade] at hown
    have HM0 : Hid (MkS zss w3 w2.heap.size w2.heap.size 0) := MkS.start (by rw [HZL.out]; exact hown)
    have HG3 : Hid (Old w2 w3) := Below.grown (Below.refl _ _) hgrow (Nat.le_refl _) (fun _ h => by cases h)
    have hs3 : w2.heap.size < w3.heap.size := (hown.lt w2.heap.size rfl).2
    clear hown hgrow hmade
    go_loopw [29] (fun i W => ∃ k : Nat, k ≤ ps.length ∧ i = .int .i64 k ∧ Hid (MkS zss W w2.heap.size w2.heap.size k) ∧ Hid (Old w2 W) ∧ w2.heap.size < W.heap.size) (fun i _ => ps.length - (intOf i).toNat)
    case atStart => exact ⟨0, by omega, rfl, HM0, HG3, hs3⟩
    case round =>
      obtain ⟨k, hk, rfl, HM, HG, hsr⟩ := hrel
      clear HM0 HG3 hs3
      by_cases hlt : k < ps.length
      · have d1 : decide ((k : Int) < (ps.length : Int)) = true := by simp; omega
        obtain ⟨jl, cj⟩ := HCJ.out k hlt
        obtain ⟨x0, x1, x2, x3, x4⟩ := (HLB.out.old HG.out).at k hlt hlt
        rw [Int.toNat_natCast] at x4
        have hkz : k < zss.length := by rw [HZL.out]; exact hlt
        have HGW : Hid (Old w wr) := Old.trans HG2.out HG.out
        have HJL : Hid ((zss.getD k []).length = Nn) := jl
        clear jl
        generalize ps.getD k 0 = p at *
        generalize Rf k = r at *
        generalize us1 k = ua at *
        have HGA : Hid (Old w (wr.alloc (.cells #[.int .i64 p, .int .i64 Nn, .int .i64 r, .bool a, .slice ua Nn Nn] 105))) := HGW.out.alloc _
        go_wp2_with fail
        refine (cj _ HGA.out).mono ?_
        rintro e w5 ⟨g5, cp5, rfl, hcp, q5, o5⟩
        have Q5 : Hid (Old (wr.alloc (.cells #[.int .i64 p, .int .i64 Nn, .int .i64 r, .bool a, .slice ua Nn Nn] 105)) w5) := q5
        have O5 : Hid (Own w5 (wr.heap.size + 1) (.slice (some ⟨g5, 0, none⟩) Nn cp5) (zss.getD k [])) := by
          simp at o5
          exact o5
        clear q5 o5
        obtain ⟨⟨ym, m1⟩, m2⟩ := (HM.out.own_old (Old.trans ((Old.refl wr).alloc _) Q5.out)).cell k hkz
        have hg5 : wr.heap.size + 1 ≤ g5 := (O5.out.lt g5 rfl).1
        have hs5 := Q5.out.size
        have N1 : Hid (MkS zss (w5.setCell ⟨w2.heap.size, k, none⟩ (.slice (some ⟨g5, 0, none⟩) Nn cp5)) w2.heap.size w2.heap.size (k + 1)) := MkS.step HM.out hkz (Old.trans ((Old.refl wr).alloc _) Q5.out) (by omega) hsr HJL.out hcp (O5.out.low (by omega)) (by omega)
        have N2 : Hid (Old w2 (w5.setCell ⟨w2.heap.size, k, none⟩ (.slice (some ⟨g5, 0, none⟩) Nn cp5))) := (Old.trans HG.out (Old.trans ((Old.refl wr).alloc _) Q5.out)).own (p := ⟨w2.heap.size, k, none⟩) (Nat.le_refl _) _
        have N3 : w2.heap.size < (w5.setCell ⟨w2.heap.size, k, none⟩ (.slice (some ⟨g5, 0, none⟩) Nn cp5)).heap.size := by simp at hs5 ⊢; omega
        go_wp2_with fail
        exact ⟨⟨k + 1, by omega, by go_num, N1, N2, N3⟩, by simp [intOf]; omega⟩
      · have d1 : decide ((k : Int) < (ps.length : Int)) = false := by simp; omega
        obtain rfl : k = ps.length := by omega
        have HFD : Hid (OwS zss wr w2.heap.size wr.heap.size (.slice (some ⟨w2.heap.size, 0, none⟩) ps.length ps.length)) := by
          have := HM.out
          rw [← HZL.out] at this ⊢
          exact this.done (Nat.le_refl _) hsr
        have SF : Hid (StW wr (w.heap.size + 1 + 1) (.bool false) (.slice none 0 0) 46) := S2.out.old HG.out
        have q0 := SF.out.c0
        have q1 := SF.out.c1
        have f0 := SF.out.f0
        have f1 := SF.out.f1
        go_wp2_with fail
        refine bodyPost_ret (ret_rb Tryd.results82 _ _ rfl rfl (st_put2 SF.out _ _)) rfl ⟨_, rfl, ?_, some ⟨w2.heap.size, 0, none⟩, ps.length, by rw [HZL.out], ?_⟩
        · exact ((Old.trans HG2.out HG.out).own (p := ⟨w.heap.size + 1 + 1, 0, none⟩) (by simp; omega) _).own (p := ⟨w.heap.size + 1 + 1, 1, none⟩) (by simp; omega) _
        · rw [HZL.out]
          have h2 := (HFD.out.put (k := w.heap.size + 1 + 1) (j := 0) (x := .bool ah) (by omega)).put (k := w.heap.size + 1 + 1) (j := 1) (x := .slice (some ⟨w2.heap.size, 0, none⟩) ps.length ps.length) (by omega)
          have h3 := h2.low (lo' := w.heap.size) (by omega)
          exact h3.high (by simp) (Nat.le_refl _)
end Go.Proofs.YtcgnndenmcmieaaDoor
/- Proved: the program's TurnRows, out of its table and eachRow. -/
namespace Go.Proofs.YtcgnndenmcmieaaDoor
open Go.ChangeShapes Go.WideShapes Go.ChangeAt Go.RowKit
set_option linter.unusedVariables false
set_option linter.unusedSimpArgs false
set_option maxRecDepth 100000 in
set_option maxHeartbeats 8000000 in
theorem impl_TurnRows_no (N t : Int) (ps : List Int) (xss : List (List Int)) (a : Bool) (a0 a1 : Option Addr) (cap0 cap1 : Nat) (w : World) (ct : ∀ W, Old w W → Calls Tryd.prog 81 #[.int .i64 N, .int .i64 t] W fun e w' => e = .returned (.tuple #[.slice none 0 0, .bool false]) ∧ Old W w') : Calls Tryd.prog 38 #[.agg #[.int .i64 N, .slice a0 ps.length cap0], .agg #[.bool a, .slice a1 xss.length cap1], .int .i64 t] w (Rs w false [] false) := by
  have HA : Hid (Old w ((((w.alloc (.cells #[.int .i64 N, .slice a0 ps.length cap0] 49)).alloc (.cells #[.bool a, .slice a1 xss.length cap1] 46)).alloc (.cells #[.int .i64 t] 3)).alloc (.cells #[.bool false, .slice none 0 0] 46))) := ((((Old.refl w).alloc _).alloc _).alloc _).alloc _
  have HBX : Hid (∀ W', Old ((((w.alloc (.cells #[.int .i64 N, .slice a0 ps.length cap0] 49)).alloc (.cells #[.bool a, .slice a1 xss.length cap1] 46)).alloc (.cells #[.int .i64 t] 3)).alloc (.cells #[.bool false, .slice none 0 0] 46)) W' → StW W' w.heap.size (.int .i64 N) (.slice a0 ps.length cap0) 49 ∧ StW W' (w.heap.size + 1) (.bool a) (.slice a1 xss.length cap1) 46 ∧ W'.cell? ⟨w.heap.size + 1 + 1, 0, none⟩ = some (.int .i64 t) ∧ StW W' (w.heap.size + 1 + 1 + 1) (.bool false) (.slice none 0 0) 46) := fun W' g => by
    have g3 : Old (((w.alloc (.cells #[.int .i64 N, .slice a0 ps.length cap0] 49)).alloc (.cells #[.bool a, .slice a1 xss.length cap1] 46)).alloc (.cells #[.int .i64 t] 3)) W' := Old.trans ((Old.refl _).alloc _) g
    have g2 : Old ((w.alloc (.cells #[.int .i64 N, .slice a0 ps.length cap0] 49)).alloc (.cells #[.bool a, .slice a1 xss.length cap1] 46)) W' := Old.trans ((Old.refl _).alloc _) g3
    have g1 : Old (w.alloc (.cells #[.int .i64 N, .slice a0 ps.length cap0] 49)) W' := Old.trans ((Old.refl _).alloc _) g2
    refine ⟨(StW.new w (.int .i64 N) (.slice a0 ps.length cap0) 49).old g1, ?_, ?_, ?_⟩
    · have h := (StW.new (w.alloc (.cells #[.int .i64 N, .slice a0 ps.length cap0] 49)) (.bool a) (.slice a1 xss.length cap1) 46).old g2
      simp at h
      exact h
    · have h := (g3.cell (p := ⟨((w.alloc (.cells #[.int .i64 N, .slice a0 ps.length cap0] 49)).alloc (.cells #[.bool a, .slice a1 xss.length cap1] 46)).heap.size, 0, none⟩) (by simp)).trans (cell_at ((w.alloc (.cells #[.int .i64 N, .slice a0 ps.length cap0] 49)).alloc (.cells #[.bool a, .slice a1 xss.length cap1] 46)) _ _ _ _ rfl)
      simp at h
      exact h
    · have h := (StW.new (((w.alloc (.cells #[.int .i64 N, .slice a0 ps.length cap0] 49)).alloc (.cells #[.bool a, .slice a1 xss.length cap1] 46)).alloc (.cells #[.int .i64 t] 3)) (.bool false) (.slice none 0 0) 46).old g
      simp at h
      exact h
  obtain ⟨z0, z1, z2, z3⟩ := HBX.out _ (Old.refl _)
  have y0 := z0.c0
  clear z0 z1 z3
  go_enter Tryd.func38, Tryd.ntmps38
  go_wp2_with fail
  refine (ct _ HA.out).mono ?_
  rintro e w1 ⟨rfl, g1⟩
  have HG1 : Hid (Old w w1) := Old.trans HA.out g1
  have S1 : Hid (StW w1 (w.heap.size + 1 + 1 + 1) (.bool false) (.slice none 0 0) 46) := (HBX.out w1 g1).2.2.2
  have hs : w.heap.size + 1 + 1 + 1 < w1.heap.size := ((HBX.out w1 g1).2.2.2).lt
  have q0 := S1.out.c0
  have q1 := S1.out.c1
  have f0 := S1.out.f0
  have f1 := S1.out.f1
  clear g1 y0 z2
  go_wp2_with fail
  refine bodyPost_ret (ret_rb (x := .bool false) (y := .slice none 0 0) (z := .bool false) Tryd.results38 _ _ rfl rfl ((st_put2 S1.out _ _).old ((Old.refl _).alloc _))) rfl ⟨_, rfl, ?_, XR.nil _ _ _ _ (Nat.le_refl _)⟩
  exact ((HG1.out.own (p := ⟨w.heap.size + 1 + 1 + 1, 0, none⟩) (by simp; omega) _).own (p := ⟨w.heap.size + 1 + 1 + 1, 1, none⟩) (by simp; omega) _).alloc _
set_option maxRecDepth 100000 in
set_option maxHeartbeats 8000000 in
theorem impl_TurnRows_yes (N t : Int) (ps : List Int) (xss : List (List Int)) (a : Bool) (a0 a1 : Option Addr) (cap0 cap1 : Nat) (w : World) (ts : List Int) (n : Bool) (zss : List (List Int)) (ok : Bool) (ct : ∀ W, Old w W → Calls Tryd.prog 81 #[.int .i64 N, .int .i64 t] W fun e w' => ∃ v', e = .returned (.tuple #[v', .bool true]) ∧ Old W w' ∧ Own w' W.heap.size v' ts)
    (c : ∀ W tb gb at0 tc, Old w W → W.cell? ⟨tb, 0, none⟩ = some (.slice at0 ts.length tc) → W.cell? ⟨gb, 0, none⟩ = some (.int .i64 t) → Row W (.slice at0 ts.length tc) ts → Calls Tryd.prog 82 #[.agg #[.int .i64 N, .slice a0 ps.length cap0], .agg #[.bool a, .slice a1 xss.length cap1], .bool a, .func (.func 83) #[] #[.pointer (some ⟨tb, 0, none⟩), .pointer (some ⟨gb, 0, none⟩)]] W (Rs W n zss ok)) : Calls Tryd.prog 38 #[.agg #[.int .i64 N, .slice a0 ps.length cap0], .agg #[.bool a, .slice a1 xss.length cap1], .int .i64 t] w (Rs w n zss ok) := by
  have HA : Hid (Old w ((((w.alloc (.cells #[.int .i64 N, .slice a0 ps.length cap0] 49)).alloc (.cells #[.bool a, .slice a1 xss.length cap1] 46)).alloc (.cells #[.int .i64 t] 3)).alloc (.cells #[.bool false, .slice none 0 0] 46))) := ((((Old.refl w).alloc _).alloc _).alloc _).alloc _
  have HBX : Hid (∀ W', Old ((((w.alloc (.cells #[.int .i64 N, .slice a0 ps.length cap0] 49)).alloc (.cells #[.bool a, .slice a1 xss.length cap1] 46)).alloc (.cells #[.int .i64 t] 3)).alloc (.cells #[.bool false, .slice none 0 0] 46)) W' → StW W' w.heap.size (.int .i64 N) (.slice a0 ps.length cap0) 49 ∧ StW W' (w.heap.size + 1) (.bool a) (.slice a1 xss.length cap1) 46 ∧ W'.cell? ⟨w.heap.size + 1 + 1, 0, none⟩ = some (.int .i64 t) ∧ StW W' (w.heap.size + 1 + 1 + 1) (.bool false) (.slice none 0 0) 46) := fun W' g => by
    have g3 : Old (((w.alloc (.cells #[.int .i64 N, .slice a0 ps.length cap0] 49)).alloc (.cells #[.bool a, .slice a1 xss.length cap1] 46)).alloc (.cells #[.int .i64 t] 3)) W' := Old.trans ((Old.refl _).alloc _) g
    have g2 : Old ((w.alloc (.cells #[.int .i64 N, .slice a0 ps.length cap0] 49)).alloc (.cells #[.bool a, .slice a1 xss.length cap1] 46)) W' := Old.trans ((Old.refl _).alloc _) g3
    have g1 : Old (w.alloc (.cells #[.int .i64 N, .slice a0 ps.length cap0] 49)) W' := Old.trans ((Old.refl _).alloc _) g2
    refine ⟨(StW.new w (.int .i64 N) (.slice a0 ps.length cap0) 49).old g1, ?_, ?_, ?_⟩
    · have h := (StW.new (w.alloc (.cells #[.int .i64 N, .slice a0 ps.length cap0] 49)) (.bool a) (.slice a1 xss.length cap1) 46).old g2
      simp at h
      exact h
    · have h := (g3.cell (p := ⟨((w.alloc (.cells #[.int .i64 N, .slice a0 ps.length cap0] 49)).alloc (.cells #[.bool a, .slice a1 xss.length cap1] 46)).heap.size, 0, none⟩) (by simp)).trans (cell_at ((w.alloc (.cells #[.int .i64 N, .slice a0 ps.length cap0] 49)).alloc (.cells #[.bool a, .slice a1 xss.length cap1] 46)) _ _ _ _ rfl)
      simp at h
      exact h
    · have h := (StW.new (((w.alloc (.cells #[.int .i64 N, .slice a0 ps.length cap0] 49)).alloc (.cells #[.bool a, .slice a1 xss.length cap1] 46)).alloc (.cells #[.int .i64 t] 3)) (.bool false) (.slice none 0 0) 46).old g
      simp at h
      exact h
  obtain ⟨z0, z1, z2, z3⟩ := HBX.out _ (Old.refl _)
  have y0 := z0.c0
  clear z0 z1 z3
  go_enter Tryd.func38, Tryd.ntmps38
  go_wp2_with fail
  refine (ct _ HA.out).mono ?_
  rintro e w1 ⟨v1, rfl, g1, o1⟩
  obtain ⟨at0, tc, rfl⟩ := (Own.row o1).slice
  have HG1 : Hid (Old w w1) := Old.trans HA.out g1
  obtain ⟨wT, hwT⟩ : ∃ wT, wT = (w1.alloc (.cells #[.slice at0 ts.length tc] 24)) := ⟨_, rfl⟩
  have HGB : Hid (Old w1 wT) := by rw [hwT]; exact (Old.refl w1).alloc _
  have RT : Hid (Row wT (.slice at0 ts.length tc) ts) := (Own.row o1).old HGB.out
  have kT : wT.cell? ⟨w1.heap.size, 0, none⟩ = some (.slice at0 ts.length tc) := by rw [hwT]; exact cell_at _ _ _ _ _ rfl
  obtain ⟨b0, b1, b2, b3⟩ := HBX.out wT (Old.trans g1 HGB.out)
  have S1 : Hid (StW wT (w.heap.size + 1 + 1 + 1) (.bool false) (.slice none 0 0) 46) := b3
  have hs : w.heap.size + 1 + 1 + 1 < wT.heap.size := b3.lt
  have cc := c wT w1.heap.size (w.heap.size + 1 + 1) at0 tc (Old.trans HG1.out HGB.out) kT b2 RT.out
  have x0 := b0.c0
  have x1 := b0.c1
  have x2 := b1.c0
  have x3 := b1.c1
  rw [hwT] at x0 x1 x2 x3
  clear g1 o1 y0 z2 c b0 b1 b2 b3 kT
  go_wp2_with fail
  rw [← hwT]
  refine cc.mono ?_
  rintro e w2 ⟨r0, rfl, g2, xr⟩
  obtain ⟨ax, cx, rfl, ox⟩ := xr
  have HG2 : Hid (Old w w2) := Old.trans (Old.trans HG1.out HGB.out) g2
  have S2 : Hid (StW w2 (w.heap.size + 1 + 1 + 1) (.bool false) (.slice none 0 0) 46) := S1.out.old g2
  have OX : Hid (OwS zss w2 wT.heap.size w2.heap.size (.slice ax zss.length cx)) := ox
  have q0 := S2.out.c0
  have q1 := S2.out.c1
  have f0 := S2.out.f0
  have f1 := S2.out.f1
  clear g2 ox x0 x1 x2 x3
  go_wp2_with fail
  refine bodyPost_ret (ret_rb Tryd.results38 _ _ rfl rfl (st_put2 S2.out _ _)) rfl ⟨_, rfl, ?_, ax, cx, rfl, ?_⟩
  · exact (HG2.out.own (p := ⟨w.heap.size + 1 + 1 + 1, 0, none⟩) (by simp; omega) _).own (p := ⟨w.heap.size + 1 + 1 + 1, 1, none⟩) (by simp; omega) _
  · have h2 := (OX.out.put (k := w.heap.size + 1 + 1 + 1) (j := 0) (x := .bool n) (by omega)).put (k := w.heap.size + 1 + 1 + 1) (j := 1) (x := .slice ax zss.length cx) (by omega)
    have h3 := h2.low (lo' := w.heap.size) (by omega)
    exact h3.high (by simp) (Nat.le_refl _)
end Go.Proofs.YtcgnndenmcmieaaDoor
/- Proved: the walk of the statement FnExactTurnRows, under what each function that it calls does. -/
namespace Go.Proofs.YtcgnndenmcmieaaDoor
open Go.ChangeShapes Go.WideShapes Go.ChangeAt Go.RowKit
set_option linter.unusedVariables false
set_option linter.unusedSimpArgs false
set_option maxRecDepth 100000 in
set_option maxHeartbeats 16000000 in
theorem law_turnrows (w : World) (t : Int) (Np0 : Int) (lp0 : Nat) (ap0 : Option Addr) (cp0 : Nat) (bp1 : Bool) (lp1 : Nat) (ap1 : Option Addr) (cp1 : Nat) (br0 : Bool) (lr0 : Nat) (ro : Bool) (L0 L1 : Int)
    (csz0 : ∀ W, Old w W → Calls Tryd.prog 22 #[.agg #[.int .i64 Np0, .slice ap0 lp0 cp0], .int .i64 1048576] W fun e w' => e = .returned (.int .i64 L0) ∧ Old W w')
    (csz1 : ¬ L0 < 0 → ∀ W, Old w W → Calls Tryd.prog 33 #[.agg #[.bool bp1, .slice ap1 lp1 cp1], .int .i64 L0] W fun e w' => e = .returned (.int .i64 L1) ∧ Old W w')
    (X0 : World → Nat → Nat → Array Value → Prop) (fX0 : Far X0) (hX0 : ∀ W lo hi g, X0 W lo hi g → ∃ a c, g = #[.int .i64 Np0, .slice a lp0 c])
    (cto0 : ¬ L0 < 0 → ¬ L1 < 0 → ∀ W, Old w W → Calls Tryd.prog 25 #[.agg #[.int .i64 Np0, .slice ap0 lp0 cp0]] W fun e w' => ∃ g, e = .returned (.agg g) ∧ Old W w' ∧ X0 w' W.heap.size w'.heap.size g)
    (ceq0 : ¬ L0 < 0 → ¬ L1 < 0 → ∀ W lo hi g lo' hi' g', X0 W lo hi g → X0 W lo' hi' g' → Calls Tryd.prog 29 #[.agg g, .agg g'] W fun e w' => e = .returned (.bool true) ∧ Old W w')
    (k0 : Int) (hk0 : 0 ≤ k0) (cmk0 : ¬ L0 < 0 → ¬ L1 < 0 → ∀ W lo hi g, X0 W lo hi g → Calls Tryd.prog 30 #[.agg g, .int .i64 1] W fun e w' => e = .returned (.int .i64 k0) ∧ Chg W w' lo hi)
    (X1 : World → Nat → Nat → Array Value → Prop) (fX1 : Far X1) (hX1 : ∀ W lo hi g, X1 W lo hi g → ∃ a c, g = #[.bool bp1, .slice a lp1 c])
    (cto1 : ¬ L0 < 0 → ¬ L1 < 0 → ∀ W, Old w W → Calls Tryd.prog 35 #[.agg #[.bool bp1, .slice ap1 lp1 cp1]] W fun e w' => ∃ g, e = .returned (.agg g) ∧ Old W w' ∧ X1 w' W.heap.size w'.heap.size g)
    (ceq1 : ¬ L0 < 0 → ¬ L1 < 0 → ∀ W lo hi g lo' hi' g', X1 W lo hi g → X1 W lo' hi' g' → Calls Tryd.prog 28 #[.agg g, .agg g'] W fun e w' => e = .returned (.bool true) ∧ Old W w')
    (k1 : Int) (hk1 : 0 ≤ k1) (cmk1 : ¬ L0 < 0 → ¬ L1 < 0 → ∀ W lo hi g, X1 W lo hi g → Calls Tryd.prog 31 #[.agg g, .int .i64 k0] W fun e w' => e = .returned (.int .i64 k1) ∧ Chg W w' lo hi)
    (SR : World → Nat → Nat → Array Value → Prop) (fSR : Far SR) (hSR : ∀ W lo hi p, SR W lo hi p → ∃ a0 c0, p = #[.bool br0, .slice a0 lr0 c0])
    (IR0 : World → Nat → Nat → Array Value → Prop) (fIR0 : Far IR0) (hIR0 : ∀ W lo hi p, IR0 W lo hi p → ∃ a0 c0, p = #[.bool br0, .slice a0 lr0 c0])
    (IR1 : World → Nat → Nat → Array Value → Prop) (fIR1 : Far IR1) (hIR1 : ∀ W lo hi p, IR1 W lo hi p → ∃ a0 c0, p = #[.bool br0, .slice a0 lr0 c0])
    (csp : ¬ L0 < 0 → ¬ L1 < 0 → ∀ W lo0 hi0 g0 lo1 hi1 g1, X0 W lo0 hi0 g0 → X1 W lo1 hi1 g1 → Calls Tryd.prog 37 #[.agg g0, .agg g1, .int .i64 t] W fun e w' => ∃ r0, e = .returned (.tuple #[.agg r0, .bool ro]) ∧ Old W w' ∧ SR w' W.heap.size w'.heap.size r0)
    (cim : ¬ L0 < 0 → ¬ L1 < 0 → ∀ W lo0 hi0 g0 lo1 hi1 g1, X0 W lo0 hi0 g0 → X1 W lo1 hi1 g1 → Old w W → Calls Tryd.prog 38 #[.agg g0, .agg g1, .int .i64 t] W fun e w' => ∃ r0, e = .returned (.tuple #[.agg r0, .bool ro]) ∧ Old W w' ∧ IR0 w' W.heap.size w'.heap.size r0)
    (cer0 : ¬ L0 < 0 → ¬ L1 < 0 → ∀ W lo hi p lo' hi' p', IR0 W lo hi p → SR W lo' hi' p' → Calls Tryd.prog 28 #[.agg p, .agg p'] W fun e w' => e = .returned (.bool true) ∧ Old W w')
    (m0 : Int) (hm0 : 0 ≤ m0) (cmr0 : ¬ L0 < 0 → ¬ L1 < 0 → ∀ W lo hi p, IR0 W lo hi p → Calls Tryd.prog 31 #[.agg p, .int .i64 1] W fun e w' => e = .returned (.int .i64 m0) ∧ Chg W w' lo hi ∧ IR1 w' lo hi p)
    (chr0 : ¬ L0 < 0 → ¬ L1 < 0 → ∀ W lo hi p, IR1 W lo hi p → Calls Tryd.prog 32 #[.agg p, .int .i64 1] W fun e w' => e = .returned (.int .i64 m0) ∧ Old W w') :
    Calls Tryd.prog 7 #[.agg #[.int .i64 Np0, .slice ap0 lp0 cp0], .agg #[.bool bp1, .slice ap1 lp1 cp1], .int .i64 t] w fun e w' => e = .returned (.bool true) ∧ Old w w' := by
  have HA : Hid (Old w ((w.alloc (.cells #[.int .i64 Np0, .slice ap0 lp0 cp0] 40)).alloc (.cells #[.bool bp1, .slice ap1 lp1 cp1] 57))) := by first | exact (((Old.refl w).alloc _).alloc _)
  have BA0 : Hid (StW ((w.alloc (.cells #[.int .i64 Np0, .slice ap0 lp0 cp0] 40)).alloc (.cells #[.bool bp1, .slice ap1 lp1 cp1] 57)) (w.heap.size) (.int .i64 Np0) (.slice ap0 lp0 cp0) 40) := StW.at1 w _ _ _ _ _ _
  have BA1 : Hid (StW ((w.alloc (.cells #[.int .i64 Np0, .slice ap0 lp0 cp0] 40)).alloc (.cells #[.bool bp1, .slice ap1 lp1 cp1] 57)) (w.heap.size + 1) (.bool bp1) (.slice ap1 lp1 cp1) 57) := StW.at2 w _ _ _ _ _ _
  by_cases hL0 : L0 < 0
  · have dL0 : decide (L0 < 0) = true := decide_eq_true hL0
    go_enter Tryd.func7, Tryd.ntmps7
    go_wp2_with fail
    refine (csz0  _ (HA.out)).mono ?_
    rintro e s0 ⟨rfl, g0⟩
    have HS0 : Hid (Old w s0) := Old.trans HA.out g0
    clear g0
    go_wp2_with fail
    go_ret
    exact ⟨rfl, HS0.out⟩
  have dL0 : decide (L0 < 0) = false := decide_eq_false hL0
  by_cases hL1 : L1 < 0
  · have dL1 : decide (L1 < 0) = true := decide_eq_true hL1
    go_enter Tryd.func7, Tryd.ntmps7
    go_wp2_with fail
    refine (csz0  _ (HA.out)).mono ?_
    rintro e s0 ⟨rfl, g0⟩
    have HS0 : Hid (Old w s0) := Old.trans HA.out g0
    have BS00 : Hid (StW s0 (w.heap.size) (.int .i64 Np0) (.slice ap0 lp0 cp0) 40) := BA0.out.old g0
    have BS01 : Hid (StW s0 (w.heap.size + 1) (.bool bp1) (.slice ap1 lp1 cp1) 57) := BA1.out.old g0
    have y0 := BS01.out.c0
    have y1 := BS01.out.c1
    clear g0
    go_wp2_with fail
    refine (csz1 hL0 _ (HS0.out)).mono ?_
    rintro e s1 ⟨rfl, g1⟩
    have HS1 : Hid (Old w s1) := Old.trans HS0.out g1
    clear g1
    go_wp2_with fail
    go_ret
    exact ⟨rfl, HS1.out⟩
  have dL1 : decide (L1 < 0) = false := decide_eq_false hL1
  have TO0 : Hid (∀ W, Old w W → Calls Tryd.prog 25 #[.agg #[.int .i64 Np0, .slice ap0 lp0 cp0]] W fun e w' => ∃ g, e = .returned (.agg g) ∧ Old W w' ∧ X0 w' W.heap.size w'.heap.size g) := cto0 hL0 hL1
  replace ceq0 := ceq0 hL0 hL1
  replace cmk0 := cmk0 hL0 hL1
  clear cto0
  have TO1 : Hid (∀ W, Old w W → Calls Tryd.prog 35 #[.agg #[.bool bp1, .slice ap1 lp1 cp1]] W fun e w' => ∃ g, e = .returned (.agg g) ∧ Old W w' ∧ X1 w' W.heap.size w'.heap.size g) := cto1 hL0 hL1
  replace ceq1 := ceq1 hL0 hL1
  replace cmk1 := cmk1 hL0 hL1
  clear cto1
  replace csp := csp hL0 hL1
  replace cim := cim hL0 hL1
  replace cer0 := cer0 hL0 hL1
  replace cmr0 := cmr0 hL0 hL1
  replace chr0 := chr0 hL0 hL1
  have dro : (ro != ro) = false := by simp
  go_enter Tryd.func7, Tryd.ntmps7
  go_wp2_with fail
  refine (csz0  _ (HA.out)).mono ?_
  rintro e s0 ⟨rfl, g0⟩
  have HS0 : Hid (Old w s0) := Old.trans HA.out g0
  have BS00 : Hid (StW s0 (w.heap.size) (.int .i64 Np0) (.slice ap0 lp0 cp0) 40) := BA0.out.old g0
  have BS01 : Hid (StW s0 (w.heap.size + 1) (.bool bp1) (.slice ap1 lp1 cp1) 57) := BA1.out.old g0
  have y0 := BS01.out.c0
  have y1 := BS01.out.c1
  clear g0
  go_wp2_with fail
  clear y0 y1
  refine (csz1 hL0 _ (HS0.out)).mono ?_
  rintro e s1 ⟨rfl, g1⟩
  have HS1 : Hid (Old w s1) := Old.trans HS0.out g1
  have BS10 : Hid (StW s1 (w.heap.size) (.int .i64 Np0) (.slice ap0 lp0 cp0) 40) := BS00.out.old g1
  have BS11 : Hid (StW s1 (w.heap.size + 1) (.bool bp1) (.slice ap1 lp1 cp1) 57) := BS01.out.old g1
  clear g1
  have HG_0 : Hid (Old w s1) := HS1.out
  have A0_0 : Hid (StW s1 (w.heap.size) (.int .i64 Np0) (.slice ap0 lp0 cp0) 40) := BS10.out
  have A1_0 : Hid (StW s1 (w.heap.size + 1) (.bool bp1) (.slice ap1 lp1 cp1) 57) := BS11.out
  have hsw : w.heap.size + 2 ≤ s1.heap.size := by have := A1_0.out.lt; omega
  clear csz0 BA0 csz1 BA1 HA HS0 HS1 BS00 BS01 BS10 BS11
  have zA00 := A0_0.out.c0
  have zA01 := A0_0.out.c1
  have zA10 := A1_0.out.c0
  have zA11 := A1_0.out.c1
  go_wp2_with fail
  refine reg_turnrows8 s1 _ _ _ _ _ _ _ (fun W v => ∃ lo hi g, v = .agg g ∧ X0 W lo hi g ∧ hi ≤ W.heap.size) (fun W W' v h g => by obtain ⟨lo, hi, y, rfl, h1, h2⟩ := h; exact ⟨lo, hi, y, rfl, fX0.old h1 g h2, Nat.le_trans h2 g.size⟩) (fun W h => (TO0.out W (Old.trans HG_0.out h)).mono (fun e w' h => by obtain ⟨g, rfl, h1, h2⟩ := h; exact ⟨_, rfl, h1, _, _, g, rfl, h2, Nat.le_refl _⟩)) A0_0.out (fun W v => ∃ lo hi g, v = .agg g ∧ X1 W lo hi g ∧ hi ≤ W.heap.size) (fun W W' v h g => by obtain ⟨lo, hi, y, rfl, h1, h2⟩ := h; exact ⟨lo, hi, y, rfl, fX1.old h1 g h2, Nat.le_trans h2 g.size⟩) (fun W h => (TO1.out W (Old.trans HG_0.out h)).mono (fun e w' h => by obtain ⟨g, rfl, h1, h2⟩ := h; exact ⟨_, rfl, h1, _, _, g, rfl, h2, Nat.le_refl _⟩)) A1_0.out (fun W lo hi g0 g1 => SR W lo hi g0 ∧ g1 = .bool ro) (fun W W' lo hi g0 g1 h h1 h2 => ⟨fSR _ _ _ _ _ h.1 h1 h2, h.2⟩) (fun W v0 v1 hO H0 H1 => by obtain ⟨lo0, hi0, y0, rfl, x0, q0⟩ := H0; obtain ⟨lo1, hi1, y1, rfl, x1, q1⟩ := H1; exact (csp W _ _ _ _ _ _ x0 x1).mono (fun e w' h => by obtain ⟨g0, rfl, h1, h2⟩ := h; obtain ⟨a0_, c0_, hq⟩ := hSR _ _ _ _ h2; subst hq; exact ⟨_, _, rfl, h1, rfl, (by simp [Value.oneCell']), h2, rfl⟩)) _ _ _ (by first | decide | simp) rfl rfl rfl ?_
  intro ks0 loS hiS q0 q1 u_0 u_1 u_2 u_3 u_4 u_5 u_6 u_7 u_8 ts gS loS_ hiS_ rS_ bS0 hks0 hls0 hns0
  obtain ⟨rS, rfl⟩ := rS_
  obtain ⟨as0, cs0, hq⟩ := hSR _ _ _ _ rS
  subst hq
  have h_s : s1.heap.size ≤ loS ∧ hiS ≤ ts.heap.size := ⟨loS_, hiS_⟩
  obtain ⟨hlos, hhis⟩ := h_s
  clear loS_ hiS_
  simp only [putAll, Act.put]
  clear zA00 zA01 zA10 zA11
  have HG_1 : Hid (Old w ts) := Old.trans HG_0.out (gS)
  have A0_1 : Hid (StW ts (w.heap.size) (.int .i64 Np0) (.slice ap0 lp0 cp0) 40) := A0_0.out.old (gS)
  have A1_1 : Hid (StW ts (w.heap.size + 1) (.bool bp1) (.slice ap1 lp1 cp1) 57) := A1_0.out.old (gS)
  clear HG_0 A0_0 A1_0
  have C0_1 : Hid (StW ts (ks0) (.bool br0) (.slice as0 lr0 cs0) 46) := bS0
  have SS_1 : Hid (SR ts (loS) (hiS) #[.bool br0, .slice as0 lr0 cs0]) := rS
  have hsts := gS.size
  clear gS rS bS0
  have zA00 := A0_1.out.c0
  have zA01 := A0_1.out.c1
  go_wp2_with fail
  refine (TO0.out _ (HG_1.out)).mono ?_
  rintro e x0 ⟨y_, rfl, g_, o_⟩
  obtain ⟨ax0, cx0, rfl⟩ := hX0 _ _ _ _ o_
  clear zA00 zA01
  have hsx0 : ts.heap.size ≤ x0.heap.size := by have := g_.size; first | exact this | (simp at this; omega)
  have HG_2 : Hid (Old w (x0.alloc (.cells #[.int .i64 Np0, .slice ax0 lp0 cx0] 49))) := Old.trans HG_1.out (Old.trans g_ ((Old.refl x0).alloc _))
  have A0_2 : Hid (StW (x0.alloc (.cells #[.int .i64 Np0, .slice ax0 lp0 cx0] 49)) (w.heap.size) (.int .i64 Np0) (.slice ap0 lp0 cp0) 40) := A0_1.out.old (Old.trans g_ ((Old.refl x0).alloc _))
  have A1_2 : Hid (StW (x0.alloc (.cells #[.int .i64 Np0, .slice ax0 lp0 cx0] 49)) (w.heap.size + 1) (.bool bp1) (.slice ap1 lp1 cp1) 57) := A1_1.out.old (Old.trans g_ ((Old.refl x0).alloc _))
  have C0_2 : Hid (StW (x0.alloc (.cells #[.int .i64 Np0, .slice ax0 lp0 cx0] 49)) (ks0) (.bool br0) (.slice as0 lr0 cs0) 46) := C0_1.out.old (Old.trans g_ ((Old.refl x0).alloc _))
  have SS_2 : Hid (SR (x0.alloc (.cells #[.int .i64 Np0, .slice ax0 lp0 cx0] 49)) (loS) (hiS) #[.bool br0, .slice as0 lr0 cs0]) := fSR.old SS_1.out (Old.trans g_ ((Old.refl x0).alloc _)) (by first | omega | (simp; done) | (simp; omega))
  clear HG_1 A0_1 A1_1 C0_1 SS_1
  have Bx0_2 : Hid (StW (x0.alloc (.cells #[.int .i64 Np0, .slice ax0 lp0 cx0] 49)) (x0.heap.size) (.int .i64 Np0) (.slice ax0 lp0 cx0) 49) := StW.new x0 _ _ _
  have Rx0_2 : Hid (X0 (x0.alloc (.cells #[.int .i64 Np0, .slice ax0 lp0 cx0] 49)) (ts.heap.size) (x0.heap.size) #[.int .i64 Np0, .slice ax0 lp0 cx0]) := fX0.old (by first | exact o_ | (simp at o_; exact o_)) ((Old.refl x0).alloc _) (Nat.le_refl _)
  clear g_ o_
  have zA10 := A1_2.out.c0
  have zA11 := A1_2.out.c1
  go_wp2_with fail
  refine (TO1.out _ (HG_2.out)).mono ?_
  rintro e x1 ⟨y_, rfl, g_, o_⟩
  obtain ⟨ax1, cx1, rfl⟩ := hX1 _ _ _ _ o_
  clear zA10 zA11
  have hsx1 : x0.heap.size + 1 ≤ x1.heap.size := by have := g_.size; first | exact this | (simp at this; omega)
  have HG_3 : Hid (Old w (x1.alloc (.cells #[.bool bp1, .slice ax1 lp1 cx1] 46))) := Old.trans HG_2.out (Old.trans g_ ((Old.refl x1).alloc _))
  have A0_3 : Hid (StW (x1.alloc (.cells #[.bool bp1, .slice ax1 lp1 cx1] 46)) (w.heap.size) (.int .i64 Np0) (.slice ap0 lp0 cp0) 40) := A0_2.out.old (Old.trans g_ ((Old.refl x1).alloc _))
  have A1_3 : Hid (StW (x1.alloc (.cells #[.bool bp1, .slice ax1 lp1 cx1] 46)) (w.heap.size + 1) (.bool bp1) (.slice ap1 lp1 cp1) 57) := A1_2.out.old (Old.trans g_ ((Old.refl x1).alloc _))
  have C0_3 : Hid (StW (x1.alloc (.cells #[.bool bp1, .slice ax1 lp1 cx1] 46)) (ks0) (.bool br0) (.slice as0 lr0 cs0) 46) := C0_2.out.old (Old.trans g_ ((Old.refl x1).alloc _))
  have SS_3 : Hid (SR (x1.alloc (.cells #[.bool bp1, .slice ax1 lp1 cx1] 46)) (loS) (hiS) #[.bool br0, .slice as0 lr0 cs0]) := fSR.old SS_2.out (Old.trans g_ ((Old.refl x1).alloc _)) (by first | omega | (simp; done) | (simp; omega))
  have Bx0_3 : Hid (StW (x1.alloc (.cells #[.bool bp1, .slice ax1 lp1 cx1] 46)) (x0.heap.size) (.int .i64 Np0) (.slice ax0 lp0 cx0) 49) := Bx0_2.out.old (Old.trans g_ ((Old.refl x1).alloc _))
  have Rx0_3 : Hid (X0 (x1.alloc (.cells #[.bool bp1, .slice ax1 lp1 cx1] 46)) (ts.heap.size) (x0.heap.size) #[.int .i64 Np0, .slice ax0 lp0 cx0]) := fX0.old Rx0_2.out (Old.trans g_ ((Old.refl x1).alloc _)) (by first | omega | (simp; done) | (simp; omega))
  clear HG_2 A0_2 A1_2 C0_2 SS_2 Bx0_2 Rx0_2
  have Bx1_3 : Hid (StW (x1.alloc (.cells #[.bool bp1, .slice ax1 lp1 cx1] 46)) (x1.heap.size) (.bool bp1) (.slice ax1 lp1 cx1) 46) := StW.new x1 _ _ _
  have Rx1_3 : Hid (X1 (x1.alloc (.cells #[.bool bp1, .slice ax1 lp1 cx1] 46)) (x0.heap.size + 1) (x1.heap.size) #[.bool bp1, .slice ax1 lp1 cx1]) := fX1.old (by first | exact o_ | (simp at o_; exact o_)) ((Old.refl x1).alloc _) (Nat.le_refl _)
  clear g_ o_
  have zBx00 := Bx0_3.out.c0
  have zBx01 := Bx0_3.out.c1
  have zBx10 := Bx1_3.out.c0
  have zBx11 := Bx1_3.out.c1
  go_wp2_with fail
  refine (cim _ _ _ _ _ _ _ Rx0_3.out Rx1_3.out (HG_3.out)).mono ?_
  rintro e p1 ⟨q0, rfl, gp, rp⟩
  obtain ⟨ag0, cg0, hq⟩ := hIR0 _ _ _ _ rp
  have hsp1 : x1.heap.size + 1 ≤ p1.heap.size := by have := gp.size; simp at this; omega
  subst hq
  clear zBx00 zBx01 zBx10 zBx11
  have HG_4 : Hid (Old w (p1.alloc (.cells #[.bool br0, .slice ag0 lr0 cg0] 46))) := Old.trans HG_3.out (Old.trans gp (((Old.refl p1).alloc _)))
  have A0_4 : Hid (StW (p1.alloc (.cells #[.bool br0, .slice ag0 lr0 cg0] 46)) (w.heap.size) (.int .i64 Np0) (.slice ap0 lp0 cp0) 40) := A0_3.out.old (Old.trans gp (((Old.refl p1).alloc _)))
  have A1_4 : Hid (StW (p1.alloc (.cells #[.bool br0, .slice ag0 lr0 cg0] 46)) (w.heap.size + 1) (.bool bp1) (.slice ap1 lp1 cp1) 57) := A1_3.out.old (Old.trans gp (((Old.refl p1).alloc _)))
  have C0_4 : Hid (StW (p1.alloc (.cells #[.bool br0, .slice ag0 lr0 cg0] 46)) (ks0) (.bool br0) (.slice as0 lr0 cs0) 46) := C0_3.out.old (Old.trans gp (((Old.refl p1).alloc _)))
  have SS_4 : Hid (SR (p1.alloc (.cells #[.bool br0, .slice ag0 lr0 cg0] 46)) (loS) (hiS) #[.bool br0, .slice as0 lr0 cs0]) := fSR.old SS_3.out (Old.trans gp (((Old.refl p1).alloc _))) (by first | omega | (simp; done) | (simp; omega))
  have Bx0_4 : Hid (StW (p1.alloc (.cells #[.bool br0, .slice ag0 lr0 cg0] 46)) (x0.heap.size) (.int .i64 Np0) (.slice ax0 lp0 cx0) 49) := Bx0_3.out.old (Old.trans gp (((Old.refl p1).alloc _)))
  have Rx0_4 : Hid (X0 (p1.alloc (.cells #[.bool br0, .slice ag0 lr0 cg0] 46)) (ts.heap.size) (x0.heap.size) #[.int .i64 Np0, .slice ax0 lp0 cx0]) := fX0.old Rx0_3.out (Old.trans gp (((Old.refl p1).alloc _))) (by first | omega | (simp; done) | (simp; omega))
  have Bx1_4 : Hid (StW (p1.alloc (.cells #[.bool br0, .slice ag0 lr0 cg0] 46)) (x1.heap.size) (.bool bp1) (.slice ax1 lp1 cx1) 46) := Bx1_3.out.old (Old.trans gp (((Old.refl p1).alloc _)))
  have Rx1_4 : Hid (X1 (p1.alloc (.cells #[.bool br0, .slice ag0 lr0 cg0] 46)) (x0.heap.size + 1) (x1.heap.size) #[.bool bp1, .slice ax1 lp1 cx1]) := fX1.old Rx1_3.out (Old.trans gp (((Old.refl p1).alloc _))) (by first | omega | (simp; done) | (simp; omega))
  clear HG_3 A0_3 A1_3 C0_3 SS_3 Bx0_3 Rx0_3 Bx1_3 Rx1_3
  have Bg0_4 : Hid (StW (p1.alloc (.cells #[.bool br0, .slice ag0 lr0 cg0] 46)) (p1.heap.size) (.bool br0) (.slice ag0 lr0 cg0) 46) := StW.new p1 _ _ _
  have RG_4 : Hid (IR0 (p1.alloc (.cells #[.bool br0, .slice ag0 lr0 cg0] 46)) (x1.heap.size + 1) (p1.heap.size) #[.bool br0, .slice ag0 lr0 cg0]) := fIR0.old (by first | exact rp | (simp at rp; exact rp)) (((Old.refl p1).alloc _)) (Nat.le_refl _)
  clear gp rp
  have zBg00 := Bg0_4.out.c0
  have zBg01 := Bg0_4.out.c1
  have zC00 := C0_4.out.c0
  have zC01 := C0_4.out.c1
  go_wp2_with fail
  refine (cer0 _ _ _ _ _ _ _ RG_4.out SS_4.out).mono ?_
  rintro e f0 ⟨rfl, g_⟩
  clear zBg00 zBg01 zC00 zC01
  have hsf0 : p1.heap.size + 1 ≤ f0.heap.size := by have := g_.size; first | omega | (simp at this; omega)
  have HG_5 : Hid (Old w f0) := Old.trans HG_4.out (g_)
  have A0_5 : Hid (StW f0 (w.heap.size) (.int .i64 Np0) (.slice ap0 lp0 cp0) 40) := A0_4.out.old (g_)
  have A1_5 : Hid (StW f0 (w.heap.size + 1) (.bool bp1) (.slice ap1 lp1 cp1) 57) := A1_4.out.old (g_)
  have C0_5 : Hid (StW f0 (ks0) (.bool br0) (.slice as0 lr0 cs0) 46) := C0_4.out.old (g_)
  have SS_5 : Hid (SR f0 (loS) (hiS) #[.bool br0, .slice as0 lr0 cs0]) := fSR.old SS_4.out (g_) (by first | omega | (simp; done) | (simp; omega))
  have Bx0_5 : Hid (StW f0 (x0.heap.size) (.int .i64 Np0) (.slice ax0 lp0 cx0) 49) := Bx0_4.out.old (g_)
  have Rx0_5 : Hid (X0 f0 (ts.heap.size) (x0.heap.size) #[.int .i64 Np0, .slice ax0 lp0 cx0]) := fX0.old Rx0_4.out (g_) (by first | omega | (simp; done) | (simp; omega))
  have Bx1_5 : Hid (StW f0 (x1.heap.size) (.bool bp1) (.slice ax1 lp1 cx1) 46) := Bx1_4.out.old (g_)
  have Rx1_5 : Hid (X1 f0 (x0.heap.size + 1) (x1.heap.size) #[.bool bp1, .slice ax1 lp1 cx1]) := fX1.old Rx1_4.out (g_) (by first | omega | (simp; done) | (simp; omega))
  have Bg0_5 : Hid (StW f0 (p1.heap.size) (.bool br0) (.slice ag0 lr0 cg0) 46) := Bg0_4.out.old (g_)
  have RG_5 : Hid (IR0 f0 (x1.heap.size + 1) (p1.heap.size) #[.bool br0, .slice ag0 lr0 cg0]) := fIR0.old RG_4.out (g_) (by first | omega | (simp; done) | (simp; omega))
  clear HG_4 A0_4 A1_4 C0_4 SS_4 Bx0_4 Rx0_4 Bx1_4 Rx1_4 Bg0_4 RG_4
  clear g_
  have zBx00 := Bx0_5.out.c0
  have zBx01 := Bx0_5.out.c1
  have zA00 := A0_5.out.c0
  have zA01 := A0_5.out.c1
  have HAS : Hid (∀ W', Old f0 W' → (W'.cell? ⟨x0.heap.size, 0, none⟩ = some (.int .i64 Np0) ∧ W'.cell? ⟨x0.heap.size, 1, none⟩ = some (.slice ax0 lp0 cx0) ∧ W'.cell? ⟨w.heap.size, 0, none⟩ = some (.int .i64 Np0) ∧ W'.cell? ⟨w.heap.size, 1, none⟩ = some (.slice ap0 lp0 cp0))) := fun W' g => ⟨(Bx0_5.out.old g).c0, (Bx0_5.out.old g).c1, (A0_5.out.old g).c0, (A0_5.out.old g).c1⟩
  go_wp2_with fail
  go_region_held3 (fun W' => W'.cell? ⟨x0.heap.size, 0, none⟩ = some (.int .i64 Np0) ∧ W'.cell? ⟨x0.heap.size, 1, none⟩ = some (.slice ax0 lp0 cx0) ∧ W'.cell? ⟨w.heap.size, 0, none⟩ = some (.int .i64 Np0) ∧ W'.cell? ⟨w.heap.size, 1, none⟩ = some (.slice ap0 lp0 cp0)) (first | with_reducible exact HAS.out _ GE.out | with_reducible exact HAS.out _ GT.out | with_reducible exact HAS.out _ (Below.drew (Old.refl f0)) | with_reducible exact HAS.out _ (Old.refl f0)) (first
    | (go_at_call 25; refine (TO0.out _ (Below.drew HG_5.out)).mono ?_; rintro e wt ⟨y_, rfl, gt, ot⟩; obtain ⟨at_, ct_, rfl⟩ := hX0 _ _ _ _ ot; have GT : Hid (Old f0 wt) := Old.trans (Below.drew (Old.refl f0)) gt; have RT : Hid (X0 wt _ _ #[.int .i64 Np0, .slice at_ lp0 ct_]) := ot; clear gt ot)
    | (go_at_call 29; refine (ceq0 _ _ _ _ _ _ _ (fX0.old Rx0_5.out GT.out (by omega)) RT.out).mono ?_; rintro e v0 ⟨rfl, ge⟩; have GE : Hid (Old f0 v0) := Old.trans GT.out ge; clear ge)
    | fail)
  clear zBx00 zBx01 zA00 zA01
  have hsv0 := GE.out.size
  have HG_6 : Hid (Old w v0) := Old.trans HG_5.out (GE.out)
  have A0_6 : Hid (StW v0 (w.heap.size) (.int .i64 Np0) (.slice ap0 lp0 cp0) 40) := A0_5.out.old (GE.out)
  have A1_6 : Hid (StW v0 (w.heap.size + 1) (.bool bp1) (.slice ap1 lp1 cp1) 57) := A1_5.out.old (GE.out)
  have C0_6 : Hid (StW v0 (ks0) (.bool br0) (.slice as0 lr0 cs0) 46) := C0_5.out.old (GE.out)
  have SS_6 : Hid (SR v0 (loS) (hiS) #[.bool br0, .slice as0 lr0 cs0]) := fSR.old SS_5.out (GE.out) (by first | omega | (simp; done) | (simp; omega))
  have Bx0_6 : Hid (StW v0 (x0.heap.size) (.int .i64 Np0) (.slice ax0 lp0 cx0) 49) := Bx0_5.out.old (GE.out)
  have Rx0_6 : Hid (X0 v0 (ts.heap.size) (x0.heap.size) #[.int .i64 Np0, .slice ax0 lp0 cx0]) := fX0.old Rx0_5.out (GE.out) (by first | omega | (simp; done) | (simp; omega))
  have Bx1_6 : Hid (StW v0 (x1.heap.size) (.bool bp1) (.slice ax1 lp1 cx1) 46) := Bx1_5.out.old (GE.out)
  have Rx1_6 : Hid (X1 v0 (x0.heap.size + 1) (x1.heap.size) #[.bool bp1, .slice ax1 lp1 cx1]) := fX1.old Rx1_5.out (GE.out) (by first | omega | (simp; done) | (simp; omega))
  have Bg0_6 : Hid (StW v0 (p1.heap.size) (.bool br0) (.slice ag0 lr0 cg0) 46) := Bg0_5.out.old (GE.out)
  have RG_6 : Hid (IR0 v0 (x1.heap.size + 1) (p1.heap.size) #[.bool br0, .slice ag0 lr0 cg0]) := fIR0.old RG_5.out (GE.out) (by first | omega | (simp; done) | (simp; omega))
  clear HG_5 A0_5 A1_5 C0_5 SS_5 Bx0_5 Rx0_5 Bx1_5 Rx1_5 Bg0_5 RG_5
  clear GE GT RT HAS
  have zBx10 := Bx1_6.out.c0
  have zBx11 := Bx1_6.out.c1
  have zA10 := A1_6.out.c0
  have zA11 := A1_6.out.c1
  have HAS : Hid (∀ W', Old v0 W' → (W'.cell? ⟨x1.heap.size, 0, none⟩ = some (.bool bp1) ∧ W'.cell? ⟨x1.heap.size, 1, none⟩ = some (.slice ax1 lp1 cx1) ∧ W'.cell? ⟨w.heap.size + 1, 0, none⟩ = some (.bool bp1) ∧ W'.cell? ⟨w.heap.size + 1, 1, none⟩ = some (.slice ap1 lp1 cp1))) := fun W' g => ⟨(Bx1_6.out.old g).c0, (Bx1_6.out.old g).c1, (A1_6.out.old g).c0, (A1_6.out.old g).c1⟩
  go_wp2_with fail
  go_region_held3 (fun W' => W'.cell? ⟨x1.heap.size, 0, none⟩ = some (.bool bp1) ∧ W'.cell? ⟨x1.heap.size, 1, none⟩ = some (.slice ax1 lp1 cx1) ∧ W'.cell? ⟨w.heap.size + 1, 0, none⟩ = some (.bool bp1) ∧ W'.cell? ⟨w.heap.size + 1, 1, none⟩ = some (.slice ap1 lp1 cp1)) (first | with_reducible exact HAS.out _ GE.out | with_reducible exact HAS.out _ GT.out | with_reducible exact HAS.out _ (Below.drew (Old.refl v0)) | with_reducible exact HAS.out _ (Old.refl v0)) (first
    | (go_at_call 35; refine (TO1.out _ (Below.drew HG_6.out)).mono ?_; rintro e wt ⟨y_, rfl, gt, ot⟩; obtain ⟨at_, ct_, rfl⟩ := hX1 _ _ _ _ ot; have GT : Hid (Old v0 wt) := Old.trans (Below.drew (Old.refl v0)) gt; have RT : Hid (X1 wt _ _ #[.bool bp1, .slice at_ lp1 ct_]) := ot; clear gt ot)
    | (go_at_call 28; refine (ceq1 _ _ _ _ _ _ _ (fX1.old Rx1_6.out GT.out (by omega)) RT.out).mono ?_; rintro e v1 ⟨rfl, ge⟩; have GE : Hid (Old v0 v1) := Old.trans GT.out ge; clear ge)
    | fail)
  clear zBx10 zBx11 zA10 zA11
  have hsv1 := GE.out.size
  have HG_7 : Hid (Old w v1) := Old.trans HG_6.out (GE.out)
  have A0_7 : Hid (StW v1 (w.heap.size) (.int .i64 Np0) (.slice ap0 lp0 cp0) 40) := A0_6.out.old (GE.out)
  have A1_7 : Hid (StW v1 (w.heap.size + 1) (.bool bp1) (.slice ap1 lp1 cp1) 57) := A1_6.out.old (GE.out)
  have C0_7 : Hid (StW v1 (ks0) (.bool br0) (.slice as0 lr0 cs0) 46) := C0_6.out.old (GE.out)
  have SS_7 : Hid (SR v1 (loS) (hiS) #[.bool br0, .slice as0 lr0 cs0]) := fSR.old SS_6.out (GE.out) (by first | omega | (simp; done) | (simp; omega))
  have Bx0_7 : Hid (StW v1 (x0.heap.size) (.int .i64 Np0) (.slice ax0 lp0 cx0) 49) := Bx0_6.out.old (GE.out)
  have Rx0_7 : Hid (X0 v1 (ts.heap.size) (x0.heap.size) #[.int .i64 Np0, .slice ax0 lp0 cx0]) := fX0.old Rx0_6.out (GE.out) (by first | omega | (simp; done) | (simp; omega))
  have Bx1_7 : Hid (StW v1 (x1.heap.size) (.bool bp1) (.slice ax1 lp1 cx1) 46) := Bx1_6.out.old (GE.out)
  have Rx1_7 : Hid (X1 v1 (x0.heap.size + 1) (x1.heap.size) #[.bool bp1, .slice ax1 lp1 cx1]) := fX1.old Rx1_6.out (GE.out) (by first | omega | (simp; done) | (simp; omega))
  have Bg0_7 : Hid (StW v1 (p1.heap.size) (.bool br0) (.slice ag0 lr0 cg0) 46) := Bg0_6.out.old (GE.out)
  have RG_7 : Hid (IR0 v1 (x1.heap.size + 1) (p1.heap.size) #[.bool br0, .slice ag0 lr0 cg0]) := fIR0.old RG_6.out (GE.out) (by first | omega | (simp; done) | (simp; omega))
  clear HG_6 A0_6 A1_6 C0_6 SS_6 Bx0_6 Rx0_6 Bx1_6 Rx1_6 Bg0_6 RG_6
  clear GE GT RT HAS
  have zBx00 := Bx0_7.out.c0
  have zBx01 := Bx0_7.out.c1
  go_wp2_with fail
  refine (cmk0 _ _ _ _ Rx0_7.out).mono ?_
  rintro e y0 ⟨rfl, gm⟩
  clear zBx00 zBx01
  have hsy0 := gm.size
  have HG_8 : Hid (Old w y0) := Old.chg HG_7.out (gm) (by omega)
  have A0_8 : Hid (StW y0 (w.heap.size) (.int .i64 Np0) (.slice ap0 lp0 cp0) 40) := A0_7.out.chg (gm) (by omega)
  have A1_8 : Hid (StW y0 (w.heap.size + 1) (.bool bp1) (.slice ap1 lp1 cp1) 57) := A1_7.out.chg (gm) (by omega)
  have C0_8 : Hid (StW y0 (ks0) (.bool br0) (.slice as0 lr0 cs0) 46) := C0_7.out.chg (gm) (by omega)
  have SS_8 : Hid (SR y0 (loS) (hiS) #[.bool br0, .slice as0 lr0 cs0]) := fSR.chg SS_7.out (gm) (by first | omega | (simp; done) | (simp; omega)) (by omega)
  have Bx0_8 : Hid (StW y0 (x0.heap.size) (.int .i64 Np0) (.slice ax0 lp0 cx0) 49) := Bx0_7.out.chg (gm) (by omega)
  have Bx1_8 : Hid (StW y0 (x1.heap.size) (.bool bp1) (.slice ax1 lp1 cx1) 46) := Bx1_7.out.chg (gm) (by omega)
  have Rx1_8 : Hid (X1 y0 (x0.heap.size + 1) (x1.heap.size) #[.bool bp1, .slice ax1 lp1 cx1]) := fX1.chg Rx1_7.out (gm) (by first | omega | (simp; done) | (simp; omega)) (by omega)
  have Bg0_8 : Hid (StW y0 (p1.heap.size) (.bool br0) (.slice ag0 lr0 cg0) 46) := Bg0_7.out.chg (gm) (by omega)
  have RG_8 : Hid (IR0 y0 (x1.heap.size + 1) (p1.heap.size) #[.bool br0, .slice ag0 lr0 cg0]) := fIR0.chg RG_7.out (gm) (by first | omega | (simp; done) | (simp; omega)) (by omega)
  clear HG_7 A0_7 A1_7 C0_7 SS_7 Bx0_7 Rx0_7 Bx1_7 Rx1_7 Bg0_7 RG_7
  clear gm
  have zBx10 := Bx1_8.out.c0
  have zBx11 := Bx1_8.out.c1
  go_wp2_with fail
  refine (cmk1 _ _ _ _ Rx1_8.out).mono ?_
  rintro e y1 ⟨rfl, gm⟩
  clear zBx10 zBx11
  have hsy1 := gm.size
  have HG_9 : Hid (Old w y1) := Old.chg HG_8.out (gm) (by omega)
  have A0_9 : Hid (StW y1 (w.heap.size) (.int .i64 Np0) (.slice ap0 lp0 cp0) 40) := A0_8.out.chg (gm) (by omega)
  have A1_9 : Hid (StW y1 (w.heap.size + 1) (.bool bp1) (.slice ap1 lp1 cp1) 57) := A1_8.out.chg (gm) (by omega)
  have C0_9 : Hid (StW y1 (ks0) (.bool br0) (.slice as0 lr0 cs0) 46) := C0_8.out.chg (gm) (by omega)
  have SS_9 : Hid (SR y1 (loS) (hiS) #[.bool br0, .slice as0 lr0 cs0]) := fSR.chg SS_8.out (gm) (by first | omega | (simp; done) | (simp; omega)) (by omega)
  have Bx0_9 : Hid (StW y1 (x0.heap.size) (.int .i64 Np0) (.slice ax0 lp0 cx0) 49) := Bx0_8.out.chg (gm) (by omega)
  have Bx1_9 : Hid (StW y1 (x1.heap.size) (.bool bp1) (.slice ax1 lp1 cx1) 46) := Bx1_8.out.chg (gm) (by omega)
  have Bg0_9 : Hid (StW y1 (p1.heap.size) (.bool br0) (.slice ag0 lr0 cg0) 46) := Bg0_8.out.chg (gm) (by omega)
  have RG_9 : Hid (IR0 y1 (x1.heap.size + 1) (p1.heap.size) #[.bool br0, .slice ag0 lr0 cg0]) := fIR0.chg RG_8.out (gm) (by first | omega | (simp; done) | (simp; omega)) (by omega)
  clear HG_8 A0_8 A1_8 C0_8 SS_8 Bx0_8 Bx1_8 Rx1_8 Bg0_8 RG_8
  clear gm
  have dk : decide (k1 < 0) = false := decide_eq_false (by omega)
  have zBg00 := Bg0_9.out.c0
  have zBg01 := Bg0_9.out.c1
  have zC00 := C0_9.out.c0
  have zC01 := C0_9.out.c1
  go_wp2_with fail
  refine (cer0 _ _ _ _ _ _ _ RG_9.out SS_9.out).mono ?_
  rintro e h0 ⟨rfl, g_⟩
  clear zBg00 zBg01 zC00 zC01
  have hsh0 := g_.size
  have HG_10 : Hid (Old w h0) := Old.trans HG_9.out (g_)
  have A0_10 : Hid (StW h0 (w.heap.size) (.int .i64 Np0) (.slice ap0 lp0 cp0) 40) := A0_9.out.old (g_)
  have A1_10 : Hid (StW h0 (w.heap.size + 1) (.bool bp1) (.slice ap1 lp1 cp1) 57) := A1_9.out.old (g_)
  have C0_10 : Hid (StW h0 (ks0) (.bool br0) (.slice as0 lr0 cs0) 46) := C0_9.out.old (g_)
  have SS_10 : Hid (SR h0 (loS) (hiS) #[.bool br0, .slice as0 lr0 cs0]) := fSR.old SS_9.out (g_) (by first | omega | (simp; done) | (simp; omega))
  have Bx0_10 : Hid (StW h0 (x0.heap.size) (.int .i64 Np0) (.slice ax0 lp0 cx0) 49) := Bx0_9.out.old (g_)
  have Bx1_10 : Hid (StW h0 (x1.heap.size) (.bool bp1) (.slice ax1 lp1 cx1) 46) := Bx1_9.out.old (g_)
  have Bg0_10 : Hid (StW h0 (p1.heap.size) (.bool br0) (.slice ag0 lr0 cg0) 46) := Bg0_9.out.old (g_)
  have RG_10 : Hid (IR0 h0 (x1.heap.size + 1) (p1.heap.size) #[.bool br0, .slice ag0 lr0 cg0]) := fIR0.old RG_9.out (g_) (by first | omega | (simp; done) | (simp; omega))
  clear HG_9 A0_9 A1_9 C0_9 SS_9 Bx0_9 Bx1_9 Bg0_9 RG_9
  clear g_
  have zBg00 := Bg0_10.out.c0
  have zBg01 := Bg0_10.out.c1
  go_wp2_with fail
  refine (cmr0 _ _ _ _ RG_10.out).mono ?_
  rintro e i0 ⟨rfl, gm, rm⟩
  clear zBg00 zBg01
  have hsi0 := gm.size
  have HG_11 : Hid (Old w i0) := Old.chg HG_10.out (gm) (by omega)
  have A0_11 : Hid (StW i0 (w.heap.size) (.int .i64 Np0) (.slice ap0 lp0 cp0) 40) := A0_10.out.chg (gm) (by omega)
  have A1_11 : Hid (StW i0 (w.heap.size + 1) (.bool bp1) (.slice ap1 lp1 cp1) 57) := A1_10.out.chg (gm) (by omega)
  have C0_11 : Hid (StW i0 (ks0) (.bool br0) (.slice as0 lr0 cs0) 46) := C0_10.out.chg (gm) (by omega)
  have SS_11 : Hid (SR i0 (loS) (hiS) #[.bool br0, .slice as0 lr0 cs0]) := fSR.chg SS_10.out (gm) (by first | omega | (simp; done) | (simp; omega)) (by omega)
  have Bx0_11 : Hid (StW i0 (x0.heap.size) (.int .i64 Np0) (.slice ax0 lp0 cx0) 49) := Bx0_10.out.chg (gm) (by omega)
  have Bx1_11 : Hid (StW i0 (x1.heap.size) (.bool bp1) (.slice ax1 lp1 cx1) 46) := Bx1_10.out.chg (gm) (by omega)
  have Bg0_11 : Hid (StW i0 (p1.heap.size) (.bool br0) (.slice ag0 lr0 cg0) 46) := Bg0_10.out.chg (gm) (by omega)
  clear HG_10 A0_10 A1_10 C0_10 SS_10 Bx0_10 Bx1_10 Bg0_10 RG_10
  have RG_11 : Hid (IR1 i0 (x1.heap.size + 1) (p1.heap.size) #[.bool br0, .slice ag0 lr0 cg0]) := rm
  clear gm rm
  have dm0 : decide (m0 < 0) = false := decide_eq_false (by omega)
  have dmm : (m0 != m0) = false := by simp
  have zBg00 := Bg0_11.out.c0
  have zBg01 := Bg0_11.out.c1
  go_wp2_with fail
  refine (chr0 _ _ _ _ RG_11.out).mono ?_
  rintro e j0 ⟨rfl, g_⟩
  clear zBg00 zBg01
  have hsj0 := g_.size
  have HG_12 : Hid (Old w j0) := Old.trans HG_11.out (g_)
  have A0_12 : Hid (StW j0 (w.heap.size) (.int .i64 Np0) (.slice ap0 lp0 cp0) 40) := A0_11.out.old (g_)
  have A1_12 : Hid (StW j0 (w.heap.size + 1) (.bool bp1) (.slice ap1 lp1 cp1) 57) := A1_11.out.old (g_)
  have C0_12 : Hid (StW j0 (ks0) (.bool br0) (.slice as0 lr0 cs0) 46) := C0_11.out.old (g_)
  have SS_12 : Hid (SR j0 (loS) (hiS) #[.bool br0, .slice as0 lr0 cs0]) := fSR.old SS_11.out (g_) (by first | omega | (simp; done) | (simp; omega))
  have Bx0_12 : Hid (StW j0 (x0.heap.size) (.int .i64 Np0) (.slice ax0 lp0 cx0) 49) := Bx0_11.out.old (g_)
  have Bx1_12 : Hid (StW j0 (x1.heap.size) (.bool bp1) (.slice ax1 lp1 cx1) 46) := Bx1_11.out.old (g_)
  have Bg0_12 : Hid (StW j0 (p1.heap.size) (.bool br0) (.slice ag0 lr0 cg0) 46) := Bg0_11.out.old (g_)
  have RG_12 : Hid (IR1 j0 (x1.heap.size + 1) (p1.heap.size) #[.bool br0, .slice ag0 lr0 cg0]) := fIR1.old RG_11.out (g_) (by first | omega | (simp; done) | (simp; omega))
  clear HG_11 A0_11 A1_11 C0_11 SS_11 Bx0_11 Bx1_11 Bg0_11 RG_11
  clear g_
  have zA00 := A0_12.out.c0
  have zA01 := A0_12.out.c1
  have zA10 := A1_12.out.c0
  have zA11 := A1_12.out.c1
  go_wp2_with fail
  refine reg_turnrows31 j0 _ _ _ _ _ _ _ (fun W v => ∃ lo hi g, v = .agg g ∧ X0 W lo hi g ∧ hi ≤ W.heap.size) (fun W W' v h g => by obtain ⟨lo, hi, y, rfl, h1, h2⟩ := h; exact ⟨lo, hi, y, rfl, fX0.old h1 g h2, Nat.le_trans h2 g.size⟩) (fun W h => (TO0.out W (Old.trans HG_12.out h)).mono (fun e w' h => by obtain ⟨g, rfl, h1, h2⟩ := h; exact ⟨_, rfl, h1, _, _, g, rfl, h2, Nat.le_refl _⟩)) A0_12.out (fun W v => ∃ lo hi g, v = .agg g ∧ X1 W lo hi g ∧ hi ≤ W.heap.size) (fun W W' v h g => by obtain ⟨lo, hi, y, rfl, h1, h2⟩ := h; exact ⟨lo, hi, y, rfl, fX1.old h1 g h2, Nat.le_trans h2 g.size⟩) (fun W h => (TO1.out W (Old.trans HG_12.out h)).mono (fun e w' h => by obtain ⟨g, rfl, h1, h2⟩ := h; exact ⟨_, rfl, h1, _, _, g, rfl, h2, Nat.le_refl _⟩)) A1_12.out (fun W lo hi g0 g1 => IR0 W lo hi g0 ∧ g1 = .bool ro) (fun W W' lo hi g0 g1 h h1 h2 => ⟨fIR0 _ _ _ _ _ h.1 h1 h2, h.2⟩) (fun W v0 v1 hO H0 H1 => by obtain ⟨lo0, hi0, y0, rfl, x0, q0⟩ := H0; obtain ⟨lo1, hi1, y1, rfl, x1, q1⟩ := H1; exact (cim W _ _ _ _ _ _ x0 x1 (Old.trans HG_12.out hO)).mono (fun e w' h => by obtain ⟨g0, rfl, h1, h2⟩ := h; obtain ⟨a0_, c0_, hq⟩ := hIR0 _ _ _ _ h2; subst hq; exact ⟨_, _, rfl, h1, rfl, (by simp [Value.oneCell']), h2, rfl⟩)) _ _ _ (by first | decide | simp) rfl rfl rfl ?_
  intro kt0 loT hiT q0 q1 u_0 u_1 u_2 u_3 u_4 u_5 u_6 u_7 u_8 ts2 gS loS_ hiS_ rS_ bS0 hkt0 hlt0 hnt0
  obtain ⟨rS, rfl⟩ := rS_
  obtain ⟨at0, ct0, hq⟩ := hIR0 _ _ _ _ rS
  subst hq
  have h_t : j0.heap.size ≤ loT ∧ hiT ≤ ts2.heap.size := ⟨loS_, hiS_⟩
  obtain ⟨hlot, hhit⟩ := h_t
  clear loS_ hiS_
  simp only [putAll, Act.put]
  clear zA00 zA01 zA10 zA11
  have HG_13 : Hid (Old w ts2) := Old.trans HG_12.out (gS)
  have A0_13 : Hid (StW ts2 (w.heap.size) (.int .i64 Np0) (.slice ap0 lp0 cp0) 40) := A0_12.out.old (gS)
  have A1_13 : Hid (StW ts2 (w.heap.size + 1) (.bool bp1) (.slice ap1 lp1 cp1) 57) := A1_12.out.old (gS)
  have C0_13 : Hid (StW ts2 (ks0) (.bool br0) (.slice as0 lr0 cs0) 46) := C0_12.out.old (gS)
  have SS_13 : Hid (SR ts2 (loS) (hiS) #[.bool br0, .slice as0 lr0 cs0]) := fSR.old SS_12.out (gS) (by first | omega | (simp; done) | (simp; omega))
  have Bx0_13 : Hid (StW ts2 (x0.heap.size) (.int .i64 Np0) (.slice ax0 lp0 cx0) 49) := Bx0_12.out.old (gS)
  have Bx1_13 : Hid (StW ts2 (x1.heap.size) (.bool bp1) (.slice ax1 lp1 cx1) 46) := Bx1_12.out.old (gS)
  have Bg0_13 : Hid (StW ts2 (p1.heap.size) (.bool br0) (.slice ag0 lr0 cg0) 46) := Bg0_12.out.old (gS)
  have RG_13 : Hid (IR1 ts2 (x1.heap.size + 1) (p1.heap.size) #[.bool br0, .slice ag0 lr0 cg0]) := fIR1.old RG_12.out (gS) (by first | omega | (simp; done) | (simp; omega))
  clear HG_12 A0_12 A1_12 C0_12 SS_12 Bx0_12 Bx1_12 Bg0_12 RG_12
  have D0_13 : Hid (StW ts2 (kt0) (.bool br0) (.slice at0 lr0 ct0) 46) := bS0
  have HH_13 : Hid (IR0 ts2 (loT) (hiT) #[.bool br0, .slice at0 lr0 ct0]) := rS
  have hsts2 := gS.size
  clear gS rS bS0
  have zD00 := D0_13.out.c0
  have zD01 := D0_13.out.c1
  have zC00 := C0_13.out.c0
  have zC01 := C0_13.out.c1
  go_wp2_with fail
  refine (cer0 _ _ _ _ _ _ _ HH_13.out SS_13.out).mono ?_
  rintro e o0 ⟨rfl, g_⟩
  clear zD00 zD01 zC00 zC01
  have hso0 := g_.size
  have HG_14 : Hid (Old w o0) := Old.trans HG_13.out (g_)
  have A0_14 : Hid (StW o0 (w.heap.size) (.int .i64 Np0) (.slice ap0 lp0 cp0) 40) := A0_13.out.old (g_)
  have A1_14 : Hid (StW o0 (w.heap.size + 1) (.bool bp1) (.slice ap1 lp1 cp1) 57) := A1_13.out.old (g_)
  have C0_14 : Hid (StW o0 (ks0) (.bool br0) (.slice as0 lr0 cs0) 46) := C0_13.out.old (g_)
  have SS_14 : Hid (SR o0 (loS) (hiS) #[.bool br0, .slice as0 lr0 cs0]) := fSR.old SS_13.out (g_) (by first | omega | (simp; done) | (simp; omega))
  have Bx0_14 : Hid (StW o0 (x0.heap.size) (.int .i64 Np0) (.slice ax0 lp0 cx0) 49) := Bx0_13.out.old (g_)
  have Bx1_14 : Hid (StW o0 (x1.heap.size) (.bool bp1) (.slice ax1 lp1 cx1) 46) := Bx1_13.out.old (g_)
  have Bg0_14 : Hid (StW o0 (p1.heap.size) (.bool br0) (.slice ag0 lr0 cg0) 46) := Bg0_13.out.old (g_)
  have RG_14 : Hid (IR1 o0 (x1.heap.size + 1) (p1.heap.size) #[.bool br0, .slice ag0 lr0 cg0]) := fIR1.old RG_13.out (g_) (by first | omega | (simp; done) | (simp; omega))
  have D0_14 : Hid (StW o0 (kt0) (.bool br0) (.slice at0 lr0 ct0) 46) := D0_13.out.old (g_)
  have HH_14 : Hid (IR0 o0 (loT) (hiT) #[.bool br0, .slice at0 lr0 ct0]) := fIR0.old HH_13.out (g_) (by first | omega | (simp; done) | (simp; omega))
  clear HG_13 A0_13 A1_13 C0_13 SS_13 Bx0_13 Bx1_13 Bg0_13 RG_13 D0_13 HH_13
  clear g_
  have zBg00 := Bg0_14.out.c0
  have zBg01 := Bg0_14.out.c1
  go_wp2_with fail
  refine (chr0 _ _ _ _ RG_14.out).mono ?_
  rintro e n0 ⟨rfl, g_⟩
  clear zBg00 zBg01
  have hsn0 := g_.size
  have HG_15 : Hid (Old w n0) := Old.trans HG_14.out (g_)
  have A0_15 : Hid (StW n0 (w.heap.size) (.int .i64 Np0) (.slice ap0 lp0 cp0) 40) := A0_14.out.old (g_)
  have A1_15 : Hid (StW n0 (w.heap.size + 1) (.bool bp1) (.slice ap1 lp1 cp1) 57) := A1_14.out.old (g_)
  have C0_15 : Hid (StW n0 (ks0) (.bool br0) (.slice as0 lr0 cs0) 46) := C0_14.out.old (g_)
  have SS_15 : Hid (SR n0 (loS) (hiS) #[.bool br0, .slice as0 lr0 cs0]) := fSR.old SS_14.out (g_) (by first | omega | (simp; done) | (simp; omega))
  have Bx0_15 : Hid (StW n0 (x0.heap.size) (.int .i64 Np0) (.slice ax0 lp0 cx0) 49) := Bx0_14.out.old (g_)
  have Bx1_15 : Hid (StW n0 (x1.heap.size) (.bool bp1) (.slice ax1 lp1 cx1) 46) := Bx1_14.out.old (g_)
  have Bg0_15 : Hid (StW n0 (p1.heap.size) (.bool br0) (.slice ag0 lr0 cg0) 46) := Bg0_14.out.old (g_)
  have RG_15 : Hid (IR1 n0 (x1.heap.size + 1) (p1.heap.size) #[.bool br0, .slice ag0 lr0 cg0]) := fIR1.old RG_14.out (g_) (by first | omega | (simp; done) | (simp; omega))
  have D0_15 : Hid (StW n0 (kt0) (.bool br0) (.slice at0 lr0 ct0) 46) := D0_14.out.old (g_)
  have HH_15 : Hid (IR0 n0 (loT) (hiT) #[.bool br0, .slice at0 lr0 ct0]) := fIR0.old HH_14.out (g_) (by first | omega | (simp; done) | (simp; omega))
  clear HG_14 A0_14 A1_14 C0_14 SS_14 Bx0_14 Bx1_14 Bg0_14 RG_14 D0_14 HH_14
  clear g_
  go_wp2_with fail
  go_ret
  exact ⟨rfl, HG_15.out⟩
end Go.Proofs.YtcgnndenmcmieaaDoor
/- Proved: the statement on TurnRows at every space, rows and number, in a world in which the two tables are laid. -/
namespace Go.Proofs.YtcgnndenmcmieaaDoor
open Go.ChangeShapes Go.WideShapes Go.ChangeAt Go.RowKit
set_option linter.unusedVariables false
set_option linter.unusedSimpArgs false
open M1
def tnZ (N t p : Int) (xs : List Int) : List Int := trnS p.toNat N.toNat t.toNat (xs.map Int.toNat) N.toNat
def pkZ (N t : Int) (xs : List Int) : List Int := toZ ((tabN N.toNat t.toNat).map fun q => (xs.map Int.toNat).getD q 0)
def turnF (N t : Int) (a : Bool) (p r : Int) (xs : List Int) : List Int := if a then pkZ N t xs else tnZ N t p xs
theorem tnZ_toZ (P M T : Nat) (ys : List Nat) : tnZ M T P (toZ ys) = trnS P M T ys M := by
  unfold tnZ
  rw [toZ_back]
  simp
theorem pkZ_toZ (M T : Nat) (ys : List Nat) : pkZ M T (toZ ys) = toZ ((tabN M T).map fun q => ys.getD q 0) := by
  unfold pkZ
  rw [toZ_back]
  simp
theorem trn_toZ (P N t : Nat) (xs : List Nat) (hN : 0 < N) (hP : 0 < P) (hx : ∀ x ∈ xs, x < P) (m : Nat) : toZ ((trnS P N t xs m).map Int.toNat) = trnS P N t xs m := by
  rw [toZ, List.map_map]
  refine (List.map_congr_left fun x hx' => ?_).trans (List.map_id _)
  obtain ⟨i, hi, rfl⟩ := List.getElem_of_mem hx'
  have h := trn_bd P N t xs hN hP hx m i
  rw [show (trnS P N t xs m).getD i 0 = (trnS P N t xs m)[i] by simp [List.getD, hi]] at h
  show ((trnS P N t xs m)[i].toNat : Int) = (trnS P N t xs m)[i]
  omega
theorem trn_ltN (P N t : Nat) (xs : List Nat) (hN : 0 < N) (hP : 0 < P) (hx : ∀ x ∈ xs, x < P) (m : Nat) : ∀ y ∈ (trnS P N t xs m).map Int.toNat, y < P := by
  intro y hy
  rw [List.mem_map] at hy
  obtain ⟨x, hx', rfl⟩ := hy
  obtain ⟨i, hi, rfl⟩ := List.getElem_of_mem hx'
  have h := trn_bd P N t xs hN hP hx m i
  rw [show (trnS P N t xs m).getD i 0 = (trnS P N t xs m)[i] by simp [List.getD, hi]] at h
  omega
theorem invL_lt (P N R : Nat) (xs : List Nat) (hP : 0 < P) : ∀ x ∈ invL P N R xs, x < P := fun x hx => by
  unfold invL at hx
  rw [List.mem_map] at hx
  obtain ⟨i, _, rfl⟩ := hx
  exact Nat.mod_lt _ hP
theorem turnB_nat {N t : Int} (h : turnB N t = true) (hN : 0 ≤ N) : ∃ T : Nat, t = T ∧ (T : Int) < 2 * N ∧ T % 2 = 1 := by
  unfold turnB at h
  simp only [Bool.and_eq_true, decide_eq_true_eq, beq_iff_eq] at h
  exact ⟨t.toNat, by omega, by omega, by omega⟩
theorem odd_open {N : Int} {ps : List Int} {xss : List (List Int)} (h : grB N ps xss = true) (k : Nat) (hk : k < ps.length) (P : Nat) (e : ps.getD k 0 = P) : P % 2 = 1 := by
  have hok := ((gr_poly h).2 k hk).1
  have q1 := hok.dv
  have q2 := hok.sz
  rw [e] at q1
  rcases q2 with e | e | e | e <;> rw [e] at q1 <;> omega
theorem turnF_len (N t : Int) (a : Bool) (ps : List Int) (xss : List (List Int)) (Rf : Nat → Int) (hR : ∀ k, RingOk (ps.getD k 0) N → ((0 ≤ Rf k ∧ Rf k < ps.getD k 0) ∧ (∀ W, PrsW W → TabW W → Calls Tryd.prog 90 #[.int .i64 (ps.getD k 0), .int .i64 N] W fun e w' => e = .returned (.tuple #[.agg #[.int .i64 (ps.getD k 0), .int .i64 N, .int .i64 (Rf k)], .bool true]) ∧ Old W w')) ∧ (∀ W, Calls Tryd.prog 88 #[.int .i64 (ps.getD k 0), .int .i64 N] W fun e w' => e = .returned (.tuple #[.agg #[.int .i64 (ps.getD k 0), .int .i64 N, .int .i64 (Rf k)], .bool true]) ∧ Old W w') ∧ ∃ P M R : Nat, ps.getD k 0 = P ∧ N = M ∧ Rf k = R ∧ R < P ∧ RingOk P M ∧ (F1.Pr P → Rt P (2 * M) R)) (h : grB N ps xss = true) (k : Nat) (hk : k < ps.length) : ((turnF N t a (ps.getD k 0) (Rf k) (xss.getD k [])).length : Int) = N := by
  obtain ⟨P, M, R, ys, e1, e2, e3, e4, hlt, hP2, hS, la, ha, r1, r2⟩ := row_open hR h k hk
  rw [e4, e2]
  unfold turnF
  cases a
  · rw [if_neg (by simp)]
    unfold tnZ
    rw [trnS_len]
    simp
  · rw [if_pos rfl]
    unfold pkZ
    rw [toZ_len, List.length_map, tabN_len]
    simp
theorem spec_TurnRows_any (N t : Int) (ps : List Int) (a : Bool) (xss : List (List Int)) (Rf : Nat → Int) (hR : ∀ k, RingOk (ps.getD k 0) N → ((0 ≤ Rf k ∧ Rf k < ps.getD k 0) ∧ (∀ W, PrsW W → TabW W → Calls Tryd.prog 90 #[.int .i64 (ps.getD k 0), .int .i64 N] W fun e w' => e = .returned (.tuple #[.agg #[.int .i64 (ps.getD k 0), .int .i64 N, .int .i64 (Rf k)], .bool true]) ∧ Old W w')) ∧ (∀ W, Calls Tryd.prog 88 #[.int .i64 (ps.getD k 0), .int .i64 N] W fun e w' => e = .returned (.tuple #[.agg #[.int .i64 (ps.getD k 0), .int .i64 N, .int .i64 (Rf k)], .bool true]) ∧ Old W w') ∧ ∃ P M R : Nat, ps.getD k 0 = P ∧ N = M ∧ Rf k = R ∧ R < P ∧ RingOk P M ∧ (F1.Pr P → Rt P (2 * M) R)) (v u1 : Value) (w : World) (ht : -9223372036854775808 ≤ t ∧ t ≤ 9223372036854775807) (hv : Row w v ps) (hf : Fit v) (h1 : RowS w u1 xss) (hlp : ps.length ≤ 1048576) (hx : ∀ x ∈ ps, -9223372036854775808 ≤ x ∧ x ≤ 9223372036854775807) (hl1 : xss.length ≤ 1048576) (hr1 : ∀ r ∈ xss, r.length ≤ 1048576) (h : grB N ps xss = true) (ho : turnB N t = true) :
    Calls Tryd.prog 37 #[.agg #[.int .i64 N, v], .agg #[.bool a, u1], .int .i64 t] w (Rs w a (mkL (turnF N t a) ps Rf xss) true) := by
  obtain ⟨t1, t2, t3, t4, t5, t6⟩ := two_parts (two_of.2 ⟨h, h, (rfl : a = a)⟩)
  have hN : 2 ≤ N ∧ N ≤ 16 := by omega
  obtain ⟨T, hT, hTl, hTo⟩ := turnB_nat ho (by omega)
  obtain ⟨p1, p2⟩ := gr_poly h
  have cR : ∀ k, k < ps.length → ∀ W, Calls Tryd.prog 88 #[.int .i64 (ps.getD k 0), .int .i64 N] W fun e w' => e = .returned (.tuple #[.agg #[.int .i64 (ps.getD k 0), .int .i64 N, .int .i64 (Rf k)], .bool true]) ∧ Old W w' := fun k hk => (hR k (p2 k hk).1).2.1
  cases a
  · refine spec_TurnRows_back N t ps xss v u1 w ht hv hf h1 hlp hx hl1 hr1 h hN ho (mkL (backF N false) ps Rf xss) _ (fun W g => spec_l5Back_any N ps false xss Rf hR v u1 W (hv.old g) (h1.old g) h) (fun W x g hx' => spec_l5Turn N t ps (mkL (backF N false) ps Rf xss) _ v x W (hv.old g) hx' t2 (mkL_len _ _ _ _) (mkL_len _ _ _ _) (fun k hk W u hu => ?_))
    obtain ⟨P, M, R, ys, e1, e2, e3, e4, hlt, hP2, hS, la, ha, r1, r2⟩ := row_open hR h k hk
    rw [mkL_get _ _ _ _ _ hk] at hu ⊢
    rw [show backF N false (ps.getD k 0) (Rf k) (xss.getD k []) = xss.getD k [] from rfl, e4] at hu
    rw [show turnF N t false (ps.getD k 0) (Rf k) (xss.getD k []) = tnZ N t (ps.getD k 0) (xss.getD k []) from rfl, e1, e4, e2, hT, tnZ_toZ]
    exact spec_turned P M R T ys u W hu hP2 (sz4_bd hS) la ha (by omega)
  · refine spec_TurnRows_ahead N t ps xss v u1 w ht hv hf h1 hlp hx hl1 hr1 h hN ho (mkL (backF N true) ps Rf xss) (mkL (fun p r xs => tnZ N t p (bkZ N p r xs)) ps Rf xss) (fun W g => spec_l5Back_any N ps true xss Rf hR v u1 W (hv.old g) (h1.old g) h) (fun W x g hx' => spec_l5Turn N t ps (mkL (backF N true) ps Rf xss) _ v x W (hv.old g) hx' t2 (mkL_len _ _ _ _) (mkL_len _ _ _ _) (fun k hk W u hu => ?_)) _ (fun W x g hx' => spec_l5Ahead_t N ps (mkL (fun p r xs => tnZ N t p (bkZ N p r xs)) ps Rf xss) _ Rf v x W (hv.old g) hx' t2 (mkL_len _ _ _ _) (mkL_len _ _ _ _) cR (fun k hk W u hu => ?_))
    · obtain ⟨P, M, R, ys, e1, e2, e3, e4, hlt, hP2, hS, la, ha, r1, r2⟩ := row_open hR h k hk
      rw [mkL_get _ _ _ _ _ hk] at hu ⊢
      rw [show backF N true (ps.getD k 0) (Rf k) (xss.getD k []) = bkZ N (ps.getD k 0) (Rf k) (xss.getD k []) from rfl, e1, e3, e4, e2, bkZ_toZ] at hu
      rw [e1, e3, e4, e2, hT, bkZ_toZ, tnZ_toZ]
      exact spec_turned P M R T _ u W hu hP2 (sz4_bd hS) (invL_len _ _ _ _) (invL_lt P M R ys (by omega)) (by omega)
    · obtain ⟨P, M, R, ys, e1, e2, e3, e4, hlt, hP2, hS, la, ha, r1, r2⟩ := row_open hR h k hk
      have hod := odd_open h k hk P e1
      rw [mkL_get _ _ _ _ _ hk] at hu ⊢
      rw [e1, e3, e4, e2, hT, bkZ_toZ, tnZ_toZ, ← trn_toZ P M T _ (by omega) (by omega) (invL_lt P M R ys (by omega)) M] at hu
      rw [show turnF N t true (ps.getD k 0) (Rf k) (xss.getD k []) = pkZ N t (xss.getD k []) from rfl, e1, e3, e4, e2, hT, pkZ_toZ, ← turn_pick P M R T ys hS la hP2.1 hod ha (by omega) hTo r1 r2]
      exact spec_l3Forward P M R _ u W hu hP2 hS hlt (by rw [List.length_map, trnS_len]) (trn_ltN P M T _ (by omega) (by omega) (invL_lt P M R ys (by omega)) M)
theorem impl_TurnRows_any (N t : Int) (ps : List Int) (a : Bool) (xss : List (List Int)) (Rf : Nat → Int) (hR : ∀ k, RingOk (ps.getD k 0) N → ((0 ≤ Rf k ∧ Rf k < ps.getD k 0) ∧ (∀ W, PrsW W → TabW W → Calls Tryd.prog 90 #[.int .i64 (ps.getD k 0), .int .i64 N] W fun e w' => e = .returned (.tuple #[.agg #[.int .i64 (ps.getD k 0), .int .i64 N, .int .i64 (Rf k)], .bool true]) ∧ Old W w')) ∧ (∀ W, Calls Tryd.prog 88 #[.int .i64 (ps.getD k 0), .int .i64 N] W fun e w' => e = .returned (.tuple #[.agg #[.int .i64 (ps.getD k 0), .int .i64 N, .int .i64 (Rf k)], .bool true]) ∧ Old W w') ∧ ∃ P M R : Nat, ps.getD k 0 = P ∧ N = M ∧ Rf k = R ∧ R < P ∧ RingOk P M ∧ (F1.Pr P → Rt P (2 * M) R)) (v u1 : Value) (w : World) (lo1 hi1 : Nat) (ht : -9223372036854775808 ≤ t ∧ t ≤ 9223372036854775807) (hP : PrsW w) (hTb : TabW w) (hv : Row w v ps) (hf : Fit v) (h1 : OwS xss w lo1 hi1 u1) (hlp : ps.length ≤ 1048576) (hl1 : xss.length ≤ 1048576) (hr1 : ∀ r ∈ xss, r.length ≤ 1048576) :
    Calls Tryd.prog 38 #[.agg #[.int .i64 N, v], .agg #[.bool a, u1], .int .i64 t] w fun e w' => ((grB N ps xss && turnB N t) = true → Rs w a (mkL (turnF N t a) ps Rf xss) true e w') ∧ ((grB N ps xss && turnB N t) = false → Rs w false [] false e w') := by
  obtain ⟨us1, cs1, at1⟩ := h1.ats ps
  obtain ⟨a0, cap0, ev⟩ := hv.slice
  obtain ⟨a1, cap1, e1⟩ := h1.slice
  subst ev e1
  have c1 := fun W W' (q : Old w W) (p1 : PrsW W') (p2 : TabW W') (q' : Old W W') => impl_ringRows N a ps xss Rf us1 cs1 (.slice a0 ps.length cap0) a1 cap1 W' p1 p2 (hv.old (Old.trans q q')) hf hlp hl1 hr1 (fun h => (at1 h).old (Old.trans q q')) (fun k hk => (hR k hk).1)
  cases htt : (rgB N && turnB N t)
  · have hno : (grB N ps xss && turnB N t) = false := by
      cases hg : grB N ps xss
      · rfl
      · obtain ⟨t1, t2, t3, t4, t5, t6⟩ := two_parts (two_of.2 ⟨hg, hg, (rfl : a = a)⟩)
        have : rgB N = true := by
          unfold grB spB at hg
          simp only [Bool.and_eq_true] at hg
          exact hg.1.1
        rw [this] at htt
        exact htt
    refine (impl_TurnRows_no N t ps xss a a0 a1 cap0 cap1 w (fun W g => impl_TurnTable_no N t W ht htt)).mono (fun e w' h => ⟨(fun h' => by rw [hno] at h'; cases h'), fun _ => h⟩)
  · rw [Bool.and_eq_true] at htt
    obtain ⟨hrg, ho⟩ := htt
    have hS4 : N = 2 ∨ N = 4 ∨ N = 8 ∨ N = 16 := rgB_yes hrg
    obtain ⟨T, hT, hTl, hTo⟩ := turnB_nat ho (by omega)
    obtain ⟨Nn, hNn⟩ : ∃ Nn : Nat, N = Nn := ⟨N.toNat, by omega⟩
    subst hNn hT
    have hS : Sz4 Nn := by
      unfold Sz4
      omega
    have ctb := fun W (g : Old w W) => impl_TurnTable_yes Nn T W (hTb.old g) hS ho (by omega)
    cases hyes : grB Nn ps xss
    · refine (impl_TurnRows_yes Nn T ps xss a a0 a1 cap0 cap1 w (toZ (tabN Nn T)) false [] false ctb (fun W tb gb at0 tc q k1 k2 rt => eachRow_turn_no tb gb Nn ps a a xss Rf us1 _ a1 cap1 W (hP.old q) (hTb.old q) (hv.old q) (fun W' p1 p2 q' => c1 W W' q p1 p2 q') hyes)).mono (fun e w' h => ⟨(fun h' => by simp at h'), fun _ => h⟩)
    · obtain ⟨t1, t2, t3, t4, t5, t6⟩ := two_parts (two_of.2 ⟨hyes, hyes, (rfl : a = a)⟩)
      refine (impl_TurnRows_yes Nn T ps xss a a0 a1 cap0 cap1 w (toZ (tabN Nn T)) a (mkL (turnF Nn T a) ps Rf xss) true ctb (fun W tb gb at0 tc q k1 k2 rt => eachRow_turn_yes tb gb Nn ps a a xss Rf us1 _ a1 cap1 W (hP.old q) (hTb.old q) (hv.old q) (fun W' p1 p2 q' => c1 W W' q p1 p2 q') hyes (mkL (turnF Nn T a) ps Rf xss) (mkL_len _ _ _ _) t2.2 (fun k hk => ?_))).mono (fun e w' h => ⟨fun _ => h, (fun h' => by rw [ho] at h'; simp at h')⟩)
      obtain ⟨s1, s2, s3, s4⟩ := t6 k hk
      obtain ⟨b1, _, _, _, rr1⟩ := at1 (by omega)
      have row1 := (rr1 k (by omega)).2.2
      have l1 : (xss.getD k []).length = Nn := by omega
      rw [l1] at row1
      have row2 := row1.recap (c' := Nn) (fun h => by rw [h] at l1; simp at l1; omega)
      have hlen := turnF_len Nn T a ps xss Rf hR hyes k hk
      rw [mkL_get _ _ _ _ _ hk]
      refine ⟨by omega, fun W' q' => ?_⟩
      obtain ⟨P, M, R, ys, e1, e2, e3, e4, hlt, hP2, hS', la, ha, r1, r2⟩ := row_open hR hyes k hk
      obtain rfl : Nn = M := by omega
      rw [e1, e3, e4] at hlen ⊢
      rw [e4] at row2 l1
      have hN2 := sz4_bd hS
      have k1' := (q'.cell (p := ⟨tb, 0, none⟩) (block_lt_of_cell k1)).trans k1
      have k2' := (q'.cell (p := ⟨gb, 0, none⟩) (block_lt_of_cell k2)).trans k2
      cases a
      · refine turn_change_false P R T Nn _ (us1 k) tb gb at0 _ tc W' k1' k2' (fun W'' q'' => ?_) (by omega) (by omega)
        rw [show turnF Nn T false P R (toZ ys) = trnS P Nn T ys Nn from tnZ_toZ P Nn T ys]
        exact impl_turned P Nn R T ys _ W'' (row2.old (Old.trans q (Old.trans q' q''))) hP2 hN2 la ha (by omega)
      · refine turn_change_true P R T Nn _ (us1 k) tb gb at0 _ tc W' k1' k2' (fun W'' q'' => ?_)
        rw [show turnF Nn T true P R (toZ ys) = toZ ((tabN Nn T).map fun q => ys.getD q 0) from pkZ_toZ Nn T ys]
        refine impl_picked P R true Nn (toZ ys) (toZ (tabN Nn T)) _ (us1 k) _ W'' (row2.old (Old.trans q (Old.trans q' q''))) (rt.old (Old.trans q' q'')) hN2 l1 (by rw [toZ_len, tabN_len]) (by rw [toZ_len, List.length_map, tabN_len]) (fun i hi => ?_)
        have hb : (tabN Nn T).getD i 0 < Nn := by
          rw [tabN_get Nn T i hi]
          exact back_lt0 hS _
        rw [toZ_get]
        refine ⟨by omega, ?_⟩
        rw [Int.toNat_natCast, toZ_get, toZ_get]
        have hil : i < (tabN Nn T).length := by rw [tabN_len]; exact hi
        simp [List.getD, hil]
theorem TurnRows_any (N t : Int) (xs : List Int) (n : Bool) (xss : List (List Int)) (v u : Value) (w : World) (ht : -9223372036854775808 ≤ t ∧ t ≤ 9223372036854775807) (hv : Row w v xs) (hl : xs.length ≤ 9223372036854775807) (hx : ∀ x ∈ xs, -9223372036854775808 ≤ x ∧ x ≤ 9223372036854775807) (hu : RowS w u xss) (hlx : xss.length ≤ 9223372036854775807) (hlr : ∀ r ∈ xss, r.length ≤ 9223372036854775807) (hP : PrsW w) (hT : TabW w) :
    Calls Tryd.prog 7 #[.agg #[.int .i64 N, v], .agg #[.bool n, u], .int .i64 t] w fun e w' => e = .returned (.bool true) ∧ Old w w' := by
  obtain ⟨Rf, hR⟩ := Rings_both N xs
  obtain ⟨a0, c0, rfl⟩ := hv.slice
  obtain ⟨a1, c1, rfl⟩ := hu.slice
  have bnd : ∀ {A : Prop}, ¬ leftN 1048576 xs.length < 0 → ¬ leftSS (leftN 1048576 xs.length) xss < 0 → (xs.length ≤ 1048576 → xss.length ≤ 1048576 → (∀ r ∈ xss, r.length ≤ 1048576) → offL xss xss.length ≤ 1048576 → A) → A := fun h1 h2 k => by
    obtain ⟨q1, q2, q3⟩ := leftN_ok h1 (by omega)
    obtain ⟨p1, p2, p3, p4⟩ := leftSS_ok q3 h2
    have o1 := offL_leftSS q3 h2
    exact k (by omega) (by omega) (fun r hr => by have := p4 r hr; omega) (by omega)
  obtain ⟨zss, ro, br, hy, hn, hz⟩ : ∃ (zss : List (List Int)) (ro br : Bool), ((grB N xs xss && turnB N t) = true → zss = mkL (turnF N t n) xs Rf xss ∧ ro = true ∧ br = n) ∧ ((grB N xs xss && turnB N t) = false → zss = [] ∧ ro = false ∧ br = false) ∧ (zss.length ≤ 6 ∧ (∀ r ∈ zss, r.length ≤ 16)) := by
    cases h0 : (grB N xs xss && turnB N t)
    · exact ⟨[], false, false, (fun h => by cases h), (fun _ => ⟨rfl, rfl, rfl⟩), by simp, (fun r hr => by cases hr)⟩
    · have h := (Bool.and_eq_true _ _ ▸ h0 : grB N xs xss = true ∧ turnB N t = true).1
      refine ⟨_, true, n, fun _ => ⟨rfl, rfl, rfl⟩, (fun h => by cases h), ?_, fun r hr => ?_⟩
      · obtain ⟨t1, t2, t3, t4, t5, t6⟩ := two_parts (two_of.2 ⟨h, h, (rfl : n = n)⟩)
        rw [mkL_len]
        omega
      · obtain ⟨t1, t2, t3, t4, t5, t6⟩ := two_parts (two_of.2 ⟨h, h, (rfl : n = n)⟩)
        unfold mkL at hr
        rw [List.mem_map] at hr
        obtain ⟨k, hk, rfl⟩ := hr
        have hk' : k < xs.length := by simpa using hk
        have := turnF_len N t n xs xss Rf hR h k hk'
        omega
  obtain ⟨z1, z2⟩ := hz
  have z3 : offL zss zss.length ≤ 96 := by
    have := offL_bd zss 16 z2
    omega
  have z2' : ∀ r ∈ zss, r.length ≤ 1048576 := fun r hr => by have := z2 r hr; omega
  refine law_turnrows w t N xs.length a0 c0 n xss.length a1 c1 br zss.length ro (leftN 1048576 xs.length) (leftSS (leftN 1048576 xs.length) xss)
    (fun W g => ks_sz N a0 xs.length c0 1048576 W hl (by omega) (by omega))
    (fun h W g => by
      obtain ⟨q1, q2, q3⟩ := leftN_ok h (by omega)
      exact kr_sz n xss _ _ W (hu.old g) hlx hlr q3 (by omega))
    (XS N xs) (far_XS N xs) shape_XS (fun h1 h2 W g => bnd h1 h2 fun d1 d2 d3 d6 => ks_to N xs _ W (hv.old g) d1) (fun h1 h2 W lo hi g lo' hi' g' k k' => bnd h1 h2 fun d1 d2 d3 d6 => ks_eq N xs W lo hi g lo' hi' g' k k' (by omega))
    (1 + xs.length) (by omega) (fun h1 h2 W lo hi g k => bnd h1 h2 fun d1 d2 d3 d6 => ks_mark N xs 1 W lo hi g k d1 (by omega) (by omega))
    (XR n xss) (far_XR n xss) shape_XR (fun h1 h2 W g => bnd h1 h2 fun d1 d2 d3 d6 => kr_to n xss _ W (hu.old g) d2 d3) (fun h1 h2 W lo hi g lo' hi' g' k k' => bnd h1 h2 fun d1 d2 d3 d6 => kr_eq n xss W lo hi g lo' hi' g' k k' d2 d3)
    (1 + xs.length + offL xss xss.length) (by omega) (fun h1 h2 W lo hi g k => bnd h1 h2 fun d1 d2 d3 d6 => (kr_mark n xss _ W lo hi g k d2 d3 (by omega) (by omega)).mono (fun e w' h => ⟨h.1, h.2.1⟩))
    (XR br zss) (far_XR br zss) shape_XR (XR br zss) (far_XR br zss) shape_XR (XM br 1 zss) (far_XM br 1 zss) shape_XM
    (fun h1 h2 W lo0 hi0 g0 lo1 hi1 g1 k0 k1 => bnd h1 h2 fun d1 d2 d3 d6 => ?_) (fun h1 h2 W lo0 hi0 g0 lo1 hi1 g1 k0 k1 q => bnd h1 h2 fun d1 d2 d3 d6 => ?_)
    (fun h1 h2 W lo hi p lo' hi' p' k k' => kr_eq br zss W lo hi p lo' hi' p' k k' (by omega) z2')
    (1 + offL zss zss.length) (by omega) (fun h1 h2 W lo hi p k => kr_mark br zss 1 W lo hi p k (by omega) z2' (by omega) (by omega)) (fun h1 h2 W lo hi p k => kr_held br zss 1 W lo hi p k (by omega) z2' (by omega) (by omega))
  · obtain ⟨a, c, rfl, o, f⟩ := k0
    obtain ⟨a', c', rfl, o'⟩ := k1
    cases htw : (grB N xs xss && turnB N t)
    · obtain ⟨rfl, rfl, rfl⟩ := hn htw
      cases hg : grB N xs xss
      · exact spec_TurnRows_no1 N t xs n xss _ _ W ht o.row f o'.rowS d1 hx d2 d3 hg
      · rw [hg, Bool.true_and] at htw
        obtain ⟨t1, t2, t3, t4, t5, t6⟩ := two_parts (two_of.2 ⟨hg, hg, (rfl : n = n)⟩)
        exact spec_TurnRows_no2 N t xs n xss _ _ W ht o.row f o'.rowS d1 hx d2 d3 hg (by omega) htw
    · obtain ⟨rfl, rfl, rfl⟩ := hy htw
      rw [Bool.and_eq_true] at htw
      exact spec_TurnRows_any N t xs _ xss Rf hR _ _ W ht o.row f o'.rowS d1 hx d2 d3 htw.1 htw.2
  · obtain ⟨a, c, rfl, o, f⟩ := k0
    obtain ⟨a', c', rfl, o'⟩ := k1
    refine (impl_TurnRows_any N t xs n xss Rf hR _ _ W _ _ ht (hP.old q) (hT.old q) o.row f o' d1 d2 d3).mono (fun e w' h => ?_)
    cases htw : (grB N xs xss && turnB N t)
    · obtain ⟨rfl, rfl, rfl⟩ := hn htw
      exact h.2 htw
    · obtain ⟨rfl, rfl, rfl⟩ := hy htw
      exact h.1 htw
end Go.Proofs.YtcgnndenmcmieaaDoor
