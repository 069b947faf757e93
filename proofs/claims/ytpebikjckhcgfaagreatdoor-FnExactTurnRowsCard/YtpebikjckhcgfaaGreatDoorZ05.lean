/- Proved: several texts in one: what each proves is said ahead of it. -/
import Derived.Test.YtpebikjckhcgfaaGreatDoorZ04
import Derived.Test.YtpebikjckhcgfaaGreatDoorZ02
/- Proved: a drawn region of the statement FnExactTurnRows, by what holds between its operations, in whatever order. -/
namespace Go.Proofs.YtpebikjckhcgfaaGreatDoor
open Go.ChangeShapes Go.WideShapes Go.ChangeAt Go.RowKit
set_option linter.unusedVariables false
set_option linter.unusedSimpArgs false
def regionAtreg_turnrows8 (n : Nat) : Code → Option Code
  | .region i ops b => if i = n then some (.region i ops b) else none
  | .seq a b => match regionAtreg_turnrows8 n a with
    | some c => some c
    | none => regionAtreg_turnrows8 n b
  | .block _ c => regionAtreg_turnrows8 n c
  | _ => none
set_option maxRecDepth 100000 in
set_option maxHeartbeats 8000000 in
theorem reg_turnrows8 (w2 : World) (xa ya xb yb : Value) (t : Int) (ka kb : Nat)
    (CR0 : World → Value → Prop) (hCR0 : ∀ W W' v, CR0 W v → Old W W' → CR0 W' v)
    (c0 : ∀ W, Old w2 W → Calls Tryz.prog 7 #[.agg #[xa, ya]] W fun e w' => ∃ v, e = .returned v ∧ Old W w' ∧ CR0 w' v)
    (b0 : w2.heap[ka]? = some (.cells #[xa, ya] 24 (0, 0)))
    (CR1 : World → Value → Prop) (hCR1 : ∀ W W' v, CR1 W v → Old W W' → CR1 W' v)
    (c1 : ∀ W, Old w2 W → Calls Tryz.prog 8 #[.agg #[xb, yb]] W fun e w' => ∃ v, e = .returned v ∧ Old W w' ∧ CR1 w' v)
    (b1 : w2.heap[kb]? = some (.cells #[xb, yb] 27 (0, 0)))
    (RES : World → Nat → Nat → Array Value → Value → Prop) (far : ∀ W W' lo hi (g0 : Array Value) (g1 : Value), RES W lo hi g0 g1 → (∀ b, lo ≤ b → b < hi → W'.heap[b]? = W.heap[b]?) → W.heap.size ≤ W'.heap.size → RES W' lo hi g0 g1)
    (cf : ∀ W v0 v1, Old w2 W → CR0 W v0 → CR1 W v1 → Calls Tryz.prog 6 #[v0, v1, .int .i64 t] W fun e w' => ∃ (g0 : Array Value) (g1 : Value), e = .returned (.tuple #[.agg g0, g1]) ∧ Old W w' ∧ g0.size = 2 ∧ g0.all (·.oneCell') = true ∧ RES w' W.heap.size w'.heap.size g0 g1)
    (Q : Exit → Act → World → Prop) (K : Act → World → Prop) (a0 : Act) (hsz : 124 ≤ a0.tmps.size) (ha2 : a0.eval (.tmp 2) = .int .i64 t) (ha3 : a0.eval (.tmp 3) = .pointer (some ⟨ka, 0, none⟩)) (ha4 : a0.eval (.tmp 4) = .pointer (some ⟨kb, 0, none⟩))
    (HK : Hid (∀ (k0 lo hi : Nat) (g0 : Array Value) (g1 : Value) (u29 u30 u31 u32 u33 u34 u35 u36 u37 : Value) (W : World), Old w2 W → w2.heap.size ≤ lo → hi ≤ W.heap.size → RES W lo hi g0 g1 → W.heap[k0]? = some (.cells g0 30 (0, 0)) → w2.heap.size ≤ k0 → k0 < W.heap.size → (k0 < lo ∨ hi ≤ k0) → K (putAll a0 [(8, .pointer (some ⟨k0, 0, none⟩)), (9, g1), (29, u29), (30, u30), (31, u31), (32, u32), (33, u33), (34, u34), (35, u35), (36, u36), (37, u37)]) W)) :
    Code.wp Tryz.prog ((Tryz.f3.body.bind (regionAtreg_turnrows8 8)).getD .skip) (Exit.then K Q) a0 w2 := by
  conv => arg 2; whnf
  have e2 : ∀ l, (putAll a0 l).eval (.tmp 2) = (getKey l 2).getD (a0.eval (.tmp 2)) := eval_putAll a0 2 (by omega)
  have e3 : ∀ l, (putAll a0 l).eval (.tmp 3) = (getKey l 3).getD (a0.eval (.tmp 3)) := eval_putAll a0 3 (by omega)
  have e4 : ∀ l, (putAll a0 l).eval (.tmp 4) = (getKey l 4).getD (a0.eval (.tmp 4)) := eval_putAll a0 4 (by omega)
  have e8 : ∀ l, (putAll a0 l).eval (.tmp 8) = (getKey l 8).getD (a0.eval (.tmp 8)) := eval_putAll a0 8 (by omega)
  have e9 : ∀ l, (putAll a0 l).eval (.tmp 9) = (getKey l 9).getD (a0.eval (.tmp 9)) := eval_putAll a0 9 (by omega)
  have e29 : ∀ l, (putAll a0 l).eval (.tmp 29) = (getKey l 29).getD (a0.eval (.tmp 29)) := eval_putAll a0 29 (by omega)
  have e30 : ∀ l, (putAll a0 l).eval (.tmp 30) = (getKey l 30).getD (a0.eval (.tmp 30)) := eval_putAll a0 30 (by omega)
  have e31 : ∀ l, (putAll a0 l).eval (.tmp 31) = (getKey l 31).getD (a0.eval (.tmp 31)) := eval_putAll a0 31 (by omega)
  have e32 : ∀ l, (putAll a0 l).eval (.tmp 32) = (getKey l 32).getD (a0.eval (.tmp 32)) := eval_putAll a0 32 (by omega)
  have e33 : ∀ l, (putAll a0 l).eval (.tmp 33) = (getKey l 33).getD (a0.eval (.tmp 33)) := eval_putAll a0 33 (by omega)
  have e34 : ∀ l, (putAll a0 l).eval (.tmp 34) = (getKey l 34).getD (a0.eval (.tmp 34)) := eval_putAll a0 34 (by omega)
  have e35 : ∀ l, (putAll a0 l).eval (.tmp 35) = (getKey l 35).getD (a0.eval (.tmp 35)) := eval_putAll a0 35 (by omega)
  have e36 : ∀ l, (putAll a0 l).eval (.tmp 36) = (getKey l 36).getD (a0.eval (.tmp 36)) := eval_putAll a0 36 (by omega)
  have e37 : ∀ l, (putAll a0 l).eval (.tmp 37) = (getKey l 37).getD (a0.eval (.tmp 37)) := eval_putAll a0 37 (by omega)
  refine wp_region_steps (fun d a W => ∃ (u8 u9 u29 u30 u31 u32 u33 u34 u35 u36 u37 : Value) (k0 lo hi : Nat) (g0 : Array Value) (g1 : Value), a = (putAll a0 [(8, u8), (9, u9), (29, u29), (30, u30), (31, u31), (32, u32), (33, u33), (34, u34), (35, u35), (36, u36), (37, u37)]) ∧ (Old w2 W) ∧ (d 0 = true → u30 = .agg #[xa, ya]) ∧ (d 1 = true → d 5 = false → CR0 W u31) ∧ (d 2 = true → u32 = .agg #[xb, yb]) ∧ (d 3 = true → d 5 = false → CR1 W u33) ∧ (d 4 = true → u34 = .int .i64 t) ∧ (d 5 = true → u35 = .tuple #[.agg g0, g1] ∧ w2.heap.size ≤ lo ∧ hi ≤ W.heap.size ∧ g0.size = 2 ∧ g0.all (·.oneCell') = true ∧ RES W lo hi g0 g1) ∧ (d 6 = true → u29 = .tuple #[.agg g0, g1]) ∧ (d 7 = true → u36 = .agg g0) ∧ (d 8 = true → u37 = g1) ∧ (d 9 = true → u8 = .pointer (some ⟨k0, 0, none⟩) ∧ w2.heap.size ≤ k0 ∧ k0 < W.heap.size) ∧ (d 9 = true → d 10 = false → W.heap[k0]? = some (.cells #[.bool false, .slice none 0 0] 30 (0, 0))) ∧ (d 10 = true → W.heap[k0]? = some (.cells g0 30 (0, 0))) ∧ (d 9 = true → d 5 = true → (k0 < lo ∨ hi ≤ k0)) ∧ (d 11 = true → u9 = g1) ∧ (d 6 = true → d 5 = true) ∧ (d 7 = true → d 5 = true) ∧ (d 10 = true → d 5 = true) ∧ (d 10 = true → d 9 = true) ∧ (d 8 = true → d 5 = true) ∧ (d 11 = true → d 5 = true)) rfl (by decide +kernel) (by decide +kernel) ?_ ⟨?_, ?_, ?_, ?_, ?_, ?_, ?_, ?_, ?_, ?_, ?_, ?_, trivial⟩ ?_
  · exact ⟨_, _, _, _, _, _, _, _, _, _, _, 0, 0, 0, #[], undef, (putAll_self a0 [8, 9, 29, 30, 31, 32, 33, 34, 35, 36, 37] (by intro s hs; simp at hs; omega)).symm, Below.drew (Old.refl w2), (fun h => by cases h), (fun h => by cases h), (fun h => by cases h), (fun h => by cases h), (fun h => by cases h), (fun h => by cases h), (fun h => by cases h), (fun h => by cases h), (fun h => by cases h), (fun h => by cases h), (fun h => by cases h), (fun h => by cases h), (fun h => by cases h), (fun h => by cases h), (fun h => by cases h), (fun h => by cases h), (fun h => by cases h), (fun h => by cases h), (fun h => by cases h), (fun h => by cases h)⟩
  · rintro d a W ⟨u8, u9, u29, u30, u31, u32, u33, u34, u35, u36, u37, k0, lo, hi, g0, g1, hfr, fold, fL0, fC0, fL1, fC1, fI, fF, fM, fE0, fE1, fB0, fZ0, fS0, fX0, fA1, fO6_5, fO7_5, fO10_5, fO10_9, fO8_5, fO11_5⟩ hi_ hd
    simp [Region.binds] at hd
    refine op_load (k := ka) (by rw [hfr, e3]; exact ha3) (fold.block _ (lt_of_some b0) |>.trans b0) Tryz.underlying24 rfl (by kernel_rfl) ?_
    exact ⟨u8, u9, u29, .agg #[xa, ya], u31, u32, u33, u34, u35, u36, u37, k0, lo, hi, g0, g1, (by rw [hfr]; exact putAll_put a0 _ _ _ rfl), (fold),
      (fun _ => rfl),
      (fun h0 h1 => fC0 h0 h1),
      (fun h0 => fL1 h0),
      (fun h0 h1 => fC1 h0 h1),
      (fun h0 => fI h0),
      (fun h0 => fF h0),
      (fun h0 => fM h0),
      (fun h0 => fE0 h0),
      (fun h0 => fE1 h0),
      (fun h0 => fB0 h0),
      (fun h0 h1 => fZ0 h0 h1),
      (fun h0 => fS0 h0),
      (fun h0 h1 => fX0 h0 h1),
      (fun h0 => fA1 h0),
      (fun h => fO6_5 h),
      (fun h => fO7_5 h),
      (fun h => fO10_5 h),
      (fun h => fO10_9 h),
      (fun h => fO8_5 h),
      (fun h => fO11_5 h)⟩
  · rintro d a W ⟨u8, u9, u29, u30, u31, u32, u33, u34, u35, u36, u37, k0, lo, hi, g0, g1, hfr, fold, fL0, fC0, fL1, fC1, fI, fF, fM, fE0, fE1, fB0, fZ0, fS0, fX0, fA1, fO6_5, fO7_5, fO10_5, fO10_9, fO8_5, fO11_5⟩ hi_ hd
    simp [Region.binds] at hd
    have HD0 : d 0 = true := by simp only [hd]
    clear hd
    have hv := fL0 HD0
    refine op_call_ret Tryz.call7 (vs := #[.agg #[xa, ya]]) (by simp [hfr, e30, getKey, hv]) (c0 W fold) ?_
    rintro v W' ⟨g, hcr⟩
    exact ⟨u8, u9, u29, u30, v, u32, u33, u34, u35, u36, u37, k0, lo, hi, g0, g1, (by rw [hfr]; exact putAll_put a0 _ _ _ rfl), (Old.trans fold g),
      (fun h0 => fL0 h0),
      (fun _ _ => hcr),
      (fun h0 => fL1 h0),
      (fun h0 h1 => hCR1 _ _ _ (fC1 h0 h1) g),
      (fun h0 => fI h0),
      (fun h0 => by obtain ⟨e1, e2, e3, z0, y0, e9⟩ := fF h0; exact ⟨e1, e2, Nat.le_trans e3 g.size, z0, y0, far _ _ _ _ _ _ e9 (fun b _ hb => g.block b (by omega)) g.size⟩),
      (fun h0 => fM h0),
      (fun h0 => fE0 h0),
      (fun h0 => fE1 h0),
      (fun h0 => by obtain ⟨e1, e2, e3⟩ := fB0 h0; exact ⟨e1, e2, Nat.lt_of_lt_of_le e3 g.size⟩),
      (fun h0 h1 => (g.block _ (lt_of_some (fZ0 h0 h1))).trans (fZ0 h0 h1)),
      (fun h0 => (g.block _ (lt_of_some (fS0 h0))).trans (fS0 h0)),
      (fun h0 h1 => fX0 h0 h1),
      (fun h0 => fA1 h0),
      (fun h => fO6_5 h),
      (fun h => fO7_5 h),
      (fun h => fO10_5 h),
      (fun h => fO10_9 h),
      (fun h => fO8_5 h),
      (fun h => fO11_5 h)⟩
  · rintro d a W ⟨u8, u9, u29, u30, u31, u32, u33, u34, u35, u36, u37, k0, lo, hi, g0, g1, hfr, fold, fL0, fC0, fL1, fC1, fI, fF, fM, fE0, fE1, fB0, fZ0, fS0, fX0, fA1, fO6_5, fO7_5, fO10_5, fO10_9, fO8_5, fO11_5⟩ hi_ hd
    simp [Region.binds] at hd
    refine op_load (k := kb) (by rw [hfr, e4]; exact ha4) (fold.block _ (lt_of_some b1) |>.trans b1) Tryz.underlying27 rfl (by kernel_rfl) ?_
    exact ⟨u8, u9, u29, u30, u31, .agg #[xb, yb], u33, u34, u35, u36, u37, k0, lo, hi, g0, g1, (by rw [hfr]; exact putAll_put a0 _ _ _ rfl), (fold),
      (fun h0 => fL0 h0),
      (fun h0 h1 => fC0 h0 h1),
      (fun _ => rfl),
      (fun h0 h1 => fC1 h0 h1),
      (fun h0 => fI h0),
      (fun h0 => fF h0),
      (fun h0 => fM h0),
      (fun h0 => fE0 h0),
      (fun h0 => fE1 h0),
      (fun h0 => fB0 h0),
      (fun h0 h1 => fZ0 h0 h1),
      (fun h0 => fS0 h0),
      (fun h0 h1 => fX0 h0 h1),
      (fun h0 => fA1 h0),
      (fun h => fO6_5 h),
      (fun h => fO7_5 h),
      (fun h => fO10_5 h),
      (fun h => fO10_9 h),
      (fun h => fO8_5 h),
      (fun h => fO11_5 h)⟩
  · rintro d a W ⟨u8, u9, u29, u30, u31, u32, u33, u34, u35, u36, u37, k0, lo, hi, g0, g1, hfr, fold, fL0, fC0, fL1, fC1, fI, fF, fM, fE0, fE1, fB0, fZ0, fS0, fX0, fA1, fO6_5, fO7_5, fO10_5, fO10_9, fO8_5, fO11_5⟩ hi_ hd
    simp [Region.binds] at hd
    have HD2 : d 2 = true := by simp only [hd]
    clear hd
    have hv := fL1 HD2
    refine op_call_ret Tryz.call8 (vs := #[.agg #[xb, yb]]) (by simp [hfr, e32, getKey, hv]) (c1 W fold) ?_
    rintro v W' ⟨g, hcr⟩
    exact ⟨u8, u9, u29, u30, u31, u32, v, u34, u35, u36, u37, k0, lo, hi, g0, g1, (by rw [hfr]; exact putAll_put a0 _ _ _ rfl), (Old.trans fold g),
      (fun h0 => fL0 h0),
      (fun h0 h1 => hCR0 _ _ _ (fC0 h0 h1) g),
      (fun h0 => fL1 h0),
      (fun _ _ => hcr),
      (fun h0 => fI h0),
      (fun h0 => by obtain ⟨e1, e2, e3, z0, y0, e9⟩ := fF h0; exact ⟨e1, e2, Nat.le_trans e3 g.size, z0, y0, far _ _ _ _ _ _ e9 (fun b _ hb => g.block b (by omega)) g.size⟩),
      (fun h0 => fM h0),
      (fun h0 => fE0 h0),
      (fun h0 => fE1 h0),
      (fun h0 => by obtain ⟨e1, e2, e3⟩ := fB0 h0; exact ⟨e1, e2, Nat.lt_of_lt_of_le e3 g.size⟩),
      (fun h0 h1 => (g.block _ (lt_of_some (fZ0 h0 h1))).trans (fZ0 h0 h1)),
      (fun h0 => (g.block _ (lt_of_some (fS0 h0))).trans (fS0 h0)),
      (fun h0 h1 => fX0 h0 h1),
      (fun h0 => fA1 h0),
      (fun h => fO6_5 h),
      (fun h => fO7_5 h),
      (fun h => fO10_5 h),
      (fun h => fO10_9 h),
      (fun h => fO8_5 h),
      (fun h => fO11_5 h)⟩
  · rintro d a W ⟨u8, u9, u29, u30, u31, u32, u33, u34, u35, u36, u37, k0, lo, hi, g0, g1, hfr, fold, fL0, fC0, fL1, fC1, fI, fF, fM, fE0, fE1, fB0, fZ0, fS0, fX0, fA1, fO6_5, fO7_5, fO10_5, fO10_9, fO8_5, fO11_5⟩ hi_ hd
    simp [Region.binds] at hd
    refine op_move ?_
    rw [show a.eval (.tmp 2) = .int .i64 t by rw [hfr, e2]; exact ha2]
    exact ⟨u8, u9, u29, u30, u31, u32, u33, .int .i64 t, u35, u36, u37, k0, lo, hi, g0, g1, (by rw [hfr]; exact putAll_put a0 _ _ _ rfl), (fold),
      (fun h0 => fL0 h0),
      (fun h0 h1 => fC0 h0 h1),
      (fun h0 => fL1 h0),
      (fun h0 h1 => fC1 h0 h1),
      (fun _ => rfl),
      (fun h0 => fF h0),
      (fun h0 => fM h0),
      (fun h0 => fE0 h0),
      (fun h0 => fE1 h0),
      (fun h0 => fB0 h0),
      (fun h0 h1 => fZ0 h0 h1),
      (fun h0 => fS0 h0),
      (fun h0 h1 => fX0 h0 h1),
      (fun h0 => fA1 h0),
      (fun h => fO6_5 h),
      (fun h => fO7_5 h),
      (fun h => fO10_5 h),
      (fun h => fO10_9 h),
      (fun h => fO8_5 h),
      (fun h => fO11_5 h)⟩
  · rintro d a W ⟨u8, u9, u29, u30, u31, u32, u33, u34, u35, u36, u37, k0, lo, hi, g0, g1, hfr, fold, fL0, fC0, fL1, fC1, fI, fF, fM, fE0, fE1, fB0, fZ0, fS0, fX0, fA1, fO6_5, fO7_5, fO10_5, fO10_9, fO8_5, fO11_5⟩ hi_ hd
    simp [Region.binds] at hd
    have HD1 : d 1 = true := by simp only [hd]
    have HD3 : d 3 = true := by simp only [hd]
    have HD4 : d 4 = true := by simp only [hd]
    clear hd
    have hvI := fI HD4
    refine op_call_ret (R := fun v w' => ∃ (g0 : Array Value) (g1 : Value), v = .tuple #[.agg g0, g1] ∧ Old W w' ∧ g0.size = 2 ∧ g0.all (·.oneCell') = true ∧ RES w' W.heap.size w'.heap.size g0 g1) Tryz.call6 (vs := #[u31, u33, .int .i64 t]) (by simp [hfr, e31, e33, e34, hvI, getKey]) ((cf W _ _ fold (fC0 HD1 hi_) (fC1 HD3 hi_)).mono (fun e w' h => by obtain ⟨g0, g1, rfl, h⟩ := h; exact ⟨_, rfl, g0, g1, rfl, h⟩)) ?_
    rintro v W' ⟨r0, r1, rfl, g, z0, y0, hres⟩
    exact ⟨u8, u9, u29, u30, u31, u32, u33, u34, .tuple #[.agg r0, r1], u36, u37, k0, W.heap.size, W'.heap.size, r0, r1, (by rw [hfr]; exact putAll_put a0 _ _ _ rfl), (Old.trans fold g),
      (fun h0 => fL0 h0),
      (fun h0 h1 => by cases h1),
      (fun h0 => fL1 h0),
      (fun h0 h1 => by cases h1),
      (fun h0 => fI h0),
      (fun _ => ⟨rfl, (fold.size), Nat.le_refl _, z0, y0, hres⟩),
      (fun h0 => by have hx_ := fO6_5 h0; rw [hi_] at hx_; cases hx_),
      (fun h0 => by have hx_ := fO7_5 h0; rw [hi_] at hx_; cases hx_),
      (fun h0 => by have hx_ := fO8_5 h0; rw [hi_] at hx_; cases hx_),
      (fun h0 => by obtain ⟨e1, e2, e3⟩ := fB0 h0; exact ⟨e1, e2, Nat.lt_of_lt_of_le e3 g.size⟩),
      (fun h0 h1 => (g.block _ (lt_of_some (fZ0 h0 h1))).trans (fZ0 h0 h1)),
      (fun h0 => by have hx_ := fO10_5 h0; rw [hi_] at hx_; cases hx_),
      (fun hb _ => Or.inl (fB0 hb).2.2),
      (fun h0 => by have hx_ := fO11_5 h0; rw [hi_] at hx_; cases hx_),
      (fun _ => rfl),
      (fun _ => rfl),
      (fun _ => rfl),
      (fun h => fO10_9 h),
      (fun _ => rfl),
      (fun _ => rfl)⟩
  · rintro d a W ⟨u8, u9, u29, u30, u31, u32, u33, u34, u35, u36, u37, k0, lo, hi, g0, g1, hfr, fold, fL0, fC0, fL1, fC1, fI, fF, fM, fE0, fE1, fB0, fZ0, fS0, fX0, fA1, fO6_5, fO7_5, fO10_5, fO10_9, fO8_5, fO11_5⟩ hi_ hd
    simp [Region.binds] at hd
    have HD5 : d 5 = true := by simp only [hd]
    clear hd
    have hv := (fF HD5).1
    refine op_move ?_
    rw [show a.eval (.tmp 35) = .tuple #[.agg g0, g1] by rw [hfr, e35]; exact hv]
    exact ⟨u8, u9, .tuple #[.agg g0, g1], u30, u31, u32, u33, u34, u35, u36, u37, k0, lo, hi, g0, g1, (by rw [hfr]; exact putAll_put a0 _ _ _ rfl), (fold),
      (fun h0 => fL0 h0),
      (fun h0 h1 => fC0 h0 h1),
      (fun h0 => fL1 h0),
      (fun h0 h1 => fC1 h0 h1),
      (fun h0 => fI h0),
      (fun h0 => fF h0),
      (fun _ => rfl),
      (fun h0 => fE0 h0),
      (fun h0 => fE1 h0),
      (fun h0 => fB0 h0),
      (fun h0 h1 => fZ0 h0 h1),
      (fun h0 => fS0 h0),
      (fun h0 h1 => fX0 h0 h1),
      (fun h0 => fA1 h0),
      (fun _ => HD5),
      (fun h => fO7_5 h),
      (fun h => fO10_5 h),
      (fun h => fO10_9 h),
      (fun h => fO8_5 h),
      (fun h => fO11_5 h)⟩
  · rintro d a W ⟨u8, u9, u29, u30, u31, u32, u33, u34, u35, u36, u37, k0, lo, hi, g0, g1, hfr, fold, fL0, fC0, fL1, fC1, fI, fF, fM, fE0, fE1, fB0, fZ0, fS0, fX0, fA1, fO6_5, fO7_5, fO10_5, fO10_9, fO8_5, fO11_5⟩ hi_ hd
    simp [Region.binds] at hd
    have HD6 : d 6 = true := by simp only [hd]
    have HD5 : d 5 = true := fO6_5 HD6
    clear hd
    have hv := fM HD6
    refine op_extract (by rw [hfr, e29]; exact hv) rfl ?_
    exact ⟨u8, u9, u29, u30, u31, u32, u33, u34, u35, .agg g0, u37, k0, lo, hi, g0, g1, (by rw [hfr]; exact putAll_put a0 _ _ _ rfl), (fold),
      (fun h0 => fL0 h0),
      (fun h0 h1 => fC0 h0 h1),
      (fun h0 => fL1 h0),
      (fun h0 h1 => fC1 h0 h1),
      (fun h0 => fI h0),
      (fun h0 => fF h0),
      (fun h0 => fM h0),
      (fun _ => rfl),
      (fun h0 => fE1 h0),
      (fun h0 => fB0 h0),
      (fun h0 h1 => fZ0 h0 h1),
      (fun h0 => fS0 h0),
      (fun h0 h1 => fX0 h0 h1),
      (fun h0 => fA1 h0),
      (fun h => fO6_5 h),
      (fun _ => HD5),
      (fun h => fO10_5 h),
      (fun h => fO10_9 h),
      (fun h => fO8_5 h),
      (fun h => fO11_5 h)⟩
  · rintro d a W ⟨u8, u9, u29, u30, u31, u32, u33, u34, u35, u36, u37, k0, lo, hi, g0, g1, hfr, fold, fL0, fC0, fL1, fC1, fI, fF, fM, fE0, fE1, fB0, fZ0, fS0, fX0, fA1, fO6_5, fO7_5, fO10_5, fO10_9, fO8_5, fO11_5⟩ hi_ hd
    simp [Region.binds] at hd
    have HD6 : d 6 = true := by simp only [hd]
    have HD5 : d 5 = true := fO6_5 HD6
    clear hd
    have hv := fM HD6
    refine op_extract (by rw [hfr, e29]; exact hv) rfl ?_
    exact ⟨u8, u9, u29, u30, u31, u32, u33, u34, u35, u36, g1, k0, lo, hi, g0, g1, (by rw [hfr]; exact putAll_put a0 _ _ _ rfl), (fold),
      (fun h0 => fL0 h0),
      (fun h0 h1 => fC0 h0 h1),
      (fun h0 => fL1 h0),
      (fun h0 h1 => fC1 h0 h1),
      (fun h0 => fI h0),
      (fun h0 => fF h0),
      (fun h0 => fM h0),
      (fun h0 => fE0 h0),
      (fun _ => rfl),
      (fun h0 => fB0 h0),
      (fun h0 h1 => fZ0 h0 h1),
      (fun h0 => fS0 h0),
      (fun h0 h1 => fX0 h0 h1),
      (fun h0 => fA1 h0),
      (fun h => fO6_5 h),
      (fun h => fO7_5 h),
      (fun h => fO10_5 h),
      (fun h => fO10_9 h),
      (fun _ => HD5),
      (fun h => fO11_5 h)⟩
  · rintro d a W ⟨u8, u9, u29, u30, u31, u32, u33, u34, u35, u36, u37, k0, lo, hi, g0, g1, hfr, fold, fL0, fC0, fL1, fC1, fI, fF, fM, fE0, fE1, fB0, fZ0, fS0, fX0, fA1, fO6_5, fO7_5, fO10_5, fO10_9, fO8_5, fO11_5⟩ hi_ hd
    simp [Region.binds] at hd
    refine op_alloc (z := .agg #[.bool false, .slice none 0 0]) (by kernel_rfl) ?_
    have g : Old W (W.alloc (.cells #[.bool false, .slice none 0 0] 30)) := (Old.refl W).alloc _
    exact ⟨.pointer (some ⟨W.heap.size, 0, none⟩), u9, u29, u30, u31, u32, u33, u34, u35, u36, u37, W.heap.size, lo, hi, g0, g1, (by rw [hfr]; exact putAll_put a0 _ _ _ rfl), (Old.trans fold g),
      (fun h0 => fL0 h0),
      (fun h0 h1 => hCR0 _ _ _ (fC0 h0 h1) g),
      (fun h0 => fL1 h0),
      (fun h0 h1 => hCR1 _ _ _ (fC1 h0 h1) g),
      (fun h0 => fI h0),
      (fun h0 => by obtain ⟨e1, e2, e3, z0, y0, e9⟩ := fF h0; exact ⟨e1, e2, Nat.le_trans e3 g.size, z0, y0, far _ _ _ _ _ _ e9 (fun b _ hb => g.block b (by omega)) g.size⟩),
      (fun h0 => fM h0),
      (fun h0 => fE0 h0),
      (fun h0 => fE1 h0),
      (fun _ => ⟨rfl, fold.size, by simp⟩),
      (fun _ _ => heap_alloc_new W _),
      (fun h0 => by have hx_ := fO10_9 h0; rw [hi_] at hx_; cases hx_),
      (fun _ hf => Or.inr (fF hf).2.2.1),
      (fun h0 => fA1 h0),
      (fun h => fO6_5 h),
      (fun h => fO7_5 h),
      (fun h => fO10_5 h),
      (fun _ => rfl),
      (fun h => fO8_5 h),
      (fun h => fO11_5 h)⟩
  · rintro d a W ⟨u8, u9, u29, u30, u31, u32, u33, u34, u35, u36, u37, k0, lo, hi, g0, g1, hfr, fold, fL0, fC0, fL1, fC1, fI, fF, fM, fE0, fE1, fB0, fZ0, fS0, fX0, fA1, fO6_5, fO7_5, fO10_5, fO10_9, fO8_5, fO11_5⟩ hi_ hd
    simp [Region.binds] at hd
    have HD5 : d 5 = true := by simp only [hd]
    have HD7 : d 7 = true := by simp only [hd]
    have HD9 : d 9 = true := by simp only [hd]
    clear hd
    obtain ⟨hp, hlo, hlt⟩ := fB0 HD9
    have hv := fE0 HD7
    have hz := fZ0 HD9 hi_
    obtain ⟨eF, lF, hF, z0, y0, rF⟩ := fF HD5
    have hx := fX0 HD9 HD5
    refine op_store (k := k0) (by rw [hfr, e8]; exact hp) (by rw [hfr, e36]; exact hv) hz (by rw [z0]; kernel_rfl) (by rw [z0]; rfl) y0 ?_
    have hsz2 : (W.setRow k0 g0).heap.size = W.heap.size := size_setRow _ _ _
    have hot : ∀ b, b ≠ k0 → (W.setRow k0 g0).heap[b]? = W.heap[b]? := fun b hb => heap_setRow_other _ _ _ _ hb
    exact ⟨u8, u9, u29, u30, u31, u32, u33, u34, u35, u36, u37, k0, lo, hi, g0, g1, hfr, (old_setRow fold hlo _),
      (fun h0 => fL0 h0),
      (fun h0 h1 => by have hx_ : d 5 = false := h1; rw [HD5] at hx_; cases hx_),
      (fun h0 => fL1 h0),
      (fun h0 h1 => by have hx_ : d 5 = false := h1; rw [HD5] at hx_; cases hx_),
      (fun h0 => fI h0),
      (fun h0 => ⟨eF, lF, by rw [hsz2]; exact hF, z0, y0, far _ _ _ _ _ _ rF (fun b h1 h2 => hot b (by omega)) (by rw [hsz2]; exact Nat.le_refl _)⟩),
      (fun h0 => fM h0),
      (fun h0 => fE0 h0),
      (fun h0 => fE1 h0),
      (fun h0 => ⟨hp, hlo, by rw [hsz2]; exact hlt⟩),
      (fun h0 h1 => by cases h1),
      (fun _ => heap_setRow_same hz),
      (fun h0 h1 => fX0 h0 h1),
      (fun h0 => fA1 h0),
      (fun h => fO6_5 h),
      (fun h => fO7_5 h),
      (fun _ => HD5),
      (fun _ => HD9),
      (fun h => fO8_5 h),
      (fun h => fO11_5 h)⟩
  · rintro d a W ⟨u8, u9, u29, u30, u31, u32, u33, u34, u35, u36, u37, k0, lo, hi, g0, g1, hfr, fold, fL0, fC0, fL1, fC1, fI, fF, fM, fE0, fE1, fB0, fZ0, fS0, fX0, fA1, fO6_5, fO7_5, fO10_5, fO10_9, fO8_5, fO11_5⟩ hi_ hd
    simp [Region.binds] at hd
    have HD5 : d 5 = true := by simp only [hd]
    have HD8 : d 8 = true := by simp only [hd]
    clear hd
    have hv := fE1 HD8
    refine op_assign ?_
    rw [show a.eval (.tmp 37) = g1 by rw [hfr, e37]; exact hv]
    exact ⟨u8, g1, u29, u30, u31, u32, u33, u34, u35, u36, u37, k0, lo, hi, g0, g1, (by rw [hfr]; exact putAll_put a0 _ _ _ rfl), (fold),
      (fun h0 => fL0 h0),
      (fun h0 h1 => fC0 h0 h1),
      (fun h0 => fL1 h0),
      (fun h0 h1 => fC1 h0 h1),
      (fun h0 => fI h0),
      (fun h0 => fF h0),
      (fun h0 => fM h0),
      (fun h0 => fE0 h0),
      (fun h0 => fE1 h0),
      (fun h0 => fB0 h0),
      (fun h0 h1 => fZ0 h0 h1),
      (fun h0 => fS0 h0),
      (fun h0 h1 => fX0 h0 h1),
      (fun _ => rfl),
      (fun h => fO6_5 h),
      (fun h => fO7_5 h),
      (fun h => fO10_5 h),
      (fun h => fO10_9 h),
      (fun h => fO8_5 h),
      (fun _ => HD5)⟩
  · rintro d a W hd ⟨u8, u9, u29, u30, u31, u32, u33, u34, u35, u36, u37, k0, lo, hi, g0, g1, hfr, fold, fL0, fC0, fL1, fC1, fI, fF, fM, fE0, fE1, fB0, fZ0, fS0, fX0, fA1, fO6_5, fO7_5, fO10_5, fO10_9, fO8_5, fO11_5⟩
    have hd2 : ∀ i, i < 12 → d i = true := hd
    clear hd
    have HD0 : d 0 = true := hd2 0 (by omega)
    have HD1 : d 1 = true := hd2 1 (by omega)
    have HD2 : d 2 = true := hd2 2 (by omega)
    have HD3 : d 3 = true := hd2 3 (by omega)
    have HD4 : d 4 = true := hd2 4 (by omega)
    have HD5 : d 5 = true := hd2 5 (by omega)
    have HD6 : d 6 = true := hd2 6 (by omega)
    have HD7 : d 7 = true := hd2 7 (by omega)
    have HD8 : d 8 = true := hd2 8 (by omega)
    have HD9 : d 9 = true := hd2 9 (by omega)
    have HD10 : d 10 = true := hd2 10 (by omega)
    have HD11 : d 11 = true := hd2 11 (by omega)
    obtain ⟨eF, lF, hF, z0, y0, rF⟩ := fF HD5
    obtain ⟨hp0, hlo0, hlt0⟩ := fB0 HD9
    rw [hp0] at hfr
    have ha_1 := fA1 HD11
    rw [ha_1] at hfr
    show K a W
    rw [hfr]
    exact HK.out k0 lo hi g0 g1 u29 u30 u31 u32 u33 u34 u35 u36 u37 W fold lF hF rF (fS0 HD10) hlo0 hlt0 (fX0 HD9 HD5)
end Go.Proofs.YtpebikjckhcgfaaGreatDoor
/- Proved: a drawn region of the statement FnExactTurnRows, by what holds between its operations, in whatever order. -/
namespace Go.Proofs.YtpebikjckhcgfaaGreatDoor
open Go.ChangeShapes Go.WideShapes Go.ChangeAt Go.RowKit
set_option linter.unusedVariables false
set_option linter.unusedSimpArgs false
def regionAtreg_turnrows31 (n : Nat) : Code → Option Code
  | .region i ops b => if i = n then some (.region i ops b) else none
  | .seq a b => match regionAtreg_turnrows31 n a with
    | some c => some c
    | none => regionAtreg_turnrows31 n b
  | .block _ c => regionAtreg_turnrows31 n c
  | _ => none
set_option maxRecDepth 100000 in
set_option maxHeartbeats 8000000 in
theorem reg_turnrows31 (w2 : World) (xa ya xb yb : Value) (t : Int) (ka kb : Nat)
    (CR0 : World → Value → Prop) (hCR0 : ∀ W W' v, CR0 W v → Old W W' → CR0 W' v)
    (c0 : ∀ W, Old w2 W → Calls Tryz.prog 7 #[.agg #[xa, ya]] W fun e w' => ∃ v, e = .returned v ∧ Old W w' ∧ CR0 w' v)
    (b0 : w2.heap[ka]? = some (.cells #[xa, ya] 24 (0, 0)))
    (CR1 : World → Value → Prop) (hCR1 : ∀ W W' v, CR1 W v → Old W W' → CR1 W' v)
    (c1 : ∀ W, Old w2 W → Calls Tryz.prog 8 #[.agg #[xb, yb]] W fun e w' => ∃ v, e = .returned v ∧ Old W w' ∧ CR1 w' v)
    (b1 : w2.heap[kb]? = some (.cells #[xb, yb] 27 (0, 0)))
    (RES : World → Nat → Nat → Array Value → Value → Prop) (far : ∀ W W' lo hi (g0 : Array Value) (g1 : Value), RES W lo hi g0 g1 → (∀ b, lo ≤ b → b < hi → W'.heap[b]? = W.heap[b]?) → W.heap.size ≤ W'.heap.size → RES W' lo hi g0 g1)
    (cf : ∀ W v0 v1, Old w2 W → CR0 W v0 → CR1 W v1 → Calls Tryz.prog 9 #[v0, v1, .int .i64 t] W fun e w' => ∃ (g0 : Array Value) (g1 : Value), e = .returned (.tuple #[.agg g0, g1]) ∧ Old W w' ∧ g0.size = 2 ∧ g0.all (·.oneCell') = true ∧ RES w' W.heap.size w'.heap.size g0 g1)
    (Q : Exit → Act → World → Prop) (K : Act → World → Prop) (a0 : Act) (hsz : 124 ≤ a0.tmps.size) (ha2 : a0.eval (.tmp 2) = .int .i64 t) (ha3 : a0.eval (.tmp 3) = .pointer (some ⟨ka, 0, none⟩)) (ha4 : a0.eval (.tmp 4) = .pointer (some ⟨kb, 0, none⟩))
    (HK : Hid (∀ (k0 lo hi : Nat) (g0 : Array Value) (g1 : Value) (u98 u99 u100 u101 u102 u103 u104 u105 u106 : Value) (W : World), Old w2 W → w2.heap.size ≤ lo → hi ≤ W.heap.size → RES W lo hi g0 g1 → W.heap[k0]? = some (.cells g0 30 (0, 0)) → w2.heap.size ≤ k0 → k0 < W.heap.size → (k0 < lo ∨ hi ≤ k0) → K (putAll a0 [(17, .pointer (some ⟨k0, 0, none⟩)), (18, g1), (98, u98), (99, u99), (100, u100), (101, u101), (102, u102), (103, u103), (104, u104), (105, u105), (106, u106)]) W)) :
    Code.wp Tryz.prog ((Tryz.f3.body.bind (regionAtreg_turnrows31 31)).getD .skip) (Exit.then K Q) a0 w2 := by
  conv => arg 2; whnf
  have e2 : ∀ l, (putAll a0 l).eval (.tmp 2) = (getKey l 2).getD (a0.eval (.tmp 2)) := eval_putAll a0 2 (by omega)
  have e3 : ∀ l, (putAll a0 l).eval (.tmp 3) = (getKey l 3).getD (a0.eval (.tmp 3)) := eval_putAll a0 3 (by omega)
  have e4 : ∀ l, (putAll a0 l).eval (.tmp 4) = (getKey l 4).getD (a0.eval (.tmp 4)) := eval_putAll a0 4 (by omega)
  have e17 : ∀ l, (putAll a0 l).eval (.tmp 17) = (getKey l 17).getD (a0.eval (.tmp 17)) := eval_putAll a0 17 (by omega)
  have e18 : ∀ l, (putAll a0 l).eval (.tmp 18) = (getKey l 18).getD (a0.eval (.tmp 18)) := eval_putAll a0 18 (by omega)
  have e98 : ∀ l, (putAll a0 l).eval (.tmp 98) = (getKey l 98).getD (a0.eval (.tmp 98)) := eval_putAll a0 98 (by omega)
  have e99 : ∀ l, (putAll a0 l).eval (.tmp 99) = (getKey l 99).getD (a0.eval (.tmp 99)) := eval_putAll a0 99 (by omega)
  have e100 : ∀ l, (putAll a0 l).eval (.tmp 100) = (getKey l 100).getD (a0.eval (.tmp 100)) := eval_putAll a0 100 (by omega)
  have e101 : ∀ l, (putAll a0 l).eval (.tmp 101) = (getKey l 101).getD (a0.eval (.tmp 101)) := eval_putAll a0 101 (by omega)
  have e102 : ∀ l, (putAll a0 l).eval (.tmp 102) = (getKey l 102).getD (a0.eval (.tmp 102)) := eval_putAll a0 102 (by omega)
  have e103 : ∀ l, (putAll a0 l).eval (.tmp 103) = (getKey l 103).getD (a0.eval (.tmp 103)) := eval_putAll a0 103 (by omega)
  have e104 : ∀ l, (putAll a0 l).eval (.tmp 104) = (getKey l 104).getD (a0.eval (.tmp 104)) := eval_putAll a0 104 (by omega)
  have e105 : ∀ l, (putAll a0 l).eval (.tmp 105) = (getKey l 105).getD (a0.eval (.tmp 105)) := eval_putAll a0 105 (by omega)
  have e106 : ∀ l, (putAll a0 l).eval (.tmp 106) = (getKey l 106).getD (a0.eval (.tmp 106)) := eval_putAll a0 106 (by omega)
  refine wp_region_steps (fun d a W => ∃ (u17 u18 u98 u99 u100 u101 u102 u103 u104 u105 u106 : Value) (k0 lo hi : Nat) (g0 : Array Value) (g1 : Value), a = (putAll a0 [(17, u17), (18, u18), (98, u98), (99, u99), (100, u100), (101, u101), (102, u102), (103, u103), (104, u104), (105, u105), (106, u106)]) ∧ (Old w2 W) ∧ (d 0 = true → u99 = .agg #[xa, ya]) ∧ (d 1 = true → d 5 = false → CR0 W u100) ∧ (d 2 = true → u101 = .agg #[xb, yb]) ∧ (d 3 = true → d 5 = false → CR1 W u102) ∧ (d 4 = true → u103 = .int .i64 t) ∧ (d 5 = true → u104 = .tuple #[.agg g0, g1] ∧ w2.heap.size ≤ lo ∧ hi ≤ W.heap.size ∧ g0.size = 2 ∧ g0.all (·.oneCell') = true ∧ RES W lo hi g0 g1) ∧ (d 6 = true → u98 = .tuple #[.agg g0, g1]) ∧ (d 7 = true → u105 = .agg g0) ∧ (d 8 = true → u106 = g1) ∧ (d 9 = true → u17 = .pointer (some ⟨k0, 0, none⟩) ∧ w2.heap.size ≤ k0 ∧ k0 < W.heap.size) ∧ (d 9 = true → d 10 = false → W.heap[k0]? = some (.cells #[.bool false, .slice none 0 0] 30 (0, 0))) ∧ (d 10 = true → W.heap[k0]? = some (.cells g0 30 (0, 0))) ∧ (d 9 = true → d 5 = true → (k0 < lo ∨ hi ≤ k0)) ∧ (d 11 = true → u18 = g1) ∧ (d 6 = true → d 5 = true) ∧ (d 7 = true → d 5 = true) ∧ (d 10 = true → d 5 = true) ∧ (d 10 = true → d 9 = true) ∧ (d 8 = true → d 5 = true) ∧ (d 11 = true → d 5 = true)) rfl (by decide +kernel) (by decide +kernel) ?_ ⟨?_, ?_, ?_, ?_, ?_, ?_, ?_, ?_, ?_, ?_, ?_, ?_, trivial⟩ ?_
  · exact ⟨_, _, _, _, _, _, _, _, _, _, _, 0, 0, 0, #[], undef, (putAll_self a0 [17, 18, 98, 99, 100, 101, 102, 103, 104, 105, 106] (by intro s hs; simp at hs; omega)).symm, Below.drew (Old.refl w2), (fun h => by cases h), (fun h => by cases h), (fun h => by cases h), (fun h => by cases h), (fun h => by cases h), (fun h => by cases h), (fun h => by cases h), (fun h => by cases h), (fun h => by cases h), (fun h => by cases h), (fun h => by cases h), (fun h => by cases h), (fun h => by cases h), (fun h => by cases h), (fun h => by cases h), (fun h => by cases h), (fun h => by cases h), (fun h => by cases h), (fun h => by cases h), (fun h => by cases h)⟩
  · rintro d a W ⟨u17, u18, u98, u99, u100, u101, u102, u103, u104, u105, u106, k0, lo, hi, g0, g1, hfr, fold, fL0, fC0, fL1, fC1, fI, fF, fM, fE0, fE1, fB0, fZ0, fS0, fX0, fA1, fO6_5, fO7_5, fO10_5, fO10_9, fO8_5, fO11_5⟩ hi_ hd
    simp [Region.binds] at hd
    refine op_load (k := ka) (by rw [hfr, e3]; exact ha3) (fold.block _ (lt_of_some b0) |>.trans b0) Tryz.underlying24 rfl (by kernel_rfl) ?_
    exact ⟨u17, u18, u98, .agg #[xa, ya], u100, u101, u102, u103, u104, u105, u106, k0, lo, hi, g0, g1, (by rw [hfr]; exact putAll_put a0 _ _ _ rfl), (fold),
      (fun _ => rfl),
      (fun h0 h1 => fC0 h0 h1),
      (fun h0 => fL1 h0),
      (fun h0 h1 => fC1 h0 h1),
      (fun h0 => fI h0),
      (fun h0 => fF h0),
      (fun h0 => fM h0),
      (fun h0 => fE0 h0),
      (fun h0 => fE1 h0),
      (fun h0 => fB0 h0),
      (fun h0 h1 => fZ0 h0 h1),
      (fun h0 => fS0 h0),
      (fun h0 h1 => fX0 h0 h1),
      (fun h0 => fA1 h0),
      (fun h => fO6_5 h),
      (fun h => fO7_5 h),
      (fun h => fO10_5 h),
      (fun h => fO10_9 h),
      (fun h => fO8_5 h),
      (fun h => fO11_5 h)⟩
  · rintro d a W ⟨u17, u18, u98, u99, u100, u101, u102, u103, u104, u105, u106, k0, lo, hi, g0, g1, hfr, fold, fL0, fC0, fL1, fC1, fI, fF, fM, fE0, fE1, fB0, fZ0, fS0, fX0, fA1, fO6_5, fO7_5, fO10_5, fO10_9, fO8_5, fO11_5⟩ hi_ hd
    simp [Region.binds] at hd
    have HD0 : d 0 = true := by simp only [hd]
    clear hd
    have hv := fL0 HD0
    refine op_call_ret Tryz.call7 (vs := #[.agg #[xa, ya]]) (by simp [hfr, e99, getKey, hv]) (c0 W fold) ?_
    rintro v W' ⟨g, hcr⟩
    exact ⟨u17, u18, u98, u99, v, u101, u102, u103, u104, u105, u106, k0, lo, hi, g0, g1, (by rw [hfr]; exact putAll_put a0 _ _ _ rfl), (Old.trans fold g),
      (fun h0 => fL0 h0),
      (fun _ _ => hcr),
      (fun h0 => fL1 h0),
      (fun h0 h1 => hCR1 _ _ _ (fC1 h0 h1) g),
      (fun h0 => fI h0),
      (fun h0 => by obtain ⟨e1, e2, e3, z0, y0, e9⟩ := fF h0; exact ⟨e1, e2, Nat.le_trans e3 g.size, z0, y0, far _ _ _ _ _ _ e9 (fun b _ hb => g.block b (by omega)) g.size⟩),
      (fun h0 => fM h0),
      (fun h0 => fE0 h0),
      (fun h0 => fE1 h0),
      (fun h0 => by obtain ⟨e1, e2, e3⟩ := fB0 h0; exact ⟨e1, e2, Nat.lt_of_lt_of_le e3 g.size⟩),
      (fun h0 h1 => (g.block _ (lt_of_some (fZ0 h0 h1))).trans (fZ0 h0 h1)),
      (fun h0 => (g.block _ (lt_of_some (fS0 h0))).trans (fS0 h0)),
      (fun h0 h1 => fX0 h0 h1),
      (fun h0 => fA1 h0),
      (fun h => fO6_5 h),
      (fun h => fO7_5 h),
      (fun h => fO10_5 h),
      (fun h => fO10_9 h),
      (fun h => fO8_5 h),
      (fun h => fO11_5 h)⟩
  · rintro d a W ⟨u17, u18, u98, u99, u100, u101, u102, u103, u104, u105, u106, k0, lo, hi, g0, g1, hfr, fold, fL0, fC0, fL1, fC1, fI, fF, fM, fE0, fE1, fB0, fZ0, fS0, fX0, fA1, fO6_5, fO7_5, fO10_5, fO10_9, fO8_5, fO11_5⟩ hi_ hd
    simp [Region.binds] at hd
    refine op_load (k := kb) (by rw [hfr, e4]; exact ha4) (fold.block _ (lt_of_some b1) |>.trans b1) Tryz.underlying27 rfl (by kernel_rfl) ?_
    exact ⟨u17, u18, u98, u99, u100, .agg #[xb, yb], u102, u103, u104, u105, u106, k0, lo, hi, g0, g1, (by rw [hfr]; exact putAll_put a0 _ _ _ rfl), (fold),
      (fun h0 => fL0 h0),
      (fun h0 h1 => fC0 h0 h1),
      (fun _ => rfl),
      (fun h0 h1 => fC1 h0 h1),
      (fun h0 => fI h0),
      (fun h0 => fF h0),
      (fun h0 => fM h0),
      (fun h0 => fE0 h0),
      (fun h0 => fE1 h0),
      (fun h0 => fB0 h0),
      (fun h0 h1 => fZ0 h0 h1),
      (fun h0 => fS0 h0),
      (fun h0 h1 => fX0 h0 h1),
      (fun h0 => fA1 h0),
      (fun h => fO6_5 h),
      (fun h => fO7_5 h),
      (fun h => fO10_5 h),
      (fun h => fO10_9 h),
      (fun h => fO8_5 h),
      (fun h => fO11_5 h)⟩
  · rintro d a W ⟨u17, u18, u98, u99, u100, u101, u102, u103, u104, u105, u106, k0, lo, hi, g0, g1, hfr, fold, fL0, fC0, fL1, fC1, fI, fF, fM, fE0, fE1, fB0, fZ0, fS0, fX0, fA1, fO6_5, fO7_5, fO10_5, fO10_9, fO8_5, fO11_5⟩ hi_ hd
    simp [Region.binds] at hd
    have HD2 : d 2 = true := by simp only [hd]
    clear hd
    have hv := fL1 HD2
    refine op_call_ret Tryz.call8 (vs := #[.agg #[xb, yb]]) (by simp [hfr, e101, getKey, hv]) (c1 W fold) ?_
    rintro v W' ⟨g, hcr⟩
    exact ⟨u17, u18, u98, u99, u100, u101, v, u103, u104, u105, u106, k0, lo, hi, g0, g1, (by rw [hfr]; exact putAll_put a0 _ _ _ rfl), (Old.trans fold g),
      (fun h0 => fL0 h0),
      (fun h0 h1 => hCR0 _ _ _ (fC0 h0 h1) g),
      (fun h0 => fL1 h0),
      (fun _ _ => hcr),
      (fun h0 => fI h0),
      (fun h0 => by obtain ⟨e1, e2, e3, z0, y0, e9⟩ := fF h0; exact ⟨e1, e2, Nat.le_trans e3 g.size, z0, y0, far _ _ _ _ _ _ e9 (fun b _ hb => g.block b (by omega)) g.size⟩),
      (fun h0 => fM h0),
      (fun h0 => fE0 h0),
      (fun h0 => fE1 h0),
      (fun h0 => by obtain ⟨e1, e2, e3⟩ := fB0 h0; exact ⟨e1, e2, Nat.lt_of_lt_of_le e3 g.size⟩),
      (fun h0 h1 => (g.block _ (lt_of_some (fZ0 h0 h1))).trans (fZ0 h0 h1)),
      (fun h0 => (g.block _ (lt_of_some (fS0 h0))).trans (fS0 h0)),
      (fun h0 h1 => fX0 h0 h1),
      (fun h0 => fA1 h0),
      (fun h => fO6_5 h),
      (fun h => fO7_5 h),
      (fun h => fO10_5 h),
      (fun h => fO10_9 h),
      (fun h => fO8_5 h),
      (fun h => fO11_5 h)⟩
  · rintro d a W ⟨u17, u18, u98, u99, u100, u101, u102, u103, u104, u105, u106, k0, lo, hi, g0, g1, hfr, fold, fL0, fC0, fL1, fC1, fI, fF, fM, fE0, fE1, fB0, fZ0, fS0, fX0, fA1, fO6_5, fO7_5, fO10_5, fO10_9, fO8_5, fO11_5⟩ hi_ hd
    simp [Region.binds] at hd
    refine op_move ?_
    rw [show a.eval (.tmp 2) = .int .i64 t by rw [hfr, e2]; exact ha2]
    exact ⟨u17, u18, u98, u99, u100, u101, u102, .int .i64 t, u104, u105, u106, k0, lo, hi, g0, g1, (by rw [hfr]; exact putAll_put a0 _ _ _ rfl), (fold),
      (fun h0 => fL0 h0),
      (fun h0 h1 => fC0 h0 h1),
      (fun h0 => fL1 h0),
      (fun h0 h1 => fC1 h0 h1),
      (fun _ => rfl),
      (fun h0 => fF h0),
      (fun h0 => fM h0),
      (fun h0 => fE0 h0),
      (fun h0 => fE1 h0),
      (fun h0 => fB0 h0),
      (fun h0 h1 => fZ0 h0 h1),
      (fun h0 => fS0 h0),
      (fun h0 h1 => fX0 h0 h1),
      (fun h0 => fA1 h0),
      (fun h => fO6_5 h),
      (fun h => fO7_5 h),
      (fun h => fO10_5 h),
      (fun h => fO10_9 h),
      (fun h => fO8_5 h),
      (fun h => fO11_5 h)⟩
  · rintro d a W ⟨u17, u18, u98, u99, u100, u101, u102, u103, u104, u105, u106, k0, lo, hi, g0, g1, hfr, fold, fL0, fC0, fL1, fC1, fI, fF, fM, fE0, fE1, fB0, fZ0, fS0, fX0, fA1, fO6_5, fO7_5, fO10_5, fO10_9, fO8_5, fO11_5⟩ hi_ hd
    simp [Region.binds] at hd
    have HD1 : d 1 = true := by simp only [hd]
    have HD3 : d 3 = true := by simp only [hd]
    have HD4 : d 4 = true := by simp only [hd]
    clear hd
    have hvI := fI HD4
    refine op_call_ret (R := fun v w' => ∃ (g0 : Array Value) (g1 : Value), v = .tuple #[.agg g0, g1] ∧ Old W w' ∧ g0.size = 2 ∧ g0.all (·.oneCell') = true ∧ RES w' W.heap.size w'.heap.size g0 g1) Tryz.call9 (vs := #[u100, u102, .int .i64 t]) (by simp [hfr, e100, e102, e103, hvI, getKey]) ((cf W _ _ fold (fC0 HD1 hi_) (fC1 HD3 hi_)).mono (fun e w' h => by obtain ⟨g0, g1, rfl, h⟩ := h; exact ⟨_, rfl, g0, g1, rfl, h⟩)) ?_
    rintro v W' ⟨r0, r1, rfl, g, z0, y0, hres⟩
    exact ⟨u17, u18, u98, u99, u100, u101, u102, u103, .tuple #[.agg r0, r1], u105, u106, k0, W.heap.size, W'.heap.size, r0, r1, (by rw [hfr]; exact putAll_put a0 _ _ _ rfl), (Old.trans fold g),
      (fun h0 => fL0 h0),
      (fun h0 h1 => by cases h1),
      (fun h0 => fL1 h0),
      (fun h0 h1 => by cases h1),
      (fun h0 => fI h0),
      (fun _ => ⟨rfl, (fold.size), Nat.le_refl _, z0, y0, hres⟩),
      (fun h0 => by have hx_ := fO6_5 h0; rw [hi_] at hx_; cases hx_),
      (fun h0 => by have hx_ := fO7_5 h0; rw [hi_] at hx_; cases hx_),
      (fun h0 => by have hx_ := fO8_5 h0; rw [hi_] at hx_; cases hx_),
      (fun h0 => by obtain ⟨e1, e2, e3⟩ := fB0 h0; exact ⟨e1, e2, Nat.lt_of_lt_of_le e3 g.size⟩),
      (fun h0 h1 => (g.block _ (lt_of_some (fZ0 h0 h1))).trans (fZ0 h0 h1)),
      (fun h0 => by have hx_ := fO10_5 h0; rw [hi_] at hx_; cases hx_),
      (fun hb _ => Or.inl (fB0 hb).2.2),
      (fun h0 => by have hx_ := fO11_5 h0; rw [hi_] at hx_; cases hx_),
      (fun _ => rfl),
      (fun _ => rfl),
      (fun _ => rfl),
      (fun h => fO10_9 h),
      (fun _ => rfl),
      (fun _ => rfl)⟩
  · rintro d a W ⟨u17, u18, u98, u99, u100, u101, u102, u103, u104, u105, u106, k0, lo, hi, g0, g1, hfr, fold, fL0, fC0, fL1, fC1, fI, fF, fM, fE0, fE1, fB0, fZ0, fS0, fX0, fA1, fO6_5, fO7_5, fO10_5, fO10_9, fO8_5, fO11_5⟩ hi_ hd
    simp [Region.binds] at hd
    have HD5 : d 5 = true := by simp only [hd]
    clear hd
    have hv := (fF HD5).1
    refine op_move ?_
    rw [show a.eval (.tmp 104) = .tuple #[.agg g0, g1] by rw [hfr, e104]; exact hv]
    exact ⟨u17, u18, .tuple #[.agg g0, g1], u99, u100, u101, u102, u103, u104, u105, u106, k0, lo, hi, g0, g1, (by rw [hfr]; exact putAll_put a0 _ _ _ rfl), (fold),
      (fun h0 => fL0 h0),
      (fun h0 h1 => fC0 h0 h1),
      (fun h0 => fL1 h0),
      (fun h0 h1 => fC1 h0 h1),
      (fun h0 => fI h0),
      (fun h0 => fF h0),
      (fun _ => rfl),
      (fun h0 => fE0 h0),
      (fun h0 => fE1 h0),
      (fun h0 => fB0 h0),
      (fun h0 h1 => fZ0 h0 h1),
      (fun h0 => fS0 h0),
      (fun h0 h1 => fX0 h0 h1),
      (fun h0 => fA1 h0),
      (fun _ => HD5),
      (fun h => fO7_5 h),
      (fun h => fO10_5 h),
      (fun h => fO10_9 h),
      (fun h => fO8_5 h),
      (fun h => fO11_5 h)⟩
  · rintro d a W ⟨u17, u18, u98, u99, u100, u101, u102, u103, u104, u105, u106, k0, lo, hi, g0, g1, hfr, fold, fL0, fC0, fL1, fC1, fI, fF, fM, fE0, fE1, fB0, fZ0, fS0, fX0, fA1, fO6_5, fO7_5, fO10_5, fO10_9, fO8_5, fO11_5⟩ hi_ hd
    simp [Region.binds] at hd
    have HD6 : d 6 = true := by simp only [hd]
    have HD5 : d 5 = true := fO6_5 HD6
    clear hd
    have hv := fM HD6
    refine op_extract (by rw [hfr, e98]; exact hv) rfl ?_
    exact ⟨u17, u18, u98, u99, u100, u101, u102, u103, u104, .agg g0, u106, k0, lo, hi, g0, g1, (by rw [hfr]; exact putAll_put a0 _ _ _ rfl), (fold),
      (fun h0 => fL0 h0),
      (fun h0 h1 => fC0 h0 h1),
      (fun h0 => fL1 h0),
      (fun h0 h1 => fC1 h0 h1),
      (fun h0 => fI h0),
      (fun h0 => fF h0),
      (fun h0 => fM h0),
      (fun _ => rfl),
      (fun h0 => fE1 h0),
      (fun h0 => fB0 h0),
      (fun h0 h1 => fZ0 h0 h1),
      (fun h0 => fS0 h0),
      (fun h0 h1 => fX0 h0 h1),
      (fun h0 => fA1 h0),
      (fun h => fO6_5 h),
      (fun _ => HD5),
      (fun h => fO10_5 h),
      (fun h => fO10_9 h),
      (fun h => fO8_5 h),
      (fun h => fO11_5 h)⟩
  · rintro d a W ⟨u17, u18, u98, u99, u100, u101, u102, u103, u104, u105, u106, k0, lo, hi, g0, g1, hfr, fold, fL0, fC0, fL1, fC1, fI, fF, fM, fE0, fE1, fB0, fZ0, fS0, fX0, fA1, fO6_5, fO7_5, fO10_5, fO10_9, fO8_5, fO11_5⟩ hi_ hd
    simp [Region.binds] at hd
    have HD6 : d 6 = true := by simp only [hd]
    have HD5 : d 5 = true := fO6_5 HD6
    clear hd
    have hv := fM HD6
    refine op_extract (by rw [hfr, e98]; exact hv) rfl ?_
    exact ⟨u17, u18, u98, u99, u100, u101, u102, u103, u104, u105, g1, k0, lo, hi, g0, g1, (by rw [hfr]; exact putAll_put a0 _ _ _ rfl), (fold),
      (fun h0 => fL0 h0),
      (fun h0 h1 => fC0 h0 h1),
      (fun h0 => fL1 h0),
      (fun h0 h1 => fC1 h0 h1),
      (fun h0 => fI h0),
      (fun h0 => fF h0),
      (fun h0 => fM h0),
      (fun h0 => fE0 h0),
      (fun _ => rfl),
      (fun h0 => fB0 h0),
      (fun h0 h1 => fZ0 h0 h1),
      (fun h0 => fS0 h0),
      (fun h0 h1 => fX0 h0 h1),
      (fun h0 => fA1 h0),
      (fun h => fO6_5 h),
      (fun h => fO7_5 h),
      (fun h => fO10_5 h),
      (fun h => fO10_9 h),
      (fun _ => HD5),
      (fun h => fO11_5 h)⟩
  · rintro d a W ⟨u17, u18, u98, u99, u100, u101, u102, u103, u104, u105, u106, k0, lo, hi, g0, g1, hfr, fold, fL0, fC0, fL1, fC1, fI, fF, fM, fE0, fE1, fB0, fZ0, fS0, fX0, fA1, fO6_5, fO7_5, fO10_5, fO10_9, fO8_5, fO11_5⟩ hi_ hd
    simp [Region.binds] at hd
    refine op_alloc (z := .agg #[.bool false, .slice none 0 0]) (by kernel_rfl) ?_
    have g : Old W (W.alloc (.cells #[.bool false, .slice none 0 0] 30)) := (Old.refl W).alloc _
    exact ⟨.pointer (some ⟨W.heap.size, 0, none⟩), u18, u98, u99, u100, u101, u102, u103, u104, u105, u106, W.heap.size, lo, hi, g0, g1, (by rw [hfr]; exact putAll_put a0 _ _ _ rfl), (Old.trans fold g),
      (fun h0 => fL0 h0),
      (fun h0 h1 => hCR0 _ _ _ (fC0 h0 h1) g),
      (fun h0 => fL1 h0),
      (fun h0 h1 => hCR1 _ _ _ (fC1 h0 h1) g),
      (fun h0 => fI h0),
      (fun h0 => by obtain ⟨e1, e2, e3, z0, y0, e9⟩ := fF h0; exact ⟨e1, e2, Nat.le_trans e3 g.size, z0, y0, far _ _ _ _ _ _ e9 (fun b _ hb => g.block b (by omega)) g.size⟩),
      (fun h0 => fM h0),
      (fun h0 => fE0 h0),
      (fun h0 => fE1 h0),
      (fun _ => ⟨rfl, fold.size, by simp⟩),
      (fun _ _ => heap_alloc_new W _),
      (fun h0 => by have hx_ := fO10_9 h0; rw [hi_] at hx_; cases hx_),
      (fun _ hf => Or.inr (fF hf).2.2.1),
      (fun h0 => fA1 h0),
      (fun h => fO6_5 h),
      (fun h => fO7_5 h),
      (fun h => fO10_5 h),
      (fun _ => rfl),
      (fun h => fO8_5 h),
      (fun h => fO11_5 h)⟩
  · rintro d a W ⟨u17, u18, u98, u99, u100, u101, u102, u103, u104, u105, u106, k0, lo, hi, g0, g1, hfr, fold, fL0, fC0, fL1, fC1, fI, fF, fM, fE0, fE1, fB0, fZ0, fS0, fX0, fA1, fO6_5, fO7_5, fO10_5, fO10_9, fO8_5, fO11_5⟩ hi_ hd
    simp [Region.binds] at hd
    have HD5 : d 5 = true := by simp only [hd]
    have HD7 : d 7 = true := by simp only [hd]
    have HD9 : d 9 = true := by simp only [hd]
    clear hd
    obtain ⟨hp, hlo, hlt⟩ := fB0 HD9
    have hv := fE0 HD7
    have hz := fZ0 HD9 hi_
    obtain ⟨eF, lF, hF, z0, y0, rF⟩ := fF HD5
    have hx := fX0 HD9 HD5
    refine op_store (k := k0) (by rw [hfr, e17]; exact hp) (by rw [hfr, e105]; exact hv) hz (by rw [z0]; kernel_rfl) (by rw [z0]; rfl) y0 ?_
    have hsz2 : (W.setRow k0 g0).heap.size = W.heap.size := size_setRow _ _ _
    have hot : ∀ b, b ≠ k0 → (W.setRow k0 g0).heap[b]? = W.heap[b]? := fun b hb => heap_setRow_other _ _ _ _ hb
    exact ⟨u17, u18, u98, u99, u100, u101, u102, u103, u104, u105, u106, k0, lo, hi, g0, g1, hfr, (old_setRow fold hlo _),
      (fun h0 => fL0 h0),
      (fun h0 h1 => by have hx_ : d 5 = false := h1; rw [HD5] at hx_; cases hx_),
      (fun h0 => fL1 h0),
      (fun h0 h1 => by have hx_ : d 5 = false := h1; rw [HD5] at hx_; cases hx_),
      (fun h0 => fI h0),
      (fun h0 => ⟨eF, lF, by rw [hsz2]; exact hF, z0, y0, far _ _ _ _ _ _ rF (fun b h1 h2 => hot b (by omega)) (by rw [hsz2]; exact Nat.le_refl _)⟩),
      (fun h0 => fM h0),
      (fun h0 => fE0 h0),
      (fun h0 => fE1 h0),
      (fun h0 => ⟨hp, hlo, by rw [hsz2]; exact hlt⟩),
      (fun h0 h1 => by cases h1),
      (fun _ => heap_setRow_same hz),
      (fun h0 h1 => fX0 h0 h1),
      (fun h0 => fA1 h0),
      (fun h => fO6_5 h),
      (fun h => fO7_5 h),
      (fun _ => HD5),
      (fun _ => HD9),
      (fun h => fO8_5 h),
      (fun h => fO11_5 h)⟩
  · rintro d a W ⟨u17, u18, u98, u99, u100, u101, u102, u103, u104, u105, u106, k0, lo, hi, g0, g1, hfr, fold, fL0, fC0, fL1, fC1, fI, fF, fM, fE0, fE1, fB0, fZ0, fS0, fX0, fA1, fO6_5, fO7_5, fO10_5, fO10_9, fO8_5, fO11_5⟩ hi_ hd
    simp [Region.binds] at hd
    have HD5 : d 5 = true := by simp only [hd]
    have HD8 : d 8 = true := by simp only [hd]
    clear hd
    have hv := fE1 HD8
    refine op_assign ?_
    rw [show a.eval (.tmp 106) = g1 by rw [hfr, e106]; exact hv]
    exact ⟨u17, g1, u98, u99, u100, u101, u102, u103, u104, u105, u106, k0, lo, hi, g0, g1, (by rw [hfr]; exact putAll_put a0 _ _ _ rfl), (fold),
      (fun h0 => fL0 h0),
      (fun h0 h1 => fC0 h0 h1),
      (fun h0 => fL1 h0),
      (fun h0 h1 => fC1 h0 h1),
      (fun h0 => fI h0),
      (fun h0 => fF h0),
      (fun h0 => fM h0),
      (fun h0 => fE0 h0),
      (fun h0 => fE1 h0),
      (fun h0 => fB0 h0),
      (fun h0 h1 => fZ0 h0 h1),
      (fun h0 => fS0 h0),
      (fun h0 h1 => fX0 h0 h1),
      (fun _ => rfl),
      (fun h => fO6_5 h),
      (fun h => fO7_5 h),
      (fun h => fO10_5 h),
      (fun h => fO10_9 h),
      (fun h => fO8_5 h),
      (fun _ => HD5)⟩
  · rintro d a W hd ⟨u17, u18, u98, u99, u100, u101, u102, u103, u104, u105, u106, k0, lo, hi, g0, g1, hfr, fold, fL0, fC0, fL1, fC1, fI, fF, fM, fE0, fE1, fB0, fZ0, fS0, fX0, fA1, fO6_5, fO7_5, fO10_5, fO10_9, fO8_5, fO11_5⟩
    have hd2 : ∀ i, i < 12 → d i = true := hd
    clear hd
    have HD0 : d 0 = true := hd2 0 (by omega)
    have HD1 : d 1 = true := hd2 1 (by omega)
    have HD2 : d 2 = true := hd2 2 (by omega)
    have HD3 : d 3 = true := hd2 3 (by omega)
    have HD4 : d 4 = true := hd2 4 (by omega)
    have HD5 : d 5 = true := hd2 5 (by omega)
    have HD6 : d 6 = true := hd2 6 (by omega)
    have HD7 : d 7 = true := hd2 7 (by omega)
    have HD8 : d 8 = true := hd2 8 (by omega)
    have HD9 : d 9 = true := hd2 9 (by omega)
    have HD10 : d 10 = true := hd2 10 (by omega)
    have HD11 : d 11 = true := hd2 11 (by omega)
    obtain ⟨eF, lF, hF, z0, y0, rF⟩ := fF HD5
    obtain ⟨hp0, hlo0, hlt0⟩ := fB0 HD9
    rw [hp0] at hfr
    have ha_1 := fA1 HD11
    rw [ha_1] at hfr
    show K a W
    rw [hfr]
    exact HK.out k0 lo hi g0 g1 u98 u99 u100 u101 u102 u103 u104 u105 u106 W fold lF hF rF (fS0 HD10) hlo0 hlt0 (fX0 HD9 HD5)
end Go.Proofs.YtpebikjckhcgfaaGreatDoor
