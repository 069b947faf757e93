/- Proved: several texts in one: what each proves is said ahead of it. -/
import Derived.Deep.RegionWith
import Derived.Deep.RegionHeld3
import Derived.Deep.DeepCutAuto
import Derived.Test.YtinldhoimnbkhaaDoorRows
import Derived.WalkKit
import Derived.ProofKit
import Derived.OpenShut
import Derived.Deep.Draws
import Derived.Test.YtinldhoimnbkhaaDoorDb00
import Derived.Test.YtinldhoimnbkhaaDoorDb01
import Derived.Test.YtinldhoimnbkhaaDoorModel
import Derived.Test.YtinldhoimnbkhaaDoorLen
import Derived.Test.YtinldhoimnbkhaaDoorDiv
import Derived.Test.YtinldhoimnbkhaaDoorRem2
import Derived.Test.YtinldhoimnbkhaaDoorBoth
import Derived.Test.YtinldhoimnbkhaaDoorDb02
import Derived.Test.YtinldhoimnbkhaaDoorDb15
import Derived.Test.YtinldhoimnbkhaaDoorDb03
import Derived.Test.YtinldhoimnbkhaaDoorDb04
import Derived.Test.YtinldhoimnbkhaaDoorDb05
import Derived.Test.YtinldhoimnbkhaaDoorDb06
import Derived.Test.YtinldhoimnbkhaaDoorDb07
import Derived.Test.YtinldhoimnbkhaaDoorSzAdd
import Derived.Test.YtinldhoimnbkhaaDoorDb08
import Derived.Test.YtinldhoimnbkhaaDoorDb09
import Derived.Test.YtinldhoimnbkhaaDoorDb10
import Derived.Test.YtinldhoimnbkhaaDoorDb11
import Derived.Test.YtinldhoimnbkhaaDoorDb14
import Derived.Test.YtinldhoimnbkhaaDoorDb12
import Derived.Test.YtinldhoimnbkhaaDoorDb13
import Derived.Test.YtinldhoimnbkhaaDoorRegGoodCipherA
import Derived.Test.YtinldhoimnbkhaaDoorLawGoodCipher
import Derived.Test.YtinldhoimnbkhaaDoorBackS
import Derived.Test.YtinldhoimnbkhaaDoorDb18
import Derived.Test.YtinldhoimnbkhaaDoorRegS
import Derived.Test.YtinldhoimnbkhaaDoorMlr
import Derived.Test.YtinldhoimnbkhaaDoorRcr
import Derived.Test.YtinldhoimnbkhaaDoorRRs3
import Derived.Test.YtinldhoimnbkhaaDoorDb25
import Derived.Test.YtinldhoimnbkhaaDoorDb24
import Derived.Test.YtinldhoimnbkhaaDoorFrameP
import Derived.Test.YtinldhoimnbkhaaDoorFrameC
import Derived.Test.YtinldhoimnbkhaaDoorDf00
import Derived.Test.YtinldhoimnbkhaaDoorDg00
/- Proved: a drawn region of the statement FnExactSubRows, by what holds between its operations, in whatever order. -/
namespace Go.Proofs.YtinldhoimnbkhaaDoor
open Go.ChangeShapes Go.WideShapes Go.ChangeAt Go.RowKit
set_option linter.unusedVariables false
set_option linter.unusedSimpArgs false
def regionAtreg9_SubRowsA (n : Nat) : Code → Option Code
  | .region i ops b => if i = n then some (.region i ops b) else none
  | .seq a b => match regionAtreg9_SubRowsA n a with
    | some c => some c
    | none => regionAtreg9_SubRowsA n b
  | .block _ c => regionAtreg9_SubRowsA n c
  | _ => none
set_option maxRecDepth 100000 in
set_option maxHeartbeats 8000000 in
theorem reg9_SubRowsA (w2 : World) (x0_0 x0_1 : Value) (kb0 : Nat) (x1_0 x1_1 : Value) (kb1 : Nat) (x2_0 x2_1 : Value) (kb2 : Nat) 
    (CR0 : World → Value → Prop) (hCR0 : ∀ W W' v, CR0 W v → Old W W' → CR0 W' v)
    (c0 : ∀ W, Old w2 W → Calls Tryd.prog 15 #[.agg #[x0_0, x0_1]] W fun e w' => ∃ v, e = .returned v ∧ Old W w' ∧ CR0 w' v)
    (b0 : w2.heap[kb0]? = some (.cells #[x0_0, x0_1] 24 (0, 0)))
    (CR1 : World → Value → Prop) (hCR1 : ∀ W W' v, CR1 W v → Old W W' → CR1 W' v)
    (c1 : ∀ W, Old w2 W → Calls Tryd.prog 16 #[.agg #[x1_0, x1_1]] W fun e w' => ∃ v, e = .returned v ∧ Old W w' ∧ CR1 w' v)
    (b1 : w2.heap[kb1]? = some (.cells #[x1_0, x1_1] 27 (0, 0)))
    (CR2 : World → Value → Prop) (hCR2 : ∀ W W' v, CR2 W v → Old W W' → CR2 W' v)
    (c2 : ∀ W, Old w2 W → Calls Tryd.prog 16 #[.agg #[x2_0, x2_1]] W fun e w' => ∃ v, e = .returned v ∧ Old W w' ∧ CR2 w' v)
    (b2 : w2.heap[kb2]? = some (.cells #[x2_0, x2_1] 27 (0, 0)))
    (RES : World → Nat → Nat → Array Value → Value → Prop) (far : ∀ W W' lo hi (g0 : Array Value) (g1 : Value), RES W lo hi g0 g1 → (∀ b, lo ≤ b → b < hi → W'.heap[b]? = W.heap[b]?) → W.heap.size ≤ W'.heap.size → RES W' lo hi g0 g1)
    (cf : ∀ W v0 v1 v2, Old w2 W → CR0 W v0 → CR1 W v1 → CR2 W v2 → Calls Tryd.prog 25 #[v0, v1, v2] W fun e w' => ∃ (g0 : Array Value) (g1 : Value), e = .returned (.tuple #[.agg g0, g1]) ∧ Old W w' ∧ g0.size = 2 ∧ g0.all (·.oneCell') = true ∧ RES w' W.heap.size w'.heap.size g0 g1)
    (Q : Exit → Act → World → Prop) (K : Act → World → Prop) (a0 : Act) (hsz : 142 ≤ a0.tmps.size) (ha3 : a0.eval (.tmp 3) = .pointer (some ⟨kb0, 0, none⟩)) (ha4 : a0.eval (.tmp 4) = .pointer (some ⟨kb1, 0, none⟩)) (ha5 : a0.eval (.tmp 5) = .pointer (some ⟨kb2, 0, none⟩))
    (HK : Hid (∀ (k0 lo hi : Nat) (g0 : Array Value) (g1 : Value) (u35 u36 u37 u38 u39 u40 u41 u42 u43 u44 : Value) (W : World), Old w2 W → w2.heap.size ≤ lo → hi ≤ W.heap.size → RES W lo hi g0 g1 → W.heap[k0]? = some (.cells g0 33 (0, 0)) → w2.heap.size ≤ k0 → k0 < W.heap.size → (k0 < lo ∨ hi ≤ k0) → K (putAll a0 [(8, .pointer (some ⟨k0, 0, none⟩)), (9, g1), (35, u35), (36, u36), (37, u37), (38, u38), (39, u39), (40, u40), (41, u41), (42, u42), (43, u43), (44, u44)]) W)) :
    Code.wp Tryd.prog ((Tryd.f5.body.bind (regionAtreg9_SubRowsA 11)).getD .skip) (Exit.then K Q) a0 w2 := by
  conv => arg 2; whnf
  have e3 : ∀ l, (putAll a0 l).eval (.tmp 3) = (getKey l 3).getD (a0.eval (.tmp 3)) := eval_putAll a0 3 (by omega)
  have e4 : ∀ l, (putAll a0 l).eval (.tmp 4) = (getKey l 4).getD (a0.eval (.tmp 4)) := eval_putAll a0 4 (by omega)
  have e5 : ∀ l, (putAll a0 l).eval (.tmp 5) = (getKey l 5).getD (a0.eval (.tmp 5)) := eval_putAll a0 5 (by omega)
  have e8 : ∀ l, (putAll a0 l).eval (.tmp 8) = (getKey l 8).getD (a0.eval (.tmp 8)) := eval_putAll a0 8 (by omega)
  have e9 : ∀ l, (putAll a0 l).eval (.tmp 9) = (getKey l 9).getD (a0.eval (.tmp 9)) := eval_putAll a0 9 (by omega)
  have e35 : ∀ l, (putAll a0 l).eval (.tmp 35) = (getKey l 35).getD (a0.eval (.tmp 35)) := eval_putAll a0 35 (by omega)
  have e36 : ∀ l, (putAll a0 l).eval (.tmp 36) = (getKey l 36).getD (a0.eval (.tmp 36)) := eval_putAll a0 36 (by omega)
  have e37 : ∀ l, (putAll a0 l).eval (.tmp 37) = (getKey l 37).getD (a0.eval (.tmp 37)) := eval_putAll a0 37 (by omega)
  have e38 : ∀ l, (putAll a0 l).eval (.tmp 38) = (getKey l 38).getD (a0.eval (.tmp 38)) := eval_putAll a0 38 (by omega)
  have e39 : ∀ l, (putAll a0 l).eval (.tmp 39) = (getKey l 39).getD (a0.eval (.tmp 39)) := eval_putAll a0 39 (by omega)
  have e40 : ∀ l, (putAll a0 l).eval (.tmp 40) = (getKey l 40).getD (a0.eval (.tmp 40)) := eval_putAll a0 40 (by omega)
  have e41 : ∀ l, (putAll a0 l).eval (.tmp 41) = (getKey l 41).getD (a0.eval (.tmp 41)) := eval_putAll a0 41 (by omega)
  have e42 : ∀ l, (putAll a0 l).eval (.tmp 42) = (getKey l 42).getD (a0.eval (.tmp 42)) := eval_putAll a0 42 (by omega)
  have e43 : ∀ l, (putAll a0 l).eval (.tmp 43) = (getKey l 43).getD (a0.eval (.tmp 43)) := eval_putAll a0 43 (by omega)
  have e44 : ∀ l, (putAll a0 l).eval (.tmp 44) = (getKey l 44).getD (a0.eval (.tmp 44)) := eval_putAll a0 44 (by omega)
  refine wp_region_steps (fun d a W => ∃ (u8 u9 u35 u36 u37 u38 u39 u40 u41 u42 u43 u44 : Value) (k0 lo hi : Nat) (g0 : Array Value) (g1 : Value), a = (putAll a0 [(8, u8), (9, u9), (35, u35), (36, u36), (37, u37), (38, u38), (39, u39), (40, u40), (41, u41), (42, u42), (43, u43), (44, u44)]) ∧ (Old w2 W) ∧ (d 0 = true → u36 = .agg #[x0_0, x0_1]) ∧ (d 1 = true → d 6 = false → CR0 W u37) ∧ (d 2 = true → u38 = .agg #[x1_0, x1_1]) ∧ (d 3 = true → d 6 = false → CR1 W u39) ∧ (d 4 = true → u40 = .agg #[x2_0, x2_1]) ∧ (d 5 = true → d 6 = false → CR2 W u41) ∧ (d 6 = true → u42 = .tuple #[.agg g0, g1] ∧ w2.heap.size ≤ lo ∧ hi ≤ W.heap.size ∧ g0.size = 2 ∧ g0.all (·.oneCell') = true ∧ RES W lo hi g0 g1) ∧ (d 7 = true → u35 = .tuple #[.agg g0, g1]) ∧ (d 8 = true → u43 = .agg g0) ∧ (d 9 = true → u44 = g1) ∧ (d 10 = true → u8 = .pointer (some ⟨k0, 0, none⟩) ∧ w2.heap.size ≤ k0 ∧ k0 < W.heap.size) ∧ (d 10 = true → d 11 = false → W.heap[k0]? = some (.cells #[.bool false, .slice none 0 0] 33 (0, 0))) ∧ (d 11 = true → W.heap[k0]? = some (.cells g0 33 (0, 0))) ∧ (d 10 = true → d 6 = true → (k0 < lo ∨ hi ≤ k0)) ∧ (d 12 = true → u9 = g1) ∧ (d 7 = true → d 6 = true) ∧ (d 8 = true → d 6 = true) ∧ (d 11 = true → d 6 = true) ∧ (d 11 = true → d 10 = true) ∧ (d 9 = true → d 6 = true) ∧ (d 12 = true → d 6 = true)) rfl (by decide +kernel) (by decide +kernel) ?_ ⟨?_, ?_, ?_, ?_, ?_, ?_, ?_, ?_, ?_, ?_, ?_, ?_, ?_, trivial⟩ ?_
  · exact ⟨_, _, _, _, _, _, _, _, _, _, _, _, 0, 0, 0, #[], undef, (putAll_self a0 [8, 9, 35, 36, 37, 38, 39, 40, 41, 42, 43, 44] (by intro s hs; simp at hs; omega)).symm, Below.drew (Old.refl w2), (fun h => by cases h), (fun h => by cases h), (fun h => by cases h), (fun h => by cases h), (fun h => by cases h), (fun h => by cases h), (fun h => by cases h), (fun h => by cases h), (fun h => by cases h), (fun h => by cases h), (fun h => by cases h), (fun h => by cases h), (fun h => by cases h), (fun h => by cases h), (fun h => by cases h), (fun h => by cases h), (fun h => by cases h), (fun h => by cases h), (fun h => by cases h), (fun h => by cases h), (fun h => by cases h)⟩
  · rintro d a W ⟨u8, u9, u35, u36, u37, u38, u39, u40, u41, u42, u43, u44, k0, lo, hi, g0, g1, hfr, fold, fL0, fC0, fL1, fC1, fL2, fC2, fF, fM, fE0, fE1, fB0, fZ0, fS0, fX0, fA1, fO7_6, fO8_6, fO11_6, fO11_10, fO9_6, fO12_6⟩ hi_ hd
    simp [Region.binds] at hd
    refine op_load (k := kb0) (by rw [hfr, e3]; exact ha3) (fold.block _ (lt_of_some b0) |>.trans b0) Tryd.underlying24 rfl (by kernel_rfl) ?_
    exact ⟨u8, u9, u35, .agg #[x0_0, x0_1], u37, u38, u39, u40, u41, u42, u43, u44, k0, lo, hi, g0, g1, (by rw [hfr]; exact putAll_put a0 _ _ _ rfl), (fold),
      (fun _ => rfl),
      (fun h0 h1 => fC0 h0 h1),
      (fun h0 => fL1 h0),
      (fun h0 h1 => fC1 h0 h1),
      (fun h0 => fL2 h0),
      (fun h0 h1 => fC2 h0 h1),
      (fun h0 => fF h0),
      (fun h0 => fM h0),
      (fun h0 => fE0 h0),
      (fun h0 => fE1 h0),
      (fun h0 => fB0 h0),
      (fun h0 h1 => fZ0 h0 h1),
      (fun h0 => fS0 h0),
      (fun h0 h1 => fX0 h0 h1),
      (fun h0 => fA1 h0),
      (fun h => fO7_6 h),
      (fun h => fO8_6 h),
      (fun h => fO11_6 h),
      (fun h => fO11_10 h),
      (fun h => fO9_6 h),
      (fun h => fO12_6 h)⟩
  · rintro d a W ⟨u8, u9, u35, u36, u37, u38, u39, u40, u41, u42, u43, u44, k0, lo, hi, g0, g1, hfr, fold, fL0, fC0, fL1, fC1, fL2, fC2, fF, fM, fE0, fE1, fB0, fZ0, fS0, fX0, fA1, fO7_6, fO8_6, fO11_6, fO11_10, fO9_6, fO12_6⟩ hi_ hd
    simp [Region.binds] at hd
    have HD0 : d 0 = true := by simp only [hd]
    clear hd
    have hv := fL0 HD0
    refine op_call_ret Tryd.call15 (vs := #[.agg #[x0_0, x0_1]]) (by simp [hfr, e36, getKey, hv]) (c0 W fold) ?_
    rintro v W' ⟨g, hcr⟩
    exact ⟨u8, u9, u35, u36, v, u38, u39, u40, u41, u42, u43, u44, k0, lo, hi, g0, g1, (by rw [hfr]; exact putAll_put a0 _ _ _ rfl), (Old.trans fold g),
      (fun h0 => fL0 h0),
      (fun _ _ => hcr),
      (fun h0 => fL1 h0),
      (fun h0 h1 => hCR1 _ _ _ (fC1 h0 h1) g),
      (fun h0 => fL2 h0),
      (fun h0 h1 => hCR2 _ _ _ (fC2 h0 h1) g),
      (fun h0 => by obtain ⟨e1, e2, e3, z0, y0, e9⟩ := fF h0; exact ⟨e1, e2, Nat.le_trans e3 g.size, z0, y0, far _ _ _ _ _ _ e9 (fun b _ hb => g.block b (by omega)) g.size⟩),
      (fun h0 => fM h0),
      (fun h0 => fE0 h0),
      (fun h0 => fE1 h0),
      (fun h0 => by obtain ⟨e1, e2, e3⟩ := fB0 h0; exact ⟨e1, e2, Nat.lt_of_lt_of_le e3 g.size⟩),
      (fun h0 h1 => (g.block _ (lt_of_some (fZ0 h0 h1))).trans (fZ0 h0 h1)),
      (fun h0 => (g.block _ (lt_of_some (fS0 h0))).trans (fS0 h0)),
      (fun h0 h1 => fX0 h0 h1),
      (fun h0 => fA1 h0),
      (fun h => fO7_6 h),
      (fun h => fO8_6 h),
      (fun h => fO11_6 h),
      (fun h => fO11_10 h),
      (fun h => fO9_6 h),
      (fun h => fO12_6 h)⟩
  · rintro d a W ⟨u8, u9, u35, u36, u37, u38, u39, u40, u41, u42, u43, u44, k0, lo, hi, g0, g1, hfr, fold, fL0, fC0, fL1, fC1, fL2, fC2, fF, fM, fE0, fE1, fB0, fZ0, fS0, fX0, fA1, fO7_6, fO8_6, fO11_6, fO11_10, fO9_6, fO12_6⟩ hi_ hd
    simp [Region.binds] at hd
    refine op_load (k := kb1) (by rw [hfr, e4]; exact ha4) (fold.block _ (lt_of_some b1) |>.trans b1) Tryd.underlying27 rfl (by kernel_rfl) ?_
    exact ⟨u8, u9, u35, u36, u37, .agg #[x1_0, x1_1], u39, u40, u41, u42, u43, u44, k0, lo, hi, g0, g1, (by rw [hfr]; exact putAll_put a0 _ _ _ rfl), (fold),
      (fun h0 => fL0 h0),
      (fun h0 h1 => fC0 h0 h1),
      (fun _ => rfl),
      (fun h0 h1 => fC1 h0 h1),
      (fun h0 => fL2 h0),
      (fun h0 h1 => fC2 h0 h1),
      (fun h0 => fF h0),
      (fun h0 => fM h0),
      (fun h0 => fE0 h0),
      (fun h0 => fE1 h0),
      (fun h0 => fB0 h0),
      (fun h0 h1 => fZ0 h0 h1),
      (fun h0 => fS0 h0),
      (fun h0 h1 => fX0 h0 h1),
      (fun h0 => fA1 h0),
      (fun h => fO7_6 h),
      (fun h => fO8_6 h),
      (fun h => fO11_6 h),
      (fun h => fO11_10 h),
      (fun h => fO9_6 h),
      (fun h => fO12_6 h)⟩
  · rintro d a W ⟨u8, u9, u35, u36, u37, u38, u39, u40, u41, u42, u43, u44, k0, lo, hi, g0, g1, hfr, fold, fL0, fC0, fL1, fC1, fL2, fC2, fF, fM, fE0, fE1, fB0, fZ0, fS0, fX0, fA1, fO7_6, fO8_6, fO11_6, fO11_10, fO9_6, fO12_6⟩ hi_ hd
    simp [Region.binds] at hd
    have HD2 : d 2 = true := by simp only [hd]
    clear hd
    have hv := fL1 HD2
    refine op_call_ret Tryd.call16 (vs := #[.agg #[x1_0, x1_1]]) (by simp [hfr, e38, getKey, hv]) (c1 W fold) ?_
    rintro v W' ⟨g, hcr⟩
    exact ⟨u8, u9, u35, u36, u37, u38, v, u40, u41, u42, u43, u44, k0, lo, hi, g0, g1, (by rw [hfr]; exact putAll_put a0 _ _ _ rfl), (Old.trans fold g),
      (fun h0 => fL0 h0),
      (fun h0 h1 => hCR0 _ _ _ (fC0 h0 h1) g),
      (fun h0 => fL1 h0),
      (fun _ _ => hcr),
      (fun h0 => fL2 h0),
      (fun h0 h1 => hCR2 _ _ _ (fC2 h0 h1) g),
      (fun h0 => by obtain ⟨e1, e2, e3, z0, y0, e9⟩ := fF h0; exact ⟨e1, e2, Nat.le_trans e3 g.size, z0, y0, far _ _ _ _ _ _ e9 (fun b _ hb => g.block b (by omega)) g.size⟩),
      (fun h0 => fM h0),
      (fun h0 => fE0 h0),
      (fun h0 => fE1 h0),
      (fun h0 => by obtain ⟨e1, e2, e3⟩ := fB0 h0; exact ⟨e1, e2, Nat.lt_of_lt_of_le e3 g.size⟩),
      (fun h0 h1 => (g.block _ (lt_of_some (fZ0 h0 h1))).trans (fZ0 h0 h1)),
      (fun h0 => (g.block _ (lt_of_some (fS0 h0))).trans (fS0 h0)),
      (fun h0 h1 => fX0 h0 h1),
      (fun h0 => fA1 h0),
      (fun h => fO7_6 h),
      (fun h => fO8_6 h),
      (fun h => fO11_6 h),
      (fun h => fO11_10 h),
      (fun h => fO9_6 h),
      (fun h => fO12_6 h)⟩
  · rintro d a W ⟨u8, u9, u35, u36, u37, u38, u39, u40, u41, u42, u43, u44, k0, lo, hi, g0, g1, hfr, fold, fL0, fC0, fL1, fC1, fL2, fC2, fF, fM, fE0, fE1, fB0, fZ0, fS0, fX0, fA1, fO7_6, fO8_6, fO11_6, fO11_10, fO9_6, fO12_6⟩ hi_ hd
    simp [Region.binds] at hd
    refine op_load (k := kb2) (by rw [hfr, e5]; exact ha5) (fold.block _ (lt_of_some b2) |>.trans b2) Tryd.underlying27 rfl (by kernel_rfl) ?_
    exact ⟨u8, u9, u35, u36, u37, u38, u39, .agg #[x2_0, x2_1], u41, u42, u43, u44, k0, lo, hi, g0, g1, (by rw [hfr]; exact putAll_put a0 _ _ _ rfl), (fold),
      (fun h0 => fL0 h0),
      (fun h0 h1 => fC0 h0 h1),
      (fun h0 => fL1 h0),
      (fun h0 h1 => fC1 h0 h1),
      (fun _ => rfl),
      (fun h0 h1 => fC2 h0 h1),
      (fun h0 => fF h0),
      (fun h0 => fM h0),
      (fun h0 => fE0 h0),
      (fun h0 => fE1 h0),
      (fun h0 => fB0 h0),
      (fun h0 h1 => fZ0 h0 h1),
      (fun h0 => fS0 h0),
      (fun h0 h1 => fX0 h0 h1),
      (fun h0 => fA1 h0),
      (fun h => fO7_6 h),
      (fun h => fO8_6 h),
      (fun h => fO11_6 h),
      (fun h => fO11_10 h),
      (fun h => fO9_6 h),
      (fun h => fO12_6 h)⟩
  · rintro d a W ⟨u8, u9, u35, u36, u37, u38, u39, u40, u41, u42, u43, u44, k0, lo, hi, g0, g1, hfr, fold, fL0, fC0, fL1, fC1, fL2, fC2, fF, fM, fE0, fE1, fB0, fZ0, fS0, fX0, fA1, fO7_6, fO8_6, fO11_6, fO11_10, fO9_6, fO12_6⟩ hi_ hd
    simp [Region.binds] at hd
    have HD4 : d 4 = true := by simp only [hd]
    clear hd
    have hv := fL2 HD4
    refine op_call_ret Tryd.call16 (vs := #[.agg #[x2_0, x2_1]]) (by simp [hfr, e40, getKey, hv]) (c2 W fold) ?_
    rintro v W' ⟨g, hcr⟩
    exact ⟨u8, u9, u35, u36, u37, u38, u39, u40, v, u42, u43, u44, k0, lo, hi, g0, g1, (by rw [hfr]; exact putAll_put a0 _ _ _ rfl), (Old.trans fold g),
      (fun h0 => fL0 h0),
      (fun h0 h1 => hCR0 _ _ _ (fC0 h0 h1) g),
      (fun h0 => fL1 h0),
      (fun h0 h1 => hCR1 _ _ _ (fC1 h0 h1) g),
      (fun h0 => fL2 h0),
      (fun _ _ => hcr),
      (fun h0 => by obtain ⟨e1, e2, e3, z0, y0, e9⟩ := fF h0; exact ⟨e1, e2, Nat.le_trans e3 g.size, z0, y0, far _ _ _ _ _ _ e9 (fun b _ hb => g.block b (by omega)) g.size⟩),
      (fun h0 => fM h0),
      (fun h0 => fE0 h0),
      (fun h0 => fE1 h0),
      (fun h0 => by obtain ⟨e1, e2, e3⟩ := fB0 h0; exact ⟨e1, e2, Nat.lt_of_lt_of_le e3 g.size⟩),
      (fun h0 h1 => (g.block _ (lt_of_some (fZ0 h0 h1))).trans (fZ0 h0 h1)),
      (fun h0 => (g.block _ (lt_of_some (fS0 h0))).trans (fS0 h0)),
      (fun h0 h1 => fX0 h0 h1),
      (fun h0 => fA1 h0),
      (fun h => fO7_6 h),
      (fun h => fO8_6 h),
      (fun h => fO11_6 h),
      (fun h => fO11_10 h),
      (fun h => fO9_6 h),
      (fun h => fO12_6 h)⟩
  · rintro d a W ⟨u8, u9, u35, u36, u37, u38, u39, u40, u41, u42, u43, u44, k0, lo, hi, g0, g1, hfr, fold, fL0, fC0, fL1, fC1, fL2, fC2, fF, fM, fE0, fE1, fB0, fZ0, fS0, fX0, fA1, fO7_6, fO8_6, fO11_6, fO11_10, fO9_6, fO12_6⟩ hi_ hd
    simp [Region.binds] at hd
    have HD1 : d 1 = true := by simp only [hd]
    have HD3 : d 3 = true := by simp only [hd]
    have HD5 : d 5 = true := by simp only [hd]
    clear hd
    refine op_call_ret (R := fun v w' => ∃ (g0 : Array Value) (g1 : Value), v = .tuple #[.agg g0, g1] ∧ Old W w' ∧ g0.size = 2 ∧ g0.all (·.oneCell') = true ∧ RES w' W.heap.size w'.heap.size g0 g1) Tryd.call25 (vs := #[u37, u39, u41]) (by simp [hfr, e37, e39, e41, getKey]) ((cf W _ _ _ fold (fC0 HD1 hi_) (fC1 HD3 hi_) (fC2 HD5 hi_)).mono (fun e w' h => by obtain ⟨g0, g1, rfl, h⟩ := h; exact ⟨_, rfl, g0, g1, rfl, h⟩)) ?_
    rintro v W' ⟨r0, r1, rfl, g, z0, y0, hres⟩
    exact ⟨u8, u9, u35, u36, u37, u38, u39, u40, u41, .tuple #[.agg r0, r1], u43, u44, k0, W.heap.size, W'.heap.size, r0, r1, (by rw [hfr]; exact putAll_put a0 _ _ _ rfl), (Old.trans fold g),
      (fun h0 => fL0 h0),
      (fun h0 h1 => by cases h1),
      (fun h0 => fL1 h0),
      (fun h0 h1 => by cases h1),
      (fun h0 => fL2 h0),
      (fun h0 h1 => by cases h1),
      (fun _ => ⟨rfl, (fold.size), Nat.le_refl _, z0, y0, hres⟩),
      (fun h0 => by have hx_ := fO7_6 h0; rw [hi_] at hx_; cases hx_),
      (fun h0 => by have hx_ := fO8_6 h0; rw [hi_] at hx_; cases hx_),
      (fun h0 => by have hx_ := fO9_6 h0; rw [hi_] at hx_; cases hx_),
      (fun h0 => by obtain ⟨e1, e2, e3⟩ := fB0 h0; exact ⟨e1, e2, Nat.lt_of_lt_of_le e3 g.size⟩),
      (fun h0 h1 => (g.block _ (lt_of_some (fZ0 h0 h1))).trans (fZ0 h0 h1)),
      (fun h0 => by have hx_ := fO11_6 h0; rw [hi_] at hx_; cases hx_),
      (fun hb _ => Or.inl (fB0 hb).2.2),
      (fun h0 => by have hx_ := fO12_6 h0; rw [hi_] at hx_; cases hx_),
      (fun _ => rfl),
      (fun _ => rfl),
      (fun _ => rfl),
      (fun h => fO11_10 h),
      (fun _ => rfl),
      (fun _ => rfl)⟩
  · rintro d a W ⟨u8, u9, u35, u36, u37, u38, u39, u40, u41, u42, u43, u44, k0, lo, hi, g0, g1, hfr, fold, fL0, fC0, fL1, fC1, fL2, fC2, fF, fM, fE0, fE1, fB0, fZ0, fS0, fX0, fA1, fO7_6, fO8_6, fO11_6, fO11_10, fO9_6, fO12_6⟩ hi_ hd
    simp [Region.binds] at hd
    have HD6 : d 6 = true := by simp only [hd]
    clear hd
    have hv := (fF HD6).1
    refine op_move ?_
    rw [show a.eval (.tmp 42) = .tuple #[.agg g0, g1] by rw [hfr, e42]; exact hv]
    exact ⟨u8, u9, .tuple #[.agg g0, g1], u36, u37, u38, u39, u40, u41, u42, u43, u44, k0, lo, hi, g0, g1, (by rw [hfr]; exact putAll_put a0 _ _ _ rfl), (fold),
      (fun h0 => fL0 h0),
      (fun h0 h1 => fC0 h0 h1),
      (fun h0 => fL1 h0),
      (fun h0 h1 => fC1 h0 h1),
      (fun h0 => fL2 h0),
      (fun h0 h1 => fC2 h0 h1),
      (fun h0 => fF h0),
      (fun _ => rfl),
      (fun h0 => fE0 h0),
      (fun h0 => fE1 h0),
      (fun h0 => fB0 h0),
      (fun h0 h1 => fZ0 h0 h1),
      (fun h0 => fS0 h0),
      (fun h0 h1 => fX0 h0 h1),
      (fun h0 => fA1 h0),
      (fun _ => HD6),
      (fun h => fO8_6 h),
      (fun h => fO11_6 h),
      (fun h => fO11_10 h),
      (fun h => fO9_6 h),
      (fun h => fO12_6 h)⟩
  · rintro d a W ⟨u8, u9, u35, u36, u37, u38, u39, u40, u41, u42, u43, u44, k0, lo, hi, g0, g1, hfr, fold, fL0, fC0, fL1, fC1, fL2, fC2, fF, fM, fE0, fE1, fB0, fZ0, fS0, fX0, fA1, fO7_6, fO8_6, fO11_6, fO11_10, fO9_6, fO12_6⟩ hi_ hd
    simp [Region.binds] at hd
    have HD7 : d 7 = true := by simp only [hd]
    have HD6 : d 6 = true := fO7_6 HD7
    clear hd
    have hv := fM HD7
    refine op_extract (by rw [hfr, e35]; exact hv) rfl ?_
    exact ⟨u8, u9, u35, u36, u37, u38, u39, u40, u41, u42, .agg g0, u44, k0, lo, hi, g0, g1, (by rw [hfr]; exact putAll_put a0 _ _ _ rfl), (fold),
      (fun h0 => fL0 h0),
      (fun h0 h1 => fC0 h0 h1),
      (fun h0 => fL1 h0),
      (fun h0 h1 => fC1 h0 h1),
      (fun h0 => fL2 h0),
      (fun h0 h1 => fC2 h0 h1),
      (fun h0 => fF h0),
      (fun h0 => fM h0),
      (fun _ => rfl),
      (fun h0 => fE1 h0),
      (fun h0 => fB0 h0),
      (fun h0 h1 => fZ0 h0 h1),
      (fun h0 => fS0 h0),
      (fun h0 h1 => fX0 h0 h1),
      (fun h0 => fA1 h0),
      (fun h => fO7_6 h),
      (fun _ => HD6),
      (fun h => fO11_6 h),
      (fun h => fO11_10 h),
      (fun h => fO9_6 h),
      (fun h => fO12_6 h)⟩
  · rintro d a W ⟨u8, u9, u35, u36, u37, u38, u39, u40, u41, u42, u43, u44, k0, lo, hi, g0, g1, hfr, fold, fL0, fC0, fL1, fC1, fL2, fC2, fF, fM, fE0, fE1, fB0, fZ0, fS0, fX0, fA1, fO7_6, fO8_6, fO11_6, fO11_10, fO9_6, fO12_6⟩ hi_ hd
    simp [Region.binds] at hd
    have HD7 : d 7 = true := by simp only [hd]
    have HD6 : d 6 = true := fO7_6 HD7
    clear hd
    have hv := fM HD7
    refine op_extract (by rw [hfr, e35]; exact hv) rfl ?_
    exact ⟨u8, u9, u35, u36, u37, u38, u39, u40, u41, u42, u43, g1, k0, lo, hi, g0, g1, (by rw [hfr]; exact putAll_put a0 _ _ _ rfl), (fold),
      (fun h0 => fL0 h0),
      (fun h0 h1 => fC0 h0 h1),
      (fun h0 => fL1 h0),
      (fun h0 h1 => fC1 h0 h1),
      (fun h0 => fL2 h0),
      (fun h0 h1 => fC2 h0 h1),
      (fun h0 => fF h0),
      (fun h0 => fM h0),
      (fun h0 => fE0 h0),
      (fun _ => rfl),
      (fun h0 => fB0 h0),
      (fun h0 h1 => fZ0 h0 h1),
      (fun h0 => fS0 h0),
      (fun h0 h1 => fX0 h0 h1),
      (fun h0 => fA1 h0),
      (fun h => fO7_6 h),
      (fun h => fO8_6 h),
      (fun h => fO11_6 h),
      (fun h => fO11_10 h),
      (fun _ => HD6),
      (fun h => fO12_6 h)⟩
  · rintro d a W ⟨u8, u9, u35, u36, u37, u38, u39, u40, u41, u42, u43, u44, k0, lo, hi, g0, g1, hfr, fold, fL0, fC0, fL1, fC1, fL2, fC2, fF, fM, fE0, fE1, fB0, fZ0, fS0, fX0, fA1, fO7_6, fO8_6, fO11_6, fO11_10, fO9_6, fO12_6⟩ hi_ hd
    simp [Region.binds] at hd
    refine op_alloc (z := .agg #[.bool false, .slice none 0 0]) (by kernel_rfl) ?_
    have g : Old W (W.alloc (.cells #[.bool false, .slice none 0 0] 33)) := (Old.refl W).alloc _
    exact ⟨.pointer (some ⟨W.heap.size, 0, none⟩), u9, u35, u36, u37, u38, u39, u40, u41, u42, u43, u44, W.heap.size, lo, hi, g0, g1, (by rw [hfr]; exact putAll_put a0 _ _ _ rfl), (Old.trans fold g),
      (fun h0 => fL0 h0),
      (fun h0 h1 => hCR0 _ _ _ (fC0 h0 h1) g),
      (fun h0 => fL1 h0),
      (fun h0 h1 => hCR1 _ _ _ (fC1 h0 h1) g),
      (fun h0 => fL2 h0),
      (fun h0 h1 => hCR2 _ _ _ (fC2 h0 h1) g),
      (fun h0 => by obtain ⟨e1, e2, e3, z0, y0, e9⟩ := fF h0; exact ⟨e1, e2, Nat.le_trans e3 g.size, z0, y0, far _ _ _ _ _ _ e9 (fun b _ hb => g.block b (by omega)) g.size⟩),
      (fun h0 => fM h0),
      (fun h0 => fE0 h0),
      (fun h0 => fE1 h0),
      (fun _ => ⟨rfl, fold.size, by simp⟩),
      (fun _ _ => heap_alloc_new W _),
      (fun h0 => by have hx_ := fO11_10 h0; rw [hi_] at hx_; cases hx_),
      (fun _ hf => Or.inr (fF hf).2.2.1),
      (fun h0 => fA1 h0),
      (fun h => fO7_6 h),
      (fun h => fO8_6 h),
      (fun h => fO11_6 h),
      (fun _ => rfl),
      (fun h => fO9_6 h),
      (fun h => fO12_6 h)⟩
  · rintro d a W ⟨u8, u9, u35, u36, u37, u38, u39, u40, u41, u42, u43, u44, k0, lo, hi, g0, g1, hfr, fold, fL0, fC0, fL1, fC1, fL2, fC2, fF, fM, fE0, fE1, fB0, fZ0, fS0, fX0, fA1, fO7_6, fO8_6, fO11_6, fO11_10, fO9_6, fO12_6⟩ hi_ hd
    simp [Region.binds] at hd
    have HD6 : d 6 = true := by simp only [hd]
    have HD8 : d 8 = true := by simp only [hd]
    have HD10 : d 10 = true := by simp only [hd]
    clear hd
    obtain ⟨hp, hlo, hlt⟩ := fB0 HD10
    have hv := fE0 HD8
    have hz := fZ0 HD10 hi_
    obtain ⟨eF, lF, hF, z0, y0, rF⟩ := fF HD6
    have hx := fX0 HD10 HD6
    refine op_store (k := k0) (by rw [hfr, e8]; exact hp) (by rw [hfr, e43]; exact hv) hz (by rw [z0]; kernel_rfl) (by rw [z0]; rfl) y0 ?_
    have hsz2 : (W.setRow k0 g0).heap.size = W.heap.size := size_setRow _ _ _
    have hot : ∀ b, b ≠ k0 → (W.setRow k0 g0).heap[b]? = W.heap[b]? := fun b hb => heap_setRow_other _ _ _ _ hb
    exact ⟨u8, u9, u35, u36, u37, u38, u39, u40, u41, u42, u43, u44, k0, lo, hi, g0, g1, hfr, (old_setRow fold hlo _),
      (fun h0 => fL0 h0),
      (fun h0 h1 => by have hx_ : d 6 = false := h1; rw [HD6] at hx_; cases hx_),
      (fun h0 => fL1 h0),
      (fun h0 h1 => by have hx_ : d 6 = false := h1; rw [HD6] at hx_; cases hx_),
      (fun h0 => fL2 h0),
      (fun h0 h1 => by have hx_ : d 6 = false := h1; rw [HD6] at hx_; cases hx_),
      (fun h0 => ⟨eF, lF, by rw [hsz2]; exact hF, z0, y0, far _ _ _ _ _ _ rF (fun b h1 h2 => hot b (by omega)) (by rw [hsz2]; exact Nat.le_refl _)⟩),
      (fun h0 => fM h0),
      (fun h0 => fE0 h0),
      (fun h0 => fE1 h0),
      (fun h0 => ⟨hp, hlo, by rw [hsz2]; exact hlt⟩),
      (fun h0 h1 => by cases h1),
      (fun _ => heap_setRow_same hz),
      (fun h0 h1 => fX0 h0 h1),
      (fun h0 => fA1 h0),
      (fun h => fO7_6 h),
      (fun h => fO8_6 h),
      (fun _ => HD6),
      (fun _ => HD10),
      (fun h => fO9_6 h),
      (fun h => fO12_6 h)⟩
  · rintro d a W ⟨u8, u9, u35, u36, u37, u38, u39, u40, u41, u42, u43, u44, k0, lo, hi, g0, g1, hfr, fold, fL0, fC0, fL1, fC1, fL2, fC2, fF, fM, fE0, fE1, fB0, fZ0, fS0, fX0, fA1, fO7_6, fO8_6, fO11_6, fO11_10, fO9_6, fO12_6⟩ hi_ hd
    simp [Region.binds] at hd
    have HD6 : d 6 = true := by simp only [hd]
    have HD9 : d 9 = true := by simp only [hd]
    clear hd
    have hv := fE1 HD9
    refine op_assign ?_
    rw [show a.eval (.tmp 44) = g1 by rw [hfr, e44]; exact hv]
    exact ⟨u8, g1, u35, u36, u37, u38, u39, u40, u41, u42, u43, u44, k0, lo, hi, g0, g1, (by rw [hfr]; exact putAll_put a0 _ _ _ rfl), (fold),
      (fun h0 => fL0 h0),
      (fun h0 h1 => fC0 h0 h1),
      (fun h0 => fL1 h0),
      (fun h0 h1 => fC1 h0 h1),
      (fun h0 => fL2 h0),
      (fun h0 h1 => fC2 h0 h1),
      (fun h0 => fF h0),
      (fun h0 => fM h0),
      (fun h0 => fE0 h0),
      (fun h0 => fE1 h0),
      (fun h0 => fB0 h0),
      (fun h0 h1 => fZ0 h0 h1),
      (fun h0 => fS0 h0),
      (fun h0 h1 => fX0 h0 h1),
      (fun _ => rfl),
      (fun h => fO7_6 h),
      (fun h => fO8_6 h),
      (fun h => fO11_6 h),
      (fun h => fO11_10 h),
      (fun h => fO9_6 h),
      (fun _ => HD6)⟩
  · rintro d a W hd ⟨u8, u9, u35, u36, u37, u38, u39, u40, u41, u42, u43, u44, k0, lo, hi, g0, g1, hfr, fold, fL0, fC0, fL1, fC1, fL2, fC2, fF, fM, fE0, fE1, fB0, fZ0, fS0, fX0, fA1, fO7_6, fO8_6, fO11_6, fO11_10, fO9_6, fO12_6⟩
    have hd2 : ∀ i, i < 13 → d i = true := hd
    clear hd
    have HD0 : d 0 = true := hd2 0 (by omega)
    have HD1 : d 1 = true := hd2 1 (by omega)
    have HD2 : d 2 = true := hd2 2 (by omega)
    have HD3 : d 3 = true := hd2 3 (by omega)
    have HD4 : d 4 = true := hd2 4 (by omega)
    have HD5 : d 5 = true := hd2 5 (by omega)
    have HD6 : d 6 = true := hd2 6 (by omega)
    have HD7 : d 7 = true := hd2 7 (by omega)
    have HD8 : d 8 = true := hd2 8 (by omega)
    have HD9 : d 9 = true := hd2 9 (by omega)
    have HD10 : d 10 = true := hd2 10 (by omega)
    have HD11 : d 11 = true := hd2 11 (by omega)
    have HD12 : d 12 = true := hd2 12 (by omega)
    obtain ⟨eF, lF, hF, z0, y0, rF⟩ := fF HD6
    obtain ⟨hp0, hlo0, hlt0⟩ := fB0 HD10
    rw [hp0] at hfr
    have ha_1 := fA1 HD12
    rw [ha_1] at hfr
    show K a W
    rw [hfr]
    exact HK.out k0 lo hi g0 g1 u35 u36 u37 u38 u39 u40 u41 u42 u43 u44 W fold lF hF rF (fS0 HD11) hlo0 hlt0 (fX0 HD10 HD6)
end Go.Proofs.YtinldhoimnbkhaaDoor
/- Proved: a drawn region of the statement FnExactSubRows, by what holds between its operations, in whatever order. -/
namespace Go.Proofs.YtinldhoimnbkhaaDoor
open Go.ChangeShapes Go.WideShapes Go.ChangeAt Go.RowKit
set_option linter.unusedVariables false
set_option linter.unusedSimpArgs false
def regionAtreg9_SubRowsB (n : Nat) : Code → Option Code
  | .region i ops b => if i = n then some (.region i ops b) else none
  | .seq a b => match regionAtreg9_SubRowsB n a with
    | some c => some c
    | none => regionAtreg9_SubRowsB n b
  | .block _ c => regionAtreg9_SubRowsB n c
  | _ => none
set_option maxRecDepth 100000 in
set_option maxHeartbeats 8000000 in
theorem reg9_SubRowsB (w2 : World) (x0_0 x0_1 : Value) (kb0 : Nat) (x1_0 x1_1 : Value) (kb1 : Nat) (x2_0 x2_1 : Value) (kb2 : Nat) 
    (CR0 : World → Value → Prop) (hCR0 : ∀ W W' v, CR0 W v → Old W W' → CR0 W' v)
    (c0 : ∀ W, Old w2 W → Calls Tryd.prog 15 #[.agg #[x0_0, x0_1]] W fun e w' => ∃ v, e = .returned v ∧ Old W w' ∧ CR0 w' v)
    (b0 : w2.heap[kb0]? = some (.cells #[x0_0, x0_1] 24 (0, 0)))
    (CR1 : World → Value → Prop) (hCR1 : ∀ W W' v, CR1 W v → Old W W' → CR1 W' v)
    (c1 : ∀ W, Old w2 W → Calls Tryd.prog 16 #[.agg #[x1_0, x1_1]] W fun e w' => ∃ v, e = .returned v ∧ Old W w' ∧ CR1 w' v)
    (b1 : w2.heap[kb1]? = some (.cells #[x1_0, x1_1] 27 (0, 0)))
    (CR2 : World → Value → Prop) (hCR2 : ∀ W W' v, CR2 W v → Old W W' → CR2 W' v)
    (c2 : ∀ W, Old w2 W → Calls Tryd.prog 16 #[.agg #[x2_0, x2_1]] W fun e w' => ∃ v, e = .returned v ∧ Old W w' ∧ CR2 w' v)
    (b2 : w2.heap[kb2]? = some (.cells #[x2_0, x2_1] 27 (0, 0)))
    (RES : World → Nat → Nat → Array Value → Value → Prop) (far : ∀ W W' lo hi (g0 : Array Value) (g1 : Value), RES W lo hi g0 g1 → (∀ b, lo ≤ b → b < hi → W'.heap[b]? = W.heap[b]?) → W.heap.size ≤ W'.heap.size → RES W' lo hi g0 g1)
    (cf : ∀ W v0 v1 v2, Old w2 W → CR0 W v0 → CR1 W v1 → CR2 W v2 → Calls Tryd.prog 26 #[v0, v1, v2] W fun e w' => ∃ (g0 : Array Value) (g1 : Value), e = .returned (.tuple #[.agg g0, g1]) ∧ Old W w' ∧ g0.size = 2 ∧ g0.all (·.oneCell') = true ∧ RES w' W.heap.size w'.heap.size g0 g1)
    (Q : Exit → Act → World → Prop) (K : Act → World → Prop) (a0 : Act) (hsz : 142 ≤ a0.tmps.size) (ha3 : a0.eval (.tmp 3) = .pointer (some ⟨kb0, 0, none⟩)) (ha4 : a0.eval (.tmp 4) = .pointer (some ⟨kb1, 0, none⟩)) (ha5 : a0.eval (.tmp 5) = .pointer (some ⟨kb2, 0, none⟩))
    (HK : Hid (∀ (k0 lo hi : Nat) (g0 : Array Value) (g1 : Value) (u115 u116 u117 u118 u119 u120 u121 u122 u123 u124 : Value) (W : World), Old w2 W → w2.heap.size ≤ lo → hi ≤ W.heap.size → RES W lo hi g0 g1 → W.heap[k0]? = some (.cells g0 33 (0, 0)) → w2.heap.size ≤ k0 → k0 < W.heap.size → (k0 < lo ∨ hi ≤ k0) → K (putAll a0 [(18, .pointer (some ⟨k0, 0, none⟩)), (19, g1), (115, u115), (116, u116), (117, u117), (118, u118), (119, u119), (120, u120), (121, u121), (122, u122), (123, u123), (124, u124)]) W)) :
    Code.wp Tryd.prog ((Tryd.f5.body.bind (regionAtreg9_SubRowsB 38)).getD .skip) (Exit.then K Q) a0 w2 := by
  conv => arg 2; whnf
  have e3 : ∀ l, (putAll a0 l).eval (.tmp 3) = (getKey l 3).getD (a0.eval (.tmp 3)) := eval_putAll a0 3 (by omega)
  have e4 : ∀ l, (putAll a0 l).eval (.tmp 4) = (getKey l 4).getD (a0.eval (.tmp 4)) := eval_putAll a0 4 (by omega)
  have e5 : ∀ l, (putAll a0 l).eval (.tmp 5) = (getKey l 5).getD (a0.eval (.tmp 5)) := eval_putAll a0 5 (by omega)
  have e18 : ∀ l, (putAll a0 l).eval (.tmp 18) = (getKey l 18).getD (a0.eval (.tmp 18)) := eval_putAll a0 18 (by omega)
  have e19 : ∀ l, (putAll a0 l).eval (.tmp 19) = (getKey l 19).getD (a0.eval (.tmp 19)) := eval_putAll a0 19 (by omega)
  have e115 : ∀ l, (putAll a0 l).eval (.tmp 115) = (getKey l 115).getD (a0.eval (.tmp 115)) := eval_putAll a0 115 (by omega)
  have e116 : ∀ l, (putAll a0 l).eval (.tmp 116) = (getKey l 116).getD (a0.eval (.tmp 116)) := eval_putAll a0 116 (by omega)
  have e117 : ∀ l, (putAll a0 l).eval (.tmp 117) = (getKey l 117).getD (a0.eval (.tmp 117)) := eval_putAll a0 117 (by omega)
  have e118 : ∀ l, (putAll a0 l).eval (.tmp 118) = (getKey l 118).getD (a0.eval (.tmp 118)) := eval_putAll a0 118 (by omega)
  have e119 : ∀ l, (putAll a0 l).eval (.tmp 119) = (getKey l 119).getD (a0.eval (.tmp 119)) := eval_putAll a0 119 (by omega)
  have e120 : ∀ l, (putAll a0 l).eval (.tmp 120) = (getKey l 120).getD (a0.eval (.tmp 120)) := eval_putAll a0 120 (by omega)
  have e121 : ∀ l, (putAll a0 l).eval (.tmp 121) = (getKey l 121).getD (a0.eval (.tmp 121)) := eval_putAll a0 121 (by omega)
  have e122 : ∀ l, (putAll a0 l).eval (.tmp 122) = (getKey l 122).getD (a0.eval (.tmp 122)) := eval_putAll a0 122 (by omega)
  have e123 : ∀ l, (putAll a0 l).eval (.tmp 123) = (getKey l 123).getD (a0.eval (.tmp 123)) := eval_putAll a0 123 (by omega)
  have e124 : ∀ l, (putAll a0 l).eval (.tmp 124) = (getKey l 124).getD (a0.eval (.tmp 124)) := eval_putAll a0 124 (by omega)
  refine wp_region_steps (fun d a W => ∃ (u18 u19 u115 u116 u117 u118 u119 u120 u121 u122 u123 u124 : Value) (k0 lo hi : Nat) (g0 : Array Value) (g1 : Value), a = (putAll a0 [(18, u18), (19, u19), (115, u115), (116, u116), (117, u117), (118, u118), (119, u119), (120, u120), (121, u121), (122, u122), (123, u123), (124, u124)]) ∧ (Old w2 W) ∧ (d 0 = true → u116 = .agg #[x0_0, x0_1]) ∧ (d 1 = true → d 6 = false → CR0 W u117) ∧ (d 2 = true → u118 = .agg #[x1_0, x1_1]) ∧ (d 3 = true → d 6 = false → CR1 W u119) ∧ (d 4 = true → u120 = .agg #[x2_0, x2_1]) ∧ (d 5 = true → d 6 = false → CR2 W u121) ∧ (d 6 = true → u122 = .tuple #[.agg g0, g1] ∧ w2.heap.size ≤ lo ∧ hi ≤ W.heap.size ∧ g0.size = 2 ∧ g0.all (·.oneCell') = true ∧ RES W lo hi g0 g1) ∧ (d 7 = true → u115 = .tuple #[.agg g0, g1]) ∧ (d 8 = true → u123 = .agg g0) ∧ (d 9 = true → u124 = g1) ∧ (d 10 = true → u18 = .pointer (some ⟨k0, 0, none⟩) ∧ w2.heap.size ≤ k0 ∧ k0 < W.heap.size) ∧ (d 10 = true → d 11 = false → W.heap[k0]? = some (.cells #[.bool false, .slice none 0 0] 33 (0, 0))) ∧ (d 11 = true → W.heap[k0]? = some (.cells g0 33 (0, 0))) ∧ (d 10 = true → d 6 = true → (k0 < lo ∨ hi ≤ k0)) ∧ (d 12 = true → u19 = g1) ∧ (d 7 = true → d 6 = true) ∧ (d 8 = true → d 6 = true) ∧ (d 11 = true → d 6 = true) ∧ (d 11 = true → d 10 = true) ∧ (d 9 = true → d 6 = true) ∧ (d 12 = true → d 6 = true)) rfl (by decide +kernel) (by decide +kernel) ?_ ⟨?_, ?_, ?_, ?_, ?_, ?_, ?_, ?_, ?_, ?_, ?_, ?_, ?_, trivial⟩ ?_
  · exact ⟨_, _, _, _, _, _, _, _, _, _, _, _, 0, 0, 0, #[], undef, (putAll_self a0 [18, 19, 115, 116, 117, 118, 119, 120, 121, 122, 123, 124] (by intro s hs; simp at hs; omega)).symm, Below.drew (Old.refl w2), (fun h => by cases h), (fun h => by cases h), (fun h => by cases h), (fun h => by cases h), (fun h => by cases h), (fun h => by cases h), (fun h => by cases h), (fun h => by cases h), (fun h => by cases h), (fun h => by cases h), (fun h => by cases h), (fun h => by cases h), (fun h => by cases h), (fun h => by cases h), (fun h => by cases h), (fun h => by cases h), (fun h => by cases h), (fun h => by cases h), (fun h => by cases h), (fun h => by cases h), (fun h => by cases h)⟩
  · rintro d a W ⟨u18, u19, u115, u116, u117, u118, u119, u120, u121, u122, u123, u124, k0, lo, hi, g0, g1, hfr, fold, fL0, fC0, fL1, fC1, fL2, fC2, fF, fM, fE0, fE1, fB0, fZ0, fS0, fX0, fA1, fO7_6, fO8_6, fO11_6, fO11_10, fO9_6, fO12_6⟩ hi_ hd
    simp [Region.binds] at hd
    refine op_load (k := kb0) (by rw [hfr, e3]; exact ha3) (fold.block _ (lt_of_some b0) |>.trans b0) Tryd.underlying24 rfl (by kernel_rfl) ?_
    exact ⟨u18, u19, u115, .agg #[x0_0, x0_1], u117, u118, u119, u120, u121, u122, u123, u124, k0, lo, hi, g0, g1, (by rw [hfr]; exact putAll_put a0 _ _ _ rfl), (fold),
      (fun _ => rfl),
      (fun h0 h1 => fC0 h0 h1),
      (fun h0 => fL1 h0),
      (fun h0 h1 => fC1 h0 h1),
      (fun h0 => fL2 h0),
      (fun h0 h1 => fC2 h0 h1),
      (fun h0 => fF h0),
      (fun h0 => fM h0),
      (fun h0 => fE0 h0),
      (fun h0 => fE1 h0),
      (fun h0 => fB0 h0),
      (fun h0 h1 => fZ0 h0 h1),
      (fun h0 => fS0 h0),
      (fun h0 h1 => fX0 h0 h1),
      (fun h0 => fA1 h0),
      (fun h => fO7_6 h),
      (fun h => fO8_6 h),
      (fun h => fO11_6 h),
      (fun h => fO11_10 h),
      (fun h => fO9_6 h),
      (fun h => fO12_6 h)⟩
  · rintro d a W ⟨u18, u19, u115, u116, u117, u118, u119, u120, u121, u122, u123, u124, k0, lo, hi, g0, g1, hfr, fold, fL0, fC0, fL1, fC1, fL2, fC2, fF, fM, fE0, fE1, fB0, fZ0, fS0, fX0, fA1, fO7_6, fO8_6, fO11_6, fO11_10, fO9_6, fO12_6⟩ hi_ hd
    simp [Region.binds] at hd
    have HD0 : d 0 = true := by simp only [hd]
    clear hd
    have hv := fL0 HD0
    refine op_call_ret Tryd.call15 (vs := #[.agg #[x0_0, x0_1]]) (by simp [hfr, e116, getKey, hv]) (c0 W fold) ?_
    rintro v W' ⟨g, hcr⟩
    exact ⟨u18, u19, u115, u116, v, u118, u119, u120, u121, u122, u123, u124, k0, lo, hi, g0, g1, (by rw [hfr]; exact putAll_put a0 _ _ _ rfl), (Old.trans fold g),
      (fun h0 => fL0 h0),
      (fun _ _ => hcr),
      (fun h0 => fL1 h0),
      (fun h0 h1 => hCR1 _ _ _ (fC1 h0 h1) g),
      (fun h0 => fL2 h0),
      (fun h0 h1 => hCR2 _ _ _ (fC2 h0 h1) g),
      (fun h0 => by obtain ⟨e1, e2, e3, z0, y0, e9⟩ := fF h0; exact ⟨e1, e2, Nat.le_trans e3 g.size, z0, y0, far _ _ _ _ _ _ e9 (fun b _ hb => g.block b (by omega)) g.size⟩),
      (fun h0 => fM h0),
      (fun h0 => fE0 h0),
      (fun h0 => fE1 h0),
      (fun h0 => by obtain ⟨e1, e2, e3⟩ := fB0 h0; exact ⟨e1, e2, Nat.lt_of_lt_of_le e3 g.size⟩),
      (fun h0 h1 => (g.block _ (lt_of_some (fZ0 h0 h1))).trans (fZ0 h0 h1)),
      (fun h0 => (g.block _ (lt_of_some (fS0 h0))).trans (fS0 h0)),
      (fun h0 h1 => fX0 h0 h1),
      (fun h0 => fA1 h0),
      (fun h => fO7_6 h),
      (fun h => fO8_6 h),
      (fun h => fO11_6 h),
      (fun h => fO11_10 h),
      (fun h => fO9_6 h),
      (fun h => fO12_6 h)⟩
  · rintro d a W ⟨u18, u19, u115, u116, u117, u118, u119, u120, u121, u122, u123, u124, k0, lo, hi, g0, g1, hfr, fold, fL0, fC0, fL1, fC1, fL2, fC2, fF, fM, fE0, fE1, fB0, fZ0, fS0, fX0, fA1, fO7_6, fO8_6, fO11_6, fO11_10, fO9_6, fO12_6⟩ hi_ hd
    simp [Region.binds] at hd
    refine op_load (k := kb1) (by rw [hfr, e4]; exact ha4) (fold.block _ (lt_of_some b1) |>.trans b1) Tryd.underlying27 rfl (by kernel_rfl) ?_
    exact ⟨u18, u19, u115, u116, u117, .agg #[x1_0, x1_1], u119, u120, u121, u122, u123, u124, k0, lo, hi, g0, g1, (by rw [hfr]; exact putAll_put a0 _ _ _ rfl), (fold),
      (fun h0 => fL0 h0),
      (fun h0 h1 => fC0 h0 h1),
      (fun _ => rfl),
      (fun h0 h1 => fC1 h0 h1),
      (fun h0 => fL2 h0),
      (fun h0 h1 => fC2 h0 h1),
      (fun h0 => fF h0),
      (fun h0 => fM h0),
      (fun h0 => fE0 h0),
      (fun h0 => fE1 h0),
      (fun h0 => fB0 h0),
      (fun h0 h1 => fZ0 h0 h1),
      (fun h0 => fS0 h0),
      (fun h0 h1 => fX0 h0 h1),
      (fun h0 => fA1 h0),
      (fun h => fO7_6 h),
      (fun h => fO8_6 h),
      (fun h => fO11_6 h),
      (fun h => fO11_10 h),
      (fun h => fO9_6 h),
      (fun h => fO12_6 h)⟩
  · rintro d a W ⟨u18, u19, u115, u116, u117, u118, u119, u120, u121, u122, u123, u124, k0, lo, hi, g0, g1, hfr, fold, fL0, fC0, fL1, fC1, fL2, fC2, fF, fM, fE0, fE1, fB0, fZ0, fS0, fX0, fA1, fO7_6, fO8_6, fO11_6, fO11_10, fO9_6, fO12_6⟩ hi_ hd
    simp [Region.binds] at hd
    have HD2 : d 2 = true := by simp only [hd]
    clear hd
    have hv := fL1 HD2
    refine op_call_ret Tryd.call16 (vs := #[.agg #[x1_0, x1_1]]) (by simp [hfr, e118, getKey, hv]) (c1 W fold) ?_
    rintro v W' ⟨g, hcr⟩
    exact ⟨u18, u19, u115, u116, u117, u118, v, u120, u121, u122, u123, u124, k0, lo, hi, g0, g1, (by rw [hfr]; exact putAll_put a0 _ _ _ rfl), (Old.trans fold g),
      (fun h0 => fL0 h0),
      (fun h0 h1 => hCR0 _ _ _ (fC0 h0 h1) g),
      (fun h0 => fL1 h0),
      (fun _ _ => hcr),
      (fun h0 => fL2 h0),
      (fun h0 h1 => hCR2 _ _ _ (fC2 h0 h1) g),
      (fun h0 => by obtain ⟨e1, e2, e3, z0, y0, e9⟩ := fF h0; exact ⟨e1, e2, Nat.le_trans e3 g.size, z0, y0, far _ _ _ _ _ _ e9 (fun b _ hb => g.block b (by omega)) g.size⟩),
      (fun h0 => fM h0),
      (fun h0 => fE0 h0),
      (fun h0 => fE1 h0),
      (fun h0 => by obtain ⟨e1, e2, e3⟩ := fB0 h0; exact ⟨e1, e2, Nat.lt_of_lt_of_le e3 g.size⟩),
      (fun h0 h1 => (g.block _ (lt_of_some (fZ0 h0 h1))).trans (fZ0 h0 h1)),
      (fun h0 => (g.block _ (lt_of_some (fS0 h0))).trans (fS0 h0)),
      (fun h0 h1 => fX0 h0 h1),
      (fun h0 => fA1 h0),
      (fun h => fO7_6 h),
      (fun h => fO8_6 h),
      (fun h => fO11_6 h),
      (fun h => fO11_10 h),
      (fun h => fO9_6 h),
      (fun h => fO12_6 h)⟩
  · rintro d a W ⟨u18, u19, u115, u116, u117, u118, u119, u120, u121, u122, u123, u124, k0, lo, hi, g0, g1, hfr, fold, fL0, fC0, fL1, fC1, fL2, fC2, fF, fM, fE0, fE1, fB0, fZ0, fS0, fX0, fA1, fO7_6, fO8_6, fO11_6, fO11_10, fO9_6, fO12_6⟩ hi_ hd
    simp [Region.binds] at hd
    refine op_load (k := kb2) (by rw [hfr, e5]; exact ha5) (fold.block _ (lt_of_some b2) |>.trans b2) Tryd.underlying27 rfl (by kernel_rfl) ?_
    exact ⟨u18, u19, u115, u116, u117, u118, u119, .agg #[x2_0, x2_1], u121, u122, u123, u124, k0, lo, hi, g0, g1, (by rw [hfr]; exact putAll_put a0 _ _ _ rfl), (fold),
      (fun h0 => fL0 h0),
      (fun h0 h1 => fC0 h0 h1),
      (fun h0 => fL1 h0),
      (fun h0 h1 => fC1 h0 h1),
      (fun _ => rfl),
      (fun h0 h1 => fC2 h0 h1),
      (fun h0 => fF h0),
      (fun h0 => fM h0),
      (fun h0 => fE0 h0),
      (fun h0 => fE1 h0),
      (fun h0 => fB0 h0),
      (fun h0 h1 => fZ0 h0 h1),
      (fun h0 => fS0 h0),
      (fun h0 h1 => fX0 h0 h1),
      (fun h0 => fA1 h0),
      (fun h => fO7_6 h),
      (fun h => fO8_6 h),
      (fun h => fO11_6 h),
      (fun h => fO11_10 h),
      (fun h => fO9_6 h),
      (fun h => fO12_6 h)⟩
  · rintro d a W ⟨u18, u19, u115, u116, u117, u118, u119, u120, u121, u122, u123, u124, k0, lo, hi, g0, g1, hfr, fold, fL0, fC0, fL1, fC1, fL2, fC2, fF, fM, fE0, fE1, fB0, fZ0, fS0, fX0, fA1, fO7_6, fO8_6, fO11_6, fO11_10, fO9_6, fO12_6⟩ hi_ hd
    simp [Region.binds] at hd
    have HD4 : d 4 = true := by simp only [hd]
    clear hd
    have hv := fL2 HD4
    refine op_call_ret Tryd.call16 (vs := #[.agg #[x2_0, x2_1]]) (by simp [hfr, e120, getKey, hv]) (c2 W fold) ?_
    rintro v W' ⟨g, hcr⟩
    exact ⟨u18, u19, u115, u116, u117, u118, u119, u120, v, u122, u123, u124, k0, lo, hi, g0, g1, (by rw [hfr]; exact putAll_put a0 _ _ _ rfl), (Old.trans fold g),
      (fun h0 => fL0 h0),
      (fun h0 h1 => hCR0 _ _ _ (fC0 h0 h1) g),
      (fun h0 => fL1 h0),
      (fun h0 h1 => hCR1 _ _ _ (fC1 h0 h1) g),
      (fun h0 => fL2 h0),
      (fun _ _ => hcr),
      (fun h0 => by obtain ⟨e1, e2, e3, z0, y0, e9⟩ := fF h0; exact ⟨e1, e2, Nat.le_trans e3 g.size, z0, y0, far _ _ _ _ _ _ e9 (fun b _ hb => g.block b (by omega)) g.size⟩),
      (fun h0 => fM h0),
      (fun h0 => fE0 h0),
      (fun h0 => fE1 h0),
      (fun h0 => by obtain ⟨e1, e2, e3⟩ := fB0 h0; exact ⟨e1, e2, Nat.lt_of_lt_of_le e3 g.size⟩),
      (fun h0 h1 => (g.block _ (lt_of_some (fZ0 h0 h1))).trans (fZ0 h0 h1)),
      (fun h0 => (g.block _ (lt_of_some (fS0 h0))).trans (fS0 h0)),
      (fun h0 h1 => fX0 h0 h1),
      (fun h0 => fA1 h0),
      (fun h => fO7_6 h),
      (fun h => fO8_6 h),
      (fun h => fO11_6 h),
      (fun h => fO11_10 h),
      (fun h => fO9_6 h),
      (fun h => fO12_6 h)⟩
  · rintro d a W ⟨u18, u19, u115, u116, u117, u118, u119, u120, u121, u122, u123, u124, k0, lo, hi, g0, g1, hfr, fold, fL0, fC0, fL1, fC1, fL2, fC2, fF, fM, fE0, fE1, fB0, fZ0, fS0, fX0, fA1, fO7_6, fO8_6, fO11_6, fO11_10, fO9_6, fO12_6⟩ hi_ hd
    simp [Region.binds] at hd
    have HD1 : d 1 = true := by simp only [hd]
    have HD3 : d 3 = true := by simp only [hd]
    have HD5 : d 5 = true := by simp only [hd]
    clear hd
    refine op_call_ret (R := fun v w' => ∃ (g0 : Array Value) (g1 : Value), v = .tuple #[.agg g0, g1] ∧ Old W w' ∧ g0.size = 2 ∧ g0.all (·.oneCell') = true ∧ RES w' W.heap.size w'.heap.size g0 g1) Tryd.call26 (vs := #[u117, u119, u121]) (by simp [hfr, e117, e119, e121, getKey]) ((cf W _ _ _ fold (fC0 HD1 hi_) (fC1 HD3 hi_) (fC2 HD5 hi_)).mono (fun e w' h => by obtain ⟨g0, g1, rfl, h⟩ := h; exact ⟨_, rfl, g0, g1, rfl, h⟩)) ?_
    rintro v W' ⟨r0, r1, rfl, g, z0, y0, hres⟩
    exact ⟨u18, u19, u115, u116, u117, u118, u119, u120, u121, .tuple #[.agg r0, r1], u123, u124, k0, W.heap.size, W'.heap.size, r0, r1, (by rw [hfr]; exact putAll_put a0 _ _ _ rfl), (Old.trans fold g),
      (fun h0 => fL0 h0),
      (fun h0 h1 => by cases h1),
      (fun h0 => fL1 h0),
      (fun h0 h1 => by cases h1),
      (fun h0 => fL2 h0),
      (fun h0 h1 => by cases h1),
      (fun _ => ⟨rfl, (fold.size), Nat.le_refl _, z0, y0, hres⟩),
      (fun h0 => by have hx_ := fO7_6 h0; rw [hi_] at hx_; cases hx_),
      (fun h0 => by have hx_ := fO8_6 h0; rw [hi_] at hx_; cases hx_),
      (fun h0 => by have hx_ := fO9_6 h0; rw [hi_] at hx_; cases hx_),
      (fun h0 => by obtain ⟨e1, e2, e3⟩ := fB0 h0; exact ⟨e1, e2, Nat.lt_of_lt_of_le e3 g.size⟩),
      (fun h0 h1 => (g.block _ (lt_of_some (fZ0 h0 h1))).trans (fZ0 h0 h1)),
      (fun h0 => by have hx_ := fO11_6 h0; rw [hi_] at hx_; cases hx_),
      (fun hb _ => Or.inl (fB0 hb).2.2),
      (fun h0 => by have hx_ := fO12_6 h0; rw [hi_] at hx_; cases hx_),
      (fun _ => rfl),
      (fun _ => rfl),
      (fun _ => rfl),
      (fun h => fO11_10 h),
      (fun _ => rfl),
      (fun _ => rfl)⟩
  · rintro d a W ⟨u18, u19, u115, u116, u117, u118, u119, u120, u121, u122, u123, u124, k0, lo, hi, g0, g1, hfr, fold, fL0, fC0, fL1, fC1, fL2, fC2, fF, fM, fE0, fE1, fB0, fZ0, fS0, fX0, fA1, fO7_6, fO8_6, fO11_6, fO11_10, fO9_6, fO12_6⟩ hi_ hd
    simp [Region.binds] at hd
    have HD6 : d 6 = true := by simp only [hd]
    clear hd
    have hv := (fF HD6).1
    refine op_move ?_
    rw [show a.eval (.tmp 122) = .tuple #[.agg g0, g1] by rw [hfr, e122]; exact hv]
    exact ⟨u18, u19, .tuple #[.agg g0, g1], u116, u117, u118, u119, u120, u121, u122, u123, u124, k0, lo, hi, g0, g1, (by rw [hfr]; exact putAll_put a0 _ _ _ rfl), (fold),
      (fun h0 => fL0 h0),
      (fun h0 h1 => fC0 h0 h1),
      (fun h0 => fL1 h0),
      (fun h0 h1 => fC1 h0 h1),
      (fun h0 => fL2 h0),
      (fun h0 h1 => fC2 h0 h1),
      (fun h0 => fF h0),
      (fun _ => rfl),
      (fun h0 => fE0 h0),
      (fun h0 => fE1 h0),
      (fun h0 => fB0 h0),
      (fun h0 h1 => fZ0 h0 h1),
      (fun h0 => fS0 h0),
      (fun h0 h1 => fX0 h0 h1),
      (fun h0 => fA1 h0),
      (fun _ => HD6),
      (fun h => fO8_6 h),
      (fun h => fO11_6 h),
      (fun h => fO11_10 h),
      (fun h => fO9_6 h),
      (fun h => fO12_6 h)⟩
  · rintro d a W ⟨u18, u19, u115, u116, u117, u118, u119, u120, u121, u122, u123, u124, k0, lo, hi, g0, g1, hfr, fold, fL0, fC0, fL1, fC1, fL2, fC2, fF, fM, fE0, fE1, fB0, fZ0, fS0, fX0, fA1, fO7_6, fO8_6, fO11_6, fO11_10, fO9_6, fO12_6⟩ hi_ hd
    simp [Region.binds] at hd
    have HD7 : d 7 = true := by simp only [hd]
    have HD6 : d 6 = true := fO7_6 HD7
    clear hd
    have hv := fM HD7
    refine op_extract (by rw [hfr, e115]; exact hv) rfl ?_
    exact ⟨u18, u19, u115, u116, u117, u118, u119, u120, u121, u122, .agg g0, u124, k0, lo, hi, g0, g1, (by rw [hfr]; exact putAll_put a0 _ _ _ rfl), (fold),
      (fun h0 => fL0 h0),
      (fun h0 h1 => fC0 h0 h1),
      (fun h0 => fL1 h0),
      (fun h0 h1 => fC1 h0 h1),
      (fun h0 => fL2 h0),
      (fun h0 h1 => fC2 h0 h1),
      (fun h0 => fF h0),
      (fun h0 => fM h0),
      (fun _ => rfl),
      (fun h0 => fE1 h0),
      (fun h0 => fB0 h0),
      (fun h0 h1 => fZ0 h0 h1),
      (fun h0 => fS0 h0),
      (fun h0 h1 => fX0 h0 h1),
      (fun h0 => fA1 h0),
      (fun h => fO7_6 h),
      (fun _ => HD6),
      (fun h => fO11_6 h),
      (fun h => fO11_10 h),
      (fun h => fO9_6 h),
      (fun h => fO12_6 h)⟩
  · rintro d a W ⟨u18, u19, u115, u116, u117, u118, u119, u120, u121, u122, u123, u124, k0, lo, hi, g0, g1, hfr, fold, fL0, fC0, fL1, fC1, fL2, fC2, fF, fM, fE0, fE1, fB0, fZ0, fS0, fX0, fA1, fO7_6, fO8_6, fO11_6, fO11_10, fO9_6, fO12_6⟩ hi_ hd
    simp [Region.binds] at hd
    have HD7 : d 7 = true := by simp only [hd]
    have HD6 : d 6 = true := fO7_6 HD7
    clear hd
    have hv := fM HD7
    refine op_extract (by rw [hfr, e115]; exact hv) rfl ?_
    exact ⟨u18, u19, u115, u116, u117, u118, u119, u120, u121, u122, u123, g1, k0, lo, hi, g0, g1, (by rw [hfr]; exact putAll_put a0 _ _ _ rfl), (fold),
      (fun h0 => fL0 h0),
      (fun h0 h1 => fC0 h0 h1),
      (fun h0 => fL1 h0),
      (fun h0 h1 => fC1 h0 h1),
      (fun h0 => fL2 h0),
      (fun h0 h1 => fC2 h0 h1),
      (fun h0 => fF h0),
      (fun h0 => fM h0),
      (fun h0 => fE0 h0),
      (fun _ => rfl),
      (fun h0 => fB0 h0),
      (fun h0 h1 => fZ0 h0 h1),
      (fun h0 => fS0 h0),
      (fun h0 h1 => fX0 h0 h1),
      (fun h0 => fA1 h0),
      (fun h => fO7_6 h),
      (fun h => fO8_6 h),
      (fun h => fO11_6 h),
      (fun h => fO11_10 h),
      (fun _ => HD6),
      (fun h => fO12_6 h)⟩
  · rintro d a W ⟨u18, u19, u115, u116, u117, u118, u119, u120, u121, u122, u123, u124, k0, lo, hi, g0, g1, hfr, fold, fL0, fC0, fL1, fC1, fL2, fC2, fF, fM, fE0, fE1, fB0, fZ0, fS0, fX0, fA1, fO7_6, fO8_6, fO11_6, fO11_10, fO9_6, fO12_6⟩ hi_ hd
    simp [Region.binds] at hd
    refine op_alloc (z := .agg #[.bool false, .slice none 0 0]) (by kernel_rfl) ?_
    have g : Old W (W.alloc (.cells #[.bool false, .slice none 0 0] 33)) := (Old.refl W).alloc _
    exact ⟨.pointer (some ⟨W.heap.size, 0, none⟩), u19, u115, u116, u117, u118, u119, u120, u121, u122, u123, u124, W.heap.size, lo, hi, g0, g1, (by rw [hfr]; exact putAll_put a0 _ _ _ rfl), (Old.trans fold g),
      (fun h0 => fL0 h0),
      (fun h0 h1 => hCR0 _ _ _ (fC0 h0 h1) g),
      (fun h0 => fL1 h0),
      (fun h0 h1 => hCR1 _ _ _ (fC1 h0 h1) g),
      (fun h0 => fL2 h0),
      (fun h0 h1 => hCR2 _ _ _ (fC2 h0 h1) g),
      (fun h0 => by obtain ⟨e1, e2, e3, z0, y0, e9⟩ := fF h0; exact ⟨e1, e2, Nat.le_trans e3 g.size, z0, y0, far _ _ _ _ _ _ e9 (fun b _ hb => g.block b (by omega)) g.size⟩),
      (fun h0 => fM h0),
      (fun h0 => fE0 h0),
      (fun h0 => fE1 h0),
      (fun _ => ⟨rfl, fold.size, by simp⟩),
      (fun _ _ => heap_alloc_new W _),
      (fun h0 => by have hx_ := fO11_10 h0; rw [hi_] at hx_; cases hx_),
      (fun _ hf => Or.inr (fF hf).2.2.1),
      (fun h0 => fA1 h0),
      (fun h => fO7_6 h),
      (fun h => fO8_6 h),
      (fun h => fO11_6 h),
      (fun _ => rfl),
      (fun h => fO9_6 h),
      (fun h => fO12_6 h)⟩
  · rintro d a W ⟨u18, u19, u115, u116, u117, u118, u119, u120, u121, u122, u123, u124, k0, lo, hi, g0, g1, hfr, fold, fL0, fC0, fL1, fC1, fL2, fC2, fF, fM, fE0, fE1, fB0, fZ0, fS0, fX0, fA1, fO7_6, fO8_6, fO11_6, fO11_10, fO9_6, fO12_6⟩ hi_ hd
    simp [Region.binds] at hd
    have HD6 : d 6 = true := by simp only [hd]
    have HD8 : d 8 = true := by simp only [hd]
    have HD10 : d 10 = true := by simp only [hd]
    clear hd
    obtain ⟨hp, hlo, hlt⟩ := fB0 HD10
    have hv := fE0 HD8
    have hz := fZ0 HD10 hi_
    obtain ⟨eF, lF, hF, z0, y0, rF⟩ := fF HD6
    have hx := fX0 HD10 HD6
    refine op_store (k := k0) (by rw [hfr, e18]; exact hp) (by rw [hfr, e123]; exact hv) hz (by rw [z0]; kernel_rfl) (by rw [z0]; rfl) y0 ?_
    have hsz2 : (W.setRow k0 g0).heap.size = W.heap.size := size_setRow _ _ _
    have hot : ∀ b, b ≠ k0 → (W.setRow k0 g0).heap[b]? = W.heap[b]? := fun b hb => heap_setRow_other _ _ _ _ hb
    exact ⟨u18, u19, u115, u116, u117, u118, u119, u120, u121, u122, u123, u124, k0, lo, hi, g0, g1, hfr, (old_setRow fold hlo _),
      (fun h0 => fL0 h0),
      (fun h0 h1 => by have hx_ : d 6 = false := h1; rw [HD6] at hx_; cases hx_),
      (fun h0 => fL1 h0),
      (fun h0 h1 => by have hx_ : d 6 = false := h1; rw [HD6] at hx_; cases hx_),
      (fun h0 => fL2 h0),
      (fun h0 h1 => by have hx_ : d 6 = false := h1; rw [HD6] at hx_; cases hx_),
      (fun h0 => ⟨eF, lF, by rw [hsz2]; exact hF, z0, y0, far _ _ _ _ _ _ rF (fun b h1 h2 => hot b (by omega)) (by rw [hsz2]; exact Nat.le_refl _)⟩),
      (fun h0 => fM h0),
      (fun h0 => fE0 h0),
      (fun h0 => fE1 h0),
      (fun h0 => ⟨hp, hlo, by rw [hsz2]; exact hlt⟩),
      (fun h0 h1 => by cases h1),
      (fun _ => heap_setRow_same hz),
      (fun h0 h1 => fX0 h0 h1),
      (fun h0 => fA1 h0),
      (fun h => fO7_6 h),
      (fun h => fO8_6 h),
      (fun _ => HD6),
      (fun _ => HD10),
      (fun h => fO9_6 h),
      (fun h => fO12_6 h)⟩
  · rintro d a W ⟨u18, u19, u115, u116, u117, u118, u119, u120, u121, u122, u123, u124, k0, lo, hi, g0, g1, hfr, fold, fL0, fC0, fL1, fC1, fL2, fC2, fF, fM, fE0, fE1, fB0, fZ0, fS0, fX0, fA1, fO7_6, fO8_6, fO11_6, fO11_10, fO9_6, fO12_6⟩ hi_ hd
    simp [Region.binds] at hd
    have HD6 : d 6 = true := by simp only [hd]
    have HD9 : d 9 = true := by simp only [hd]
    clear hd
    have hv := fE1 HD9
    refine op_assign ?_
    rw [show a.eval (.tmp 124) = g1 by rw [hfr, e124]; exact hv]
    exact ⟨u18, g1, u115, u116, u117, u118, u119, u120, u121, u122, u123, u124, k0, lo, hi, g0, g1, (by rw [hfr]; exact putAll_put a0 _ _ _ rfl), (fold),
      (fun h0 => fL0 h0),
      (fun h0 h1 => fC0 h0 h1),
      (fun h0 => fL1 h0),
      (fun h0 h1 => fC1 h0 h1),
      (fun h0 => fL2 h0),
      (fun h0 h1 => fC2 h0 h1),
      (fun h0 => fF h0),
      (fun h0 => fM h0),
      (fun h0 => fE0 h0),
      (fun h0 => fE1 h0),
      (fun h0 => fB0 h0),
      (fun h0 h1 => fZ0 h0 h1),
      (fun h0 => fS0 h0),
      (fun h0 h1 => fX0 h0 h1),
      (fun _ => rfl),
      (fun h => fO7_6 h),
      (fun h => fO8_6 h),
      (fun h => fO11_6 h),
      (fun h => fO11_10 h),
      (fun h => fO9_6 h),
      (fun _ => HD6)⟩
  · rintro d a W hd ⟨u18, u19, u115, u116, u117, u118, u119, u120, u121, u122, u123, u124, k0, lo, hi, g0, g1, hfr, fold, fL0, fC0, fL1, fC1, fL2, fC2, fF, fM, fE0, fE1, fB0, fZ0, fS0, fX0, fA1, fO7_6, fO8_6, fO11_6, fO11_10, fO9_6, fO12_6⟩
    have hd2 : ∀ i, i < 13 → d i = true := hd
    clear hd
    have HD0 : d 0 = true := hd2 0 (by omega)
    have HD1 : d 1 = true := hd2 1 (by omega)
    have HD2 : d 2 = true := hd2 2 (by omega)
    have HD3 : d 3 = true := hd2 3 (by omega)
    have HD4 : d 4 = true := hd2 4 (by omega)
    have HD5 : d 5 = true := hd2 5 (by omega)
    have HD6 : d 6 = true := hd2 6 (by omega)
    have HD7 : d 7 = true := hd2 7 (by omega)
    have HD8 : d 8 = true := hd2 8 (by omega)
    have HD9 : d 9 = true := hd2 9 (by omega)
    have HD10 : d 10 = true := hd2 10 (by omega)
    have HD11 : d 11 = true := hd2 11 (by omega)
    have HD12 : d 12 = true := hd2 12 (by omega)
    obtain ⟨eF, lF, hF, z0, y0, rF⟩ := fF HD6
    obtain ⟨hp0, hlo0, hlt0⟩ := fB0 HD10
    rw [hp0] at hfr
    have ha_1 := fA1 HD12
    rw [ha_1] at hfr
    show K a W
    rw [hfr]
    exact HK.out k0 lo hi g0 g1 u115 u116 u117 u118 u119 u120 u121 u122 u123 u124 W fold lF hF rF (fS0 HD11) hlo0 hlt0 (fX0 HD10 HD6)
end Go.Proofs.YtinldhoimnbkhaaDoor
/- Proved: the walk of the statement FnExactSubRows, under what each function that it calls does. -/
namespace Go.Proofs.YtinldhoimnbkhaaDoor
open Go.ChangeShapes Go.WideShapes Go.ChangeAt Go.RowKit
set_option linter.unusedVariables false
set_option linter.unusedSimpArgs false
set_option maxRecDepth 100000 in
set_option maxHeartbeats 16000000 in
theorem law9_SubRows (w : World) (Np0 : Int) (lp0 : Nat) (ap0 : Option Addr) (cp0 : Nat) (bp1 : Bool) (lp1 : Nat) (ap1 : Option Addr) (cp1 : Nat) (bp2 : Bool) (lp2 : Nat) (ap2 : Option Addr) (cp2 : Nat) (br0 : Bool) (lr0 : Nat) (br1 : Bool) (L0 L1 L2 : Int)
    (csz0 : ∀ W, Old w W → Calls Tryd.prog 12 #[.agg #[.int .i64 Np0, .slice ap0 lp0 cp0], .int .i64 1048576] W fun e w' => e = .returned (.int .i64 L0) ∧ Old W w')
    (csz1 : ¬ L0 < 0 → ∀ W, Old w W → Calls Tryd.prog 13 #[.agg #[.bool bp1, .slice ap1 lp1 cp1], .int .i64 L0] W fun e w' => e = .returned (.int .i64 L1) ∧ Old W w')
    (csz2 : ¬ L0 < 0 → ¬ L1 < 0 → ∀ W, Old w W → Calls Tryd.prog 13 #[.agg #[.bool bp2, .slice ap2 lp2 cp2], .int .i64 L1] W fun e w' => e = .returned (.int .i64 L2) ∧ Old W w')
    (X0 : World → Nat → Nat → Array Value → Prop) (fX0 : Far X0) (hX0 : ∀ W lo hi g, X0 W lo hi g → ∃ a c, g = #[.int .i64 Np0, .slice a lp0 c])
    (cto0 : ¬ L0 < 0 → ¬ L1 < 0 → ¬ L2 < 0 → ∀ W, Old w W → Calls Tryd.prog 15 #[.agg #[.int .i64 Np0, .slice ap0 lp0 cp0]] W fun e w' => ∃ g, e = .returned (.agg g) ∧ Old W w' ∧ X0 w' W.heap.size w'.heap.size g)
    (ceq0 : ¬ L0 < 0 → ¬ L1 < 0 → ¬ L2 < 0 → ∀ W lo hi g lo' hi' g', X0 W lo hi g → X0 W lo' hi' g' → Calls Tryd.prog 18 #[.agg g, .agg g'] W fun e w' => e = .returned (.bool true) ∧ Old W w')
    (k0 : Int) (hk0 : 0 ≤ k0) (cmk0 : ¬ L0 < 0 → ¬ L1 < 0 → ¬ L2 < 0 → ∀ W lo hi g, X0 W lo hi g → Calls Tryd.prog 22 #[.agg g, .int .i64 1] W fun e w' => e = .returned (.int .i64 k0) ∧ Chg W w' lo hi)
    (X1 : World → Nat → Nat → Array Value → Prop) (fX1 : Far X1) (hX1 : ∀ W lo hi g, X1 W lo hi g → ∃ a c, g = #[.bool bp1, .slice a lp1 c])
    (cto1 : ¬ L0 < 0 → ¬ L1 < 0 → ¬ L2 < 0 → ∀ W, Old w W → Calls Tryd.prog 16 #[.agg #[.bool bp1, .slice ap1 lp1 cp1]] W fun e w' => ∃ g, e = .returned (.agg g) ∧ Old W w' ∧ X1 w' W.heap.size w'.heap.size g)
    (ceq1 : ¬ L0 < 0 → ¬ L1 < 0 → ¬ L2 < 0 → ∀ W lo hi g lo' hi' g', X1 W lo hi g → X1 W lo' hi' g' → Calls Tryd.prog 19 #[.agg g, .agg g'] W fun e w' => e = .returned (.bool true) ∧ Old W w')
    (k1 : Int) (hk1 : 0 ≤ k1) (cmk1 : ¬ L0 < 0 → ¬ L1 < 0 → ¬ L2 < 0 → ∀ W lo hi g, X1 W lo hi g → Calls Tryd.prog 23 #[.agg g, .int .i64 k0] W fun e w' => e = .returned (.int .i64 k1) ∧ Chg W w' lo hi)
    (X2 : World → Nat → Nat → Array Value → Prop) (fX2 : Far X2) (hX2 : ∀ W lo hi g, X2 W lo hi g → ∃ a c, g = #[.bool bp2, .slice a lp2 c])
    (cto2 : ¬ L0 < 0 → ¬ L1 < 0 → ¬ L2 < 0 → ∀ W, Old w W → Calls Tryd.prog 16 #[.agg #[.bool bp2, .slice ap2 lp2 cp2]] W fun e w' => ∃ g, e = .returned (.agg g) ∧ Old W w' ∧ X2 w' W.heap.size w'.heap.size g)
    (ceq2 : ¬ L0 < 0 → ¬ L1 < 0 → ¬ L2 < 0 → ∀ W lo hi g lo' hi' g', X2 W lo hi g → X2 W lo' hi' g' → Calls Tryd.prog 19 #[.agg g, .agg g'] W fun e w' => e = .returned (.bool true) ∧ Old W w')
    (k2 : Int) (hk2 : 0 ≤ k2) (cmk2 : ¬ L0 < 0 → ¬ L1 < 0 → ¬ L2 < 0 → ∀ W lo hi g, X2 W lo hi g → Calls Tryd.prog 23 #[.agg g, .int .i64 k1] W fun e w' => e = .returned (.int .i64 k2) ∧ Chg W w' lo hi)
    (SR : World → Nat → Nat → Array Value → Prop) (fSR : Far SR) (hSR : ∀ W lo hi p, SR W lo hi p → ∃ a0 c0, p = #[.bool br0, .slice a0 lr0 c0])
    (IR0 : World → Nat → Nat → Array Value → Prop) (fIR0 : Far IR0) (hIR0 : ∀ W lo hi p, IR0 W lo hi p → ∃ a0 c0, p = #[.bool br0, .slice a0 lr0 c0])
    (IR1 : World → Nat → Nat → Array Value → Prop) (fIR1 : Far IR1) (hIR1 : ∀ W lo hi p, IR1 W lo hi p → ∃ a0 c0, p = #[.bool br0, .slice a0 lr0 c0])
    (csp : ¬ L0 < 0 → ¬ L1 < 0 → ¬ L2 < 0 → ∀ W lo0 hi0 g0 lo1 hi1 g1 lo2 hi2 g2, X0 W lo0 hi0 g0 → X1 W lo1 hi1 g1 → X2 W lo2 hi2 g2 → Old w W → Calls Tryd.prog 25 #[.agg g0, .agg g1, .agg g2] W fun e w' => ∃ r0, e = .returned (.tuple #[.agg r0, .bool br1]) ∧ Old W w' ∧ SR w' W.heap.size w'.heap.size r0)
    (cim : ¬ L0 < 0 → ¬ L1 < 0 → ¬ L2 < 0 → ∀ W lo0 hi0 g0 lo1 hi1 g1 lo2 hi2 g2, X0 W lo0 hi0 g0 → X1 W lo1 hi1 g1 → X2 W lo2 hi2 g2 → Old w W → Calls Tryd.prog 26 #[.agg g0, .agg g1, .agg g2] W fun e w' => ∃ r0, e = .returned (.tuple #[.agg r0, .bool br1]) ∧ Old W w' ∧ IR0 w' W.heap.size w'.heap.size r0)
    (cer0 : ¬ L0 < 0 → ¬ L1 < 0 → ¬ L2 < 0 → ∀ W lo hi p lo' hi' p', IR0 W lo hi p → SR W lo' hi' p' → Calls Tryd.prog 19 #[.agg p, .agg p'] W fun e w' => e = .returned (.bool true) ∧ Old W w')
    (m0 : Int) (hm0 : 0 ≤ m0) (cmr0 : ¬ L0 < 0 → ¬ L1 < 0 → ¬ L2 < 0 → ∀ W lo hi p, IR0 W lo hi p → Calls Tryd.prog 23 #[.agg p, .int .i64 1] W fun e w' => e = .returned (.int .i64 m0) ∧ Chg W w' lo hi ∧ IR1 w' lo hi p)
    (chr0 : ¬ L0 < 0 → ¬ L1 < 0 → ¬ L2 < 0 → ∀ W lo hi p, IR1 W lo hi p → Calls Tryd.prog 24 #[.agg p, .int .i64 1] W fun e w' => e = .returned (.int .i64 m0) ∧ Old W w') :
    Calls Tryd.prog 5 #[.agg #[.int .i64 Np0, .slice ap0 lp0 cp0], .agg #[.bool bp1, .slice ap1 lp1 cp1], .agg #[.bool bp2, .slice ap2 lp2 cp2]] w fun e w' => e = .returned (.bool true) ∧ Old w w' := by
  have HA : Hid (Old w (((w.alloc (.cells #[.int .i64 Np0, .slice ap0 lp0 cp0] 24)).alloc (.cells #[.bool bp1, .slice ap1 lp1 cp1] 27)).alloc (.cells #[.bool bp2, .slice ap2 lp2 cp2] 27))) := ((((Old.refl w).alloc _).alloc _).alloc _)
  have BA0 : Hid (Bk (((w.alloc (.cells #[.int .i64 Np0, .slice ap0 lp0 cp0] 24)).alloc (.cells #[.bool bp1, .slice ap1 lp1 cp1] 27)).alloc (.cells #[.bool bp2, .slice ap2 lp2 cp2] 27)) (w.heap.size) #[.int .i64 Np0, .slice ap0 lp0 cp0] 24) := (((Bk.new' w _ _ (by simp)).alloc _).alloc _)
  have BA1 : Hid (Bk (((w.alloc (.cells #[.int .i64 Np0, .slice ap0 lp0 cp0] 24)).alloc (.cells #[.bool bp1, .slice ap1 lp1 cp1] 27)).alloc (.cells #[.bool bp2, .slice ap2 lp2 cp2] 27)) (w.heap.size + 1) #[.bool bp1, .slice ap1 lp1 cp1] 27) := ((Bk.new' (w.alloc (.cells #[.int .i64 Np0, .slice ap0 lp0 cp0] 24)) _ _ (by simp)).alloc _)
  have BA2 : Hid (Bk (((w.alloc (.cells #[.int .i64 Np0, .slice ap0 lp0 cp0] 24)).alloc (.cells #[.bool bp1, .slice ap1 lp1 cp1] 27)).alloc (.cells #[.bool bp2, .slice ap2 lp2 cp2] 27)) (w.heap.size + 1 + 1) #[.bool bp2, .slice ap2 lp2 cp2] 27) := (Bk.new' ((w.alloc (.cells #[.int .i64 Np0, .slice ap0 lp0 cp0] 24)).alloc (.cells #[.bool bp1, .slice ap1 lp1 cp1] 27)) _ _ (by simp))
  by_cases hL0 : L0 < 0
  · have dL0 : decide (L0 < 0) = true := decide_eq_true hL0
    go_enter Tryd.func5, Tryd.ntmps5
    go_wp2_with fail
    refine (csz0  _ (HA.out)).mono ?_
    rintro e s0 ⟨rfl, g0⟩
    have HS0 : Hid (Old w s0) := Old.trans HA.out g0
    clear g0
    go_wp2_with fail
    go_ret
    exact ⟨rfl, HS0.out⟩
  have dL0 : decide (L0 < 0) = false := decide_eq_false hL0
  by_cases hL1 : L1 < 0
  · have dL1 : decide (L1 < 0) = true := decide_eq_true hL1
    go_enter Tryd.func5, Tryd.ntmps5
    go_wp2_with fail
    refine (csz0  _ (HA.out)).mono ?_
    rintro e s0 ⟨rfl, g0⟩
    have HS0 : Hid (Old w s0) := Old.trans HA.out g0
    have BS0_0 : Hid (Bk s0 (w.heap.size) #[.int .i64 Np0, .slice ap0 lp0 cp0] 24) := BA0.out.old g0
    have BS0_1 : Hid (Bk s0 (w.heap.size + 1) #[.bool bp1, .slice ap1 lp1 cp1] 27) := BA1.out.old g0
    have BS0_2 : Hid (Bk s0 (w.heap.size + 1 + 1) #[.bool bp2, .slice ap2 lp2 cp2] 27) := BA2.out.old g0
    clear g0
    have y0 := BS0_1.out.c (i := 0) rfl
    have y1 := BS0_1.out.c (i := 1) rfl
    go_wp2_with fail
    clear y0 y1
    refine (csz1 hL0 _ (HS0.out)).mono ?_
    rintro e s1 ⟨rfl, g1⟩
    have HS1 : Hid (Old w s1) := Old.trans HS0.out g1
    clear g1
    go_wp2_with fail
    go_ret
    exact ⟨rfl, HS1.out⟩
  have dL1 : decide (L1 < 0) = false := decide_eq_false hL1
  by_cases hL2 : L2 < 0
  · have dL2 : decide (L2 < 0) = true := decide_eq_true hL2
    go_enter Tryd.func5, Tryd.ntmps5
    go_wp2_with fail
    refine (csz0  _ (HA.out)).mono ?_
    rintro e s0 ⟨rfl, g0⟩
    have HS0 : Hid (Old w s0) := Old.trans HA.out g0
    have BS0_0 : Hid (Bk s0 (w.heap.size) #[.int .i64 Np0, .slice ap0 lp0 cp0] 24) := BA0.out.old g0
    have BS0_1 : Hid (Bk s0 (w.heap.size + 1) #[.bool bp1, .slice ap1 lp1 cp1] 27) := BA1.out.old g0
    have BS0_2 : Hid (Bk s0 (w.heap.size + 1 + 1) #[.bool bp2, .slice ap2 lp2 cp2] 27) := BA2.out.old g0
    clear g0
    have y0 := BS0_1.out.c (i := 0) rfl
    have y1 := BS0_1.out.c (i := 1) rfl
    go_wp2_with fail
    clear y0 y1
    refine (csz1 hL0 _ (HS0.out)).mono ?_
    rintro e s1 ⟨rfl, g1⟩
    have HS1 : Hid (Old w s1) := Old.trans HS0.out g1
    have BS1_0 : Hid (Bk s1 (w.heap.size) #[.int .i64 Np0, .slice ap0 lp0 cp0] 24) := BS0_0.out.old g1
    have BS1_1 : Hid (Bk s1 (w.heap.size + 1) #[.bool bp1, .slice ap1 lp1 cp1] 27) := BS0_1.out.old g1
    have BS1_2 : Hid (Bk s1 (w.heap.size + 1 + 1) #[.bool bp2, .slice ap2 lp2 cp2] 27) := BS0_2.out.old g1
    clear g1
    have y0 := BS1_2.out.c (i := 0) rfl
    have y1 := BS1_2.out.c (i := 1) rfl
    go_wp2_with fail
    clear y0 y1
    refine (csz2 hL0 hL1 _ (HS1.out)).mono ?_
    rintro e s2 ⟨rfl, g2⟩
    have HS2 : Hid (Old w s2) := Old.trans HS1.out g2
    clear g2
    go_wp2_with fail
    go_ret
    exact ⟨rfl, HS2.out⟩
  have dL2 : decide (L2 < 0) = false := decide_eq_false hL2
  have TO0 : Hid (∀ W, Old w W → Calls Tryd.prog 15 #[.agg #[.int .i64 Np0, .slice ap0 lp0 cp0]] W fun e w' => ∃ g, e = .returned (.agg g) ∧ Old W w' ∧ X0 w' W.heap.size w'.heap.size g) := cto0 hL0 hL1 hL2
  replace ceq0 := ceq0 hL0 hL1 hL2
  replace cmk0 := cmk0 hL0 hL1 hL2
  clear cto0
  have TO1 : Hid (∀ W, Old w W → Calls Tryd.prog 16 #[.agg #[.bool bp1, .slice ap1 lp1 cp1]] W fun e w' => ∃ g, e = .returned (.agg g) ∧ Old W w' ∧ X1 w' W.heap.size w'.heap.size g) := cto1 hL0 hL1 hL2
  replace ceq1 := ceq1 hL0 hL1 hL2
  replace cmk1 := cmk1 hL0 hL1 hL2
  clear cto1
  have TO2 : Hid (∀ W, Old w W → Calls Tryd.prog 16 #[.agg #[.bool bp2, .slice ap2 lp2 cp2]] W fun e w' => ∃ g, e = .returned (.agg g) ∧ Old W w' ∧ X2 w' W.heap.size w'.heap.size g) := cto2 hL0 hL1 hL2
  replace ceq2 := ceq2 hL0 hL1 hL2
  replace cmk2 := cmk2 hL0 hL1 hL2
  clear cto2
  replace csp := csp hL0 hL1 hL2
  replace cim := cim hL0 hL1 hL2
  replace cer0 := cer0 hL0 hL1 hL2
  replace cmr0 := cmr0 hL0 hL1 hL2
  replace chr0 := chr0 hL0 hL1 hL2
  have dro1 : (br1 != br1) = false := by simp
  go_enter Tryd.func5, Tryd.ntmps5
  go_wp2_with fail
  refine (csz0  _ (HA.out)).mono ?_
  rintro e s0 ⟨rfl, g0⟩
  have HS0 : Hid (Old w s0) := Old.trans HA.out g0
  have BS0_0 : Hid (Bk s0 (w.heap.size) #[.int .i64 Np0, .slice ap0 lp0 cp0] 24) := BA0.out.old g0
  have BS0_1 : Hid (Bk s0 (w.heap.size + 1) #[.bool bp1, .slice ap1 lp1 cp1] 27) := BA1.out.old g0
  have BS0_2 : Hid (Bk s0 (w.heap.size + 1 + 1) #[.bool bp2, .slice ap2 lp2 cp2] 27) := BA2.out.old g0
  clear g0
  have y0 := BS0_1.out.c (i := 0) rfl
  have y1 := BS0_1.out.c (i := 1) rfl
  go_wp2_with fail
  clear y0 y1
  refine (csz1 hL0 _ (HS0.out)).mono ?_
  rintro e s1 ⟨rfl, g1⟩
  have HS1 : Hid (Old w s1) := Old.trans HS0.out g1
  have BS1_0 : Hid (Bk s1 (w.heap.size) #[.int .i64 Np0, .slice ap0 lp0 cp0] 24) := BS0_0.out.old g1
  have BS1_1 : Hid (Bk s1 (w.heap.size + 1) #[.bool bp1, .slice ap1 lp1 cp1] 27) := BS0_1.out.old g1
  have BS1_2 : Hid (Bk s1 (w.heap.size + 1 + 1) #[.bool bp2, .slice ap2 lp2 cp2] 27) := BS0_2.out.old g1
  clear g1
  have y0 := BS1_2.out.c (i := 0) rfl
  have y1 := BS1_2.out.c (i := 1) rfl
  go_wp2_with fail
  clear y0 y1
  refine (csz2 hL0 hL1 _ (HS1.out)).mono ?_
  rintro e s2 ⟨rfl, g2⟩
  have HS2 : Hid (Old w s2) := Old.trans HS1.out g2
  have BS2_0 : Hid (Bk s2 (w.heap.size) #[.int .i64 Np0, .slice ap0 lp0 cp0] 24) := BS1_0.out.old g2
  have BS2_1 : Hid (Bk s2 (w.heap.size + 1) #[.bool bp1, .slice ap1 lp1 cp1] 27) := BS1_1.out.old g2
  have BS2_2 : Hid (Bk s2 (w.heap.size + 1 + 1) #[.bool bp2, .slice ap2 lp2 cp2] 27) := BS1_2.out.old g2
  clear g2
  have HG_0 : Hid (Old w s2) := HS2.out
  have A0_0 : Hid (Bk s2 (w.heap.size) #[.int .i64 Np0, .slice ap0 lp0 cp0] 24) := BS2_0.out
  have A1_0 : Hid (Bk s2 (w.heap.size + 1) #[.bool bp1, .slice ap1 lp1 cp1] 27) := BS2_1.out
  have A2_0 : Hid (Bk s2 (w.heap.size + 1 + 1) #[.bool bp2, .slice ap2 lp2 cp2] 27) := BS2_2.out
  have hsw : w.heap.size + 3 ≤ s2.heap.size := by have := A2_0.out.lt; omega
  clear csz0 csz1 csz2 BA0 BA1 BA2 HA HS0 HS1 HS2 BS0_0 BS0_1 BS0_2 BS1_0 BS1_1 BS1_2 BS2_0 BS2_1 BS2_2
  have zA0_0 := A0_0.out.c (i := 0) rfl
  have zA0_1 := A0_0.out.c (i := 1) rfl
  have zA1_0 := A1_0.out.c (i := 0) rfl
  have zA1_1 := A1_0.out.c (i := 1) rfl
  have zA2_0 := A2_0.out.c (i := 0) rfl
  have zA2_1 := A2_0.out.c (i := 1) rfl
  go_wp2_with fail
  refine reg9_SubRowsA s2 _ _ _ _ _ _ _ _ _ (fun W v => ∃ lo hi g, v = .agg g ∧ X0 W lo hi g ∧ hi ≤ W.heap.size) (fun W W' v h g => by obtain ⟨lo, hi, y, rfl, h1, h2⟩ := h; exact ⟨lo, hi, _, rfl, fX0.old h1 g h2, Nat.le_trans h2 g.size⟩) (fun W h => (TO0.out W (Old.trans HG_0.out h)).mono (fun e w' h => by obtain ⟨g, rfl, h1, h2⟩ := h; exact ⟨_, rfl, h1, _, _, g, rfl, h2, Nat.le_refl _⟩)) A0_0.out (fun W v => ∃ lo hi g, v = .agg g ∧ X1 W lo hi g ∧ hi ≤ W.heap.size) (fun W W' v h g => by obtain ⟨lo, hi, y, rfl, h1, h2⟩ := h; exact ⟨lo, hi, _, rfl, fX1.old h1 g h2, Nat.le_trans h2 g.size⟩) (fun W h => (TO1.out W (Old.trans HG_0.out h)).mono (fun e w' h => by obtain ⟨g, rfl, h1, h2⟩ := h; exact ⟨_, rfl, h1, _, _, g, rfl, h2, Nat.le_refl _⟩)) A1_0.out (fun W v => ∃ lo hi g, v = .agg g ∧ X2 W lo hi g ∧ hi ≤ W.heap.size) (fun W W' v h g => by obtain ⟨lo, hi, y, rfl, h1, h2⟩ := h; exact ⟨lo, hi, _, rfl, fX2.old h1 g h2, Nat.le_trans h2 g.size⟩) (fun W h => (TO2.out W (Old.trans HG_0.out h)).mono (fun e w' h => by obtain ⟨g, rfl, h1, h2⟩ := h; exact ⟨_, rfl, h1, _, _, g, rfl, h2, Nat.le_refl _⟩)) A2_0.out (fun W lo hi g0 g1 => SR W lo hi g0 ∧ g1 = .bool br1) (fun W W' lo hi g0 g1 h h1 h2 => ⟨fSR _ _ _ _ _ h.1 h1 h2, h.2⟩) (fun W v0 v1 v2 hO H0 H1 H2 => by obtain ⟨lo0, hi0, y0, rfl, x0, q0⟩ := H0; obtain ⟨lo1, hi1, y1, rfl, x1, q1⟩ := H1; obtain ⟨lo2, hi2, y2, rfl, x2, q2⟩ := H2; exact (csp W _ _ _ _ _ _ _ _ _ x0 x1 x2 (Old.trans HG_0.out hO)).mono (fun e w' h => by obtain ⟨g0, rfl, h1, h2⟩ := h; obtain ⟨a0_, c0_, hq⟩ := hSR _ _ _ _ h2; subst hq; exact ⟨_, _, rfl, h1, rfl, (by simp [Value.oneCell']), h2, rfl⟩)) _ _ _ (by first | decide | simp) rfl rfl rfl ?_
  intro ks0 los his q0 q1 u_0 u_1 u_2 u_3 u_4 u_5 u_6 u_7 u_8 u_9 ts gS loS_ hiS_ rS_ bS0 hks0 hls0 hns0
  obtain ⟨rS, rfl⟩ := rS_
  obtain ⟨as0, cs0, hq⟩ := hSR _ _ _ _ rS
  subst hq
  have h_s : s2.heap.size ≤ los ∧ his ≤ ts.heap.size := ⟨loS_, hiS_⟩
  obtain ⟨hlos, hhis⟩ := h_s
  clear loS_ hiS_
  simp only [putAll, Act.put]
  clear zA0_0 zA0_1 zA1_0 zA1_1 zA2_0 zA2_1
  have HG_1 : Hid (Old w ts) := Old.trans HG_0.out (gS)
  have A0_1 : Hid (Bk ts (w.heap.size) #[.int .i64 Np0, .slice ap0 lp0 cp0] 24) := A0_0.out.old (gS)
  have A1_1 : Hid (Bk ts (w.heap.size + 1) #[.bool bp1, .slice ap1 lp1 cp1] 27) := A1_0.out.old (gS)
  have A2_1 : Hid (Bk ts (w.heap.size + 1 + 1) #[.bool bp2, .slice ap2 lp2 cp2] 27) := A2_0.out.old (gS)
  clear HG_0 A0_0 A1_0 A2_0
  have C0_1 : Hid (Bk ts (ks0) #[.bool br0, .slice as0 lr0 cs0] 33) := bS0
  have SS_1 : Hid (SR ts (los) (his) #[.bool br0, .slice as0 lr0 cs0]) := rS
  have hsts := gS.size
  clear gS rS bS0
  have zA0_0 := A0_1.out.c (i := 0) rfl
  have zA0_1 := A0_1.out.c (i := 1) rfl
  go_wp2_with fail
  refine (TO0.out _ (HG_1.out)).mono ?_
  rintro e x0 ⟨y_, rfl, g_, o_⟩
  obtain ⟨ax0, cx0, rfl⟩ := hX0 _ _ _ _ o_
  clear zA0_0 zA0_1
  have hsx0 : ts.heap.size ≤ x0.heap.size := by have := g_.size; first | exact this | (simp at this; omega)
  have HG_2 : Hid (Old w (x0.alloc (.cells #[.int .i64 Np0, .slice ax0 lp0 cx0] 31))) := Old.trans HG_1.out (Old.trans g_ ((Old.refl x0).alloc _))
  have A0_2 : Hid (Bk (x0.alloc (.cells #[.int .i64 Np0, .slice ax0 lp0 cx0] 31)) (w.heap.size) #[.int .i64 Np0, .slice ap0 lp0 cp0] 24) := A0_1.out.old (Old.trans g_ ((Old.refl x0).alloc _))
  have A1_2 : Hid (Bk (x0.alloc (.cells #[.int .i64 Np0, .slice ax0 lp0 cx0] 31)) (w.heap.size + 1) #[.bool bp1, .slice ap1 lp1 cp1] 27) := A1_1.out.old (Old.trans g_ ((Old.refl x0).alloc _))
  have A2_2 : Hid (Bk (x0.alloc (.cells #[.int .i64 Np0, .slice ax0 lp0 cx0] 31)) (w.heap.size + 1 + 1) #[.bool bp2, .slice ap2 lp2 cp2] 27) := A2_1.out.old (Old.trans g_ ((Old.refl x0).alloc _))
  have C0_2 : Hid (Bk (x0.alloc (.cells #[.int .i64 Np0, .slice ax0 lp0 cx0] 31)) (ks0) #[.bool br0, .slice as0 lr0 cs0] 33) := C0_1.out.old (Old.trans g_ ((Old.refl x0).alloc _))
  have SS_2 : Hid (SR (x0.alloc (.cells #[.int .i64 Np0, .slice ax0 lp0 cx0] 31)) (los) (his) #[.bool br0, .slice as0 lr0 cs0]) := fSR.old SS_1.out (Old.trans g_ ((Old.refl x0).alloc _)) (by first | omega | (simp; done) | (simp; omega))
  clear HG_1 A0_1 A1_1 A2_1 C0_1 SS_1
  have Bx0_2 : Hid (Bk (x0.alloc (.cells #[.int .i64 Np0, .slice ax0 lp0 cx0] 31)) (x0.heap.size) #[.int .i64 Np0, .slice ax0 lp0 cx0] 31) := Bk.new' x0 _ _ rfl
  have Rx0_2 : Hid (X0 (x0.alloc (.cells #[.int .i64 Np0, .slice ax0 lp0 cx0] 31)) (ts.heap.size) (x0.heap.size) #[.int .i64 Np0, .slice ax0 lp0 cx0]) := fX0.old (by first | exact o_ | (simp at o_; exact o_)) ((Old.refl x0).alloc _) (Nat.le_refl _)
  clear g_ o_
  have zA1_0 := A1_2.out.c (i := 0) rfl
  have zA1_1 := A1_2.out.c (i := 1) rfl
  go_wp2_with fail
  refine (TO1.out _ (HG_2.out)).mono ?_
  rintro e x1 ⟨y_, rfl, g_, o_⟩
  obtain ⟨ax1, cx1, rfl⟩ := hX1 _ _ _ _ o_
  clear zA1_0 zA1_1
  have hsx1 : x0.heap.size + 1 ≤ x1.heap.size := by have := g_.size; first | exact this | (simp at this; omega)
  have HG_3 : Hid (Old w (x1.alloc (.cells #[.bool bp1, .slice ax1 lp1 cx1] 33))) := Old.trans HG_2.out (Old.trans g_ ((Old.refl x1).alloc _))
  have A0_3 : Hid (Bk (x1.alloc (.cells #[.bool bp1, .slice ax1 lp1 cx1] 33)) (w.heap.size) #[.int .i64 Np0, .slice ap0 lp0 cp0] 24) := A0_2.out.old (Old.trans g_ ((Old.refl x1).alloc _))
  have A1_3 : Hid (Bk (x1.alloc (.cells #[.bool bp1, .slice ax1 lp1 cx1] 33)) (w.heap.size + 1) #[.bool bp1, .slice ap1 lp1 cp1] 27) := A1_2.out.old (Old.trans g_ ((Old.refl x1).alloc _))
  have A2_3 : Hid (Bk (x1.alloc (.cells #[.bool bp1, .slice ax1 lp1 cx1] 33)) (w.heap.size + 1 + 1) #[.bool bp2, .slice ap2 lp2 cp2] 27) := A2_2.out.old (Old.trans g_ ((Old.refl x1).alloc _))
  have C0_3 : Hid (Bk (x1.alloc (.cells #[.bool bp1, .slice ax1 lp1 cx1] 33)) (ks0) #[.bool br0, .slice as0 lr0 cs0] 33) := C0_2.out.old (Old.trans g_ ((Old.refl x1).alloc _))
  have SS_3 : Hid (SR (x1.alloc (.cells #[.bool bp1, .slice ax1 lp1 cx1] 33)) (los) (his) #[.bool br0, .slice as0 lr0 cs0]) := fSR.old SS_2.out (Old.trans g_ ((Old.refl x1).alloc _)) (by first | omega | (simp; done) | (simp; omega))
  have Bx0_3 : Hid (Bk (x1.alloc (.cells #[.bool bp1, .slice ax1 lp1 cx1] 33)) (x0.heap.size) #[.int .i64 Np0, .slice ax0 lp0 cx0] 31) := Bx0_2.out.old (Old.trans g_ ((Old.refl x1).alloc _))
  have Rx0_3 : Hid (X0 (x1.alloc (.cells #[.bool bp1, .slice ax1 lp1 cx1] 33)) (ts.heap.size) (x0.heap.size) #[.int .i64 Np0, .slice ax0 lp0 cx0]) := fX0.old Rx0_2.out (Old.trans g_ ((Old.refl x1).alloc _)) (by first | omega | (simp; done) | (simp; omega))
  clear HG_2 A0_2 A1_2 A2_2 C0_2 SS_2 Bx0_2 Rx0_2
  have Bx1_3 : Hid (Bk (x1.alloc (.cells #[.bool bp1, .slice ax1 lp1 cx1] 33)) (x1.heap.size) #[.bool bp1, .slice ax1 lp1 cx1] 33) := Bk.new' x1 _ _ rfl
  have Rx1_3 : Hid (X1 (x1.alloc (.cells #[.bool bp1, .slice ax1 lp1 cx1] 33)) (x0.heap.size + 1) (x1.heap.size) #[.bool bp1, .slice ax1 lp1 cx1]) := fX1.old (by first | exact o_ | (simp at o_; exact o_)) ((Old.refl x1).alloc _) (Nat.le_refl _)
  clear g_ o_
  have zA2_0 := A2_3.out.c (i := 0) rfl
  have zA2_1 := A2_3.out.c (i := 1) rfl
  go_wp2_with fail
  refine (TO2.out _ (HG_3.out)).mono ?_
  rintro e x2 ⟨y_, rfl, g_, o_⟩
  obtain ⟨ax2, cx2, rfl⟩ := hX2 _ _ _ _ o_
  clear zA2_0 zA2_1
  have hsx2 : x1.heap.size + 1 ≤ x2.heap.size := by have := g_.size; first | exact this | (simp at this; omega)
  have HG_4 : Hid (Old w (x2.alloc (.cells #[.bool bp2, .slice ax2 lp2 cx2] 33))) := Old.trans HG_3.out (Old.trans g_ ((Old.refl x2).alloc _))
  have A0_4 : Hid (Bk (x2.alloc (.cells #[.bool bp2, .slice ax2 lp2 cx2] 33)) (w.heap.size) #[.int .i64 Np0, .slice ap0 lp0 cp0] 24) := A0_3.out.old (Old.trans g_ ((Old.refl x2).alloc _))
  have A1_4 : Hid (Bk (x2.alloc (.cells #[.bool bp2, .slice ax2 lp2 cx2] 33)) (w.heap.size + 1) #[.bool bp1, .slice ap1 lp1 cp1] 27) := A1_3.out.old (Old.trans g_ ((Old.refl x2).alloc _))
  have A2_4 : Hid (Bk (x2.alloc (.cells #[.bool bp2, .slice ax2 lp2 cx2] 33)) (w.heap.size + 1 + 1) #[.bool bp2, .slice ap2 lp2 cp2] 27) := A2_3.out.old (Old.trans g_ ((Old.refl x2).alloc _))
  have C0_4 : Hid (Bk (x2.alloc (.cells #[.bool bp2, .slice ax2 lp2 cx2] 33)) (ks0) #[.bool br0, .slice as0 lr0 cs0] 33) := C0_3.out.old (Old.trans g_ ((Old.refl x2).alloc _))
  have SS_4 : Hid (SR (x2.alloc (.cells #[.bool bp2, .slice ax2 lp2 cx2] 33)) (los) (his) #[.bool br0, .slice as0 lr0 cs0]) := fSR.old SS_3.out (Old.trans g_ ((Old.refl x2).alloc _)) (by first | omega | (simp; done) | (simp; omega))
  have Bx0_4 : Hid (Bk (x2.alloc (.cells #[.bool bp2, .slice ax2 lp2 cx2] 33)) (x0.heap.size) #[.int .i64 Np0, .slice ax0 lp0 cx0] 31) := Bx0_3.out.old (Old.trans g_ ((Old.refl x2).alloc _))
  have Rx0_4 : Hid (X0 (x2.alloc (.cells #[.bool bp2, .slice ax2 lp2 cx2] 33)) (ts.heap.size) (x0.heap.size) #[.int .i64 Np0, .slice ax0 lp0 cx0]) := fX0.old Rx0_3.out (Old.trans g_ ((Old.refl x2).alloc _)) (by first | omega | (simp; done) | (simp; omega))
  have Bx1_4 : Hid (Bk (x2.alloc (.cells #[.bool bp2, .slice ax2 lp2 cx2] 33)) (x1.heap.size) #[.bool bp1, .slice ax1 lp1 cx1] 33) := Bx1_3.out.old (Old.trans g_ ((Old.refl x2).alloc _))
  have Rx1_4 : Hid (X1 (x2.alloc (.cells #[.bool bp2, .slice ax2 lp2 cx2] 33)) (x0.heap.size + 1) (x1.heap.size) #[.bool bp1, .slice ax1 lp1 cx1]) := fX1.old Rx1_3.out (Old.trans g_ ((Old.refl x2).alloc _)) (by first | omega | (simp; done) | (simp; omega))
  clear HG_3 A0_3 A1_3 A2_3 C0_3 SS_3 Bx0_3 Rx0_3 Bx1_3 Rx1_3
  have Bx2_4 : Hid (Bk (x2.alloc (.cells #[.bool bp2, .slice ax2 lp2 cx2] 33)) (x2.heap.size) #[.bool bp2, .slice ax2 lp2 cx2] 33) := Bk.new' x2 _ _ rfl
  have Rx2_4 : Hid (X2 (x2.alloc (.cells #[.bool bp2, .slice ax2 lp2 cx2] 33)) (x1.heap.size + 1) (x2.heap.size) #[.bool bp2, .slice ax2 lp2 cx2]) := fX2.old (by first | exact o_ | (simp at o_; exact o_)) ((Old.refl x2).alloc _) (Nat.le_refl _)
  clear g_ o_
  have zBx0_0 := Bx0_4.out.c (i := 0) rfl
  have zBx0_1 := Bx0_4.out.c (i := 1) rfl
  have zBx1_0 := Bx1_4.out.c (i := 0) rfl
  have zBx1_1 := Bx1_4.out.c (i := 1) rfl
  have zBx2_0 := Bx2_4.out.c (i := 0) rfl
  have zBx2_1 := Bx2_4.out.c (i := 1) rfl
  go_wp2_with fail
  refine (cim _ _ _ _ _ _ _ _ _ _ Rx0_4.out Rx1_4.out Rx2_4.out (HG_4.out)).mono ?_
  rintro e p1 ⟨q0, rfl, gp, rp⟩
  obtain ⟨ag0, cg0, hq⟩ := hIR0 _ _ _ _ rp
  have hsp1 : x2.heap.size + 1 ≤ p1.heap.size := by have := gp.size; first | exact this | (simp at this; omega)
  subst hq
  clear zBx0_0 zBx0_1 zBx1_0 zBx1_1 zBx2_0 zBx2_1
  have HG_5 : Hid (Old w (p1.alloc (.cells #[.bool br0, .slice ag0 lr0 cg0] 33))) := Old.trans HG_4.out (Old.trans gp (((Old.refl p1).alloc _)))
  have A0_5 : Hid (Bk (p1.alloc (.cells #[.bool br0, .slice ag0 lr0 cg0] 33)) (w.heap.size) #[.int .i64 Np0, .slice ap0 lp0 cp0] 24) := A0_4.out.old (Old.trans gp (((Old.refl p1).alloc _)))
  have A1_5 : Hid (Bk (p1.alloc (.cells #[.bool br0, .slice ag0 lr0 cg0] 33)) (w.heap.size + 1) #[.bool bp1, .slice ap1 lp1 cp1] 27) := A1_4.out.old (Old.trans gp (((Old.refl p1).alloc _)))
  have A2_5 : Hid (Bk (p1.alloc (.cells #[.bool br0, .slice ag0 lr0 cg0] 33)) (w.heap.size + 1 + 1) #[.bool bp2, .slice ap2 lp2 cp2] 27) := A2_4.out.old (Old.trans gp (((Old.refl p1).alloc _)))
  have C0_5 : Hid (Bk (p1.alloc (.cells #[.bool br0, .slice ag0 lr0 cg0] 33)) (ks0) #[.bool br0, .slice as0 lr0 cs0] 33) := C0_4.out.old (Old.trans gp (((Old.refl p1).alloc _)))
  have SS_5 : Hid (SR (p1.alloc (.cells #[.bool br0, .slice ag0 lr0 cg0] 33)) (los) (his) #[.bool br0, .slice as0 lr0 cs0]) := fSR.old SS_4.out (Old.trans gp (((Old.refl p1).alloc _))) (by first | omega | (simp; done) | (simp; omega))
  have Bx0_5 : Hid (Bk (p1.alloc (.cells #[.bool br0, .slice ag0 lr0 cg0] 33)) (x0.heap.size) #[.int .i64 Np0, .slice ax0 lp0 cx0] 31) := Bx0_4.out.old (Old.trans gp (((Old.refl p1).alloc _)))
  have Rx0_5 : Hid (X0 (p1.alloc (.cells #[.bool br0, .slice ag0 lr0 cg0] 33)) (ts.heap.size) (x0.heap.size) #[.int .i64 Np0, .slice ax0 lp0 cx0]) := fX0.old Rx0_4.out (Old.trans gp (((Old.refl p1).alloc _))) (by first | omega | (simp; done) | (simp; omega))
  have Bx1_5 : Hid (Bk (p1.alloc (.cells #[.bool br0, .slice ag0 lr0 cg0] 33)) (x1.heap.size) #[.bool bp1, .slice ax1 lp1 cx1] 33) := Bx1_4.out.old (Old.trans gp (((Old.refl p1).alloc _)))
  have Rx1_5 : Hid (X1 (p1.alloc (.cells #[.bool br0, .slice ag0 lr0 cg0] 33)) (x0.heap.size + 1) (x1.heap.size) #[.bool bp1, .slice ax1 lp1 cx1]) := fX1.old Rx1_4.out (Old.trans gp (((Old.refl p1).alloc _))) (by first | omega | (simp; done) | (simp; omega))
  have Bx2_5 : Hid (Bk (p1.alloc (.cells #[.bool br0, .slice ag0 lr0 cg0] 33)) (x2.heap.size) #[.bool bp2, .slice ax2 lp2 cx2] 33) := Bx2_4.out.old (Old.trans gp (((Old.refl p1).alloc _)))
  have Rx2_5 : Hid (X2 (p1.alloc (.cells #[.bool br0, .slice ag0 lr0 cg0] 33)) (x1.heap.size + 1) (x2.heap.size) #[.bool bp2, .slice ax2 lp2 cx2]) := fX2.old Rx2_4.out (Old.trans gp (((Old.refl p1).alloc _))) (by first | omega | (simp; done) | (simp; omega))
  clear HG_4 A0_4 A1_4 A2_4 C0_4 SS_4 Bx0_4 Rx0_4 Bx1_4 Rx1_4 Bx2_4 Rx2_4
  have Bg0_5 : Hid (Bk (p1.alloc (.cells #[.bool br0, .slice ag0 lr0 cg0] 33)) (p1.heap.size) #[.bool br0, .slice ag0 lr0 cg0] 33) := (Bk.new' p1 _ _ (by simp))
  have RG_5 : Hid (IR0 (p1.alloc (.cells #[.bool br0, .slice ag0 lr0 cg0] 33)) (x2.heap.size + 1) (p1.heap.size) #[.bool br0, .slice ag0 lr0 cg0]) := fIR0.old (by first | exact rp | (simp at rp; exact rp)) (((Old.refl p1).alloc _)) (Nat.le_refl _)
  clear gp rp
  have zBg0_0 := Bg0_5.out.c (i := 0) rfl
  have zBg0_1 := Bg0_5.out.c (i := 1) rfl
  have zC0_0 := C0_5.out.c (i := 0) rfl
  have zC0_1 := C0_5.out.c (i := 1) rfl
  go_wp2_with fail
  refine (cer0 _ _ _ _ _ _ _ RG_5.out SS_5.out).mono ?_
  rintro e f0 ⟨rfl, g_⟩
  clear zBg0_0 zBg0_1 zC0_0 zC0_1
  have hsf0 : p1.heap.size + 1 ≤ f0.heap.size := by have := g_.size; first | omega | (simp at this; omega)
  have HG_6 : Hid (Old w f0) := Old.trans HG_5.out (g_)
  have A0_6 : Hid (Bk f0 (w.heap.size) #[.int .i64 Np0, .slice ap0 lp0 cp0] 24) := A0_5.out.old (g_)
  have A1_6 : Hid (Bk f0 (w.heap.size + 1) #[.bool bp1, .slice ap1 lp1 cp1] 27) := A1_5.out.old (g_)
  have A2_6 : Hid (Bk f0 (w.heap.size + 1 + 1) #[.bool bp2, .slice ap2 lp2 cp2] 27) := A2_5.out.old (g_)
  have C0_6 : Hid (Bk f0 (ks0) #[.bool br0, .slice as0 lr0 cs0] 33) := C0_5.out.old (g_)
  have SS_6 : Hid (SR f0 (los) (his) #[.bool br0, .slice as0 lr0 cs0]) := fSR.old SS_5.out (g_) (by first | omega | (simp; done) | (simp; omega))
  have Bx0_6 : Hid (Bk f0 (x0.heap.size) #[.int .i64 Np0, .slice ax0 lp0 cx0] 31) := Bx0_5.out.old (g_)
  have Rx0_6 : Hid (X0 f0 (ts.heap.size) (x0.heap.size) #[.int .i64 Np0, .slice ax0 lp0 cx0]) := fX0.old Rx0_5.out (g_) (by first | omega | (simp; done) | (simp; omega))
  have Bx1_6 : Hid (Bk f0 (x1.heap.size) #[.bool bp1, .slice ax1 lp1 cx1] 33) := Bx1_5.out.old (g_)
  have Rx1_6 : Hid (X1 f0 (x0.heap.size + 1) (x1.heap.size) #[.bool bp1, .slice ax1 lp1 cx1]) := fX1.old Rx1_5.out (g_) (by first | omega | (simp; done) | (simp; omega))
  have Bx2_6 : Hid (Bk f0 (x2.heap.size) #[.bool bp2, .slice ax2 lp2 cx2] 33) := Bx2_5.out.old (g_)
  have Rx2_6 : Hid (X2 f0 (x1.heap.size + 1) (x2.heap.size) #[.bool bp2, .slice ax2 lp2 cx2]) := fX2.old Rx2_5.out (g_) (by first | omega | (simp; done) | (simp; omega))
  have Bg0_6 : Hid (Bk f0 (p1.heap.size) #[.bool br0, .slice ag0 lr0 cg0] 33) := Bg0_5.out.old (g_)
  have RG_6 : Hid (IR0 f0 (x2.heap.size + 1) (p1.heap.size) #[.bool br0, .slice ag0 lr0 cg0]) := fIR0.old RG_5.out (g_) (by first | omega | (simp; done) | (simp; omega))
  clear HG_5 A0_5 A1_5 A2_5 C0_5 SS_5 Bx0_5 Rx0_5 Bx1_5 Rx1_5 Bx2_5 Rx2_5 Bg0_5 RG_5
  clear g_
  have zBx0_0 := Bx0_6.out.c (i := 0) rfl
  have zBx0_1 := Bx0_6.out.c (i := 1) rfl
  have zA0_0 := A0_6.out.c (i := 0) rfl
  have zA0_1 := A0_6.out.c (i := 1) rfl
  have HAS : Hid (∀ W', Old f0 W' → (W'.cell? ⟨x0.heap.size, 0, none⟩ = some (.int .i64 Np0) ∧ W'.cell? ⟨x0.heap.size, 1, none⟩ = some (.slice ax0 lp0 cx0) ∧ W'.cell? ⟨w.heap.size, 0, none⟩ = some (.int .i64 Np0) ∧ W'.cell? ⟨w.heap.size, 1, none⟩ = some (.slice ap0 lp0 cp0))) := fun W' g => ⟨(Bx0_6.out.old g).c (i := 0) rfl, (Bx0_6.out.old g).c (i := 1) rfl, (A0_6.out.old g).c (i := 0) rfl, (A0_6.out.old g).c (i := 1) rfl⟩
  go_wp2_with fail
  go_region_held3 (fun W' => W'.cell? ⟨x0.heap.size, 0, none⟩ = some (.int .i64 Np0) ∧ W'.cell? ⟨x0.heap.size, 1, none⟩ = some (.slice ax0 lp0 cx0) ∧ W'.cell? ⟨w.heap.size, 0, none⟩ = some (.int .i64 Np0) ∧ W'.cell? ⟨w.heap.size, 1, none⟩ = some (.slice ap0 lp0 cp0)) (first | with_reducible exact HAS.out _ GE.out | with_reducible exact HAS.out _ GT.out | with_reducible exact HAS.out _ (Below.drew (Old.refl f0)) | with_reducible exact HAS.out _ (Old.refl f0)) (first
    | (go_at_call 15; refine (TO0.out _ (Below.drew HG_6.out)).mono ?_; rintro e wt ⟨y_, rfl, gt, ot⟩; obtain ⟨at_, ct_, rfl⟩ := hX0 _ _ _ _ ot; have GT : Hid (Old f0 wt) := Old.trans (Below.drew (Old.refl f0)) gt; have RT : Hid (X0 wt _ _ #[.int .i64 Np0, .slice at_ lp0 ct_]) := ot; clear gt ot)
    | (go_at_call 18; refine (ceq0 _ _ _ _ _ _ _ (fX0.old Rx0_6.out GT.out (by omega)) RT.out).mono ?_; rintro e v0 ⟨rfl, ge⟩; have GE : Hid (Old f0 v0) := Old.trans GT.out ge; clear ge)
    | fail)
  clear zBx0_0 zBx0_1 zA0_0 zA0_1
  have hsv0 := GE.out.size
  have HG_7 : Hid (Old w v0) := Old.trans HG_6.out (GE.out)
  have A0_7 : Hid (Bk v0 (w.heap.size) #[.int .i64 Np0, .slice ap0 lp0 cp0] 24) := A0_6.out.old (GE.out)
  have A1_7 : Hid (Bk v0 (w.heap.size + 1) #[.bool bp1, .slice ap1 lp1 cp1] 27) := A1_6.out.old (GE.out)
  have A2_7 : Hid (Bk v0 (w.heap.size + 1 + 1) #[.bool bp2, .slice ap2 lp2 cp2] 27) := A2_6.out.old (GE.out)
  have C0_7 : Hid (Bk v0 (ks0) #[.bool br0, .slice as0 lr0 cs0] 33) := C0_6.out.old (GE.out)
  have SS_7 : Hid (SR v0 (los) (his) #[.bool br0, .slice as0 lr0 cs0]) := fSR.old SS_6.out (GE.out) (by first | omega | (simp; done) | (simp; omega))
  have Bx0_7 : Hid (Bk v0 (x0.heap.size) #[.int .i64 Np0, .slice ax0 lp0 cx0] 31) := Bx0_6.out.old (GE.out)
  have Rx0_7 : Hid (X0 v0 (ts.heap.size) (x0.heap.size) #[.int .i64 Np0, .slice ax0 lp0 cx0]) := fX0.old Rx0_6.out (GE.out) (by first | omega | (simp; done) | (simp; omega))
  have Bx1_7 : Hid (Bk v0 (x1.heap.size) #[.bool bp1, .slice ax1 lp1 cx1] 33) := Bx1_6.out.old (GE.out)
  have Rx1_7 : Hid (X1 v0 (x0.heap.size + 1) (x1.heap.size) #[.bool bp1, .slice ax1 lp1 cx1]) := fX1.old Rx1_6.out (GE.out) (by first | omega | (simp; done) | (simp; omega))
  have Bx2_7 : Hid (Bk v0 (x2.heap.size) #[.bool bp2, .slice ax2 lp2 cx2] 33) := Bx2_6.out.old (GE.out)
  have Rx2_7 : Hid (X2 v0 (x1.heap.size + 1) (x2.heap.size) #[.bool bp2, .slice ax2 lp2 cx2]) := fX2.old Rx2_6.out (GE.out) (by first | omega | (simp; done) | (simp; omega))
  have Bg0_7 : Hid (Bk v0 (p1.heap.size) #[.bool br0, .slice ag0 lr0 cg0] 33) := Bg0_6.out.old (GE.out)
  have RG_7 : Hid (IR0 v0 (x2.heap.size + 1) (p1.heap.size) #[.bool br0, .slice ag0 lr0 cg0]) := fIR0.old RG_6.out (GE.out) (by first | omega | (simp; done) | (simp; omega))
  clear HG_6 A0_6 A1_6 A2_6 C0_6 SS_6 Bx0_6 Rx0_6 Bx1_6 Rx1_6 Bx2_6 Rx2_6 Bg0_6 RG_6
  clear GE GT RT HAS
  have zBx1_0 := Bx1_7.out.c (i := 0) rfl
  have zBx1_1 := Bx1_7.out.c (i := 1) rfl
  have zA1_0 := A1_7.out.c (i := 0) rfl
  have zA1_1 := A1_7.out.c (i := 1) rfl
  have HAS : Hid (∀ W', Old v0 W' → (W'.cell? ⟨x1.heap.size, 0, none⟩ = some (.bool bp1) ∧ W'.cell? ⟨x1.heap.size, 1, none⟩ = some (.slice ax1 lp1 cx1) ∧ W'.cell? ⟨w.heap.size + 1, 0, none⟩ = some (.bool bp1) ∧ W'.cell? ⟨w.heap.size + 1, 1, none⟩ = some (.slice ap1 lp1 cp1))) := fun W' g => ⟨(Bx1_7.out.old g).c (i := 0) rfl, (Bx1_7.out.old g).c (i := 1) rfl, (A1_7.out.old g).c (i := 0) rfl, (A1_7.out.old g).c (i := 1) rfl⟩
  go_wp2_with fail
  go_region_held3 (fun W' => W'.cell? ⟨x1.heap.size, 0, none⟩ = some (.bool bp1) ∧ W'.cell? ⟨x1.heap.size, 1, none⟩ = some (.slice ax1 lp1 cx1) ∧ W'.cell? ⟨w.heap.size + 1, 0, none⟩ = some (.bool bp1) ∧ W'.cell? ⟨w.heap.size + 1, 1, none⟩ = some (.slice ap1 lp1 cp1)) (first | with_reducible exact HAS.out _ GE.out | with_reducible exact HAS.out _ GT.out | with_reducible exact HAS.out _ (Below.drew (Old.refl v0)) | with_reducible exact HAS.out _ (Old.refl v0)) (first
    | (go_at_call 16; refine (TO1.out _ (Below.drew HG_7.out)).mono ?_; rintro e wt ⟨y_, rfl, gt, ot⟩; obtain ⟨at_, ct_, rfl⟩ := hX1 _ _ _ _ ot; have GT : Hid (Old v0 wt) := Old.trans (Below.drew (Old.refl v0)) gt; have RT : Hid (X1 wt _ _ #[.bool bp1, .slice at_ lp1 ct_]) := ot; clear gt ot)
    | (go_at_call 19; refine (ceq1 _ _ _ _ _ _ _ (fX1.old Rx1_7.out GT.out (by omega)) RT.out).mono ?_; rintro e v1 ⟨rfl, ge⟩; have GE : Hid (Old v0 v1) := Old.trans GT.out ge; clear ge)
    | fail)
  clear zBx1_0 zBx1_1 zA1_0 zA1_1
  have hsv1 := GE.out.size
  have HG_8 : Hid (Old w v1) := Old.trans HG_7.out (GE.out)
  have A0_8 : Hid (Bk v1 (w.heap.size) #[.int .i64 Np0, .slice ap0 lp0 cp0] 24) := A0_7.out.old (GE.out)
  have A1_8 : Hid (Bk v1 (w.heap.size + 1) #[.bool bp1, .slice ap1 lp1 cp1] 27) := A1_7.out.old (GE.out)
  have A2_8 : Hid (Bk v1 (w.heap.size + 1 + 1) #[.bool bp2, .slice ap2 lp2 cp2] 27) := A2_7.out.old (GE.out)
  have C0_8 : Hid (Bk v1 (ks0) #[.bool br0, .slice as0 lr0 cs0] 33) := C0_7.out.old (GE.out)
  have SS_8 : Hid (SR v1 (los) (his) #[.bool br0, .slice as0 lr0 cs0]) := fSR.old SS_7.out (GE.out) (by first | omega | (simp; done) | (simp; omega))
  have Bx0_8 : Hid (Bk v1 (x0.heap.size) #[.int .i64 Np0, .slice ax0 lp0 cx0] 31) := Bx0_7.out.old (GE.out)
  have Rx0_8 : Hid (X0 v1 (ts.heap.size) (x0.heap.size) #[.int .i64 Np0, .slice ax0 lp0 cx0]) := fX0.old Rx0_7.out (GE.out) (by first | omega | (simp; done) | (simp; omega))
  have Bx1_8 : Hid (Bk v1 (x1.heap.size) #[.bool bp1, .slice ax1 lp1 cx1] 33) := Bx1_7.out.old (GE.out)
  have Rx1_8 : Hid (X1 v1 (x0.heap.size + 1) (x1.heap.size) #[.bool bp1, .slice ax1 lp1 cx1]) := fX1.old Rx1_7.out (GE.out) (by first | omega | (simp; done) | (simp; omega))
  have Bx2_8 : Hid (Bk v1 (x2.heap.size) #[.bool bp2, .slice ax2 lp2 cx2] 33) := Bx2_7.out.old (GE.out)
  have Rx2_8 : Hid (X2 v1 (x1.heap.size + 1) (x2.heap.size) #[.bool bp2, .slice ax2 lp2 cx2]) := fX2.old Rx2_7.out (GE.out) (by first | omega | (simp; done) | (simp; omega))
  have Bg0_8 : Hid (Bk v1 (p1.heap.size) #[.bool br0, .slice ag0 lr0 cg0] 33) := Bg0_7.out.old (GE.out)
  have RG_8 : Hid (IR0 v1 (x2.heap.size + 1) (p1.heap.size) #[.bool br0, .slice ag0 lr0 cg0]) := fIR0.old RG_7.out (GE.out) (by first | omega | (simp; done) | (simp; omega))
  clear HG_7 A0_7 A1_7 A2_7 C0_7 SS_7 Bx0_7 Rx0_7 Bx1_7 Rx1_7 Bx2_7 Rx2_7 Bg0_7 RG_7
  clear GE GT RT HAS
  have zBx2_0 := Bx2_8.out.c (i := 0) rfl
  have zBx2_1 := Bx2_8.out.c (i := 1) rfl
  have zA2_0 := A2_8.out.c (i := 0) rfl
  have zA2_1 := A2_8.out.c (i := 1) rfl
  have HAS : Hid (∀ W', Old v1 W' → (W'.cell? ⟨x2.heap.size, 0, none⟩ = some (.bool bp2) ∧ W'.cell? ⟨x2.heap.size, 1, none⟩ = some (.slice ax2 lp2 cx2) ∧ W'.cell? ⟨w.heap.size + 1 + 1, 0, none⟩ = some (.bool bp2) ∧ W'.cell? ⟨w.heap.size + 1 + 1, 1, none⟩ = some (.slice ap2 lp2 cp2))) := fun W' g => ⟨(Bx2_8.out.old g).c (i := 0) rfl, (Bx2_8.out.old g).c (i := 1) rfl, (A2_8.out.old g).c (i := 0) rfl, (A2_8.out.old g).c (i := 1) rfl⟩
  go_wp2_with fail
  go_region_held3 (fun W' => W'.cell? ⟨x2.heap.size, 0, none⟩ = some (.bool bp2) ∧ W'.cell? ⟨x2.heap.size, 1, none⟩ = some (.slice ax2 lp2 cx2) ∧ W'.cell? ⟨w.heap.size + 1 + 1, 0, none⟩ = some (.bool bp2) ∧ W'.cell? ⟨w.heap.size + 1 + 1, 1, none⟩ = some (.slice ap2 lp2 cp2)) (first | with_reducible exact HAS.out _ GE.out | with_reducible exact HAS.out _ GT.out | with_reducible exact HAS.out _ (Below.drew (Old.refl v1)) | with_reducible exact HAS.out _ (Old.refl v1)) (first
    | (go_at_call 16; refine (TO2.out _ (Below.drew HG_8.out)).mono ?_; rintro e wt ⟨y_, rfl, gt, ot⟩; obtain ⟨at_, ct_, rfl⟩ := hX2 _ _ _ _ ot; have GT : Hid (Old v1 wt) := Old.trans (Below.drew (Old.refl v1)) gt; have RT : Hid (X2 wt _ _ #[.bool bp2, .slice at_ lp2 ct_]) := ot; clear gt ot)
    | (go_at_call 19; refine (ceq2 _ _ _ _ _ _ _ (fX2.old Rx2_8.out GT.out (by omega)) RT.out).mono ?_; rintro e v2 ⟨rfl, ge⟩; have GE : Hid (Old v1 v2) := Old.trans GT.out ge; clear ge)
    | fail)
  clear zBx2_0 zBx2_1 zA2_0 zA2_1
  have hsv2 := GE.out.size
  have HG_9 : Hid (Old w v2) := Old.trans HG_8.out (GE.out)
  have A0_9 : Hid (Bk v2 (w.heap.size) #[.int .i64 Np0, .slice ap0 lp0 cp0] 24) := A0_8.out.old (GE.out)
  have A1_9 : Hid (Bk v2 (w.heap.size + 1) #[.bool bp1, .slice ap1 lp1 cp1] 27) := A1_8.out.old (GE.out)
  have A2_9 : Hid (Bk v2 (w.heap.size + 1 + 1) #[.bool bp2, .slice ap2 lp2 cp2] 27) := A2_8.out.old (GE.out)
  have C0_9 : Hid (Bk v2 (ks0) #[.bool br0, .slice as0 lr0 cs0] 33) := C0_8.out.old (GE.out)
  have SS_9 : Hid (SR v2 (los) (his) #[.bool br0, .slice as0 lr0 cs0]) := fSR.old SS_8.out (GE.out) (by first | omega | (simp; done) | (simp; omega))
  have Bx0_9 : Hid (Bk v2 (x0.heap.size) #[.int .i64 Np0, .slice ax0 lp0 cx0] 31) := Bx0_8.out.old (GE.out)
  have Rx0_9 : Hid (X0 v2 (ts.heap.size) (x0.heap.size) #[.int .i64 Np0, .slice ax0 lp0 cx0]) := fX0.old Rx0_8.out (GE.out) (by first | omega | (simp; done) | (simp; omega))
  have Bx1_9 : Hid (Bk v2 (x1.heap.size) #[.bool bp1, .slice ax1 lp1 cx1] 33) := Bx1_8.out.old (GE.out)
  have Rx1_9 : Hid (X1 v2 (x0.heap.size + 1) (x1.heap.size) #[.bool bp1, .slice ax1 lp1 cx1]) := fX1.old Rx1_8.out (GE.out) (by first | omega | (simp; done) | (simp; omega))
  have Bx2_9 : Hid (Bk v2 (x2.heap.size) #[.bool bp2, .slice ax2 lp2 cx2] 33) := Bx2_8.out.old (GE.out)
  have Rx2_9 : Hid (X2 v2 (x1.heap.size + 1) (x2.heap.size) #[.bool bp2, .slice ax2 lp2 cx2]) := fX2.old Rx2_8.out (GE.out) (by first | omega | (simp; done) | (simp; omega))
  have Bg0_9 : Hid (Bk v2 (p1.heap.size) #[.bool br0, .slice ag0 lr0 cg0] 33) := Bg0_8.out.old (GE.out)
  have RG_9 : Hid (IR0 v2 (x2.heap.size + 1) (p1.heap.size) #[.bool br0, .slice ag0 lr0 cg0]) := fIR0.old RG_8.out (GE.out) (by first | omega | (simp; done) | (simp; omega))
  clear HG_8 A0_8 A1_8 A2_8 C0_8 SS_8 Bx0_8 Rx0_8 Bx1_8 Rx1_8 Bx2_8 Rx2_8 Bg0_8 RG_8
  clear GE GT RT HAS
  have zBx0_0 := Bx0_9.out.c (i := 0) rfl
  have zBx0_1 := Bx0_9.out.c (i := 1) rfl
  go_wp2_with fail
  refine (cmk0 _ _ _ _ Rx0_9.out).mono ?_
  rintro e y0 ⟨rfl, gm⟩
  clear zBx0_0 zBx0_1
  have hsy0 := gm.size
  have HG_10 : Hid (Old w y0) := Old.chg HG_9.out (gm) (by omega)
  have A0_10 : Hid (Bk y0 (w.heap.size) #[.int .i64 Np0, .slice ap0 lp0 cp0] 24) := A0_9.out.chg (gm) (by omega)
  have A1_10 : Hid (Bk y0 (w.heap.size + 1) #[.bool bp1, .slice ap1 lp1 cp1] 27) := A1_9.out.chg (gm) (by omega)
  have A2_10 : Hid (Bk y0 (w.heap.size + 1 + 1) #[.bool bp2, .slice ap2 lp2 cp2] 27) := A2_9.out.chg (gm) (by omega)
  have C0_10 : Hid (Bk y0 (ks0) #[.bool br0, .slice as0 lr0 cs0] 33) := C0_9.out.chg (gm) (by omega)
  have SS_10 : Hid (SR y0 (los) (his) #[.bool br0, .slice as0 lr0 cs0]) := fSR.chg SS_9.out (gm) (by first | omega | (simp; done) | (simp; omega)) (by omega)
  have Bx0_10 : Hid (Bk y0 (x0.heap.size) #[.int .i64 Np0, .slice ax0 lp0 cx0] 31) := Bx0_9.out.chg (gm) (by omega)
  have Bx1_10 : Hid (Bk y0 (x1.heap.size) #[.bool bp1, .slice ax1 lp1 cx1] 33) := Bx1_9.out.chg (gm) (by omega)
  have Rx1_10 : Hid (X1 y0 (x0.heap.size + 1) (x1.heap.size) #[.bool bp1, .slice ax1 lp1 cx1]) := fX1.chg Rx1_9.out (gm) (by first | omega | (simp; done) | (simp; omega)) (by omega)
  have Bx2_10 : Hid (Bk y0 (x2.heap.size) #[.bool bp2, .slice ax2 lp2 cx2] 33) := Bx2_9.out.chg (gm) (by omega)
  have Rx2_10 : Hid (X2 y0 (x1.heap.size + 1) (x2.heap.size) #[.bool bp2, .slice ax2 lp2 cx2]) := fX2.chg Rx2_9.out (gm) (by first | omega | (simp; done) | (simp; omega)) (by omega)
  have Bg0_10 : Hid (Bk y0 (p1.heap.size) #[.bool br0, .slice ag0 lr0 cg0] 33) := Bg0_9.out.chg (gm) (by omega)
  have RG_10 : Hid (IR0 y0 (x2.heap.size + 1) (p1.heap.size) #[.bool br0, .slice ag0 lr0 cg0]) := fIR0.chg RG_9.out (gm) (by first | omega | (simp; done) | (simp; omega)) (by omega)
  clear HG_9 A0_9 A1_9 A2_9 C0_9 SS_9 Bx0_9 Rx0_9 Bx1_9 Rx1_9 Bx2_9 Rx2_9 Bg0_9 RG_9
  clear gm
  have zBx1_0 := Bx1_10.out.c (i := 0) rfl
  have zBx1_1 := Bx1_10.out.c (i := 1) rfl
  go_wp2_with fail
  refine (cmk1 _ _ _ _ Rx1_10.out).mono ?_
  rintro e y1 ⟨rfl, gm⟩
  clear zBx1_0 zBx1_1
  have hsy1 := gm.size
  have HG_11 : Hid (Old w y1) := Old.chg HG_10.out (gm) (by omega)
  have A0_11 : Hid (Bk y1 (w.heap.size) #[.int .i64 Np0, .slice ap0 lp0 cp0] 24) := A0_10.out.chg (gm) (by omega)
  have A1_11 : Hid (Bk y1 (w.heap.size + 1) #[.bool bp1, .slice ap1 lp1 cp1] 27) := A1_10.out.chg (gm) (by omega)
  have A2_11 : Hid (Bk y1 (w.heap.size + 1 + 1) #[.bool bp2, .slice ap2 lp2 cp2] 27) := A2_10.out.chg (gm) (by omega)
  have C0_11 : Hid (Bk y1 (ks0) #[.bool br0, .slice as0 lr0 cs0] 33) := C0_10.out.chg (gm) (by omega)
  have SS_11 : Hid (SR y1 (los) (his) #[.bool br0, .slice as0 lr0 cs0]) := fSR.chg SS_10.out (gm) (by first | omega | (simp; done) | (simp; omega)) (by omega)
  have Bx0_11 : Hid (Bk y1 (x0.heap.size) #[.int .i64 Np0, .slice ax0 lp0 cx0] 31) := Bx0_10.out.chg (gm) (by omega)
  have Bx1_11 : Hid (Bk y1 (x1.heap.size) #[.bool bp1, .slice ax1 lp1 cx1] 33) := Bx1_10.out.chg (gm) (by omega)
  have Bx2_11 : Hid (Bk y1 (x2.heap.size) #[.bool bp2, .slice ax2 lp2 cx2] 33) := Bx2_10.out.chg (gm) (by omega)
  have Rx2_11 : Hid (X2 y1 (x1.heap.size + 1) (x2.heap.size) #[.bool bp2, .slice ax2 lp2 cx2]) := fX2.chg Rx2_10.out (gm) (by first | omega | (simp; done) | (simp; omega)) (by omega)
  have Bg0_11 : Hid (Bk y1 (p1.heap.size) #[.bool br0, .slice ag0 lr0 cg0] 33) := Bg0_10.out.chg (gm) (by omega)
  have RG_11 : Hid (IR0 y1 (x2.heap.size + 1) (p1.heap.size) #[.bool br0, .slice ag0 lr0 cg0]) := fIR0.chg RG_10.out (gm) (by first | omega | (simp; done) | (simp; omega)) (by omega)
  clear HG_10 A0_10 A1_10 A2_10 C0_10 SS_10 Bx0_10 Bx1_10 Rx1_10 Bx2_10 Rx2_10 Bg0_10 RG_10
  clear gm
  have zBx2_0 := Bx2_11.out.c (i := 0) rfl
  have zBx2_1 := Bx2_11.out.c (i := 1) rfl
  go_wp2_with fail
  refine (cmk2 _ _ _ _ Rx2_11.out).mono ?_
  rintro e y2 ⟨rfl, gm⟩
  clear zBx2_0 zBx2_1
  have hsy2 := gm.size
  have HG_12 : Hid (Old w y2) := Old.chg HG_11.out (gm) (by omega)
  have A0_12 : Hid (Bk y2 (w.heap.size) #[.int .i64 Np0, .slice ap0 lp0 cp0] 24) := A0_11.out.chg (gm) (by omega)
  have A1_12 : Hid (Bk y2 (w.heap.size + 1) #[.bool bp1, .slice ap1 lp1 cp1] 27) := A1_11.out.chg (gm) (by omega)
  have A2_12 : Hid (Bk y2 (w.heap.size + 1 + 1) #[.bool bp2, .slice ap2 lp2 cp2] 27) := A2_11.out.chg (gm) (by omega)
  have C0_12 : Hid (Bk y2 (ks0) #[.bool br0, .slice as0 lr0 cs0] 33) := C0_11.out.chg (gm) (by omega)
  have SS_12 : Hid (SR y2 (los) (his) #[.bool br0, .slice as0 lr0 cs0]) := fSR.chg SS_11.out (gm) (by first | omega | (simp; done) | (simp; omega)) (by omega)
  have Bx0_12 : Hid (Bk y2 (x0.heap.size) #[.int .i64 Np0, .slice ax0 lp0 cx0] 31) := Bx0_11.out.chg (gm) (by omega)
  have Bx1_12 : Hid (Bk y2 (x1.heap.size) #[.bool bp1, .slice ax1 lp1 cx1] 33) := Bx1_11.out.chg (gm) (by omega)
  have Bx2_12 : Hid (Bk y2 (x2.heap.size) #[.bool bp2, .slice ax2 lp2 cx2] 33) := Bx2_11.out.chg (gm) (by omega)
  have Bg0_12 : Hid (Bk y2 (p1.heap.size) #[.bool br0, .slice ag0 lr0 cg0] 33) := Bg0_11.out.chg (gm) (by omega)
  have RG_12 : Hid (IR0 y2 (x2.heap.size + 1) (p1.heap.size) #[.bool br0, .slice ag0 lr0 cg0]) := fIR0.chg RG_11.out (gm) (by first | omega | (simp; done) | (simp; omega)) (by omega)
  clear HG_11 A0_11 A1_11 A2_11 C0_11 SS_11 Bx0_11 Bx1_11 Bx2_11 Rx2_11 Bg0_11 RG_11
  clear gm
  have dk : decide (k2 < 0) = false := decide_eq_false (by omega)
  have zBg0_0 := Bg0_12.out.c (i := 0) rfl
  have zBg0_1 := Bg0_12.out.c (i := 1) rfl
  have zC0_0 := C0_12.out.c (i := 0) rfl
  have zC0_1 := C0_12.out.c (i := 1) rfl
  go_wp2_with fail
  refine (cer0 _ _ _ _ _ _ _ RG_12.out SS_12.out).mono ?_
  rintro e h0 ⟨rfl, g_⟩
  clear zBg0_0 zBg0_1 zC0_0 zC0_1
  have hsh0 := g_.size
  have HG_13 : Hid (Old w h0) := Old.trans HG_12.out (g_)
  have A0_13 : Hid (Bk h0 (w.heap.size) #[.int .i64 Np0, .slice ap0 lp0 cp0] 24) := A0_12.out.old (g_)
  have A1_13 : Hid (Bk h0 (w.heap.size + 1) #[.bool bp1, .slice ap1 lp1 cp1] 27) := A1_12.out.old (g_)
  have A2_13 : Hid (Bk h0 (w.heap.size + 1 + 1) #[.bool bp2, .slice ap2 lp2 cp2] 27) := A2_12.out.old (g_)
  have C0_13 : Hid (Bk h0 (ks0) #[.bool br0, .slice as0 lr0 cs0] 33) := C0_12.out.old (g_)
  have SS_13 : Hid (SR h0 (los) (his) #[.bool br0, .slice as0 lr0 cs0]) := fSR.old SS_12.out (g_) (by first | omega | (simp; done) | (simp; omega))
  have Bx0_13 : Hid (Bk h0 (x0.heap.size) #[.int .i64 Np0, .slice ax0 lp0 cx0] 31) := Bx0_12.out.old (g_)
  have Bx1_13 : Hid (Bk h0 (x1.heap.size) #[.bool bp1, .slice ax1 lp1 cx1] 33) := Bx1_12.out.old (g_)
  have Bx2_13 : Hid (Bk h0 (x2.heap.size) #[.bool bp2, .slice ax2 lp2 cx2] 33) := Bx2_12.out.old (g_)
  have Bg0_13 : Hid (Bk h0 (p1.heap.size) #[.bool br0, .slice ag0 lr0 cg0] 33) := Bg0_12.out.old (g_)
  have RG_13 : Hid (IR0 h0 (x2.heap.size + 1) (p1.heap.size) #[.bool br0, .slice ag0 lr0 cg0]) := fIR0.old RG_12.out (g_) (by first | omega | (simp; done) | (simp; omega))
  clear HG_12 A0_12 A1_12 A2_12 C0_12 SS_12 Bx0_12 Bx1_12 Bx2_12 Bg0_12 RG_12
  clear g_
  have zBg0_0 := Bg0_13.out.c (i := 0) rfl
  have zBg0_1 := Bg0_13.out.c (i := 1) rfl
  go_wp2_with fail
  refine (cmr0 _ _ _ _ RG_13.out).mono ?_
  rintro e i0 ⟨rfl, gm, rm⟩
  clear zBg0_0 zBg0_1
  have hsi0 := gm.size
  have HG_14 : Hid (Old w i0) := Old.chg HG_13.out (gm) (by omega)
  have A0_14 : Hid (Bk i0 (w.heap.size) #[.int .i64 Np0, .slice ap0 lp0 cp0] 24) := A0_13.out.chg (gm) (by omega)
  have A1_14 : Hid (Bk i0 (w.heap.size + 1) #[.bool bp1, .slice ap1 lp1 cp1] 27) := A1_13.out.chg (gm) (by omega)
  have A2_14 : Hid (Bk i0 (w.heap.size + 1 + 1) #[.bool bp2, .slice ap2 lp2 cp2] 27) := A2_13.out.chg (gm) (by omega)
  have C0_14 : Hid (Bk i0 (ks0) #[.bool br0, .slice as0 lr0 cs0] 33) := C0_13.out.chg (gm) (by omega)
  have SS_14 : Hid (SR i0 (los) (his) #[.bool br0, .slice as0 lr0 cs0]) := fSR.chg SS_13.out (gm) (by first | omega | (simp; done) | (simp; omega)) (by omega)
  have Bx0_14 : Hid (Bk i0 (x0.heap.size) #[.int .i64 Np0, .slice ax0 lp0 cx0] 31) := Bx0_13.out.chg (gm) (by omega)
  have Bx1_14 : Hid (Bk i0 (x1.heap.size) #[.bool bp1, .slice ax1 lp1 cx1] 33) := Bx1_13.out.chg (gm) (by omega)
  have Bx2_14 : Hid (Bk i0 (x2.heap.size) #[.bool bp2, .slice ax2 lp2 cx2] 33) := Bx2_13.out.chg (gm) (by omega)
  have Bg0_14 : Hid (Bk i0 (p1.heap.size) #[.bool br0, .slice ag0 lr0 cg0] 33) := Bg0_13.out.chg (gm) (by omega)
  clear HG_13 A0_13 A1_13 A2_13 C0_13 SS_13 Bx0_13 Bx1_13 Bx2_13 Bg0_13 RG_13
  have RG_14 : Hid (IR1 i0 (x2.heap.size + 1) (p1.heap.size) #[.bool br0, .slice ag0 lr0 cg0]) := rm
  clear gm rm
  have dm0 : decide (m0 < 0) = false := decide_eq_false (by omega)
  have dmm : (m0 != m0) = false := by simp
  have zBg0_0 := Bg0_14.out.c (i := 0) rfl
  have zBg0_1 := Bg0_14.out.c (i := 1) rfl
  go_wp2_with fail
  refine (chr0 _ _ _ _ RG_14.out).mono ?_
  rintro e j0 ⟨rfl, g_⟩
  clear zBg0_0 zBg0_1
  have hsj0 := g_.size
  have HG_15 : Hid (Old w j0) := Old.trans HG_14.out (g_)
  have A0_15 : Hid (Bk j0 (w.heap.size) #[.int .i64 Np0, .slice ap0 lp0 cp0] 24) := A0_14.out.old (g_)
  have A1_15 : Hid (Bk j0 (w.heap.size + 1) #[.bool bp1, .slice ap1 lp1 cp1] 27) := A1_14.out.old (g_)
  have A2_15 : Hid (Bk j0 (w.heap.size + 1 + 1) #[.bool bp2, .slice ap2 lp2 cp2] 27) := A2_14.out.old (g_)
  have C0_15 : Hid (Bk j0 (ks0) #[.bool br0, .slice as0 lr0 cs0] 33) := C0_14.out.old (g_)
  have SS_15 : Hid (SR j0 (los) (his) #[.bool br0, .slice as0 lr0 cs0]) := fSR.old SS_14.out (g_) (by first | omega | (simp; done) | (simp; omega))
  have Bx0_15 : Hid (Bk j0 (x0.heap.size) #[.int .i64 Np0, .slice ax0 lp0 cx0] 31) := Bx0_14.out.old (g_)
  have Bx1_15 : Hid (Bk j0 (x1.heap.size) #[.bool bp1, .slice ax1 lp1 cx1] 33) := Bx1_14.out.old (g_)
  have Bx2_15 : Hid (Bk j0 (x2.heap.size) #[.bool bp2, .slice ax2 lp2 cx2] 33) := Bx2_14.out.old (g_)
  have Bg0_15 : Hid (Bk j0 (p1.heap.size) #[.bool br0, .slice ag0 lr0 cg0] 33) := Bg0_14.out.old (g_)
  have RG_15 : Hid (IR1 j0 (x2.heap.size + 1) (p1.heap.size) #[.bool br0, .slice ag0 lr0 cg0]) := fIR1.old RG_14.out (g_) (by first | omega | (simp; done) | (simp; omega))
  clear HG_14 A0_14 A1_14 A2_14 C0_14 SS_14 Bx0_14 Bx1_14 Bx2_14 Bg0_14 RG_14
  clear g_
  have zA0_0 := A0_15.out.c (i := 0) rfl
  have zA0_1 := A0_15.out.c (i := 1) rfl
  have zA1_0 := A1_15.out.c (i := 0) rfl
  have zA1_1 := A1_15.out.c (i := 1) rfl
  have zA2_0 := A2_15.out.c (i := 0) rfl
  have zA2_1 := A2_15.out.c (i := 1) rfl
  go_wp2_with fail
  refine reg9_SubRowsB j0 _ _ _ _ _ _ _ _ _ (fun W v => ∃ lo hi g, v = .agg g ∧ X0 W lo hi g ∧ hi ≤ W.heap.size) (fun W W' v h g => by obtain ⟨lo, hi, y, rfl, h1, h2⟩ := h; exact ⟨lo, hi, _, rfl, fX0.old h1 g h2, Nat.le_trans h2 g.size⟩) (fun W h => (TO0.out W (Old.trans HG_15.out h)).mono (fun e w' h => by obtain ⟨g, rfl, h1, h2⟩ := h; exact ⟨_, rfl, h1, _, _, g, rfl, h2, Nat.le_refl _⟩)) A0_15.out (fun W v => ∃ lo hi g, v = .agg g ∧ X1 W lo hi g ∧ hi ≤ W.heap.size) (fun W W' v h g => by obtain ⟨lo, hi, y, rfl, h1, h2⟩ := h; exact ⟨lo, hi, _, rfl, fX1.old h1 g h2, Nat.le_trans h2 g.size⟩) (fun W h => (TO1.out W (Old.trans HG_15.out h)).mono (fun e w' h => by obtain ⟨g, rfl, h1, h2⟩ := h; exact ⟨_, rfl, h1, _, _, g, rfl, h2, Nat.le_refl _⟩)) A1_15.out (fun W v => ∃ lo hi g, v = .agg g ∧ X2 W lo hi g ∧ hi ≤ W.heap.size) (fun W W' v h g => by obtain ⟨lo, hi, y, rfl, h1, h2⟩ := h; exact ⟨lo, hi, _, rfl, fX2.old h1 g h2, Nat.le_trans h2 g.size⟩) (fun W h => (TO2.out W (Old.trans HG_15.out h)).mono (fun e w' h => by obtain ⟨g, rfl, h1, h2⟩ := h; exact ⟨_, rfl, h1, _, _, g, rfl, h2, Nat.le_refl _⟩)) A2_15.out (fun W lo hi g0 g1 => IR0 W lo hi g0 ∧ g1 = .bool br1) (fun W W' lo hi g0 g1 h h1 h2 => ⟨fIR0 _ _ _ _ _ h.1 h1 h2, h.2⟩) (fun W v0 v1 v2 hO H0 H1 H2 => by obtain ⟨lo0, hi0, y0, rfl, x0, q0⟩ := H0; obtain ⟨lo1, hi1, y1, rfl, x1, q1⟩ := H1; obtain ⟨lo2, hi2, y2, rfl, x2, q2⟩ := H2; exact (cim W _ _ _ _ _ _ _ _ _ x0 x1 x2 (Old.trans HG_15.out hO)).mono (fun e w' h => by obtain ⟨g0, rfl, h1, h2⟩ := h; obtain ⟨a0_, c0_, hq⟩ := hIR0 _ _ _ _ h2; subst hq; exact ⟨_, _, rfl, h1, rfl, (by simp [Value.oneCell']), h2, rfl⟩)) _ _ _ (by first | decide | simp) rfl rfl rfl ?_
  intro kt0 lot hit q0 q1 u_0 u_1 u_2 u_3 u_4 u_5 u_6 u_7 u_8 u_9 ts2 gS loS_ hiS_ rS_ bS0 hkt0 hlt0 hnt0
  obtain ⟨rS, rfl⟩ := rS_
  obtain ⟨at0, ct0, hq⟩ := hIR0 _ _ _ _ rS
  subst hq
  have h_t : j0.heap.size ≤ lot ∧ hit ≤ ts2.heap.size := ⟨loS_, hiS_⟩
  obtain ⟨hlot, hhit⟩ := h_t
  clear loS_ hiS_
  simp only [putAll, Act.put]
  clear zA0_0 zA0_1 zA1_0 zA1_1 zA2_0 zA2_1
  have HG_16 : Hid (Old w ts2) := Old.trans HG_15.out (gS)
  have A0_16 : Hid (Bk ts2 (w.heap.size) #[.int .i64 Np0, .slice ap0 lp0 cp0] 24) := A0_15.out.old (gS)
  have A1_16 : Hid (Bk ts2 (w.heap.size + 1) #[.bool bp1, .slice ap1 lp1 cp1] 27) := A1_15.out.old (gS)
  have A2_16 : Hid (Bk ts2 (w.heap.size + 1 + 1) #[.bool bp2, .slice ap2 lp2 cp2] 27) := A2_15.out.old (gS)
  have C0_16 : Hid (Bk ts2 (ks0) #[.bool br0, .slice as0 lr0 cs0] 33) := C0_15.out.old (gS)
  have SS_16 : Hid (SR ts2 (los) (his) #[.bool br0, .slice as0 lr0 cs0]) := fSR.old SS_15.out (gS) (by first | omega | (simp; done) | (simp; omega))
  have Bx0_16 : Hid (Bk ts2 (x0.heap.size) #[.int .i64 Np0, .slice ax0 lp0 cx0] 31) := Bx0_15.out.old (gS)
  have Bx1_16 : Hid (Bk ts2 (x1.heap.size) #[.bool bp1, .slice ax1 lp1 cx1] 33) := Bx1_15.out.old (gS)
  have Bx2_16 : Hid (Bk ts2 (x2.heap.size) #[.bool bp2, .slice ax2 lp2 cx2] 33) := Bx2_15.out.old (gS)
  have Bg0_16 : Hid (Bk ts2 (p1.heap.size) #[.bool br0, .slice ag0 lr0 cg0] 33) := Bg0_15.out.old (gS)
  have RG_16 : Hid (IR1 ts2 (x2.heap.size + 1) (p1.heap.size) #[.bool br0, .slice ag0 lr0 cg0]) := fIR1.old RG_15.out (gS) (by first | omega | (simp; done) | (simp; omega))
  clear HG_15 A0_15 A1_15 A2_15 C0_15 SS_15 Bx0_15 Bx1_15 Bx2_15 Bg0_15 RG_15
  have D0_16 : Hid (Bk ts2 (kt0) #[.bool br0, .slice at0 lr0 ct0] 33) := bS0
  have HH_16 : Hid (IR0 ts2 (lot) (hit) #[.bool br0, .slice at0 lr0 ct0]) := rS
  have hsts2 := gS.size
  clear gS rS bS0
  have zD0_0 := D0_16.out.c (i := 0) rfl
  have zD0_1 := D0_16.out.c (i := 1) rfl
  have zC0_0 := C0_16.out.c (i := 0) rfl
  have zC0_1 := C0_16.out.c (i := 1) rfl
  go_wp2_with fail
  refine (cer0 _ _ _ _ _ _ _ HH_16.out SS_16.out).mono ?_
  rintro e o0 ⟨rfl, g_⟩
  clear zD0_0 zD0_1 zC0_0 zC0_1
  have hso0 : ts2.heap.size ≤ o0.heap.size := by have := g_.size; first | exact this | (simp at this; omega)
  have HG_17 : Hid (Old w o0) := Old.trans HG_16.out (g_)
  have A0_17 : Hid (Bk o0 (w.heap.size) #[.int .i64 Np0, .slice ap0 lp0 cp0] 24) := A0_16.out.old (g_)
  have A1_17 : Hid (Bk o0 (w.heap.size + 1) #[.bool bp1, .slice ap1 lp1 cp1] 27) := A1_16.out.old (g_)
  have A2_17 : Hid (Bk o0 (w.heap.size + 1 + 1) #[.bool bp2, .slice ap2 lp2 cp2] 27) := A2_16.out.old (g_)
  have C0_17 : Hid (Bk o0 (ks0) #[.bool br0, .slice as0 lr0 cs0] 33) := C0_16.out.old (g_)
  have SS_17 : Hid (SR o0 (los) (his) #[.bool br0, .slice as0 lr0 cs0]) := fSR.old SS_16.out (g_) (by first | omega | (simp; done) | (simp; omega))
  have Bx0_17 : Hid (Bk o0 (x0.heap.size) #[.int .i64 Np0, .slice ax0 lp0 cx0] 31) := Bx0_16.out.old (g_)
  have Bx1_17 : Hid (Bk o0 (x1.heap.size) #[.bool bp1, .slice ax1 lp1 cx1] 33) := Bx1_16.out.old (g_)
  have Bx2_17 : Hid (Bk o0 (x2.heap.size) #[.bool bp2, .slice ax2 lp2 cx2] 33) := Bx2_16.out.old (g_)
  have Bg0_17 : Hid (Bk o0 (p1.heap.size) #[.bool br0, .slice ag0 lr0 cg0] 33) := Bg0_16.out.old (g_)
  have RG_17 : Hid (IR1 o0 (x2.heap.size + 1) (p1.heap.size) #[.bool br0, .slice ag0 lr0 cg0]) := fIR1.old RG_16.out (g_) (by first | omega | (simp; done) | (simp; omega))
  have D0_17 : Hid (Bk o0 (kt0) #[.bool br0, .slice at0 lr0 ct0] 33) := D0_16.out.old (g_)
  have HH_17 : Hid (IR0 o0 (lot) (hit) #[.bool br0, .slice at0 lr0 ct0]) := fIR0.old HH_16.out (g_) (by first | omega | (simp; done) | (simp; omega))
  clear HG_16 A0_16 A1_16 A2_16 C0_16 SS_16 Bx0_16 Bx1_16 Bx2_16 Bg0_16 RG_16 D0_16 HH_16
  clear g_
  have zBg0_0 := Bg0_17.out.c (i := 0) rfl
  have zBg0_1 := Bg0_17.out.c (i := 1) rfl
  go_wp2_with fail
  refine (chr0 _ _ _ _ RG_17.out).mono ?_
  rintro e n0 ⟨rfl, g_⟩
  clear zBg0_0 zBg0_1
  have hsn0 := g_.size
  have HG_18 : Hid (Old w n0) := Old.trans HG_17.out (g_)
  have A0_18 : Hid (Bk n0 (w.heap.size) #[.int .i64 Np0, .slice ap0 lp0 cp0] 24) := A0_17.out.old (g_)
  have A1_18 : Hid (Bk n0 (w.heap.size + 1) #[.bool bp1, .slice ap1 lp1 cp1] 27) := A1_17.out.old (g_)
  have A2_18 : Hid (Bk n0 (w.heap.size + 1 + 1) #[.bool bp2, .slice ap2 lp2 cp2] 27) := A2_17.out.old (g_)
  have C0_18 : Hid (Bk n0 (ks0) #[.bool br0, .slice as0 lr0 cs0] 33) := C0_17.out.old (g_)
  have SS_18 : Hid (SR n0 (los) (his) #[.bool br0, .slice as0 lr0 cs0]) := fSR.old SS_17.out (g_) (by first | omega | (simp; done) | (simp; omega))
  have Bx0_18 : Hid (Bk n0 (x0.heap.size) #[.int .i64 Np0, .slice ax0 lp0 cx0] 31) := Bx0_17.out.old (g_)
  have Bx1_18 : Hid (Bk n0 (x1.heap.size) #[.bool bp1, .slice ax1 lp1 cx1] 33) := Bx1_17.out.old (g_)
  have Bx2_18 : Hid (Bk n0 (x2.heap.size) #[.bool bp2, .slice ax2 lp2 cx2] 33) := Bx2_17.out.old (g_)
  have Bg0_18 : Hid (Bk n0 (p1.heap.size) #[.bool br0, .slice ag0 lr0 cg0] 33) := Bg0_17.out.old (g_)
  have RG_18 : Hid (IR1 n0 (x2.heap.size + 1) (p1.heap.size) #[.bool br0, .slice ag0 lr0 cg0]) := fIR1.old RG_17.out (g_) (by first | omega | (simp; done) | (simp; omega))
  have D0_18 : Hid (Bk n0 (kt0) #[.bool br0, .slice at0 lr0 ct0] 33) := D0_17.out.old (g_)
  have HH_18 : Hid (IR0 n0 (lot) (hit) #[.bool br0, .slice at0 lr0 ct0]) := fIR0.old HH_17.out (g_) (by first | omega | (simp; done) | (simp; omega))
  clear HG_17 A0_17 A1_17 A2_17 C0_17 SS_17 Bx0_17 Bx1_17 Bx2_17 Bg0_17 RG_17 D0_17 HH_17
  clear g_
  go_wp2_with fail
  go_ret
  exact ⟨rfl, HG_18.out⟩
end Go.Proofs.YtinldhoimnbkhaaDoor
/- Proved: contracts of the tests for a modulus and of the least residue, of the program and of the model. -/
namespace Go.Proofs.YtinldhoimnbkhaaDoor
open Go.ChangeShapes Go.WideShapes Go.ChangeAt Go.RowKit
theorem spec_mod (a p : Int) (w : World) (ha : -9223372036854775808 ≤ a ∧ a ≤ 9223372036854775807) (hp : 1 ≤ p ∧ p ≤ 4294967296) :
    Calls Tryd.prog 93 #[.int .i64 a, .int .i64 p] w fun e w' => e = .returned (.int .i64 (a % p)) ∧ w' = w := by
  obtain ⟨h1, h2⟩ := hp
  obtain ⟨h3, h4⟩ := ha
  by_cases h0 : 0 ≤ a
  · have r0 := Int.emod_nonneg a (show p ≠ 0 by omega)
    go_enter Tryd.func93, Tryd.ntmps93
    go_wp2
    go_ret
    exact ⟨rfl, rfl⟩
  · obtain ⟨t1, t2, t3, t4⟩ := tmod_neg a p (by omega) h1
    have T3 : Hid (a.tmod p < 0 → a.tmod p + p = a % p) := t3
    have T4 : Hid (0 ≤ a.tmod p → a.tmod p = a % p) := t4
    clear t3 t4
    by_cases hs : a.tmod p < 0
    · go_enter Tryd.func93, Tryd.ntmps93
      go_wp2
      go_ret
      exact ⟨by rw [← T3.out hs]; rfl, rfl⟩
    · go_enter Tryd.func93, Tryd.ntmps93
      go_wp2
      go_ret
      exact ⟨by rw [← T4.out (by omega)]; rfl, rfl⟩
end Go.Proofs.YtinldhoimnbkhaaDoor
/- Proved: the program's eachPair. -/
namespace Go.Proofs.YtinldhoimnbkhaaDoor
open Go.ChangeShapes Go.WideShapes Go.ChangeAt Go.RowKit
open M1
set_option linter.unusedVariables false
set_option linter.unusedSimpArgs false
set_option maxRecDepth 100000 in
set_option maxHeartbeats 4000000 in
theorem eachPair_less_no (N : Int) (ps : List Int) (a b : Bool) (xss yss : List (List Int)) (Rf : Nat → Int) (us1 us2 : Nat → Option Addr) (v : Value) (a1 a2 : Option Addr) (cap1 cap2 : Nat) (w : World) (hP : PrsW w) (hT : TabW w) (hv : Row w v ps)
    (c1 : ∀ W, PrsW W → TabW W → Old w W → Calls Tryd.prog 55 #[.agg #[.int .i64 N, v], .agg #[.bool a, .slice a1 xss.length cap1]] W fun e w' => Old W w' ∧ ((grB N ps xss = false ∧ e = .returned (.tuple #[.slice none 0 0, .bool false])) ∨ (grB N ps xss = true ∧ ∃ g, W.heap.size ≤ g ∧ e = .returned (.tuple #[.slice (some ⟨g, 0, none⟩) ps.length ps.length, .bool true]) ∧ RRs w' g N a ps Rf us1 ps.length)))
    (c2 : ∀ W, PrsW W → TabW W → Old w W → Calls Tryd.prog 55 #[.agg #[.int .i64 N, v], .agg #[.bool b, .slice a2 yss.length cap2]] W fun e w' => Old W w' ∧ ((grB N ps yss = false ∧ e = .returned (.tuple #[.slice none 0 0, .bool false])) ∨ (grB N ps yss = true ∧ ∃ g, W.heap.size ≤ g ∧ e = .returned (.tuple #[.slice (some ⟨g, 0, none⟩) ps.length ps.length, .bool true]) ∧ RRs w' g N b ps Rf us2 ps.length))) (hno : ¬ (grB N ps xss = true ∧ grB N ps yss = true ∧ a = b)) :
    Calls Tryd.prog 59 #[.agg #[.int .i64 N, v], .agg #[.bool a, .slice a1 xss.length cap1], .agg #[.bool b, .slice a2 yss.length cap2], .func (.func 64) #[] #[]] w (Rs w false [] false) := by
  have HP : Hid (PrsW w) := hP
  have HT : Hid (TabW w) := hT
  obtain ⟨a0, cap0, ev⟩ := hv.slice
  subst ev
  have HA : Hid (Old w ((((w.alloc (.cells #[.int .i64 N, .slice a0 ps.length cap0] 31)).alloc (.cells #[.bool a, .slice a1 xss.length cap1] 33)).alloc (.cells #[.bool b, .slice a2 yss.length cap2] 33)).alloc (.cells #[.bool false, .slice none 0 0] 33))) := ((((Old.refl w).alloc _).alloc _).alloc _).alloc _
  have HS : Hid (StW ((((w.alloc (.cells #[.int .i64 N, .slice a0 ps.length cap0] 31)).alloc (.cells #[.bool a, .slice a1 xss.length cap1] 33)).alloc (.cells #[.bool b, .slice a2 yss.length cap2] 33)).alloc (.cells #[.bool false, .slice none 0 0] 33)) (w.heap.size + 1 + 1 + 1) (.bool false) (.slice none 0 0) 33) := by
    have := StW.new (((w.alloc (.cells #[.int .i64 N, .slice a0 ps.length cap0] 31)).alloc (.cells #[.bool a, .slice a1 xss.length cap1] 33)).alloc (.cells #[.bool b, .slice a2 yss.length cap2] 33)) (.bool false) (.slice none 0 0) 33
    simp at this
    exact this
  have HAS : Hid (∀ W', Old ((((w.alloc (.cells #[.int .i64 N, .slice a0 ps.length cap0] 31)).alloc (.cells #[.bool a, .slice a1 xss.length cap1] 33)).alloc (.cells #[.bool b, .slice a2 yss.length cap2] 33)).alloc (.cells #[.bool false, .slice none 0 0] 33)) W' → (W'.cell? ⟨w.heap.size, 0, none⟩ = some (.int .i64 N) ∧ W'.cell? ⟨w.heap.size, 1, none⟩ = some (.slice a0 ps.length cap0) ∧ W'.cell? ⟨w.heap.size + 1, 0, none⟩ = some (.bool a) ∧ W'.cell? ⟨w.heap.size + 1, 1, none⟩ = some (.slice a1 xss.length cap1) ∧ W'.cell? ⟨w.heap.size + 1 + 1, 0, none⟩ = some (.bool b) ∧ W'.cell? ⟨w.heap.size + 1 + 1, 1, none⟩ = some (.slice a2 yss.length cap2))) := fun W' g => by
    have g' := Old.trans ((Old.refl _).alloc _) g
    exact ⟨((StW.at31 w _ _ _ _ _ _ _ _ _).old g').c0, ((StW.at31 w _ _ _ _ _ _ _ _ _).old g').c1, ((StW.at32 w _ _ _ _ _ _ _ _ _).old g').c0, ((StW.at32 w _ _ _ _ _ _ _ _ _).old g').c1, ((StW.at33 w _ _ _ _ _ _ _ _ _).old g').c0, ((StW.at33 w _ _ _ _ _ _ _ _ _).old g').c1⟩
  clear hv hP hT
  go_enter Tryd.func59, Tryd.ntmps59
  go_wp2_with fail
  refine (c1 _ (HP.out.old HA.out) (HT.out.old HA.out) HA.out).mono ?_
  rintro e w1 ⟨g1, hl⟩
  have HG1 : Hid (Old w w1) := Old.trans HA.out g1
  have G1 : Hid (Old ((((w.alloc (.cells #[.int .i64 N, .slice a0 ps.length cap0] 31)).alloc (.cells #[.bool a, .slice a1 xss.length cap1] 33)).alloc (.cells #[.bool b, .slice a2 yss.length cap2] 33)).alloc (.cells #[.bool false, .slice none 0 0] 33)) w1) := g1
  clear g1
  rcases hl with ⟨hB, rfl⟩ | ⟨hB, g, hg, rfl, hrr⟩
  · clear hno hB
    obtain ⟨z1, z2, z3, z4, z5, z6⟩ := HAS.out w1 G1.out
    go_wp2_with fail
    refine (c2 _ (HP.out.old HG1.out) (HT.out.old HG1.out) HG1.out).mono ?_
    rintro e w2 ⟨g2, hr⟩
    have HG2 : Hid (Old w w2) := Old.trans HG1.out g2
    have G2 : Hid (Old ((((w.alloc (.cells #[.int .i64 N, .slice a0 ps.length cap0] 31)).alloc (.cells #[.bool a, .slice a1 xss.length cap1] 33)).alloc (.cells #[.bool b, .slice a2 yss.length cap2] 33)).alloc (.cells #[.bool false, .slice none 0 0] 33)) w2) := Old.trans G1.out g2
    have S2 : Hid (StW w2 (w.heap.size + 1 + 1 + 1) (.bool false) (.slice none 0 0) 33) := HS.out.old G2.out
    clear g2 z1 z2 z3 z4 z5 z6
    obtain ⟨z1, z2, z3, z4, z5, z6⟩ := HAS.out w2 G2.out
    rcases hr with ⟨hB, rfl⟩ | ⟨hB, g, hg, rfl, hrr⟩
    · clear hB
      have q0 := S2.out.c0
      have q1 := S2.out.c1
      have f0 := S2.out.f0
      have f1 := S2.out.f1
      have hs : w.heap.size + 1 + 1 + 1 < w2.heap.size := S2.out.lt
      go_wp2_with fail
      refine bodyPost_ret (ret_rb (x := .bool false) (y := .slice none 0 0) (z := .bool false) Tryd.results59 _ _ rfl rfl (st_put2 S2.out _ _)) rfl ⟨_, rfl, ?_, XR.nil _ _ _ _ (Nat.le_refl _)⟩
      exact (HG2.out.own (p := ⟨w.heap.size + 1 + 1 + 1, 0, none⟩) (by simp; omega) _).own (p := ⟨w.heap.size + 1 + 1 + 1, 1, none⟩) (by simp; omega) _
    · clear hB hrr hg
      have q0 := S2.out.c0
      have q1 := S2.out.c1
      have f0 := S2.out.f0
      have f1 := S2.out.f1
      have hs : w.heap.size + 1 + 1 + 1 < w2.heap.size := S2.out.lt
      go_wp2_with fail
      refine bodyPost_ret (ret_rb (x := .bool false) (y := .slice none 0 0) (z := .bool false) Tryd.results59 _ _ rfl rfl (st_put2 S2.out _ _)) rfl ⟨_, rfl, ?_, XR.nil _ _ _ _ (Nat.le_refl _)⟩
      exact (HG2.out.own (p := ⟨w.heap.size + 1 + 1 + 1, 0, none⟩) (by simp; omega) _).own (p := ⟨w.heap.size + 1 + 1 + 1, 1, none⟩) (by simp; omega) _
  · clear hrr hg
    obtain ⟨z1, z2, z3, z4, z5, z6⟩ := HAS.out w1 G1.out
    go_wp2_with fail
    refine (c2 _ (HP.out.old HG1.out) (HT.out.old HG1.out) HG1.out).mono ?_
    rintro e w2 ⟨g2, hr⟩
    have HG2 : Hid (Old w w2) := Old.trans HG1.out g2
    have G2 : Hid (Old ((((w.alloc (.cells #[.int .i64 N, .slice a0 ps.length cap0] 31)).alloc (.cells #[.bool a, .slice a1 xss.length cap1] 33)).alloc (.cells #[.bool b, .slice a2 yss.length cap2] 33)).alloc (.cells #[.bool false, .slice none 0 0] 33)) w2) := Old.trans G1.out g2
    have S2 : Hid (StW w2 (w.heap.size + 1 + 1 + 1) (.bool false) (.slice none 0 0) 33) := HS.out.old G2.out
    clear g2 z1 z2 z3 z4 z5 z6
    obtain ⟨z1, z2, z3, z4, z5, z6⟩ := HAS.out w2 G2.out
    rcases hr with ⟨hB2, rfl⟩ | ⟨hB2, g', hg', rfl, hrr'⟩
    · clear hB hB2 hno
      have q0 := S2.out.c0
      have q1 := S2.out.c1
      have f0 := S2.out.f0
      have f1 := S2.out.f1
      have hs : w.heap.size + 1 + 1 + 1 < w2.heap.size := S2.out.lt
      go_wp2_with fail
      refine bodyPost_ret (ret_rb (x := .bool false) (y := .slice none 0 0) (z := .bool false) Tryd.results59 _ _ rfl rfl (st_put2 S2.out _ _)) rfl ⟨_, rfl, ?_, XR.nil _ _ _ _ (Nat.le_refl _)⟩
      exact (HG2.out.own (p := ⟨w.heap.size + 1 + 1 + 1, 0, none⟩) (by simp; omega) _).own (p := ⟨w.heap.size + 1 + 1 + 1, 1, none⟩) (by simp; omega) _
    · have dab : (!(a == b)) = true := by
        simp only [Bool.not_eq_true', beq_eq_false_iff_ne, ne_eq]
        exact fun e => hno ⟨hB, hB2, e⟩
      clear hB hB2 hno hrr' hg'
      have q0 := S2.out.c0
      have q1 := S2.out.c1
      have f0 := S2.out.f0
      have f1 := S2.out.f1
      have hs : w.heap.size + 1 + 1 + 1 < w2.heap.size := S2.out.lt
      go_wp2_with fail
      refine bodyPost_ret (ret_rb (x := .bool false) (y := .slice none 0 0) (z := .bool false) Tryd.results59 _ _ rfl rfl (st_put2 S2.out _ _)) rfl ⟨_, rfl, ?_, XR.nil _ _ _ _ (Nat.le_refl _)⟩
      exact (HG2.out.own (p := ⟨w.heap.size + 1 + 1 + 1, 0, none⟩) (by simp; omega) _).own (p := ⟨w.heap.size + 1 + 1 + 1, 1, none⟩) (by simp; omega) _
end Go.Proofs.YtinldhoimnbkhaaDoor
/- Proved: the program's joinedRows with less. -/
namespace Go.Proofs.YtinldhoimnbkhaaDoor
open Go.ChangeShapes Go.WideShapes Go.ChangeAt Go.RowKit
set_option linter.unusedVariables false
set_option linter.unusedSimpArgs false
set_option maxRecDepth 100000 in
set_option maxHeartbeats 8000000 in
theorem joined_less (N : Int) (a : Bool) (ps : List Int) (Rf : Nat → Int) (us : Nat → Value) (v : Value) (ps2 : List Int) (Rf2 : Nat → Int) (a2 : Bool) (us2 : Nat → Value) (v2 : Value) (m : Nat) (w : World) (hr : RdR w v m N a ps Rf us) (hus : ∀ k, k < m → ∃ x n c, us k = .slice x n c) (hr2 : RdR w v2 m N a2 ps2 Rf2 us2) (hus2 : ∀ k, k < m → ∃ x n c, us2 k = .slice x n c) (hm : 1 ≤ m ∧ m ≤ 1000) (zss : List (List Int))
    (cj : ∀ k, k < m → ∀ W, Old w W → Calls Tryd.prog 64 #[.agg #[.int .i64 (ps.getD k 0), .int .i64 N, .int .i64 (Rf k), .bool a, us k], .agg #[.int .i64 (ps2.getD k 0), .int .i64 N, .int .i64 (Rf2 k), .bool a2, us2 k]] W fun e w' => ∃ v', e = .returned v' ∧ Old W w' ∧ Own w' W.heap.size v' (zss.getD k [])) :
    Calls Tryd.prog 92 #[v, v2, .func (.func 64) #[] #[]] w fun e w' => e = .returned (.slice (some ⟨w.heap.size, 0, none⟩) m m) ∧ Old w w' ∧ Ows (TS 85 5 m (elR N a ps Rf zss)) w' w.heap.size w'.heap.size [.slice (some ⟨w.heap.size, 0, none⟩) m m] := by
  obtain ⟨i0, hi, hz0, hz1, hz2⟩ := info_parts Tryd.infoRingRow
  obtain ⟨b, cap, rfl, hb, hc⟩ := hr
  have HC : Hid (∀ k, k < m → w.cell? ⟨b, k * 5, none⟩ = some (.int .i64 (ps.getD k 0)) ∧ w.cell? ⟨b, k * 5 + 1, none⟩ = some (.int .i64 N) ∧ w.cell? ⟨b, k * 5 + 2, none⟩ = some (.int .i64 (Rf k)) ∧ w.cell? ⟨b, k * 5 + 3, none⟩ = some (.bool a) ∧ w.cell? ⟨b, k * 5 + 4, none⟩ = some (us k)) := hc
  have HUS : Hid (∀ k, k < m → ∃ x n c, us k = .slice x n c) := hus
  have HCJ : Hid (∀ k, k < m → ∀ W, Old w W → Calls Tryd.prog 64 #[.agg #[.int .i64 (ps.getD k 0), .int .i64 N, .int .i64 (Rf k), .bool a, us k], .agg #[.int .i64 (ps2.getD k 0), .int .i64 N, .int .i64 (Rf2 k), .bool a2, us2 k]] W fun e w' => ∃ v', e = .returned v' ∧ Old W w' ∧ Own w' W.heap.size v' (zss.getD k [])) := cj
  obtain ⟨b2, cap2, rfl, hb2, hc2⟩ := hr2
  have HC2 : Hid (∀ k, k < m → w.cell? ⟨b2, k * 5, none⟩ = some (.int .i64 (ps2.getD k 0)) ∧ w.cell? ⟨b2, k * 5 + 1, none⟩ = some (.int .i64 N) ∧ w.cell? ⟨b2, k * 5 + 2, none⟩ = some (.int .i64 (Rf2 k)) ∧ w.cell? ⟨b2, k * 5 + 3, none⟩ = some (.bool a2) ∧ w.cell? ⟨b2, k * 5 + 4, none⟩ = some (us2 k)) := hc2
  have HUS2 : Hid (∀ k, k < m → ∃ x n c, us2 k = .slice x n c) := hus2
  clear hc2 hus2
  have HEL : Hid (∀ k, elR N a ps Rf zss k = TR (ps.getD k 0) N (Rf k) a (TI (zss.getD k []))) := fun k => rfl
  have HGD : Hid (∀ k, GoodT (elR N a ps Rf zss k)) := good_elR N a ps Rf zss
  generalize elR N a ps Rf zss = Es at *
  clear hc hus cj
  go_enter Tryd.func92, Tryd.ntmps92
  go_wp2_with (at_make; refine wpList_make_full _ rfl _ _ 73 rfl 0 85 i0 (.agg #[.int .i64 0, .int .i64 0, .int .i64 0, .bool false, .slice none 0 0]) 5 Tryd.underlying73 hi hz0 hz1 .i64 .i64 _ _ m rfl rfl rfl rfl (by rw [hz2]; omega) (by unfold maxLen; omega) (Nat.zero_le _) ?_; intro w1 hown hgrow)
  have HO : Hid (TSc 85 5 m 0 Es w1 w.heap.size m _ (fun _ _ => False)) := TSc.start hown
  have HG : Hid (Old w w1) := Below.grown (Below.refl _ _) hgrow (Nat.le_refl _) (fun _ h => by cases h)
  clear hown hgrow
  go_loopw [15, 8, 9] (fun i _ _ W => ∃ (k : Nat) (vs : List Value) (Bs : Nat → Nat → Prop), k ≤ m ∧ i = .int .i64 k ∧ Hid (TSc 85 5 m k Es W w.heap.size m vs Bs) ∧ Hid (∀ j b, j < k → Bs j b → w.heap.size < b) ∧ Hid (Old w W)) (fun i _ _ _ => m - (intOf i).toNat)
  case atStart => exact ⟨0, _, _, by omega, rfl, HO, (fun j b hj => by omega), HG⟩
  case round =>
    obtain ⟨k, vs, Bs, hk, rfl, H1, HB, HG1⟩ := hrel
    clear HO HG
    by_cases hlt : k < m
    · have d1 : decide ((k : Int) < (m : Int)) = true := by simp; omega
      have ilt : (k : Int) < (m : Int) := by omega
      obtain ⟨c0, c1, c2, c3, c4⟩ := HC.out k hlt
      obtain ⟨xu, nu, cu, eu⟩ := HUS.out k hlt
      have cj := HCJ.out k hlt
      rw [eu] at c4 cj
      obtain ⟨e0, e1, e2, e3, e4⟩ := HC2.out k hlt
      obtain ⟨xv, nv, cv, ev⟩ := HUS2.out k hlt
      rw [ev] at e4 cj
      have q0 := (HG1.out.cell (p := ⟨b, k * 5, none⟩) hb).trans c0
      have q1 := (HG1.out.cell (p := ⟨b, k * 5 + 1, none⟩) hb).trans c1
      have q2 := (HG1.out.cell (p := ⟨b, k * 5 + 2, none⟩) hb).trans c2
      have q3 := (HG1.out.cell (p := ⟨b, k * 5 + 3, none⟩) hb).trans c3
      have q4 := (HG1.out.cell (p := ⟨b, k * 5 + 4, none⟩) hb).trans c4
      have r0 := (HG1.out.cell (p := ⟨b2, k * 5, none⟩) hb2).trans e0
      have r1 := (HG1.out.cell (p := ⟨b2, k * 5 + 1, none⟩) hb2).trans e1
      have r2 := (HG1.out.cell (p := ⟨b2, k * 5 + 2, none⟩) hb2).trans e2
      have r3 := (HG1.out.cell (p := ⟨b2, k * 5 + 3, none⟩) hb2).trans e3
      have r4 := (HG1.out.cell (p := ⟨b2, k * 5 + 4, none⟩) hb2).trans e4
      have hbr2 : b2 < wr.heap.size := Nat.lt_of_lt_of_le hb2 HG1.out.size
      have hsr : w.heap.size < wr.heap.size := ownsRow_lt H1.out.row
      have HEK : Hid (Es k = TR (ps.getD k 0) N (Rf k) a (TI (zss.getD k []))) := HEL.out k
      clear c0 c1 c2 c3 c4 eu e0 e1 e2 e3 e4 ev
      generalize ps.getD k 0 = P at *
      generalize Rf k = R at *
      generalize zss.getD k [] = zs at *
      generalize ps2.getD k 0 = P2 at *
      generalize Rf2 k = R2 at *
      have HAS5 : Hid (∀ W', Old (wr.alloc (.cells #[.int .i64 P, .int .i64 N, .int .i64 R, .bool a, .slice xu nu cu] 85)) W' → (W'.cell? ⟨wr.heap.size, 0, none⟩ = some (.int .i64 P) ∧ W'.cell? ⟨wr.heap.size, 1, none⟩ = some (.int .i64 N) ∧ W'.cell? ⟨wr.heap.size, 2, none⟩ = some (.int .i64 R) ∧ W'.cell? ⟨wr.heap.size, 3, none⟩ = some (.bool a) ∧ W'.cell? ⟨wr.heap.size, 4, none⟩ = some (.slice xu nu cu) ∧ W'.cell? ⟨b2, k * 5, none⟩ = some (.int .i64 P2) ∧ W'.cell? ⟨b2, k * 5 + 1, none⟩ = some (.int .i64 N) ∧ W'.cell? ⟨b2, k * 5 + 2, none⟩ = some (.int .i64 R2) ∧ W'.cell? ⟨b2, k * 5 + 3, none⟩ = some (.bool a2) ∧ W'.cell? ⟨b2, k * 5 + 4, none⟩ = some (.slice xv nv cv))) := fun W' q => by
        have q' := Old.trans ((Old.refl wr).alloc _) q
        exact ⟨(q.cell (p := ⟨wr.heap.size, 0, none⟩) (by simp)).trans (cell_at _ _ _ _ _ rfl), (q.cell (p := ⟨wr.heap.size, 1, none⟩) (by simp)).trans (cell_at _ _ _ _ _ rfl), (q.cell (p := ⟨wr.heap.size, 2, none⟩) (by simp)).trans (cell_at _ _ _ _ _ rfl), (q.cell (p := ⟨wr.heap.size, 3, none⟩) (by simp)).trans (cell_at _ _ _ _ _ rfl), (q.cell (p := ⟨wr.heap.size, 4, none⟩) (by simp)).trans (cell_at _ _ _ _ _ rfl), (q'.cell (p := ⟨b2, k * 5, none⟩) hbr2).trans r0, (q'.cell (p := ⟨b2, k * 5 + 1, none⟩) hbr2).trans r1, (q'.cell (p := ⟨b2, k * 5 + 2, none⟩) hbr2).trans r2, (q'.cell (p := ⟨b2, k * 5 + 3, none⟩) hbr2).trans r3, (q'.cell (p := ⟨b2, k * 5 + 4, none⟩) hbr2).trans r4⟩
      have HAS6 : Hid (∀ W' y0 y1 y2 y3 y4, Old (wr.alloc (.cells #[.int .i64 P, .int .i64 N, .int .i64 R, .bool a, .slice xu nu cu] 85)) W' → ((fun W' => W'.cell? ⟨wr.heap.size, 0, none⟩ = some (.int .i64 P) ∧ W'.cell? ⟨wr.heap.size, 1, none⟩ = some (.int .i64 N) ∧ W'.cell? ⟨wr.heap.size, 2, none⟩ = some (.int .i64 R) ∧ W'.cell? ⟨wr.heap.size, 3, none⟩ = some (.bool a) ∧ W'.cell? ⟨wr.heap.size, 4, none⟩ = some (.slice xu nu cu) ∧ W'.cell? ⟨b2, k * 5, none⟩ = some (.int .i64 P2) ∧ W'.cell? ⟨b2, k * 5 + 1, none⟩ = some (.int .i64 N) ∧ W'.cell? ⟨b2, k * 5 + 2, none⟩ = some (.int .i64 R2) ∧ W'.cell? ⟨b2, k * 5 + 3, none⟩ = some (.bool a2) ∧ W'.cell? ⟨b2, k * 5 + 4, none⟩ = some (.slice xv nv cv)) (((((W'.setCell ⟨w.heap.size, k * 5, none⟩ y0).setCell ⟨w.heap.size, k * 5 + 1, none⟩ y1).setCell ⟨w.heap.size, k * 5 + 2, none⟩ y2).setCell ⟨w.heap.size, k * 5 + 3, none⟩ y3).setCell ⟨w.heap.size, k * 5 + 4, none⟩ y4))) := fun W' y0 y1 y2 y3 y4 q => by
        obtain ⟨s0, s1, s2, s3, s4, s5, s6, s7, s8, s9⟩ := HAS5.out W' q
        have key : ∀ (bb j : Nat) (z : Value), bb ≠ w.heap.size → W'.cell? ⟨bb, j, none⟩ = some z → (((((W'.setCell ⟨w.heap.size, k * 5, none⟩ y0).setCell ⟨w.heap.size, k * 5 + 1, none⟩ y1).setCell ⟨w.heap.size, k * 5 + 2, none⟩ y2).setCell ⟨w.heap.size, k * 5 + 3, none⟩ y3).setCell ⟨w.heap.size, k * 5 + 4, none⟩ y4).cell? ⟨bb, j, none⟩ = some z := fun bb j z hb hz => by
          rw [cellO _ _ _ _ hb, cellO _ _ _ _ hb, cellO _ _ _ _ hb, cellO _ _ _ _ hb, cellO _ _ _ _ hb]
          exact hz
        exact ⟨key _ _ _ (by omega) s0, key _ _ _ (by omega) s1, key _ _ _ (by omega) s2, key _ _ _ (by omega) s3, key _ _ _ (by omega) s4, key _ _ _ (by omega) s5, key _ _ _ (by omega) s6, key _ _ _ (by omega) s7, key _ _ _ (by omega) s8, key _ _ _ (by omega) s9⟩
      have HGA : Hid (Old w (wr.alloc (.cells #[.int .i64 P, .int .i64 N, .int .i64 R, .bool a, .slice xu nu cu] 85))) := HG1.out.alloc _
      have HX : Hid (∀ w6 y n c Bz, Old (wr.alloc (.cells #[.int .i64 P, .int .i64 N, .int .i64 R, .bool a, .slice xu nu cu] 85)) w6 → TI zs w6 Bz [.slice y n c] → (∀ b, Bz b → wr.heap.size + 1 ≤ b) → (∃ vs', TSc 85 5 m (k + 1) Es (((((w6.setCell ⟨w.heap.size, k * 5, none⟩ (.int .i64 P)).setCell ⟨w.heap.size, k * 5 + 1, none⟩ (.int .i64 N)).setCell ⟨w.heap.size, k * 5 + 2, none⟩ (.int .i64 R)).setCell ⟨w.heap.size, k * 5 + 3, none⟩ (.bool a)).setCell ⟨w.heap.size, k * 5 + 4, none⟩ (.slice y n c)) w.heap.size m vs' (fun q => if q = k then Bz else Bs q)) ∧ (∀ j b, j < k + 1 → (fun q => if q = k then Bz else Bs q) j b → w.heap.size < b) ∧ Old w (((((w6.setCell ⟨w.heap.size, k * 5, none⟩ (.int .i64 P)).setCell ⟨w.heap.size, k * 5 + 1, none⟩ (.int .i64 N)).setCell ⟨w.heap.size, k * 5 + 2, none⟩ (.int .i64 R)).setCell ⟨w.heap.size, k * 5 + 3, none⟩ (.bool a)).setCell ⟨w.heap.size, k * 5 + 4, none⟩ (.slice y n c))) := fun w6 y n c Bz g6 hTI hlo => by
        have g7 := Old.trans ((Old.refl wr).alloc _) g6
        refine ⟨(H1.out.old HGD.out g7).store5 HGD.out hlt _ _ _ _ _ (B := Bz) (fun W' hW' => ?_) (fun hb => by have := hlo _ hb; omega) (fun j hj b h1 h2 => ?_), fun j b hj hb => ?_, ?_⟩
        · rw [HEK.out]
          exact ⟨_, rfl, (good_TI zs).far hTI (fun b hb => hW' b (by have := hlo b hb; omega))⟩
        · have h4 := H1.out.lt HGD.out j b hj h1
          have := hlo b h2
          omega
        · by_cases e : j = k
          · simp only [e, if_true] at hb
            have := hlo b hb
            omega
          · simp only [e, if_false] at hb
            exact HB.out j b (by omega) hb
        · exact (((((Old.trans HG1.out g7).own (p := ⟨w.heap.size, k * 5, none⟩) (Nat.le_refl _) _).own (p := ⟨w.heap.size, k * 5 + 1, none⟩) (Nat.le_refl _) _).own (p := ⟨w.heap.size, k * 5 + 2, none⟩) (Nat.le_refl _) _).own (p := ⟨w.heap.size, k * 5 + 3, none⟩) (Nat.le_refl _) _).own (p := ⟨w.heap.size, k * 5 + 4, none⟩) (Nat.le_refl _) _
      have HCE : Hid (∀ w6, Old (wr.alloc (.cells #[.int .i64 P, .int .i64 N, .int .i64 R, .bool a, .slice xu nu cu] 85)) w6 → ∀ i, i < 5 → (∃ z, w6.cell? ⟨w.heap.size, k * 5 + i, none⟩ = some z) ∧ w6.frozen? ⟨w.heap.size, k * 5 + i, none⟩ = false) := fun w6 g6 i hi5 => by
        have H2 := H1.out.old HGD.out (Old.trans ((Old.refl wr).alloc _) g6)
        have h5 := H2.cell k i hlt hi5
        have h6 := cellsJ_len H2.row.1 k hlt
        exact ⟨⟨_, h5.trans (List.getElem?_eq_getElem (by omega))⟩, H2.frozen _⟩
      clear r0 r1 r2 r3 r4
      clear H1 HB HEK
      go_wp2_with fail
      go_region_held3 (fun W' => W'.cell? ⟨wr.heap.size, 0, none⟩ = some (.int .i64 P) ∧ W'.cell? ⟨wr.heap.size, 1, none⟩ = some (.int .i64 N) ∧ W'.cell? ⟨wr.heap.size, 2, none⟩ = some (.int .i64 R) ∧ W'.cell? ⟨wr.heap.size, 3, none⟩ = some (.bool a) ∧ W'.cell? ⟨wr.heap.size, 4, none⟩ = some (.slice xu nu cu) ∧ W'.cell? ⟨b2, k * 5, none⟩ = some (.int .i64 P2) ∧ W'.cell? ⟨b2, k * 5 + 1, none⟩ = some (.int .i64 N) ∧ W'.cell? ⟨b2, k * 5 + 2, none⟩ = some (.int .i64 R2) ∧ W'.cell? ⟨b2, k * 5 + 3, none⟩ = some (.bool a2) ∧ W'.cell? ⟨b2, k * 5 + 4, none⟩ = some (.slice xv nv cv)) (first | with_reducible exact HAS5.out _ Q6.out | with_reducible exact HAS5.out _ Q5.out | with_reducible exact HAS5.out _ (Below.drew (Old.refl _)) | with_reducible exact HAS6.out _ _ _ _ _ _ Q6.out | with_reducible exact HAS5.out _ (Old.refl _)) (first
        | (go_at_call 64; refine (cj _ (Below.drew HGA.out)).mono ?_; rintro e w5 ⟨v5, rfl, q5, o5⟩; obtain ⟨x5, c5, rfl⟩ := (Own.row o5).slice; have Q5 : Hid (Old (wr.alloc (.cells #[.int .i64 P, .int .i64 N, .int .i64 R, .bool a, .slice xu nu cu] 85)) w5) := Old.trans (Below.drew (Old.refl _)) q5; have O5 : Hid (Own w5 (wr.heap.size + 1) (.slice x5 zs.length c5) zs) := (by simp at o5; exact o5); clear q5 o5)
        | (go_at_call 113; refine (with_any _ _ _ _ _ _ _ _ _ _ _).mono ?_; rintro e w6 ⟨rfl, q6⟩; have Q6 : Hid (Old (wr.alloc (.cells #[.int .i64 P, .int .i64 N, .int .i64 R, .bool a, .slice xu nu cu] 85)) w6) := Old.trans Q5.out q6; have O6 : Hid (Own w6 (wr.heap.size + 1) (.slice x5 zs.length c5) zs) := O5.out.old q6; clear q6; obtain ⟨⟨z0, hz0⟩, hf0⟩ := HCE.out w6 Q6.out 0 (by omega); obtain ⟨⟨z1, hz1⟩, hf1⟩ := HCE.out w6 Q6.out 1 (by omega); obtain ⟨⟨z2, hz2⟩, hf2⟩ := HCE.out w6 Q6.out 2 (by omega); obtain ⟨⟨z3, hz3⟩, hf3⟩ := HCE.out w6 Q6.out 3 (by omega); obtain ⟨⟨z4, hz4⟩, hf4⟩ := HCE.out w6 Q6.out 4 (by omega); rw [Nat.add_zero] at hz0 hf0)
        | fail)
      all_goals
        obtain ⟨Bz, hTI, hlo⟩ := TI.of O6.out
        obtain ⟨⟨vs', n1⟩, n2, n3⟩ := HX.out w6 x5 zs.length c5 Bz Q6.out hTI hlo
        have N1 : Hid (TSc 85 5 m (k + 1) Es (((((w6.setCell ⟨w.heap.size, k * 5, none⟩ (.int .i64 P)).setCell ⟨w.heap.size, k * 5 + 1, none⟩ (.int .i64 N)).setCell ⟨w.heap.size, k * 5 + 2, none⟩ (.int .i64 R)).setCell ⟨w.heap.size, k * 5 + 3, none⟩ (.bool a)).setCell ⟨w.heap.size, k * 5 + 4, none⟩ (.slice x5 zs.length c5)) w.heap.size m vs' (fun q => if q = k then Bz else Bs q)) := n1
        have N2 : Hid (∀ j b, j < k + 1 → (fun q => if q = k then Bz else Bs q) j b → w.heap.size < b) := n2
        have N3 : Hid (Old w (((((w6.setCell ⟨w.heap.size, k * 5, none⟩ (.int .i64 P)).setCell ⟨w.heap.size, k * 5 + 1, none⟩ (.int .i64 N)).setCell ⟨w.heap.size, k * 5 + 2, none⟩ (.int .i64 R)).setCell ⟨w.heap.size, k * 5 + 3, none⟩ (.bool a)).setCell ⟨w.heap.size, k * 5 + 4, none⟩ (.slice x5 zs.length c5))) := n3
        clear n1 n2 n3 hTI hlo HX
        go_wp2_with fail
        exact ⟨⟨k + 1, vs', _, by omega, by go_num, N1, N2, N3⟩, by simp [intOf]; omega⟩
    · have d1 : decide ((k : Int) < (m : Int)) = false := by simp; omega
      obtain rfl : k = m := by omega
      have HE : Hid (Ows (TS 85 5 k Es) wr w.heap.size wr.heap.size [.slice (some ⟨w.heap.size, 0, none⟩) k k]) := H1.out.done HGD.out (Nat.le_refl _) (fun j b hj hb => Nat.le_of_lt (HB.out j b hj hb))
      go_wp2_with fail
      go_ret
      exact ⟨rfl, HG1.out, HE.out⟩
end Go.Proofs.YtinldhoimnbkhaaDoor
/- Proved: the program's eachPair with less, where both are good. -/
namespace Go.Proofs.YtinldhoimnbkhaaDoor
open Go.ChangeShapes Go.WideShapes Go.ChangeAt Go.RowKit
set_option linter.unusedVariables false
set_option linter.unusedSimpArgs false
theorem eachPair_less_yes (Nn : Nat) (ps : List Int) (a b : Bool) (xss yss : List (List Int)) (Rf : Nat → Int) (us1 us2 : Nat → Option Addr) (v : Value) (a1 a2 : Option Addr) (cap1 cap2 : Nat) (w : World) (hP : PrsW w) (hT : TabW w) (hv : Row w v ps)
    (c1 : ∀ W, PrsW W → TabW W → Old w W → Calls Tryd.prog 55 #[.agg #[.int .i64 Nn, v], .agg #[.bool a, .slice a1 xss.length cap1]] W fun e w' => Old W w' ∧ ((grB Nn ps xss = false ∧ e = .returned (.tuple #[.slice none 0 0, .bool false])) ∨ (grB Nn ps xss = true ∧ ∃ g, W.heap.size ≤ g ∧ e = .returned (.tuple #[.slice (some ⟨g, 0, none⟩) ps.length ps.length, .bool true]) ∧ RRs w' g Nn a ps Rf us1 ps.length)))
    (c2 : ∀ W, PrsW W → TabW W → Old w W → Calls Tryd.prog 55 #[.agg #[.int .i64 Nn, v], .agg #[.bool b, .slice a2 yss.length cap2]] W fun e w' => Old W w' ∧ ((grB Nn ps yss = false ∧ e = .returned (.tuple #[.slice none 0 0, .bool false])) ∨ (grB Nn ps yss = true ∧ ∃ g, W.heap.size ≤ g ∧ e = .returned (.tuple #[.slice (some ⟨g, 0, none⟩) ps.length ps.length, .bool true]) ∧ RRs w' g Nn b ps Rf us2 ps.length))) (hx : grB Nn ps xss = true) (hy : grB Nn ps yss = true) (hab : a = b) (zss : List (List Int)) (hzl : zss.length = ps.length) (hps : ps.length ≤ 6)
    (cj : ∀ k, k < ps.length → (zss.getD k []).length = Nn ∧ ∀ W, Old w W → Calls Tryd.prog 64 #[.agg #[.int .i64 (ps.getD k 0), .int .i64 Nn, .int .i64 (Rf k), .bool a, .slice (us1 k) Nn Nn], .agg #[.int .i64 (ps.getD k 0), .int .i64 Nn, .int .i64 (Rf k), .bool b, .slice (us2 k) Nn Nn]] W fun e w' => ∃ g, e = .returned (.slice (some ⟨g, 0, none⟩) Nn Nn) ∧ Old W w' ∧ Own w' W.heap.size (.slice (some ⟨g, 0, none⟩) Nn Nn) (zss.getD k [])) :
    Calls Tryd.prog 59 #[.agg #[.int .i64 Nn, v], .agg #[.bool a, .slice a1 xss.length cap1], .agg #[.bool b, .slice a2 yss.length cap2], .func (.func 64) #[] #[]] w (Rs w a zss true) := by
  have h1 : 1 ≤ ps.length := by
    unfold grB at hx
    rw [Bool.and_eq_true] at hx
    exact ((bas_at (sp_ring hx.1).2.1).1).1
  refine eachPair_yes_of Nn ps a b xss yss Rf us1 us2 v a1 a2 cap1 cap2 w hP hT hv c1 c2 hx hy hab zss hzl hps h1 _ (fun W g1 g2 q r1 r2 => ?_)
  refine (joined_less Nn a ps Rf _ _ ps Rf b _ _ ps.length W r1.rd (fun k hk => ⟨_, _, _, rfl⟩) r2.rd (fun k hk => ⟨_, _, _, rfl⟩) (by omega) zss (fun k hk W' g => ?_)).mono fun e w' h => ⟨_, h.1, h.2.1, h.2.2⟩
  have h := (cj k hk).2 W' (Old.trans q g)
  show Calls _ _ #[.agg #[.int .i64 (ps.getD k 0), .int .i64 (Nn : Int), .int .i64 (Rf k), .bool a, .slice (us1 k) ((Nn : Int).toNat) ((Nn : Int).toNat)], .agg #[.int .i64 (ps.getD k 0), .int .i64 (Nn : Int), .int .i64 (Rf k), .bool b, .slice (us2 k) ((Nn : Int).toNat) ((Nn : Int).toNat)]] _ _
  rw [show ((Nn : Int).toNat) = Nn by omega]
  refine h.mono fun e w' h => ?_
  obtain ⟨g', rfl, q1, q2⟩ := h
  exact ⟨_, rfl, q1, q2⟩
end Go.Proofs.YtinldhoimnbkhaaDoor
/- Proved: the opposites of rows, as the model makes them. -/
namespace Go.Proofs.YtinldhoimnbkhaaDoor
open Go.ChangeShapes Go.WideShapes Go.ChangeAt Go.RowKit
open M1
set_option linter.unusedVariables false
set_option linter.unusedSimpArgs false
def negF (p x y : Int) : Int := (-x) % p
def subF (p x y : Int) : Int := (x - y) % p
set_option maxRecDepth 100000 in
set_option maxHeartbeats 8000000 in
theorem spec_l5Neg (N : Int) (ps : List Int) (xss : List (List Int)) (v u1 : Value) (w : World) (hv : Row w v ps) (h1 : RowS w u1 xss) (hps : 1 ≤ ps.length ∧ ps.length ≤ 6) (hx : xss.length = ps.length)
    (hr : ∀ k, k < ps.length → (xss.getD k []).length ≤ 16 ∧ (2 ≤ ps.getD k 0 ∧ ps.getD k 0 ≤ 268435456) ∧ ∀ i, i < (xss.getD k []).length → (0 ≤ (xss.getD k []).getD i 0 ∧ (xss.getD k []).getD i 0 ≤ 268435456)) :
    Calls Tryd.prog 63 #[.agg #[.int .i64 N, v], u1] w fun e w' => ∃ v', e = .returned v' ∧ Old w w' ∧ OwS (pairL negF ps xss xss) w' w.heap.size w'.heap.size v' := by
  obtain ⟨i0, hi, hz0, hz1, hz2⟩ := info_parts Tryd.infoInt
  obtain ⟨j0, ji, jz0, jz1, jz2⟩ := info_parts Tryd.infoInts
  have HR : Hid (∀ k, k < ps.length → (xss.getD k []).length ≤ 16 ∧ (2 ≤ ps.getD k 0 ∧ ps.getD k 0 ≤ 268435456) ∧ ∀ i, i < (xss.getD k []).length → (0 ≤ (xss.getD k []).getD i 0 ∧ (xss.getD k []).getD i 0 ≤ 268435456)) := hr
  obtain ⟨a0, cap0, ev⟩ := hv.slice
  obtain ⟨a1, cap1, e1⟩ := h1.slice
  rw [hx] at e1
  subst ev e1
  rcases hv with ⟨a, cap, e, e'⟩ | ⟨b, o, cap, e, hb, h0, hc⟩
  · subst e'
    simp at hps
  rcases h1 with ⟨a, cap, e, e'⟩ | ⟨b1, o1, cap, us1, e_1, hb1, h01, hc1⟩
  · subst e'
    simp at hx
    omega
  simp only [Value.slice.injEq, true_and] at e e_1
  obtain ⟨rfl, rfl⟩ := e
  obtain ⟨rfl, hq1, rfl⟩ := e_1
  have HC : Hid (∀ j, j < ps.length → w.cell? ⟨b, o + j, none⟩ = some (.int .i64 (ps.getD j 0))) := hc
  have HC1 : Hid (∀ j, j < ps.length → w.cell? ⟨b1, o1 + j, none⟩ = some (us1 j) ∧ Row w (us1 j) (xss.getD j [])) := fun j hj => hc1 j (by omega)
  have HZ : Hid (∀ k, k < ps.length → (pairL negF ps xss xss).take (k + 1) = (pairL negF ps xss xss).take k ++ [pairR negF (ps.getD k 0) (xss.getD k []) (xss.getD k [])]) := fun k hk => by
    rw [take_succL _ _ (by rw [pairL_len]; exact hk), pairL_get _ _ _ _ _ hk]
  have HZL : Hid ((pairL negF ps xss xss).length = ps.length) := pairL_len _ _ _ _
  generalize pairL negF ps xss xss = zss at *
  clear hc hc1 hr hx hq1
  have HAO : Hid (Old w (w.alloc (.cells #[.int .i64 N, .slice (some ⟨b, o, none⟩) ps.length cap0] 31))) := (Old.refl w).alloc _
  go_enter Tryd.func63, Tryd.ntmps63
  go_wp2_with fail
  go_loopw [5, 14] (fun x i W => ∃ (k : Nat) (a : Option Addr) (cap : Nat), k ≤ ps.length ∧ i = .int .i64 k ∧ x = .slice a k cap ∧ Hid (OwS (zss.take k) W w.heap.size W.heap.size (.slice a k cap)) ∧ Hid (Old w W)) (fun _ i _ => ps.length - (intOf i).toNat)
  case atStart => exact ⟨0, none, 0, by omega, rfl, rfl, ⟨Nat.le_refl _, Or.inl ⟨rfl, by simp⟩⟩, HAO⟩
  case round =>
    obtain ⟨k, a, cap, hk, rfl, rfl, HO, HG⟩ := hrel
    have hsr := HG.out.size
    by_cases hlt : k < ps.length
    · have d1 : decide ((k : Int) < (ps.length : Int)) = true := by simp; omega
      obtain ⟨r1, r3, r4⟩ := HR.out k hlt
      obtain ⟨p1, p2⟩ := HC1.out k hlt
      obtain ⟨x1, y1, f1⟩ := p2.slice
      rw [f1] at p1 p2
      have c0 : wr.cell? ⟨b, o + k, none⟩ = some (.int .i64 (ps.getD k 0)) := (HG.out.cell (p := ⟨b, o + k, none⟩) hb).trans (HC.out k hlt)
      have c1 : wr.cell? ⟨b1, o1 + k, none⟩ = some (.slice x1 (xss.getD k []).length y1) := (HG.out.cell (p := ⟨b1, o1 + k, none⟩) hb1).trans p1
      have R1 : Hid (Row wr (.slice x1 (xss.getD k []).length y1) (xss.getD k [])) := p2.old HG.out
      have HZk := HZ.out k hlt
      have HB : Hid (∀ i, i < (xss.getD k []).length → (0 ≤ (xss.getD k []).getD i 0 ∧ (xss.getD k []).getD i 0 ≤ 268435456)) := r4
      have HT : Hid (∀ i, i < (xss.getD k []).length → (pairR negF (ps.getD k 0) (xss.getD k []) (xss.getD k [])).take (i + 1) = (pairR negF (ps.getD k 0) (xss.getD k []) (xss.getD k [])).take i ++ [negF (ps.getD k 0) ((xss.getD k []).getD i 0) ((xss.getD k []).getD i 0)]) := fun i hi' => by
        rw [take_succI _ _ (by rw [pairR_len]; exact hi'), pairR_get _ _ _ _ _ hi']
      have HTL : Hid ((pairR negF (ps.getD k 0) (xss.getD k []) (xss.getD k [])).length = (xss.getD k []).length) := pairR_len _ _ _ _
      have HZK : Hid (zss.take (k + 1) = zss.take k ++ [pairR negF (ps.getD k 0) (xss.getD k []) (xss.getD k [])]) := HZk
      have hbr : b < wr.heap.size := by omega
      have hbr1 : b1 < wr.heap.size := by omega
      clear HZk r4 p1 p2 f1
      generalize pairR negF (ps.getD k 0) (xss.getD k []) (xss.getD k []) = zs at *
      generalize xss.getD k [] = xs at *
      generalize ps.getD k 0 = p at *
      have HEMB : Hid (∀ (W : World) (ra : Option Addr) (rc : Nat), Old wr W → Own W wr.heap.size (.slice ra zs.length rc) zs → zs.length ≤ rc → ∃ vs, W.ownsRow w.heap.size 22 1 (.slice a k cap) k vs ∧ (∀ v' w', w'.ownsRow w.heap.size 22 1 v' (k + 1) (vs ++ [.slice ra zs.length rc]) → W.grownBy w' (Value.slice a k cap).ownBlock → (v'.ownBlock = (Value.slice a k cap).ownBlock ∨ v'.ownBlock = some W.heap.size) → OwS (zss.take (k + 1)) w' w.heap.size w'.heap.size v')) := fun W ra rc g o hc => by
        have hl : (zss.take k).length = k := by rw [List.length_take]; have := HZL.out; omega
        have := OwS.app HO.out hsr g o hc
        rw [hl] at this
        rw [HZK.out]
        exact this
      have HOB : Hid (∀ p, (Value.slice a k cap).ownBlock = some p → w.heap.size ≤ p) := fun p hp => by
        obtain ⟨hh, ⟨e, e2⟩ | ⟨p', cap', vs, e, hcap, hl, hhi, _⟩⟩ := HO.out
        · rw [e] at hp
          cases hp
        · rw [e] at hp
          simp only [Value.ownBlock, Option.some.injEq] at hp
          omega
      rename World => wq
      go_wp2_with fail
      go_loopw [8, 24] (fun x i W => ∃ (j : Nat) (a : Option Addr) (cap : Nat), j ≤ xs.length ∧ i = .int .i64 j ∧ x = .slice a j cap ∧ Hid (Own W wq.heap.size (.slice a j cap) (zs.take j)) ∧ Hid (Old wq W)) (fun _ i _ => xs.length - (intOf i).toNat)
      case atStart => exact ⟨0, none, 0, by omega, rfl, rfl, (by exact own_nil _ _), Old.refl _⟩
      case round =>
        obtain ⟨j, ra, rc, hj, rfl, rfl, HO2, HG2⟩ := hrel
        have hs2 := HG2.out.size
        by_cases hjl : j < xs.length
        · have d2 : decide ((j : Int) < (xs.length : Int)) = true := by simp; omega
          obtain ⟨bx1, bx2⟩ := HB.out j hjl
          have HT1 := HT.out j hjl
          rcases R1.out with ⟨_, _, e, e'⟩ | ⟨b3, o3, cap3, e, hb3, h03, hc3⟩
          · subst e'
            simp at hjl
          simp only [Value.slice.injEq, true_and] at e
          obtain ⟨rfl, rfl⟩ := e
          have k1 : wr.cell? ⟨b1, o1 + k, none⟩ = some (.slice (some ⟨b3, o3, none⟩) xs.length y1) := (HG2.out.cell (p := ⟨b1, o1 + k, none⟩) hbr1).trans c1
          have k3 : wr.cell? ⟨b3, o3 + j, none⟩ = some (.int .i64 (xs.getD j 0)) := (HG2.out.cell (p := ⟨b3, o3 + j, none⟩) hb3).trans (hc3 j hjl)
          have htk : (zs.take j).length = j := by rw [List.length_take]; have := HTL.out; omega
          have HW1 : Hid (∀ d o, Own ((wr.alloc o).drewN d) wq.heap.size (.slice ra j rc) (zs.take j)) := fun d o => HO2.out.old (((Old.refl wr).alloc o).drewN d)
          have HG5 : Hid (∀ d o, Old wq ((wr.alloc o).drewN d)) := fun d o => (HG2.out.alloc o).drewN d
          have HT2 : Hid (zs.take (j + 1) = zs.take j ++ [negF p (xs.getD j 0) (xs.getD j 0)]) := HT1
          clear hc3 HT1
          have hp0 : ¬ p = 0 := by omega
          generalize xs.getD j 0 = x at *
          obtain ⟨q, hq⟩ : ∃ q, (-x) % p = q := ⟨_, rfl⟩
          have hqb : 0 ≤ q ∧ q < 268435456 := by
            have g1 := Int.emod_nonneg (-x) (show p ≠ 0 by omega)
            have g2 := Int.emod_lt_of_pos (-x) (show 0 < p by omega)
            omega
          have cm := fun W => spec_mod (-x) p W (by omega) (by omega)
          have e5 : negF p x x = q := hq
          rw [e5] at HT2
          rw [hq] at cm
          clear hq e5
          go_wp2_with fail
          refine (cm _).mono ?_
          rintro e w4 ⟨rfl, hw4⟩
          replace hw4 := hw4.symm
          subst hw4
          go_wp2_with (at_builtin; go_loud (refine wpList_append_own _ rfl _ _ 22 rfl wq.heap.size 3 i0 (.int .i64 0) 1 8 Tryd.underlying22 hi hz0 hz1 hz2 rfl (by decide) _ _ _ rfl (by have := HO2.out.alloc (.cells #[.int .i64 q] 3); unfold Own at this; rw [htk] at this; exact this) ⟨wr.heap.size, 0, none⟩ 1 1 [.int .i64 q] rfl rfl (one_cell _ _ _) (one_one _) (by unfold maxLen; omega) (by omega) (by simp; omega) ?_; intro v5 w5 o5 g5 x5; have O5 : Hid (Own w5 wq.heap.size v5 (zs.take (j + 1))) := (by have := HT2.out; show Own _ _ _ _; rw [this]; exact Own.snoc (by rw [htk]; exact o5)); have G5 : Hid (Old wq w5) := Below.grown (HG2.out.alloc (.cells #[.int .i64 q] 3)) g5 (HG2.out.alloc (.cells #[.int .i64 q] 3)).size (fun j hj => (HO2.out.lt j hj).1); clear o5 g5 x5))
          obtain ⟨a5, cap5, rfl⟩ := (Own.row O5.out).slice
          have htk1 : (zs.take (j + 1)).length = j + 1 := by rw [List.length_take]; have := HTL.out; omega
          rw [htk1] at O5 ⊢
          exact ⟨⟨j + 1, _, _, by omega, by go_num, rfl, O5, G5⟩, by simp [intOf]; omega⟩
        · have d2 : decide ((j : Int) < (xs.length : Int)) = false := by simp; omega
          obtain rfl : j = xs.length := by omega
          have hzl := HTL.out
          have own2 := HO2.out
          rw [List.take_of_length_le (by omega)] at own2
          have hrc : xs.length ≤ rc := by
            rcases own2.2 with ⟨e, hn⟩ | ⟨_, _, _, e, _, _, hn, _⟩
            · simp only [Value.slice.injEq] at e
              omega
            · simp only [Value.slice.injEq, true_and] at e
              omega
          rw [← hzl] at own2 hrc
          obtain ⟨vs, ov, hem⟩ := HEMB.out (wr.alloc (.cells #[.slice ra zs.length rc] 22)) ra rc (HG2.out.alloc _) (own2.alloc _) hrc
          rw [hzl] at ov hem
          have OV : Hid ((wr.alloc (.cells #[.slice ra xs.length rc] 22)).ownsRow w.heap.size 22 1 (.slice a k cap) k vs) := ov
          have HEM : Hid (∀ v' w', w'.ownsRow w.heap.size 22 1 v' (k + 1) (vs ++ [.slice ra xs.length rc]) → (wr.alloc (.cells #[.slice ra xs.length rc] 22)).grownBy w' (Value.slice a k cap).ownBlock → (v'.ownBlock = (Value.slice a k cap).ownBlock ∨ v'.ownBlock = some (wr.alloc (.cells #[.slice ra xs.length rc] 22)).heap.size) → OwS (zss.take (k + 1)) w' w.heap.size w'.heap.size v') := hem
          have HWW : Hid (Old w (wr.alloc (.cells #[.slice ra xs.length rc] 22))) := (Old.trans HG.out HG2.out).alloc _
          clear own2 ov hem hzl hrc HO2
          go_wp2_with (at_builtin; (refine wpList_append_own_at _ rfl _ _ 25 rfl w.heap.size 22 j0 (.slice none 0 0) 1 24 Tryd.underlying25 ji jz0 jz1 jz2 rfl (by decide) _ _ _ rfl OV.out ⟨wr.heap.size, 0, none⟩ 1 1 [.slice ra xs.length rc] rfl rfl (one_cell _ _ _) (one_sl _ _ _) (by unfold maxLen; omega) (by omega) (by simp; omega) ?_; intro v5 w5 o5 g5 x5 l5; have O5 : Hid (OwS (zss.take (k + 1)) w5 w.heap.size w5.heap.size v5) := HEM.out v5 w5 o5 g5 l5; have G5 : Hid (Old w w5) := Below.grown HWW.out g5 HWW.out.size (fun j hj => HOB.out j hj); clear o5 g5 x5 l5))
          have hl1 : (zss.take (k + 1)).length = k + 1 := by rw [List.length_take]; have := HZL.out; omega
          obtain ⟨a5, cap5, e5⟩ := O5.out.slice
          subst e5
          rw [hl1] at O5 ⊢
          exact ⟨⟨k + 1, _, _, by omega, by go_num, rfl, O5, G5⟩, by simp [intOf]; omega⟩
    · have d1 : decide ((k : Int) < (ps.length : Int)) = false := by simp; omega
      obtain rfl : k = ps.length := by omega
      have HF : Hid (OwS zss wr w.heap.size wr.heap.size (.slice a ps.length cap)) := by
        have := HO.out
        rw [List.take_of_length_le (by have := HZL.out; omega)] at this
        exact this
      go_wp2_with fail
      go_ret
      exact ⟨_, rfl, HG.out, HF.out⟩
end Go.Proofs.YtinldhoimnbkhaaDoor
/- Proved: the program's two rows, number by number. -/
namespace Go.Proofs.YtinldhoimnbkhaaDoor
open Go.ChangeShapes Go.WideShapes Go.ChangeAt Go.RowKit
set_option linter.unusedVariables false
set_option linter.unusedSimpArgs false
set_option maxRecDepth 100000 in
set_option maxHeartbeats 4000000 in
theorem impl_less (p r p' r' N' : Int) (n n' : Bool) (Nn : Nat) (xs ys : List Int) (ua ub : Option Addr) (w : World) (hv : Row w (.slice ua Nn Nn) xs) (hu : Row w (.slice ub Nn Nn) ys) (hp : 2 ≤ p ∧ p ≤ 268435456) (hN : 2 ≤ Nn ∧ Nn ≤ 16) (la : xs.length = Nn) (lb : ys.length = Nn) (ha : ∀ i, i < Nn → (0 ≤ xs.getD i 0 ∧ xs.getD i 0 < p) ∧ (0 ≤ ys.getD i 0 ∧ ys.getD i 0 < p)) :
    Calls Tryd.prog 64 #[.agg #[.int .i64 p, .int .i64 Nn, .int .i64 r, .bool n, .slice ua Nn Nn], .agg #[.int .i64 p', .int .i64 N', .int .i64 r', .bool n', .slice ub Nn Nn]] w fun e w' => ∃ g, e = .returned (.slice (some ⟨g, 0, none⟩) Nn Nn) ∧ Old w w' ∧ Own w' w.heap.size (.slice (some ⟨g, 0, none⟩) Nn Nn) (pairR subF p xs ys) := by
  obtain ⟨i0, hi, hz0, hz1, hz2⟩ := info_parts Tryd.infoInt
  rcases hv with ⟨_, _, e, e'⟩ | ⟨b1, o1, cap1, e, hb1, h01, hc1⟩
  · subst e'
    simp at la
    omega
  rcases hu with ⟨_, _, e_, e'⟩ | ⟨b2, o2, cap2, e_, hb2, h02, hc2⟩
  · subst e'
    simp at lb
    omega
  simp only [Value.slice.injEq] at e e_
  obtain ⟨rfl, e7, e8⟩ := e
  obtain ⟨rfl, e9, e10⟩ := e_
  have HC1 : Hid (∀ j, j < Nn → w.cell? ⟨b1, o1 + j, none⟩ = some (.int .i64 (xs.getD j 0))) := fun j hj => hc1 j (by omega)
  have HC2 : Hid (∀ j, j < Nn → w.cell? ⟨b2, o2 + j, none⟩ = some (.int .i64 (ys.getD j 0))) := fun j hj => hc2 j (by omega)
  have HE : Hid (∀ k, k < Nn → (pairR subF p xs ys).getD k 0 = subF p (xs.getD k 0) (ys.getD k 0)) := fun k hk => pairR_get _ _ _ _ _ (by omega)
  have hlen : (pairR subF p xs ys).length = Nn := by rw [pairR_len, la]
  have HA : Hid (∀ i, i < Nn → (0 ≤ xs.getD i 0 ∧ xs.getD i 0 < p) ∧ (0 ≤ ys.getD i 0 ∧ ys.getD i 0 < p)) := ha
  generalize pairR subF p xs ys = zs at *
  clear hc1 hc2 la lb ha e7 e8 e9 e10 h01 h02
  have HB : Hid (∀ W', Old ((w.alloc (.cells #[.int .i64 p, .int .i64 Nn, .int .i64 r, .bool n, .slice (some ⟨b1, o1, none⟩) Nn Nn] 85)).alloc (.cells #[.int .i64 p', .int .i64 N', .int .i64 r', .bool n', .slice (some ⟨b2, o2, none⟩) Nn Nn] 85)) W' → (W'.cell? ⟨w.heap.size, 0, none⟩ = some (.int .i64 p) ∧ W'.cell? ⟨w.heap.size, 1, none⟩ = some (.int .i64 Nn) ∧ W'.cell? ⟨w.heap.size, 4, none⟩ = some (.slice (some ⟨b1, o1, none⟩) Nn Nn) ∧ W'.cell? ⟨w.heap.size + 1, 4, none⟩ = some (.slice (some ⟨b2, o2, none⟩) Nn Nn))) := fun W' g =>
    ⟨(g.cell (p := ⟨w.heap.size, 0, none⟩) (by simp; omega)).trans (by simp [cell_at, cell_lt]), (g.cell (p := ⟨w.heap.size, 1, none⟩) (by simp; omega)).trans (by simp [cell_at, cell_lt]), (g.cell (p := ⟨w.heap.size, 4, none⟩) (by simp; omega)).trans (by simp [cell_at, cell_lt]), (g.cell (p := ⟨w.heap.size + 1, 4, none⟩) (by simp)).trans (by simp [cell_at, cell_lt])⟩
  have HSZ : Hid (((w.alloc (.cells #[.int .i64 p, .int .i64 Nn, .int .i64 r, .bool n, .slice (some ⟨b1, o1, none⟩) Nn Nn] 85)).alloc (.cells #[.int .i64 p', .int .i64 N', .int .i64 r', .bool n', .slice (some ⟨b2, o2, none⟩) Nn Nn] 85)).heap.size = w.heap.size + 1 + 1) := by show _ = _; simp
  have hpn : ¬ p = 0 := by omega
  go_enter Tryd.func64, Tryd.ntmps64
  go_wp2_with (at_make; refine wpList_make_full _ rfl _ _ 22 rfl (w.heap.size + 1 + 1) 3 i0 (.int .i64 0) 1 Tryd.underlying22 hi hz0 hz1 .i64 .i64 _ _ Nn rfl rfl rfl rfl (by rw [hz2]; omega) (by unfold maxLen; omega) (by simp) ?_; intro w1 hown hgrow; have z1 := (HB.out w1 (Old.by_ (Old.refl _) hgrow (fun b hb => by cases hb))).2.1)
  have HO : Hid (OwnI w1 (w.heap.size + 1 + 1) (w.heap.size + 1 + 1) Nn (List.replicate Nn 0)) := by
    rw [made_ints, HSZ.out] at hown
    exact hown
  have HG : Hid (Old ((w.alloc (.cells #[.int .i64 p, .int .i64 Nn, .int .i64 r, .bool n, .slice (some ⟨b1, o1, none⟩) Nn Nn] 85)).alloc (.cells #[.int .i64 p', .int .i64 N', .int .i64 r', .bool n', .slice (some ⟨b2, o2, none⟩) Nn Nn] 85)) w1) := Old.by_ (Old.refl _) hgrow (fun b hb => by cases hb)
  clear hown hgrow z1
  go_loopw [14] (fun i W => ∃ k : Nat, k ≤ Nn ∧ i = .int .i64 k ∧ Hid (OwnI W (w.heap.size + 1 + 1) (w.heap.size + 1 + 1) Nn (fillN zs k)) ∧ Hid (Old ((w.alloc (.cells #[.int .i64 p, .int .i64 Nn, .int .i64 r, .bool n, .slice (some ⟨b1, o1, none⟩) Nn Nn] 85)).alloc (.cells #[.int .i64 p', .int .i64 N', .int .i64 r', .bool n', .slice (some ⟨b2, o2, none⟩) Nn Nn] 85)) W)) (fun i _ => Nn - (intOf i).toNat)
  case atStart => exact ⟨0, by omega, rfl, (by show OwnI _ _ _ _ _; rw [fillN_zero, hlen]; exact HO.out), HG⟩
  case round =>
    obtain ⟨k, hk, rfl, HO1, HG2⟩ := hrel
    clear HO HG
    have HG1 : Hid (Old w wr) := Old.trans (((Old.refl w).alloc _).alloc _) HG2.out
    by_cases hlt : k < Nn
    · have d1 : decide ((k : Int) < (Nn : Int)) = true := by simp; omega
      have i1 : (k : Int) < (Nn : Int) := by omega
      have c1 : wr.cell? ⟨b1, o1 + k, none⟩ = some (.int .i64 (xs.getD k 0)) := (HG1.out.cell (p := ⟨b1, o1 + k, none⟩) hb1).trans (HC1.out k hlt)
      have c2 : wr.cell? ⟨b2, o2 + k, none⟩ = some (.int .i64 (ys.getD k 0)) := (HG1.out.cell (p := ⟨b2, o2 + k, none⟩) hb2).trans (HC2.out k hlt)
      obtain ⟨z0, z1, z4, z5⟩ := HB.out wr HG2.out
      have c3 := HO1.out.get (fillN_len zs k (by omega) |>.trans hlen) k hlt
      have c4 := HO1.out.free k
      have HX : Hid (zs.getD k 0 = subF p (xs.getD k 0) (ys.getD k 0)) := HE.out k hlt
      obtain ⟨⟨bx1, bx2⟩, ⟨by1, by2⟩⟩ := HA.out k hlt
      generalize xs.getD k 0 = x at *
      generalize ys.getD k 0 = y at *
      have HP : Hid (OwnI (wr.setCell ⟨w.heap.size + 1 + 1, k, none⟩ (.int .i64 (subF p x y))) (w.heap.size + 1 + 1) (w.heap.size + 1 + 1) Nn (fillN zs (k + 1))) := by
        have := HO1.out.put k (subF p x y)
        rw [← HX.out, fillN_set zs k (by omega)] at this
        rw [← HX.out]
        exact this
      obtain ⟨q, hq⟩ : ∃ q, (x - y) % p = q := ⟨_, rfl⟩
      have cr := fun W => impl_residueOf (x - y) p W (by omega) (by omega)
      rw [hq] at cr
      have ew : IntKind.i64.wrap (x - y) = x - y := by rw [IntKind.wrap_i64]; omega
      have e5 : subF p x y = q := hq
      rw [e5] at HX
      have hqb : 0 ≤ q ∧ q < 268435456 := by
        have g1 := Int.emod_nonneg (x - y) (show p ≠ 0 by omega)
        have g2 := Int.emod_lt_of_pos (x - y) (show 0 < p by omega)
        omega
      clear HP hq e5
      have hbk1 : b1 < wr.heap.size := by have := HG1.out.size; omega
      have hbk2 : b2 < wr.heap.size := by have := HG1.out.size; omega
      have hwz : w.heap.size + 1 + 1 ≤ wr.heap.size := by have := HG2.out.size; have := HSZ.out; omega
      have HAS : Hid (∀ W', Old wr W' → (W'.cell? ⟨w.heap.size, 0, none⟩ = some (.int .i64 p) ∧ W'.cell? ⟨w.heap.size, 4, none⟩ = some (.slice (some ⟨b1, o1, none⟩) Nn Nn) ∧ W'.cell? ⟨w.heap.size + 1, 4, none⟩ = some (.slice (some ⟨b2, o2, none⟩) Nn Nn) ∧ W'.cell? ⟨b1, o1 + k, none⟩ = some (.int .i64 x) ∧ W'.cell? ⟨b2, o2 + k, none⟩ = some (.int .i64 y))) := fun W' g => by
        obtain ⟨s0, s1, s4, s5⟩ := HB.out W' (Old.trans HG2.out g)
        exact ⟨s0, s4, s5, (g.cell (p := ⟨b1, o1 + k, none⟩) hbk1).trans c1, (g.cell (p := ⟨b2, o2 + k, none⟩) hbk2).trans c2⟩
      have HAS2 : Hid (∀ W' z, Old wr W' → ((fun W' => W'.cell? ⟨w.heap.size, 0, none⟩ = some (.int .i64 p) ∧ W'.cell? ⟨w.heap.size, 4, none⟩ = some (.slice (some ⟨b1, o1, none⟩) Nn Nn) ∧ W'.cell? ⟨w.heap.size + 1, 4, none⟩ = some (.slice (some ⟨b2, o2, none⟩) Nn Nn) ∧ W'.cell? ⟨b1, o1 + k, none⟩ = some (.int .i64 x) ∧ W'.cell? ⟨b2, o2 + k, none⟩ = some (.int .i64 y)) (W'.setCell ⟨w.heap.size + 1 + 1, k, none⟩ z))) := fun W' z g => by
        obtain ⟨s0, s4, s5, s6, s7⟩ := HAS.out W' g
        have key : ∀ (bb j : Nat) (v : Value), bb ≠ w.heap.size + 1 + 1 → W'.cell? ⟨bb, j, none⟩ = some v → (W'.setCell ⟨w.heap.size + 1 + 1, k, none⟩ z).cell? ⟨bb, j, none⟩ = some v := fun bb j v hb hz => (cellO _ _ _ _ hb).trans hz
        exact ⟨key _ _ _ (by omega) s0, key _ _ _ (by omega) s4, key _ _ _ (by omega) s5, key _ _ _ (by omega) s6, key _ _ _ (by omega) s7⟩
      have HLK : Hid (zs.length = Nn) := hlen
      clear z0 z1 z4 z5 c1 c2 c3 c4
      obtain ⟨z0, z4, z5, c1, c2⟩ := HAS.out wr (Old.refl _)
      go_wp2_with fail
      go_region_held3 (fun W' => W'.cell? ⟨w.heap.size, 0, none⟩ = some (.int .i64 p) ∧ W'.cell? ⟨w.heap.size, 4, none⟩ = some (.slice (some ⟨b1, o1, none⟩) Nn Nn) ∧ W'.cell? ⟨w.heap.size + 1, 4, none⟩ = some (.slice (some ⟨b2, o2, none⟩) Nn Nn) ∧ W'.cell? ⟨b1, o1 + k, none⟩ = some (.int .i64 x) ∧ W'.cell? ⟨b2, o2 + k, none⟩ = some (.int .i64 y)) (first | with_reducible exact HAS.out _ G5.out | with_reducible exact HAS.out _ (Below.drew (Old.refl wr)) | with_reducible exact HAS2.out _ _ G5.out | with_reducible exact HAS.out _ (Old.refl wr)) (first
        | (go_at_call 94; refine (cr _).mono ?_; rintro e w5 ⟨rfl, hw5⟩; have G5 : Hid (Old wr w5) := (by rw [hw5]; exact Below.drew (Old.refl wr)); clear hw5; have c3 := (HO1.out.old G5.out).get (fillN_len zs k (by omega) |>.trans HLK.out) k hlt; have c4 := (HO1.out.old G5.out).free k; generalize (fillN zs k).getD k 0 = oldv at c3)
        | fail)
      all_goals
        have HP : Hid (OwnI (w5.setCell ⟨w.heap.size + 1 + 1, k, none⟩ (.int .i64 q)) (w.heap.size + 1 + 1) (w.heap.size + 1 + 1) Nn (fillN zs (k + 1))) := by
          have := (HO1.out.old G5.out).put k q
          rw [← HX.out, fillN_set zs k (by omega)] at this
          rw [← HX.out]
          exact this
        have HN2 : Hid (Old ((w.alloc (.cells #[.int .i64 p, .int .i64 Nn, .int .i64 r, .bool n, .slice (some ⟨b1, o1, none⟩) Nn Nn] 85)).alloc (.cells #[.int .i64 p', .int .i64 N', .int .i64 r', .bool n', .slice (some ⟨b2, o2, none⟩) Nn Nn] 85)) (w5.setCell ⟨w.heap.size + 1 + 1, k, none⟩ (.int .i64 q))) := (Old.trans HG2.out G5.out).own (by have := HSZ.out; simp; try omega) _
        go_wp2_with fail
        exact ⟨⟨k + 1, by omega, by go_num, HP, HN2⟩, by simp [intOf]; omega⟩
    · have d1 : decide ((k : Int) < (Nn : Int)) = false := by simp; omega
      obtain rfl : k = Nn := by omega
      have HF : Hid (Own wr (w.heap.size + 1 + 1) (.slice (some ⟨w.heap.size + 1 + 1, 0, none⟩) k k) zs) := by
        have := HO1.out.own ((fillN_len zs k (by omega)).trans hlen)
        rw [show fillN zs k = zs by rw [← hlen]; exact fillN_all zs] at this
        exact this
      go_wp2_with fail
      go_ret
      exact ⟨_, rfl, HG1.out, HF.out.low (by omega)⟩
end Go.Proofs.YtinldhoimnbkhaaDoor
/- Proved: the model's SubRows. -/
namespace Go.Proofs.YtinldhoimnbkhaaDoor
open Go.ChangeShapes Go.WideShapes Go.ChangeAt Go.RowKit
open M1
set_option linter.unusedVariables false
set_option linter.unusedSimpArgs false
theorem pair_sub (ps : List Int) (xss yss : List (List Int)) (h : ∀ k, k < ps.length → (xss.getD k []).length = (yss.getD k []).length) : pairL addF ps xss (pairL negF ps yss yss) = pairL subF ps xss yss := by
  unfold pairL
  apply List.map_congr_left
  intro k hk
  have hk' : k < ps.length := by simpa using hk
  have e : ((List.range ps.length).map fun k => pairR negF (ps.getD k 0) (yss.getD k []) (yss.getD k [])).getD k [] = pairR negF (ps.getD k 0) (yss.getD k []) (yss.getD k []) := pairL_get negF ps yss yss k hk'
  rw [e]
  unfold pairR
  apply List.map_congr_left
  intro i hi
  have hi' : i < (xss.getD k []).length := by simpa using hi
  have e2 := pairR_get negF (ps.getD k 0) (yss.getD k []) (yss.getD k []) i (by have := h k hk'; omega)
  unfold pairR at e2
  rw [e2]
  unfold addF subF negF
  rw [Int.add_emod_emod, Int.sub_eq_add_neg]
set_option maxRecDepth 100000 in
set_option maxHeartbeats 4000000 in
theorem spec_SubRows_no (N : Int) (ps : List Int) (a b : Bool) (xss yss : List (List Int)) (v u1 u2 : Value) (w : World) (hv : Row w v ps) (hf : Fit v) (h1 : RowS w u1 xss) (h2 : RowS w u2 yss) (hlp : ps.length ≤ 1048576) (hx : ∀ x ∈ ps, -9223372036854775808 ≤ x ∧ x ≤ 9223372036854775807) (hl1 : xss.length ≤ 1048576) (hr1 : ∀ r ∈ xss, r.length ≤ 1048576) (hl2 : yss.length ≤ 1048576) (hr2 : ∀ r ∈ yss, r.length ≤ 1048576) (hno : twoB N ps a b xss yss = false) :
    Calls Tryd.prog 25 #[.agg #[.int .i64 N, v], .agg #[.bool a, u1], .agg #[.bool b, u2]] w (Rs w false [] false) := by
  have c1 := fun W (h : Old w W) => spec_l5Two N ps a b xss yss v u1 u2 W (hv.old h) hf (h1.old h) (h2.old h) hlp hx hl1 hr1 hl2 hr2
  rw [hno] at c1
  obtain ⟨a0, cap0, ev⟩ := hv.slice
  obtain ⟨a1, cap1, e1⟩ := h1.slice
  obtain ⟨a2, cap2, e2⟩ := h2.slice
  subst ev e1 e2
  have HA : Hid (Old w ((((w.alloc (.cells #[.int .i64 N, .slice a0 ps.length cap0] 31)).alloc (.cells #[.bool a, .slice a1 xss.length cap1] 33)).alloc (.cells #[.bool b, .slice a2 yss.length cap2] 33)).alloc (.cells #[.bool false, .slice none 0 0] 33))) := ((((Old.refl w).alloc _).alloc _).alloc _).alloc _
  have HS : Hid (StW ((((w.alloc (.cells #[.int .i64 N, .slice a0 ps.length cap0] 31)).alloc (.cells #[.bool a, .slice a1 xss.length cap1] 33)).alloc (.cells #[.bool b, .slice a2 yss.length cap2] 33)).alloc (.cells #[.bool false, .slice none 0 0] 33)) (w.heap.size + 1 + 1 + 1) (.bool false) (.slice none 0 0) 33) := by
    have := StW.new (((w.alloc (.cells #[.int .i64 N, .slice a0 ps.length cap0] 31)).alloc (.cells #[.bool a, .slice a1 xss.length cap1] 33)).alloc (.cells #[.bool b, .slice a2 yss.length cap2] 33)) (.bool false) (.slice none 0 0) 33
    simp at this
    exact this
  clear hv h1 h2 hf hx hr1 hr2
  go_enter Tryd.func25, Tryd.ntmps25
  go_wp2_with fail
  refine (c1 _ HA.out).mono ?_
  rintro e w1 ⟨rfl, g1⟩
  have HG1 : Hid (Old w w1) := Old.trans HA.out g1
  have S1 : Hid (StW w1 (w.heap.size + 1 + 1 + 1) (.bool false) (.slice none 0 0) 33) := HS.out.old g1
  have q0 := S1.out.c0
  have q1 := S1.out.c1
  have f0 := S1.out.f0
  have f1 := S1.out.f1
  clear g1
  go_wp2_with fail
  have hs : w.heap.size + 1 + 1 + 1 < w1.heap.size := S1.out.lt
  refine bodyPost_ret (ret_rb (x := .bool false) (y := .slice none 0 0) (z := .bool false) Tryd.results25 _ _ rfl rfl (st_put2 S1.out _ _)) rfl ⟨_, rfl, ?_, XR.nil _ _ _ _ (Nat.le_refl _)⟩
  exact (HG1.out.own (p := ⟨w.heap.size + 1 + 1 + 1, 0, none⟩) (by simp; omega) _).own (p := ⟨w.heap.size + 1 + 1 + 1, 1, none⟩) (by simp; omega) _
set_option maxRecDepth 100000 in
set_option maxHeartbeats 8000000 in
theorem spec_SubRows_yes (N : Int) (ps : List Int) (a b : Bool) (xss yss : List (List Int)) (v u1 u2 : Value) (w : World) (hv : Row w v ps) (hf : Fit v) (h1 : RowS w u1 xss) (h2 : RowS w u2 yss) (hlp : ps.length ≤ 1048576) (hx : ∀ x ∈ ps, -9223372036854775808 ≤ x ∧ x ≤ 9223372036854775807) (hl1 : xss.length ≤ 1048576) (hr1 : ∀ r ∈ xss, r.length ≤ 1048576) (hl2 : yss.length ≤ 1048576) (hr2 : ∀ r ∈ yss, r.length ≤ 1048576) (hno : twoB N ps a b xss yss = true) :
    Calls Tryd.prog 25 #[.agg #[.int .i64 N, v], .agg #[.bool a, u1], .agg #[.bool b, u2]] w (Rs w a (pairL subF ps xss yss) true) := by
  have c1 := fun W (h : Old w W) => spec_l5Two N ps a b xss yss v u1 u2 W (hv.old h) hf (h1.old h) (h2.old h) hlp hx hl1 hr1 hl2 hr2
  rw [hno] at c1
  obtain ⟨t1, t2, t3, t4, t5, t6⟩ := two_parts hno
  have c2 := fun W (h : Old w W) => spec_l5Neg N ps yss v u2 W (hv.old h) (h2.old h) t2 t4 (fun k hk => by
    obtain ⟨r1, r2, r3, r4⟩ := t6 k hk
    refine ⟨by omega, r3, fun i hi => ?_⟩
    obtain ⟨⟨x1, x2⟩, ⟨x3, x4⟩⟩ := r4 i (by omega)
    omega)
  have c3 := fun W u (h : Old w W) (hu : RowS W u (pairL negF ps yss yss)) => spec_l5Add N ps xss (pairL negF ps yss yss) v u1 u W (hv.old h) (h1.old h) hu t2 t3 (pairL_len _ _ _ _) (fun k hk => by
    obtain ⟨r1, r2, r3, r4⟩ := t6 k hk
    rw [pairL_get _ _ _ _ _ hk, pairR_len]
    refine ⟨by omega, by omega, r3, fun i hi => ?_⟩
    obtain ⟨⟨x1, x2⟩, ⟨x3, x4⟩⟩ := r4 i hi
    rw [pairR_get _ _ _ _ _ (by omega)]
    have g1 := Int.emod_nonneg (-((yss.getD k []).getD i 0)) (show ps.getD k 0 ≠ 0 by omega)
    have g2 := Int.emod_lt_of_pos (-((yss.getD k []).getD i 0)) (show 0 < ps.getD k 0 by omega)
    unfold negF
    omega)
  rw [pair_sub ps xss yss (fun k hk => by have := t6 k hk; omega)] at c3
  obtain ⟨a0, cap0, ev⟩ := hv.slice
  obtain ⟨a1, cap1, e1⟩ := h1.slice
  obtain ⟨a2, cap2, e2⟩ := h2.slice
  subst ev e1 e2
  have HA : Hid (Old w ((((w.alloc (.cells #[.int .i64 N, .slice a0 ps.length cap0] 31)).alloc (.cells #[.bool a, .slice a1 xss.length cap1] 33)).alloc (.cells #[.bool b, .slice a2 yss.length cap2] 33)).alloc (.cells #[.bool false, .slice none 0 0] 33))) := ((((Old.refl w).alloc _).alloc _).alloc _).alloc _
  have HS : Hid (StW ((((w.alloc (.cells #[.int .i64 N, .slice a0 ps.length cap0] 31)).alloc (.cells #[.bool a, .slice a1 xss.length cap1] 33)).alloc (.cells #[.bool b, .slice a2 yss.length cap2] 33)).alloc (.cells #[.bool false, .slice none 0 0] 33)) (w.heap.size + 1 + 1 + 1) (.bool false) (.slice none 0 0) 33) := by
    have := StW.new (((w.alloc (.cells #[.int .i64 N, .slice a0 ps.length cap0] 31)).alloc (.cells #[.bool a, .slice a1 xss.length cap1] 33)).alloc (.cells #[.bool b, .slice a2 yss.length cap2] 33)) (.bool false) (.slice none 0 0) 33
    simp at this
    exact this
  have HAS : Hid (∀ W', Old (((w.alloc (.cells #[.int .i64 N, .slice a0 ps.length cap0] 31)).alloc (.cells #[.bool a, .slice a1 xss.length cap1] 33)).alloc (.cells #[.bool b, .slice a2 yss.length cap2] 33)) W' → (W'.cell? ⟨w.heap.size, 0, none⟩ = some (.int .i64 N) ∧ W'.cell? ⟨w.heap.size, 1, none⟩ = some (.slice a0 ps.length cap0) ∧ W'.cell? ⟨w.heap.size + 1, 0, none⟩ = some (.bool a) ∧ W'.cell? ⟨w.heap.size + 1, 1, none⟩ = some (.slice a1 xss.length cap1) ∧ W'.cell? ⟨w.heap.size + 1 + 1, 1, none⟩ = some (.slice a2 yss.length cap2))) := fun W' g' => ⟨((StW.at31 w _ _ _ _ _ _ _ _ _).old g').c0, ((StW.at31 w _ _ _ _ _ _ _ _ _).old g').c1, ((StW.at32 w _ _ _ _ _ _ _ _ _).old g').c0, ((StW.at32 w _ _ _ _ _ _ _ _ _).old g').c1, ((StW.at33 w _ _ _ _ _ _ _ _ _).old g').c1⟩
  have hzl := pairL_len subF ps xss yss
  have HZL : Hid ((pairL subF ps xss yss).length = ps.length) := hzl
  generalize pairL subF ps xss yss = zss at *
  generalize pairL negF ps yss yss = nss at *
  clear hv h1 h2 hf hx hr1 hr2 t1 t2 t3 t4 t5 t6 hzl hno
  go_enter Tryd.func25, Tryd.ntmps25
  go_wp2_with fail
  refine (c1 _ HA.out).mono ?_
  rintro e w1 ⟨rfl, g1⟩
  have HG1 : Hid (Old w w1) := Old.trans HA.out g1
  have HS1 : Hid (StW w1 (w.heap.size + 1 + 1 + 1) (.bool false) (.slice none 0 0) 33) := HS.out.old g1
  have HO3 : Hid (Old (((w.alloc (.cells #[.int .i64 N, .slice a0 ps.length cap0] 31)).alloc (.cells #[.bool a, .slice a1 xss.length cap1] 33)).alloc (.cells #[.bool b, .slice a2 yss.length cap2] 33)) w1) := Old.trans ((Old.refl _).alloc _) g1
  have HAS1 : Hid (∀ W', Old w1 W' → (W'.cell? ⟨w.heap.size, 0, none⟩ = some (.int .i64 N) ∧ W'.cell? ⟨w.heap.size, 1, none⟩ = some (.slice a0 ps.length cap0) ∧ W'.cell? ⟨w.heap.size + 1, 0, none⟩ = some (.bool a) ∧ W'.cell? ⟨w.heap.size + 1, 1, none⟩ = some (.slice a1 xss.length cap1) ∧ W'.cell? ⟨w.heap.size + 1 + 1, 1, none⟩ = some (.slice a2 yss.length cap2))) := fun W' g => HAS.out W' (Old.trans HO3.out g)
  have HAS2 : Hid (∀ W' x y, Old w1 W' → ((fun W' => W'.cell? ⟨w.heap.size, 0, none⟩ = some (.int .i64 N) ∧ W'.cell? ⟨w.heap.size, 1, none⟩ = some (.slice a0 ps.length cap0) ∧ W'.cell? ⟨w.heap.size + 1, 0, none⟩ = some (.bool a) ∧ W'.cell? ⟨w.heap.size + 1, 1, none⟩ = some (.slice a1 xss.length cap1) ∧ W'.cell? ⟨w.heap.size + 1 + 1, 1, none⟩ = some (.slice a2 yss.length cap2)) ((W'.setCell ⟨w.heap.size + 1 + 1 + 1, 0, none⟩ x).setCell ⟨w.heap.size + 1 + 1 + 1, 1, none⟩ y))) := fun W' x y g => HAS.out _ (((Old.trans HO3.out g).own (p := ⟨w.heap.size + 1 + 1 + 1, 0, none⟩) (by simp) _).own (p := ⟨w.heap.size + 1 + 1 + 1, 1, none⟩) (by simp) _)
  have hs : w.heap.size + 1 + 1 + 1 < w1.heap.size := HS1.out.lt
  clear g1
  obtain ⟨z1, z2, z3, z4, z5⟩ := HAS1.out w1 (Old.refl _)
  go_wp2_with fail
  go_region_held3 (fun W' => W'.cell? ⟨w.heap.size, 0, none⟩ = some (.int .i64 N) ∧ W'.cell? ⟨w.heap.size, 1, none⟩ = some (.slice a0 ps.length cap0) ∧ W'.cell? ⟨w.heap.size + 1, 0, none⟩ = some (.bool a) ∧ W'.cell? ⟨w.heap.size + 1, 1, none⟩ = some (.slice a1 xss.length cap1) ∧ W'.cell? ⟨w.heap.size + 1 + 1, 1, none⟩ = some (.slice a2 yss.length cap2)) (first | with_reducible exact HAS1.out _ G2.out | with_reducible exact HAS1.out _ GN.out | with_reducible exact HAS1.out _ (Below.drew (Old.refl w1)) | with_reducible exact HAS2.out _ _ _ G2.out | with_reducible exact HAS1.out _ (Old.refl w1)) (first
    | (go_at_call 63; refine (c2 _ (Below.drew HG1.out)).mono ?_; rintro e wn ⟨vn, rfl, gn, on⟩; obtain ⟨an, capn, rfl⟩ := on.slice; have GN : Hid (Old w1 wn) := Old.trans (Below.drew (Old.refl w1)) gn; have RN : Hid (RowS wn (.slice an nss.length capn) nss) := on.rowS; clear gn on)
    | (go_at_call 58; refine (c3 _ _ (Old.trans HG1.out GN.out) RN.out).mono ?_; rintro e w2 ⟨v2, rfl, g2, o2⟩; obtain ⟨a5, cap5, rfl⟩ := o2.slice; have G2 : Hid (Old w1 w2) := Old.trans GN.out g2; have O2 : Hid (OwS zss w2 w1.heap.size w2.heap.size (.slice a5 zss.length cap5)) := o2.low GN.out.size; clear g2 o2; have S2 : Hid (StW w2 (w.heap.size + 1 + 1 + 1) (.bool false) (.slice none 0 0) 33) := HS1.out.old G2.out; have y6 := S2.out.c0; have y7 := S2.out.c1; have y8 := S2.out.f0; have y9 := S2.out.f1)
    | fail)
  all_goals
    go_wp2_with fail
    refine bodyPost_ret (ret_rb Tryd.results25 _ _ rfl rfl (st_put2 S2.out _ _)) rfl ⟨_, rfl, ?_, a5, cap5, rfl, ?_⟩
    · exact ((Old.trans HG1.out G2.out).own (p := ⟨w.heap.size + 1 + 1 + 1, 0, none⟩) (by simp; omega) _).own (p := ⟨w.heap.size + 1 + 1 + 1, 1, none⟩) (by simp; omega) _
    · have h2 := (O2.out.put (k := w.heap.size + 1 + 1 + 1) (j := 0) (x := .bool a) (by omega)).put (k := w.heap.size + 1 + 1 + 1) (j := 1) (x := .slice a5 zss.length cap5) (by omega)
      have h3 := h2.low (lo' := w.heap.size) (by omega)
      exact h3.high (by simp) (Nat.le_refl _)
end Go.Proofs.YtinldhoimnbkhaaDoor
/- Proved: the program's SubRows. -/
namespace Go.Proofs.YtinldhoimnbkhaaDoor
open Go.ChangeShapes Go.WideShapes Go.ChangeAt Go.RowKit
open M1
set_option linter.unusedVariables false
set_option linter.unusedSimpArgs false
set_option maxRecDepth 100000 in
set_option maxHeartbeats 4000000 in
theorem impl_SubRows_of (N : Int) (a b : Bool) (a0 a1 a2 : Option Addr) (l0 l1 l2 cap0 cap1 cap2 : Nat) (w : World) (n : Bool) (zss : List (List Int)) (ok : Bool)
    (c : ∀ W, Old w W → Calls Tryd.prog 59 #[.agg #[.int .i64 N, .slice a0 l0 cap0], .agg #[.bool a, .slice a1 l1 cap1], .agg #[.bool b, .slice a2 l2 cap2], .func (.func 64) #[] #[]] W (Rs W n zss ok)) :
    Calls Tryd.prog 26 #[.agg #[.int .i64 N, .slice a0 l0 cap0], .agg #[.bool a, .slice a1 l1 cap1], .agg #[.bool b, .slice a2 l2 cap2]] w (Rs w n zss ok) := by
  have HA : Hid (Old w ((((w.alloc (.cells #[.int .i64 N, .slice a0 l0 cap0] 31)).alloc (.cells #[.bool a, .slice a1 l1 cap1] 33)).alloc (.cells #[.bool b, .slice a2 l2 cap2] 33)).alloc (.cells #[.bool false, .slice none 0 0] 33))) := ((((Old.refl w).alloc _).alloc _).alloc _).alloc _
  have HS : Hid (StW ((((w.alloc (.cells #[.int .i64 N, .slice a0 l0 cap0] 31)).alloc (.cells #[.bool a, .slice a1 l1 cap1] 33)).alloc (.cells #[.bool b, .slice a2 l2 cap2] 33)).alloc (.cells #[.bool false, .slice none 0 0] 33)) (w.heap.size + 1 + 1 + 1) (.bool false) (.slice none 0 0) 33) := by
    have := StW.new (((w.alloc (.cells #[.int .i64 N, .slice a0 l0 cap0] 31)).alloc (.cells #[.bool a, .slice a1 l1 cap1] 33)).alloc (.cells #[.bool b, .slice a2 l2 cap2] 33)) (.bool false) (.slice none 0 0) 33
    simp at this
    exact this
  go_enter Tryd.func26, Tryd.ntmps26
  go_wp2_with fail
  refine (c _ HA.out).mono ?_
  rintro e w1 ⟨r0, rfl, g1, x1⟩
  obtain ⟨ax, cx, rfl, ox⟩ := x1
  have HG1 : Hid (Old w w1) := Old.trans HA.out g1
  have S1 : Hid (StW w1 (w.heap.size + 1 + 1 + 1) (.bool false) (.slice none 0 0) 33) := HS.out.old g1
  have OX : Hid (OwS zss w1 (w.heap.size + 1 + 1 + 1 + 1) w1.heap.size (.slice ax zss.length cx)) := by
    simp at ox
    exact ox
  have q0 := S1.out.c0
  have q1 := S1.out.c1
  have f0 := S1.out.f0
  have f1 := S1.out.f1
  clear g1 ox
  go_wp2_with fail
  refine bodyPost_ret (ret_rb Tryd.results26 _ _ rfl rfl (st_put2 S1.out _ _)) rfl ⟨_, rfl, ?_, ax, cx, rfl, ?_⟩
  · exact (HG1.out.own (p := ⟨w.heap.size + 1 + 1 + 1, 0, none⟩) (by simp; omega) _).own (p := ⟨w.heap.size + 1 + 1 + 1, 1, none⟩) (by simp; omega) _
  · have h2 := (OX.out.put (k := w.heap.size + 1 + 1 + 1) (j := 0) (x := .bool n) (by omega)).put (k := w.heap.size + 1 + 1 + 1) (j := 1) (x := .slice ax zss.length cx) (by omega)
    have h3 := h2.low (lo' := w.heap.size) (by omega)
    exact h3.high (by simp) (Nat.le_refl _)
theorem impl_SubRows (N : Int) (ps : List Int) (a b : Bool) (xss yss : List (List Int)) (v u1 u2 : Value) (w : World) (lo1 hi1 lo2 hi2 : Nat) (hP : PrsW w) (hT : TabW w) (hv : Row w v ps) (hf : Fit v) (h1 : OwS xss w lo1 hi1 u1) (h2 : OwS yss w lo2 hi2 u2) (hlp : ps.length ≤ 1048576) (hl1 : xss.length ≤ 1048576) (hr1 : ∀ r ∈ xss, r.length ≤ 1048576) (hl2 : yss.length ≤ 1048576) (hr2 : ∀ r ∈ yss, r.length ≤ 1048576) :
    Calls Tryd.prog 26 #[.agg #[.int .i64 N, v], .agg #[.bool a, u1], .agg #[.bool b, u2]] w fun e w' => (twoB N ps a b xss yss = true → Rs w a (pairL subF ps xss yss) true e w') ∧ (twoB N ps a b xss yss = false → Rs w false [] false e w') := by
  obtain ⟨Rf, hRf⟩ := Rings_roots N ps
  obtain ⟨us1, cs1, at1⟩ := h1.ats ps
  obtain ⟨us2, cs2, at2⟩ := h2.ats ps
  obtain ⟨a0, cap0, ev⟩ := hv.slice
  obtain ⟨a1, cap1, e1⟩ := h1.slice
  obtain ⟨a2, cap2, e2⟩ := h2.slice
  subst ev e1 e2
  have c1 := fun W W' (q : Old w W) (p1 : PrsW W') (p2 : TabW W') (q' : Old W W') => impl_ringRows N a ps xss Rf us1 cs1 (.slice a0 ps.length cap0) a1 cap1 W' p1 p2 (hv.old (Old.trans q q')) hf hlp hl1 hr1 (fun h => (at1 h).old (Old.trans q q')) hRf
  have c2 := fun W W' (q : Old w W) (p1 : PrsW W') (p2 : TabW W') (q' : Old W W') => impl_ringRows N b ps yss Rf us2 cs2 (.slice a0 ps.length cap0) a2 cap2 W' p1 p2 (hv.old (Old.trans q q')) hf hlp hl2 hr2 (fun h => (at2 h).old (Old.trans q q')) hRf
  cases htw : twoB N ps a b xss yss
  · have hno : ¬ (grB N ps xss = true ∧ grB N ps yss = true ∧ a = b) := fun h => by
      rw [two_of.2 h] at htw
      cases htw
    refine (impl_SubRows_of N a b a0 a1 a2 _ _ _ _ _ _ w false [] false (fun W q => eachPair_less_no N ps a b xss yss Rf us1 us2 _ a1 a2 cap1 cap2 W (hP.old q) (hT.old q) (hv.old q) (fun W' p1 p2 q' => c1 W W' q p1 p2 q') (fun W' p1 p2 q' => c2 W W' q p1 p2 q') hno)).mono (fun e w' h => ⟨(fun h' => by cases h'), fun _ => h⟩)
  · obtain ⟨g1, g2, g3⟩ := two_of.1 htw
    obtain ⟨t1, t2, t3, t4, t5, t6⟩ := two_parts htw
    obtain ⟨Nn, hNn⟩ : ∃ Nn : Nat, N = Nn := ⟨N.toNat, by omega⟩
    subst hNn
    refine (impl_SubRows_of Nn a b a0 a1 a2 _ _ _ _ _ _ w a (pairL subF ps xss yss) true (fun W q => eachPair_less_yes Nn ps a b xss yss Rf us1 us2 _ a1 a2 cap1 cap2 W (hP.old q) (hT.old q) (hv.old q) (fun W' p1 p2 q' => c1 W W' q p1 p2 q') (fun W' p1 p2 q' => c2 W W' q p1 p2 q') g1 g2 g3 (pairL subF ps xss yss) (pairL_len _ _ _ _) t2.2 (fun k hk => ?_))).mono (fun e w' h => ⟨fun _ => h, (fun h' => by cases h')⟩)
    obtain ⟨s1, s2, s3, s4⟩ := t6 k hk
    rw [pairL_get _ _ _ _ _ hk]
    refine ⟨by rw [pairR_len]; omega, fun W' q' => ?_⟩
    obtain ⟨b1, _, _, _, r1⟩ := at1 (by omega)
    obtain ⟨b2, _, _, _, r2⟩ := at2 (by omega)
    have row1 := (r1 k (by omega)).2.2
    have row2 := (r2 k (by omega)).2.2
    have l1 : (xss.getD k []).length = Nn := by omega
    have l2 : (yss.getD k []).length = Nn := by omega
    rw [l1] at row1
    rw [l2] at row2
    refine impl_less (ps.getD k 0) (Rf k) (ps.getD k 0) (Rf k) Nn a b Nn (xss.getD k []) (yss.getD k []) (us1 k) (us2 k) W' ((row1.recap (fun h => by rw [h] at l1; simp at l1; omega)).old (Old.trans q q')) ((row2.recap (fun h => by rw [h] at l2; simp at l2; omega)).old (Old.trans q q')) s3 (by omega) l1 l2 (fun i hi => s4 i (by omega))
end Go.Proofs.YtinldhoimnbkhaaDoor
/- Proved: the statement on SubRows at every space and rows, in a world in which the two tables are laid. -/
namespace Go.Proofs.YtinldhoimnbkhaaDoor
open Go.ChangeShapes Go.WideShapes Go.ChangeAt Go.RowKit
open M1
set_option linter.unusedVariables false
set_option linter.unusedSimpArgs false
theorem SubRows_any (N : Int) (xs : List Int) (n m : Bool) (xss yss : List (List Int)) (v u t : Value) (w : World) (hv : Row w v xs) (hl : xs.length ≤ 9223372036854775807) (hx : ∀ x ∈ xs, -9223372036854775808 ≤ x ∧ x ≤ 9223372036854775807) (hu : RowS w u xss) (hlx : xss.length ≤ 9223372036854775807) (hlr : ∀ r ∈ xss, r.length ≤ 9223372036854775807) (ht : RowS w t yss) (hly : yss.length ≤ 9223372036854775807) (hlq : ∀ r ∈ yss, r.length ≤ 9223372036854775807) (hP : PrsW w) (hT : TabW w) :
    Calls Tryd.prog 5 #[.agg #[.int .i64 N, v], .agg #[.bool n, u], .agg #[.bool m, t]] w fun e w' => e = .returned (.bool true) ∧ Old w w' := by
  obtain ⟨a0, c0, rfl⟩ := hv.slice
  obtain ⟨a1, c1, rfl⟩ := hu.slice
  obtain ⟨a2, c2, rfl⟩ := ht.slice
  have bnd : ∀ {A : Prop}, ¬ leftN 1048576 xs.length < 0 → ¬ leftSS (leftN 1048576 xs.length) xss < 0 → ¬ leftSS (leftSS (leftN 1048576 xs.length) xss) yss < 0 → (xs.length ≤ 1048576 → xss.length ≤ 1048576 → (∀ r ∈ xss, r.length ≤ 1048576) → yss.length ≤ 1048576 → (∀ r ∈ yss, r.length ≤ 1048576) → offL xss xss.length ≤ 1048576 → offL yss yss.length ≤ 1048576 → A) → A := fun h1 h2 h3 k => by
    obtain ⟨q1, q2, q3⟩ := leftN_ok h1 (by omega)
    obtain ⟨p1, p2, p3, p4⟩ := leftSS_ok q3 h2
    obtain ⟨s1, s2, s3, s4⟩ := leftSS_ok (by omega) h3
    have o1 := offL_leftSS q3 h2
    have o2 := offL_leftSS (by omega) h3
    exact k (by omega) (by omega) (fun r hr => by have := p4 r hr; omega) (by omega) (fun r hr => by have := s4 r hr; omega) (by omega) (by omega)
  have zb : ∀ (zss : List (List Int)) (ro br : Bool),
      (twoB N xs n m xss yss = true → zss = pairL subF xs xss yss ∧ ro = true ∧ br = n) → (twoB N xs n m xss yss = false → zss = [] ∧ ro = false ∧ br = false) → zss.length ≤ 6 ∧ (∀ r ∈ zss, r.length ≤ 16) ∧ offL zss zss.length ≤ 96 := fun zss ro br h1 h2 => by
    have key : zss.length ≤ 6 ∧ ∀ r ∈ zss, r.length ≤ 16 := by
      cases htw : twoB N xs n m xss yss
      · obtain ⟨rfl, _, _⟩ := h2 htw
        exact ⟨by simp, fun r hr => by cases hr⟩
      · obtain ⟨rfl, _, _⟩ := h1 htw
        obtain ⟨t1, t2, t3, t4, t5, t6⟩ := two_parts htw
        refine ⟨by rw [pairL_len]; omega, fun r hr => ?_⟩
        unfold pairL at hr
        rw [List.mem_map] at hr
        obtain ⟨k, hk, rfl⟩ := hr
        have hk' : k < xs.length := by simpa using hk
        rw [pairR_len]
        have := (t6 k hk').1
        omega
    refine ⟨key.1, key.2, ?_⟩
    have := offL_bd zss 16 key.2
    omega
  obtain ⟨zss, ro, br, hy, hn⟩ : ∃ (zss : List (List Int)) (ro br : Bool), (twoB N xs n m xss yss = true → zss = pairL subF xs xss yss ∧ ro = true ∧ br = n) ∧ (twoB N xs n m xss yss = false → zss = [] ∧ ro = false ∧ br = false) := by
    cases twoB N xs n m xss yss
    · exact ⟨[], false, false, (fun h => by cases h), fun _ => ⟨rfl, rfl, rfl⟩⟩
    · exact ⟨_, true, n, fun _ => ⟨rfl, rfl, rfl⟩, (fun h => by cases h)⟩
  obtain ⟨z1, z2, z3⟩ := zb zss ro br hy hn
  have z2' : ∀ r ∈ zss, r.length ≤ 1048576 := fun r hr => by have := z2 r hr; omega
  refine law9_SubRows w N xs.length a0 c0 n xss.length a1 c1 m yss.length a2 c2 br zss.length ro (leftN 1048576 xs.length) (leftSS (leftN 1048576 xs.length) xss) (leftSS (leftSS (leftN 1048576 xs.length) xss) yss)
    (fun W g => ks_sz N a0 xs.length c0 1048576 W hl (by omega) (by omega))
    (fun h W g => by
      obtain ⟨q1, q2, q3⟩ := leftN_ok h (by omega)
      exact kr_sz n xss _ _ W (hu.old g) hlx hlr q3 (by omega))
    (fun h h2 W g => by
      obtain ⟨q1, q2, q3⟩ := leftN_ok h (by omega)
      obtain ⟨p1, p2, p3, p4⟩ := leftSS_ok q3 h2
      exact kr_sz m yss _ _ W (ht.old g) hly hlq (by omega) (by omega))
    (XS N xs) (far_XS N xs) shape_XS (fun h1 h2 h3 W g => bnd h1 h2 h3 fun d1 d2 d3 d4 d5 d6 d7 => ks_to N xs _ W (hv.old g) d1) (fun h1 h2 h3 W lo hi g lo' hi' g' k k' => bnd h1 h2 h3 fun d1 d2 d3 d4 d5 d6 d7 => ks_eq N xs W lo hi g lo' hi' g' k k' (by omega))
    (1 + xs.length) (by omega) (fun h1 h2 h3 W lo hi g k => bnd h1 h2 h3 fun d1 d2 d3 d4 d5 d6 d7 => ks_mark N xs 1 W lo hi g k d1 (by omega) (by omega))
    (XR n xss) (far_XR n xss) shape_XR (fun h1 h2 h3 W g => bnd h1 h2 h3 fun d1 d2 d3 d4 d5 d6 d7 => kr_to n xss _ W (hu.old g) d2 d3) (fun h1 h2 h3 W lo hi g lo' hi' g' k k' => bnd h1 h2 h3 fun d1 d2 d3 d4 d5 d6 d7 => kr_eq n xss W lo hi g lo' hi' g' k k' d2 d3)
    (1 + xs.length + offL xss xss.length) (by omega) (fun h1 h2 h3 W lo hi g k => bnd h1 h2 h3 fun d1 d2 d3 d4 d5 d6 d7 => (kr_mark n xss _ W lo hi g k d2 d3 (by omega) (by omega)).mono (fun e w' h => ⟨h.1, h.2.1⟩))
    (XR m yss) (far_XR m yss) shape_XR (fun h1 h2 h3 W g => bnd h1 h2 h3 fun d1 d2 d3 d4 d5 d6 d7 => kr_to m yss _ W (ht.old g) d4 d5) (fun h1 h2 h3 W lo hi g lo' hi' g' k k' => bnd h1 h2 h3 fun d1 d2 d3 d4 d5 d6 d7 => kr_eq m yss W lo hi g lo' hi' g' k k' d4 d5)
    (1 + xs.length + offL xss xss.length + offL yss yss.length) (by omega) (fun h1 h2 h3 W lo hi g k => bnd h1 h2 h3 fun d1 d2 d3 d4 d5 d6 d7 => (kr_mark m yss _ W lo hi g k d4 d5 (by omega) (by omega)).mono (fun e w' h => ⟨h.1, h.2.1⟩))
    (XR br zss) (far_XR br zss) shape_XR (XR br zss) (far_XR br zss) shape_XR (XM br 1 zss) (far_XM br 1 zss) shape_XM
    (fun h1 h2 h3 W lo0 hi0 g0 lo1 hi1 g1 lo2 hi2 g2 k0 k1 k2 _ => bnd h1 h2 h3 fun d1 d2 d3 d4 d5 d6 d7 => ?_) (fun h1 h2 h3 W lo0 hi0 g0 lo1 hi1 g1 lo2 hi2 g2 k0 k1 k2 q => bnd h1 h2 h3 fun d1 d2 d3 d4 d5 d6 d7 => ?_)
    (fun h1 h2 h3 W lo hi p lo' hi' p' k k' => kr_eq br zss W lo hi p lo' hi' p' k k' (by omega) z2')
    (1 + offL zss zss.length) (by omega) (fun h1 h2 h3 W lo hi p k => kr_mark br zss 1 W lo hi p k (by omega) z2' (by omega) (by omega)) (fun h1 h2 h3 W lo hi p k => kr_held br zss 1 W lo hi p k (by omega) z2' (by omega) (by omega))
  · obtain ⟨a, c, rfl, o, f⟩ := k0
    obtain ⟨a', c', rfl, o'⟩ := k1
    obtain ⟨a'', c'', rfl, o''⟩ := k2
    cases htw : twoB N xs n m xss yss
    · obtain ⟨rfl, rfl, rfl⟩ := hn htw
      exact spec_SubRows_no N xs n m xss yss _ _ _ W o.row f o'.rowS o''.rowS d1 hx d2 d3 d4 d5 htw
    · obtain ⟨rfl, rfl, rfl⟩ := hy htw
      exact spec_SubRows_yes N xs br m xss yss _ _ _ W o.row f o'.rowS o''.rowS d1 hx d2 d3 d4 d5 htw
  · obtain ⟨a, c, rfl, o, f⟩ := k0
    obtain ⟨a', c', rfl, o'⟩ := k1
    obtain ⟨a'', c'', rfl, o''⟩ := k2
    refine (impl_SubRows N xs n m xss yss _ _ _ W _ _ _ _ (hP.old q) (hT.old q) o.row f o' o'' d1 d2 d3 d4 d5).mono (fun e w' h => ?_)
    cases htw : twoB N xs n m xss yss
    · obtain ⟨rfl, rfl, rfl⟩ := hn htw
      exact h.2 htw
    · obtain ⟨rfl, rfl, rfl⟩ := hy htw
      exact h.1 htw
end Go.Proofs.YtinldhoimnbkhaaDoor
