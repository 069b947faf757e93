/- Proved: several texts in one: what each proves is said ahead of it. -/
import Derived.Deep.RegionWith
import Derived.Deep.RegionHeld3
import Derived.Deep.DeepCutAuto
import Derived.Deep.Matrix
import Derived.Test.YtinldhoimnbkhaaDoorDb00
import Derived.Test.YtinldhoimnbkhaaDoorDb01
import Derived.Test.YtinldhoimnbkhaaDoorModel
import Derived.Test.YtinldhoimnbkhaaDoorLen
import Derived.Test.YtinldhoimnbkhaaDoorDiv
import Derived.Test.YtinldhoimnbkhaaDoorRem2
import Derived.Test.YtinldhoimnbkhaaDoorBoth
import Derived.Test.YtinldhoimnbkhaaDoorDb02
import Derived.Test.YtinldhoimnbkhaaDoorDb15
import Derived.Test.YtinldhoimnbkhaaDoorDb03
import Derived.Test.YtinldhoimnbkhaaDoorDb04
import Derived.Test.YtinldhoimnbkhaaDoorDb05
import Derived.Test.YtinldhoimnbkhaaDoorDb06
import Derived.Test.YtinldhoimnbkhaaDoorDb07
import Derived.Test.YtinldhoimnbkhaaDoorSzAdd
import Derived.Test.YtinldhoimnbkhaaDoorDb08
import Derived.Test.YtinldhoimnbkhaaDoorDb09
import Derived.Test.YtinldhoimnbkhaaDoorDb10
import Derived.Test.YtinldhoimnbkhaaDoorDb11
import Derived.Test.YtinldhoimnbkhaaDoorDb14
import Derived.Test.YtinldhoimnbkhaaDoorDb12
import Derived.Test.YtinldhoimnbkhaaDoorDb13
import Derived.Test.YtinldhoimnbkhaaDoorRegGoodCipherA
import Derived.Test.YtinldhoimnbkhaaDoorLawGoodCipher
import Derived.Test.YtinldhoimnbkhaaDoorBackS
import Derived.Test.YtinldhoimnbkhaaDoorDb18
import Derived.Test.YtinldhoimnbkhaaDoorRegS
import Derived.Test.YtinldhoimnbkhaaDoorMlr
import Derived.Test.YtinldhoimnbkhaaDoorRcr
import Derived.Test.YtinldhoimnbkhaaDoorRRs3
import Derived.Test.YtinldhoimnbkhaaDoorDb25
import Derived.Test.YtinldhoimnbkhaaDoorDb24
import Derived.Test.YtinldhoimnbkhaaDoorFrameP
import Derived.Test.YtinldhoimnbkhaaDoorFrameC
/- Proved: a drawn region of the statement FnExactGoodRows, by what holds between its operations, in whatever order. -/
namespace Go.Proofs.YtinldhoimnbkhaaDoor
open Go.ChangeShapes Go.WideShapes Go.ChangeAt Go.RowKit
set_option linter.unusedVariables false
set_option linter.unusedSimpArgs false
def regionAtreg9_GoodRowsA (n : Nat) : Code → Option Code
  | .region i ops b => if i = n then some (.region i ops b) else none
  | .seq a b => match regionAtreg9_GoodRowsA n a with
    | some c => some c
    | none => regionAtreg9_GoodRowsA n b
  | .block _ c => regionAtreg9_GoodRowsA n c
  | _ => none
set_option maxRecDepth 100000 in
set_option maxHeartbeats 8000000 in
theorem reg9_GoodRowsA (w2 : World) (x0_0 x0_1 : Value) (kb0 : Nat) (x1_0 x1_1 : Value) (kb1 : Nat) 
    (CR0 : World → Value → Prop) (hCR0 : ∀ W W' v, CR0 W v → Old W W' → CR0 W' v)
    (c0 : ∀ W, Old w2 W → Calls Tryd.prog 15 #[.agg #[x0_0, x0_1]] W fun e w' => ∃ v, e = .returned v ∧ Old W w' ∧ CR0 w' v)
    (b0 : w2.heap[kb0]? = some (.cells #[x0_0, x0_1] 24 (0, 0)))
    (CR1 : World → Value → Prop) (hCR1 : ∀ W W' v, CR1 W v → Old W W' → CR1 W' v)
    (c1 : ∀ W, Old w2 W → Calls Tryd.prog 16 #[.agg #[x1_0, x1_1]] W fun e w' => ∃ v, e = .returned v ∧ Old W w' ∧ CR1 w' v)
    (b1 : w2.heap[kb1]? = some (.cells #[x1_0, x1_1] 27 (0, 0)))
    (RES : World → Nat → Nat → Value → Prop) (far : ∀ W W' lo hi (g0 : Value), RES W lo hi g0 → (∀ b, lo ≤ b → b < hi → W'.heap[b]? = W.heap[b]?) → W.heap.size ≤ W'.heap.size → RES W' lo hi g0)
    (cf : ∀ W v0 v1, Old w2 W → CR0 W v0 → CR1 W v1 → Calls Tryd.prog 14 #[v0, v1] W fun e w' => ∃ (g0 : Value), e = .returned (g0) ∧ Old W w' ∧ RES w' W.heap.size w'.heap.size g0)
    (Q : Exit → Act → World → Prop) (K : Act → World → Prop) (a0 : Act) (hsz : 45 ≤ a0.tmps.size) (ha2 : a0.eval (.tmp 2) = .pointer (some ⟨kb0, 0, none⟩)) (ha3 : a0.eval (.tmp 3) = .pointer (some ⟨kb1, 0, none⟩))
    (HK : Hid (∀ ( lo hi : Nat) (g0 : Value) (u20 u21 u22 u23 u24 : Value) (W : World), Old w2 W → w2.heap.size ≤ lo → hi ≤ W.heap.size → RES W lo hi g0 → K (putAll a0 [(6, g0), (20, u20), (21, u21), (22, u22), (23, u23), (24, u24)]) W)) :
    Code.wp Tryd.prog ((Tryd.f3.body.bind (regionAtreg9_GoodRowsA 8)).getD .skip) (Exit.then K Q) a0 w2 := by
  conv => arg 2; whnf
  have e2 : ∀ l, (putAll a0 l).eval (.tmp 2) = (getKey l 2).getD (a0.eval (.tmp 2)) := eval_putAll a0 2 (by omega)
  have e3 : ∀ l, (putAll a0 l).eval (.tmp 3) = (getKey l 3).getD (a0.eval (.tmp 3)) := eval_putAll a0 3 (by omega)
  have e6 : ∀ l, (putAll a0 l).eval (.tmp 6) = (getKey l 6).getD (a0.eval (.tmp 6)) := eval_putAll a0 6 (by omega)
  have e20 : ∀ l, (putAll a0 l).eval (.tmp 20) = (getKey l 20).getD (a0.eval (.tmp 20)) := eval_putAll a0 20 (by omega)
  have e21 : ∀ l, (putAll a0 l).eval (.tmp 21) = (getKey l 21).getD (a0.eval (.tmp 21)) := eval_putAll a0 21 (by omega)
  have e22 : ∀ l, (putAll a0 l).eval (.tmp 22) = (getKey l 22).getD (a0.eval (.tmp 22)) := eval_putAll a0 22 (by omega)
  have e23 : ∀ l, (putAll a0 l).eval (.tmp 23) = (getKey l 23).getD (a0.eval (.tmp 23)) := eval_putAll a0 23 (by omega)
  have e24 : ∀ l, (putAll a0 l).eval (.tmp 24) = (getKey l 24).getD (a0.eval (.tmp 24)) := eval_putAll a0 24 (by omega)
  refine wp_region_steps (fun d a W => ∃ (u6 u20 u21 u22 u23 u24 : Value) ( lo hi : Nat) (g0 : Value), a = (putAll a0 [(6, u6), (20, u20), (21, u21), (22, u22), (23, u23), (24, u24)]) ∧ (Old w2 W) ∧ (d 0 = true → u20 = .agg #[x0_0, x0_1]) ∧ (d 1 = true → d 4 = false → CR0 W u21) ∧ (d 2 = true → u22 = .agg #[x1_0, x1_1]) ∧ (d 3 = true → d 4 = false → CR1 W u23) ∧ (d 4 = true → u24 = g0 ∧ w2.heap.size ≤ lo ∧ hi ≤ W.heap.size ∧ RES W lo hi g0) ∧ (d 5 = true → u6 = g0) ∧ (d 5 = true → d 4 = true)) rfl (by decide +kernel) (by decide +kernel) ?_ ⟨?_, ?_, ?_, ?_, ?_, ?_, trivial⟩ ?_
  · exact ⟨_, _, _, _, _, _, 0, 0, undef, (putAll_self a0 [6, 20, 21, 22, 23, 24] (by intro s hs; simp at hs; omega)).symm, Below.drew (Old.refl w2), (fun h => by cases h), (fun h => by cases h), (fun h => by cases h), (fun h => by cases h), (fun h => by cases h), (fun h => by cases h), (fun h => by cases h)⟩
  · rintro d a W ⟨u6, u20, u21, u22, u23, u24, lo, hi, g0, hfr, fold, fL0, fC0, fL1, fC1, fF, fA0, fO5_4⟩ hi_ hd
    simp [Region.binds] at hd
    refine op_load (k := kb0) (by rw [hfr, e2]; exact ha2) (fold.block _ (lt_of_some b0) |>.trans b0) Tryd.underlying24 rfl (by kernel_rfl) ?_
    exact ⟨u6, .agg #[x0_0, x0_1], u21, u22, u23, u24, lo, hi, g0, (by rw [hfr]; exact putAll_put a0 _ _ _ rfl), (fold),
      (fun _ => rfl),
      (fun h0 h1 => fC0 h0 h1),
      (fun h0 => fL1 h0),
      (fun h0 h1 => fC1 h0 h1),
      (fun h0 => fF h0),
      (fun h0 => fA0 h0),
      (fun h => fO5_4 h)⟩
  · rintro d a W ⟨u6, u20, u21, u22, u23, u24, lo, hi, g0, hfr, fold, fL0, fC0, fL1, fC1, fF, fA0, fO5_4⟩ hi_ hd
    simp [Region.binds] at hd
    have HD0 : d 0 = true := by simp only [hd]
    clear hd
    have hv := fL0 HD0
    refine op_call_ret Tryd.call15 (vs := #[.agg #[x0_0, x0_1]]) (by simp [hfr, e20, getKey, hv]) (c0 W fold) ?_
    rintro v W' ⟨g, hcr⟩
    exact ⟨u6, u20, v, u22, u23, u24, lo, hi, g0, (by rw [hfr]; exact putAll_put a0 _ _ _ rfl), (Old.trans fold g),
      (fun h0 => fL0 h0),
      (fun _ _ => hcr),
      (fun h0 => fL1 h0),
      (fun h0 h1 => hCR1 _ _ _ (fC1 h0 h1) g),
      (fun h0 => by obtain ⟨e1, e2, e3, e9⟩ := fF h0; exact ⟨e1, e2, Nat.le_trans e3 g.size, far _ _ _ _ _ e9 (fun b _ hb => g.block b (by omega)) g.size⟩),
      (fun h0 => fA0 h0),
      (fun h => fO5_4 h)⟩
  · rintro d a W ⟨u6, u20, u21, u22, u23, u24, lo, hi, g0, hfr, fold, fL0, fC0, fL1, fC1, fF, fA0, fO5_4⟩ hi_ hd
    simp [Region.binds] at hd
    refine op_load (k := kb1) (by rw [hfr, e3]; exact ha3) (fold.block _ (lt_of_some b1) |>.trans b1) Tryd.underlying27 rfl (by kernel_rfl) ?_
    exact ⟨u6, u20, u21, .agg #[x1_0, x1_1], u23, u24, lo, hi, g0, (by rw [hfr]; exact putAll_put a0 _ _ _ rfl), (fold),
      (fun h0 => fL0 h0),
      (fun h0 h1 => fC0 h0 h1),
      (fun _ => rfl),
      (fun h0 h1 => fC1 h0 h1),
      (fun h0 => fF h0),
      (fun h0 => fA0 h0),
      (fun h => fO5_4 h)⟩
  · rintro d a W ⟨u6, u20, u21, u22, u23, u24, lo, hi, g0, hfr, fold, fL0, fC0, fL1, fC1, fF, fA0, fO5_4⟩ hi_ hd
    simp [Region.binds] at hd
    have HD2 : d 2 = true := by simp only [hd]
    clear hd
    have hv := fL1 HD2
    refine op_call_ret Tryd.call16 (vs := #[.agg #[x1_0, x1_1]]) (by simp [hfr, e22, getKey, hv]) (c1 W fold) ?_
    rintro v W' ⟨g, hcr⟩
    exact ⟨u6, u20, u21, u22, v, u24, lo, hi, g0, (by rw [hfr]; exact putAll_put a0 _ _ _ rfl), (Old.trans fold g),
      (fun h0 => fL0 h0),
      (fun h0 h1 => hCR0 _ _ _ (fC0 h0 h1) g),
      (fun h0 => fL1 h0),
      (fun _ _ => hcr),
      (fun h0 => by obtain ⟨e1, e2, e3, e9⟩ := fF h0; exact ⟨e1, e2, Nat.le_trans e3 g.size, far _ _ _ _ _ e9 (fun b _ hb => g.block b (by omega)) g.size⟩),
      (fun h0 => fA0 h0),
      (fun h => fO5_4 h)⟩
  · rintro d a W ⟨u6, u20, u21, u22, u23, u24, lo, hi, g0, hfr, fold, fL0, fC0, fL1, fC1, fF, fA0, fO5_4⟩ hi_ hd
    simp [Region.binds] at hd
    have HD1 : d 1 = true := by simp only [hd]
    have HD3 : d 3 = true := by simp only [hd]
    clear hd
    refine op_call_ret (R := fun v w' => ∃ (g0 : Value), v = g0 ∧ Old W w' ∧ RES w' W.heap.size w'.heap.size g0) Tryd.call14 (vs := #[u21, u23]) (by simp [hfr, e21, e23, getKey]) ((cf W _ _ fold (fC0 HD1 hi_) (fC1 HD3 hi_)).mono (fun e w' h => by obtain ⟨g0, rfl, h⟩ := h; exact ⟨_, rfl, g0, rfl, h⟩)) ?_
    rintro v W' ⟨r0, hv0, g, hres⟩
    obtain rfl := hv0.symm
    exact ⟨u6, u20, u21, u22, u23, r0, W.heap.size, W'.heap.size, r0, (by rw [hfr]; exact putAll_put a0 _ _ _ rfl), (Old.trans fold g),
      (fun h0 => fL0 h0),
      (fun h0 h1 => by cases h1),
      (fun h0 => fL1 h0),
      (fun h0 h1 => by cases h1),
      (fun _ => ⟨rfl, (fold.size), Nat.le_refl _, hres⟩),
      (fun h0 => by have hx_ := fO5_4 h0; rw [hi_] at hx_; cases hx_),
      (fun _ => rfl)⟩
  · rintro d a W ⟨u6, u20, u21, u22, u23, u24, lo, hi, g0, hfr, fold, fL0, fC0, fL1, fC1, fF, fA0, fO5_4⟩ hi_ hd
    simp [Region.binds] at hd
    have HD4 : d 4 = true := by simp only [hd]
    clear hd
    have hv := (fF HD4).1
    refine op_assign ?_
    rw [show a.eval (.tmp 24) = g0 by rw [hfr, e24]; exact hv]
    exact ⟨g0, u20, u21, u22, u23, u24, lo, hi, g0, (by rw [hfr]; exact putAll_put a0 _ _ _ rfl), (fold),
      (fun h0 => fL0 h0),
      (fun h0 h1 => fC0 h0 h1),
      (fun h0 => fL1 h0),
      (fun h0 h1 => fC1 h0 h1),
      (fun h0 => fF h0),
      (fun _ => rfl),
      (fun _ => HD4)⟩
  · rintro d a W hd ⟨u6, u20, u21, u22, u23, u24, lo, hi, g0, hfr, fold, fL0, fC0, fL1, fC1, fF, fA0, fO5_4⟩
    have hd2 : ∀ i, i < 6 → d i = true := hd
    clear hd
    have HD0 : d 0 = true := hd2 0 (by omega)
    have HD1 : d 1 = true := hd2 1 (by omega)
    have HD2 : d 2 = true := hd2 2 (by omega)
    have HD3 : d 3 = true := hd2 3 (by omega)
    have HD4 : d 4 = true := hd2 4 (by omega)
    have HD5 : d 5 = true := hd2 5 (by omega)
    obtain ⟨eF, lF, hF, rF⟩ := fF HD4
    have ha_0 := fA0 HD5
    rw [ha_0] at hfr
    show K a W
    rw [hfr]
    exact HK.out  lo hi g0 u20 u21 u22 u23 u24 W fold lF hF rF
end Go.Proofs.YtinldhoimnbkhaaDoor
/- Proved: the walk of the statement FnExactGoodRows, under what each function that it calls does. -/
namespace Go.Proofs.YtinldhoimnbkhaaDoor
open Go.ChangeShapes Go.WideShapes Go.ChangeAt Go.RowKit
set_option linter.unusedVariables false
set_option linter.unusedSimpArgs false
set_option maxRecDepth 100000 in
set_option maxHeartbeats 16000000 in
theorem law9_GoodRows (w : World) (Np0 : Int) (lp0 : Nat) (ap0 : Option Addr) (cp0 : Nat) (bp1 : Bool) (lp1 : Nat) (ap1 : Option Addr) (cp1 : Nat) (br0 : Bool) (L0 L1 : Int)
    (csz0 : ∀ W, Old w W → Calls Tryd.prog 12 #[.agg #[.int .i64 Np0, .slice ap0 lp0 cp0], .int .i64 1048576] W fun e w' => e = .returned (.int .i64 L0) ∧ Old W w')
    (csz1 : ¬ L0 < 0 → ∀ W, Old w W → Calls Tryd.prog 13 #[.agg #[.bool bp1, .slice ap1 lp1 cp1], .int .i64 L0] W fun e w' => e = .returned (.int .i64 L1) ∧ Old W w')
    (X0 : World → Nat → Nat → Array Value → Prop) (fX0 : Far X0) (hX0 : ∀ W lo hi g, X0 W lo hi g → ∃ a c, g = #[.int .i64 Np0, .slice a lp0 c])
    (cto0 : ¬ L0 < 0 → ¬ L1 < 0 → ∀ W, Old w W → Calls Tryd.prog 15 #[.agg #[.int .i64 Np0, .slice ap0 lp0 cp0]] W fun e w' => ∃ g, e = .returned (.agg g) ∧ Old W w' ∧ X0 w' W.heap.size w'.heap.size g)
    (ceq0 : ¬ L0 < 0 → ¬ L1 < 0 → ∀ W lo hi g lo' hi' g', X0 W lo hi g → X0 W lo' hi' g' → Calls Tryd.prog 18 #[.agg g, .agg g'] W fun e w' => e = .returned (.bool true) ∧ Old W w')
    (X1 : World → Nat → Nat → Array Value → Prop) (fX1 : Far X1) (hX1 : ∀ W lo hi g, X1 W lo hi g → ∃ a c, g = #[.bool bp1, .slice a lp1 c])
    (cto1 : ¬ L0 < 0 → ¬ L1 < 0 → ∀ W, Old w W → Calls Tryd.prog 16 #[.agg #[.bool bp1, .slice ap1 lp1 cp1]] W fun e w' => ∃ g, e = .returned (.agg g) ∧ Old W w' ∧ X1 w' W.heap.size w'.heap.size g)
    (ceq1 : ¬ L0 < 0 → ¬ L1 < 0 → ∀ W lo hi g lo' hi' g', X1 W lo hi g → X1 W lo' hi' g' → Calls Tryd.prog 19 #[.agg g, .agg g'] W fun e w' => e = .returned (.bool true) ∧ Old W w')
    (csp : ¬ L0 < 0 → ¬ L1 < 0 → ∀ W lo0 hi0 g0 lo1 hi1 g1, X0 W lo0 hi0 g0 → X1 W lo1 hi1 g1 → Old w W → Calls Tryd.prog 14 #[.agg g0, .agg g1] W fun e w' => e = .returned (.bool br0) ∧ Old W w')
    (cim : ¬ L0 < 0 → ¬ L1 < 0 → ∀ W lo0 hi0 g0 lo1 hi1 g1, X0 W lo0 hi0 g0 → X1 W lo1 hi1 g1 → Old w W → Calls Tryd.prog 17 #[.agg g0, .agg g1] W fun e w' => e = .returned (.bool br0) ∧ Old W w') :
    Calls Tryd.prog 3 #[.agg #[.int .i64 Np0, .slice ap0 lp0 cp0], .agg #[.bool bp1, .slice ap1 lp1 cp1]] w fun e w' => e = .returned (.bool true) ∧ Old w w' := by
  have HA : Hid (Old w ((w.alloc (.cells #[.int .i64 Np0, .slice ap0 lp0 cp0] 24)).alloc (.cells #[.bool bp1, .slice ap1 lp1 cp1] 27))) := (((Old.refl w).alloc _).alloc _)
  have BA0 : Hid (Bk ((w.alloc (.cells #[.int .i64 Np0, .slice ap0 lp0 cp0] 24)).alloc (.cells #[.bool bp1, .slice ap1 lp1 cp1] 27)) (w.heap.size) #[.int .i64 Np0, .slice ap0 lp0 cp0] 24) := ((Bk.new' w _ _ (by simp)).alloc _)
  have BA1 : Hid (Bk ((w.alloc (.cells #[.int .i64 Np0, .slice ap0 lp0 cp0] 24)).alloc (.cells #[.bool bp1, .slice ap1 lp1 cp1] 27)) (w.heap.size + 1) #[.bool bp1, .slice ap1 lp1 cp1] 27) := (Bk.new' (w.alloc (.cells #[.int .i64 Np0, .slice ap0 lp0 cp0] 24)) _ _ (by simp))
  by_cases hL0 : L0 < 0
  · have dL0 : decide (L0 < 0) = true := decide_eq_true hL0
    go_enter Tryd.func3, Tryd.ntmps3
    go_wp2_with fail
    refine (csz0  _ (HA.out)).mono ?_
    rintro e s0 ⟨rfl, g0⟩
    have HS0 : Hid (Old w s0) := Old.trans HA.out g0
    clear g0
    go_wp2_with fail
    go_ret
    exact ⟨rfl, HS0.out⟩
  have dL0 : decide (L0 < 0) = false := decide_eq_false hL0
  by_cases hL1 : L1 < 0
  · have dL1 : decide (L1 < 0) = true := decide_eq_true hL1
    go_enter Tryd.func3, Tryd.ntmps3
    go_wp2_with fail
    refine (csz0  _ (HA.out)).mono ?_
    rintro e s0 ⟨rfl, g0⟩
    have HS0 : Hid (Old w s0) := Old.trans HA.out g0
    have BS0_0 : Hid (Bk s0 (w.heap.size) #[.int .i64 Np0, .slice ap0 lp0 cp0] 24) := BA0.out.old g0
    have BS0_1 : Hid (Bk s0 (w.heap.size + 1) #[.bool bp1, .slice ap1 lp1 cp1] 27) := BA1.out.old g0
    clear g0
    have y0 := BS0_1.out.c (i := 0) rfl
    have y1 := BS0_1.out.c (i := 1) rfl
    go_wp2_with fail
    clear y0 y1
    refine (csz1 hL0 _ (HS0.out)).mono ?_
    rintro e s1 ⟨rfl, g1⟩
    have HS1 : Hid (Old w s1) := Old.trans HS0.out g1
    clear g1
    go_wp2_with fail
    go_ret
    exact ⟨rfl, HS1.out⟩
  have dL1 : decide (L1 < 0) = false := decide_eq_false hL1
  have TO0 : Hid (∀ W, Old w W → Calls Tryd.prog 15 #[.agg #[.int .i64 Np0, .slice ap0 lp0 cp0]] W fun e w' => ∃ g, e = .returned (.agg g) ∧ Old W w' ∧ X0 w' W.heap.size w'.heap.size g) := cto0 hL0 hL1
  replace ceq0 := ceq0 hL0 hL1
  clear cto0
  have TO1 : Hid (∀ W, Old w W → Calls Tryd.prog 16 #[.agg #[.bool bp1, .slice ap1 lp1 cp1]] W fun e w' => ∃ g, e = .returned (.agg g) ∧ Old W w' ∧ X1 w' W.heap.size w'.heap.size g) := cto1 hL0 hL1
  replace ceq1 := ceq1 hL0 hL1
  clear cto1
  replace csp := csp hL0 hL1
  replace cim := cim hL0 hL1
  have dro0 : (br0 != br0) = false := by simp
  go_enter Tryd.func3, Tryd.ntmps3
  go_wp2_with fail
  refine (csz0  _ (HA.out)).mono ?_
  rintro e s0 ⟨rfl, g0⟩
  have HS0 : Hid (Old w s0) := Old.trans HA.out g0
  have BS0_0 : Hid (Bk s0 (w.heap.size) #[.int .i64 Np0, .slice ap0 lp0 cp0] 24) := BA0.out.old g0
  have BS0_1 : Hid (Bk s0 (w.heap.size + 1) #[.bool bp1, .slice ap1 lp1 cp1] 27) := BA1.out.old g0
  clear g0
  have y0 := BS0_1.out.c (i := 0) rfl
  have y1 := BS0_1.out.c (i := 1) rfl
  go_wp2_with fail
  clear y0 y1
  refine (csz1 hL0 _ (HS0.out)).mono ?_
  rintro e s1 ⟨rfl, g1⟩
  have HS1 : Hid (Old w s1) := Old.trans HS0.out g1
  have BS1_0 : Hid (Bk s1 (w.heap.size) #[.int .i64 Np0, .slice ap0 lp0 cp0] 24) := BS0_0.out.old g1
  have BS1_1 : Hid (Bk s1 (w.heap.size + 1) #[.bool bp1, .slice ap1 lp1 cp1] 27) := BS0_1.out.old g1
  clear g1
  have HG_0 : Hid (Old w s1) := HS1.out
  have A0_0 : Hid (Bk s1 (w.heap.size) #[.int .i64 Np0, .slice ap0 lp0 cp0] 24) := BS1_0.out
  have A1_0 : Hid (Bk s1 (w.heap.size + 1) #[.bool bp1, .slice ap1 lp1 cp1] 27) := BS1_1.out
  have hsw : w.heap.size + 2 ≤ s1.heap.size := by have := A1_0.out.lt; omega
  clear csz0 csz1 BA0 BA1 HA HS0 HS1 BS0_0 BS0_1 BS1_0 BS1_1
  have zA0_0 := A0_0.out.c (i := 0) rfl
  have zA0_1 := A0_0.out.c (i := 1) rfl
  have zA1_0 := A1_0.out.c (i := 0) rfl
  have zA1_1 := A1_0.out.c (i := 1) rfl
  go_wp2_with fail
  refine reg9_GoodRowsA s1 _ _ _ _ _ _ (fun W v => ∃ lo hi g, v = .agg g ∧ X0 W lo hi g ∧ hi ≤ W.heap.size) (fun W W' v h g => by obtain ⟨lo, hi, y, rfl, h1, h2⟩ := h; exact ⟨lo, hi, _, rfl, fX0.old h1 g h2, Nat.le_trans h2 g.size⟩) (fun W h => (TO0.out W (Old.trans HG_0.out h)).mono (fun e w' h => by obtain ⟨g, rfl, h1, h2⟩ := h; exact ⟨_, rfl, h1, _, _, g, rfl, h2, Nat.le_refl _⟩)) A0_0.out (fun W v => ∃ lo hi g, v = .agg g ∧ X1 W lo hi g ∧ hi ≤ W.heap.size) (fun W W' v h g => by obtain ⟨lo, hi, y, rfl, h1, h2⟩ := h; exact ⟨lo, hi, _, rfl, fX1.old h1 g h2, Nat.le_trans h2 g.size⟩) (fun W h => (TO1.out W (Old.trans HG_0.out h)).mono (fun e w' h => by obtain ⟨g, rfl, h1, h2⟩ := h; exact ⟨_, rfl, h1, _, _, g, rfl, h2, Nat.le_refl _⟩)) A1_0.out (fun W lo hi g0 => True ∧ g0 = .bool br0) (fun W W' lo hi g0 h h1 h2 => ⟨trivial, h.2⟩) (fun W v0 v1 hO H0 H1 => by obtain ⟨lo0, hi0, y0, rfl, x0, q0⟩ := H0; obtain ⟨lo1, hi1, y1, rfl, x1, q1⟩ := H1; exact (csp W _ _ _ _ _ _ x0 x1 (Old.trans HG_0.out hO)).mono (fun e w' h => by obtain ⟨rfl, h1⟩ := h; exact ⟨_, rfl, h1, trivial, rfl⟩)) _ _ _ (by first | decide | simp) rfl rfl ?_
  intro  los his q0 u_0 u_1 u_2 u_3 u_4 ts gS loS_ hiS_ rS_ 
  obtain ⟨rS, rfl⟩ := rS_
  clear rS
  have h_s : s1.heap.size ≤ los ∧ his ≤ ts.heap.size := ⟨loS_, hiS_⟩
  obtain ⟨hlos, hhis⟩ := h_s
  clear loS_ hiS_
  simp only [putAll, Act.put]
  clear zA0_0 zA0_1 zA1_0 zA1_1
  have HG_1 : Hid (Old w ts) := Old.trans HG_0.out (gS)
  have A0_1 : Hid (Bk ts (w.heap.size) #[.int .i64 Np0, .slice ap0 lp0 cp0] 24) := A0_0.out.old (gS)
  have A1_1 : Hid (Bk ts (w.heap.size + 1) #[.bool bp1, .slice ap1 lp1 cp1] 27) := A1_0.out.old (gS)
  clear HG_0 A0_0 A1_0
  have hsts := gS.size
  clear gS 
  have zA0_0 := A0_1.out.c (i := 0) rfl
  have zA0_1 := A0_1.out.c (i := 1) rfl
  go_wp2_with fail
  refine (TO0.out _ (HG_1.out)).mono ?_
  rintro e x0 ⟨y_, rfl, g_, o_⟩
  obtain ⟨ax0, cx0, rfl⟩ := hX0 _ _ _ _ o_
  clear zA0_0 zA0_1
  have hsx0 : ts.heap.size ≤ x0.heap.size := by have := g_.size; first | exact this | (simp at this; omega)
  have HG_2 : Hid (Old w (x0.alloc (.cells #[.int .i64 Np0, .slice ax0 lp0 cx0] 31))) := Old.trans HG_1.out (Old.trans g_ ((Old.refl x0).alloc _))
  have A0_2 : Hid (Bk (x0.alloc (.cells #[.int .i64 Np0, .slice ax0 lp0 cx0] 31)) (w.heap.size) #[.int .i64 Np0, .slice ap0 lp0 cp0] 24) := A0_1.out.old (Old.trans g_ ((Old.refl x0).alloc _))
  have A1_2 : Hid (Bk (x0.alloc (.cells #[.int .i64 Np0, .slice ax0 lp0 cx0] 31)) (w.heap.size + 1) #[.bool bp1, .slice ap1 lp1 cp1] 27) := A1_1.out.old (Old.trans g_ ((Old.refl x0).alloc _))
  clear HG_1 A0_1 A1_1
  have Bx0_2 : Hid (Bk (x0.alloc (.cells #[.int .i64 Np0, .slice ax0 lp0 cx0] 31)) (x0.heap.size) #[.int .i64 Np0, .slice ax0 lp0 cx0] 31) := Bk.new' x0 _ _ rfl
  have Rx0_2 : Hid (X0 (x0.alloc (.cells #[.int .i64 Np0, .slice ax0 lp0 cx0] 31)) (ts.heap.size) (x0.heap.size) #[.int .i64 Np0, .slice ax0 lp0 cx0]) := fX0.old (by first | exact o_ | (simp at o_; exact o_)) ((Old.refl x0).alloc _) (Nat.le_refl _)
  clear g_ o_
  have zA1_0 := A1_2.out.c (i := 0) rfl
  have zA1_1 := A1_2.out.c (i := 1) rfl
  go_wp2_with fail
  refine (TO1.out _ (HG_2.out)).mono ?_
  rintro e x1 ⟨y_, rfl, g_, o_⟩
  obtain ⟨ax1, cx1, rfl⟩ := hX1 _ _ _ _ o_
  clear zA1_0 zA1_1
  have hsx1 : x0.heap.size + 1 ≤ x1.heap.size := by have := g_.size; first | exact this | (simp at this; omega)
  have HG_3 : Hid (Old w (x1.alloc (.cells #[.bool bp1, .slice ax1 lp1 cx1] 33))) := Old.trans HG_2.out (Old.trans g_ ((Old.refl x1).alloc _))
  have A0_3 : Hid (Bk (x1.alloc (.cells #[.bool bp1, .slice ax1 lp1 cx1] 33)) (w.heap.size) #[.int .i64 Np0, .slice ap0 lp0 cp0] 24) := A0_2.out.old (Old.trans g_ ((Old.refl x1).alloc _))
  have A1_3 : Hid (Bk (x1.alloc (.cells #[.bool bp1, .slice ax1 lp1 cx1] 33)) (w.heap.size + 1) #[.bool bp1, .slice ap1 lp1 cp1] 27) := A1_2.out.old (Old.trans g_ ((Old.refl x1).alloc _))
  have Bx0_3 : Hid (Bk (x1.alloc (.cells #[.bool bp1, .slice ax1 lp1 cx1] 33)) (x0.heap.size) #[.int .i64 Np0, .slice ax0 lp0 cx0] 31) := Bx0_2.out.old (Old.trans g_ ((Old.refl x1).alloc _))
  have Rx0_3 : Hid (X0 (x1.alloc (.cells #[.bool bp1, .slice ax1 lp1 cx1] 33)) (ts.heap.size) (x0.heap.size) #[.int .i64 Np0, .slice ax0 lp0 cx0]) := fX0.old Rx0_2.out (Old.trans g_ ((Old.refl x1).alloc _)) (by first | omega | (simp; done) | (simp; omega))
  clear HG_2 A0_2 A1_2 Bx0_2 Rx0_2
  have Bx1_3 : Hid (Bk (x1.alloc (.cells #[.bool bp1, .slice ax1 lp1 cx1] 33)) (x1.heap.size) #[.bool bp1, .slice ax1 lp1 cx1] 33) := Bk.new' x1 _ _ rfl
  have Rx1_3 : Hid (X1 (x1.alloc (.cells #[.bool bp1, .slice ax1 lp1 cx1] 33)) (x0.heap.size + 1) (x1.heap.size) #[.bool bp1, .slice ax1 lp1 cx1]) := fX1.old (by first | exact o_ | (simp at o_; exact o_)) ((Old.refl x1).alloc _) (Nat.le_refl _)
  clear g_ o_
  have zBx0_0 := Bx0_3.out.c (i := 0) rfl
  have zBx0_1 := Bx0_3.out.c (i := 1) rfl
  have zBx1_0 := Bx1_3.out.c (i := 0) rfl
  have zBx1_1 := Bx1_3.out.c (i := 1) rfl
  go_wp2_with fail
  refine (cim _ _ _ _ _ _ _ Rx0_3.out Rx1_3.out (HG_3.out)).mono ?_
  rintro e p1 ⟨rfl, gp⟩
  have hsp1 : x1.heap.size + 1 ≤ p1.heap.size := by have := gp.size; first | exact this | (simp at this; omega)
  clear zBx0_0 zBx0_1 zBx1_0 zBx1_1
  have HG_4 : Hid (Old w p1) := Old.trans HG_3.out (gp)
  have A0_4 : Hid (Bk p1 (w.heap.size) #[.int .i64 Np0, .slice ap0 lp0 cp0] 24) := A0_3.out.old (gp)
  have A1_4 : Hid (Bk p1 (w.heap.size + 1) #[.bool bp1, .slice ap1 lp1 cp1] 27) := A1_3.out.old (gp)
  have Bx0_4 : Hid (Bk p1 (x0.heap.size) #[.int .i64 Np0, .slice ax0 lp0 cx0] 31) := Bx0_3.out.old (gp)
  have Rx0_4 : Hid (X0 p1 (ts.heap.size) (x0.heap.size) #[.int .i64 Np0, .slice ax0 lp0 cx0]) := fX0.old Rx0_3.out (gp) (by first | omega | (simp; done) | (simp; omega))
  have Bx1_4 : Hid (Bk p1 (x1.heap.size) #[.bool bp1, .slice ax1 lp1 cx1] 33) := Bx1_3.out.old (gp)
  have Rx1_4 : Hid (X1 p1 (x0.heap.size + 1) (x1.heap.size) #[.bool bp1, .slice ax1 lp1 cx1]) := fX1.old Rx1_3.out (gp) (by first | omega | (simp; done) | (simp; omega))
  clear HG_3 A0_3 A1_3 Bx0_3 Rx0_3 Bx1_3 Rx1_3
  clear gp
  have zBx0_0 := Bx0_4.out.c (i := 0) rfl
  have zBx0_1 := Bx0_4.out.c (i := 1) rfl
  have zA0_0 := A0_4.out.c (i := 0) rfl
  have zA0_1 := A0_4.out.c (i := 1) rfl
  have HAS : Hid (∀ W', Old p1 W' → (W'.cell? ⟨x0.heap.size, 0, none⟩ = some (.int .i64 Np0) ∧ W'.cell? ⟨x0.heap.size, 1, none⟩ = some (.slice ax0 lp0 cx0) ∧ W'.cell? ⟨w.heap.size, 0, none⟩ = some (.int .i64 Np0) ∧ W'.cell? ⟨w.heap.size, 1, none⟩ = some (.slice ap0 lp0 cp0))) := fun W' g => ⟨(Bx0_4.out.old g).c (i := 0) rfl, (Bx0_4.out.old g).c (i := 1) rfl, (A0_4.out.old g).c (i := 0) rfl, (A0_4.out.old g).c (i := 1) rfl⟩
  go_wp2_with fail
  go_region_held3 (fun W' => W'.cell? ⟨x0.heap.size, 0, none⟩ = some (.int .i64 Np0) ∧ W'.cell? ⟨x0.heap.size, 1, none⟩ = some (.slice ax0 lp0 cx0) ∧ W'.cell? ⟨w.heap.size, 0, none⟩ = some (.int .i64 Np0) ∧ W'.cell? ⟨w.heap.size, 1, none⟩ = some (.slice ap0 lp0 cp0)) (first | with_reducible exact HAS.out _ GE.out | with_reducible exact HAS.out _ GT.out | with_reducible exact HAS.out _ (Below.drew (Old.refl p1)) | with_reducible exact HAS.out _ (Old.refl p1)) (first
    | (go_at_call 15; refine (TO0.out _ (Below.drew HG_4.out)).mono ?_; rintro e wt ⟨y_, rfl, gt, ot⟩; obtain ⟨at_, ct_, rfl⟩ := hX0 _ _ _ _ ot; have GT : Hid (Old p1 wt) := Old.trans (Below.drew (Old.refl p1)) gt; have RT : Hid (X0 wt _ _ #[.int .i64 Np0, .slice at_ lp0 ct_]) := ot; clear gt ot)
    | (go_at_call 18; refine (ceq0 _ _ _ _ _ _ _ (fX0.old Rx0_4.out GT.out (by omega)) RT.out).mono ?_; rintro e v0 ⟨rfl, ge⟩; have GE : Hid (Old p1 v0) := Old.trans GT.out ge; clear ge)
    | fail)
  clear zBx0_0 zBx0_1 zA0_0 zA0_1
  have hsv0 := GE.out.size
  have HG_5 : Hid (Old w v0) := Old.trans HG_4.out (GE.out)
  have A0_5 : Hid (Bk v0 (w.heap.size) #[.int .i64 Np0, .slice ap0 lp0 cp0] 24) := A0_4.out.old (GE.out)
  have A1_5 : Hid (Bk v0 (w.heap.size + 1) #[.bool bp1, .slice ap1 lp1 cp1] 27) := A1_4.out.old (GE.out)
  have Bx0_5 : Hid (Bk v0 (x0.heap.size) #[.int .i64 Np0, .slice ax0 lp0 cx0] 31) := Bx0_4.out.old (GE.out)
  have Rx0_5 : Hid (X0 v0 (ts.heap.size) (x0.heap.size) #[.int .i64 Np0, .slice ax0 lp0 cx0]) := fX0.old Rx0_4.out (GE.out) (by first | omega | (simp; done) | (simp; omega))
  have Bx1_5 : Hid (Bk v0 (x1.heap.size) #[.bool bp1, .slice ax1 lp1 cx1] 33) := Bx1_4.out.old (GE.out)
  have Rx1_5 : Hid (X1 v0 (x0.heap.size + 1) (x1.heap.size) #[.bool bp1, .slice ax1 lp1 cx1]) := fX1.old Rx1_4.out (GE.out) (by first | omega | (simp; done) | (simp; omega))
  clear HG_4 A0_4 A1_4 Bx0_4 Rx0_4 Bx1_4 Rx1_4
  clear GE GT RT HAS
  have zBx1_0 := Bx1_5.out.c (i := 0) rfl
  have zBx1_1 := Bx1_5.out.c (i := 1) rfl
  have zA1_0 := A1_5.out.c (i := 0) rfl
  have zA1_1 := A1_5.out.c (i := 1) rfl
  have HAS : Hid (∀ W', Old v0 W' → (W'.cell? ⟨x1.heap.size, 0, none⟩ = some (.bool bp1) ∧ W'.cell? ⟨x1.heap.size, 1, none⟩ = some (.slice ax1 lp1 cx1) ∧ W'.cell? ⟨w.heap.size + 1, 0, none⟩ = some (.bool bp1) ∧ W'.cell? ⟨w.heap.size + 1, 1, none⟩ = some (.slice ap1 lp1 cp1))) := fun W' g => ⟨(Bx1_5.out.old g).c (i := 0) rfl, (Bx1_5.out.old g).c (i := 1) rfl, (A1_5.out.old g).c (i := 0) rfl, (A1_5.out.old g).c (i := 1) rfl⟩
  go_wp2_with fail
  go_region_held3 (fun W' => W'.cell? ⟨x1.heap.size, 0, none⟩ = some (.bool bp1) ∧ W'.cell? ⟨x1.heap.size, 1, none⟩ = some (.slice ax1 lp1 cx1) ∧ W'.cell? ⟨w.heap.size + 1, 0, none⟩ = some (.bool bp1) ∧ W'.cell? ⟨w.heap.size + 1, 1, none⟩ = some (.slice ap1 lp1 cp1)) (first | with_reducible exact HAS.out _ GE.out | with_reducible exact HAS.out _ GT.out | with_reducible exact HAS.out _ (Below.drew (Old.refl v0)) | with_reducible exact HAS.out _ (Old.refl v0)) (first
    | (go_at_call 16; refine (TO1.out _ (Below.drew HG_5.out)).mono ?_; rintro e wt ⟨y_, rfl, gt, ot⟩; obtain ⟨at_, ct_, rfl⟩ := hX1 _ _ _ _ ot; have GT : Hid (Old v0 wt) := Old.trans (Below.drew (Old.refl v0)) gt; have RT : Hid (X1 wt _ _ #[.bool bp1, .slice at_ lp1 ct_]) := ot; clear gt ot)
    | (go_at_call 19; refine (ceq1 _ _ _ _ _ _ _ (fX1.old Rx1_5.out GT.out (by omega)) RT.out).mono ?_; rintro e v1 ⟨rfl, ge⟩; have GE : Hid (Old v0 v1) := Old.trans GT.out ge; clear ge)
    | fail)
  clear zBx1_0 zBx1_1 zA1_0 zA1_1
  have hsv1 := GE.out.size
  have HG_6 : Hid (Old w v1) := Old.trans HG_5.out (GE.out)
  have A0_6 : Hid (Bk v1 (w.heap.size) #[.int .i64 Np0, .slice ap0 lp0 cp0] 24) := A0_5.out.old (GE.out)
  have A1_6 : Hid (Bk v1 (w.heap.size + 1) #[.bool bp1, .slice ap1 lp1 cp1] 27) := A1_5.out.old (GE.out)
  have Bx0_6 : Hid (Bk v1 (x0.heap.size) #[.int .i64 Np0, .slice ax0 lp0 cx0] 31) := Bx0_5.out.old (GE.out)
  have Rx0_6 : Hid (X0 v1 (ts.heap.size) (x0.heap.size) #[.int .i64 Np0, .slice ax0 lp0 cx0]) := fX0.old Rx0_5.out (GE.out) (by first | omega | (simp; done) | (simp; omega))
  have Bx1_6 : Hid (Bk v1 (x1.heap.size) #[.bool bp1, .slice ax1 lp1 cx1] 33) := Bx1_5.out.old (GE.out)
  have Rx1_6 : Hid (X1 v1 (x0.heap.size + 1) (x1.heap.size) #[.bool bp1, .slice ax1 lp1 cx1]) := fX1.old Rx1_5.out (GE.out) (by first | omega | (simp; done) | (simp; omega))
  clear HG_5 A0_5 A1_5 Bx0_5 Rx0_5 Bx1_5 Rx1_5
  clear GE GT RT HAS
  go_wp2_with fail
  go_ret
  exact ⟨rfl, HG_6.out⟩
end Go.Proofs.YtinldhoimnbkhaaDoor
/- Proved: spaces as a law carries them: what its functions on them do. -/
namespace Go.Proofs.YtinldhoimnbkhaaDoor
open Go.ChangeShapes Go.WideShapes Go.ChangeAt Go.RowKit
set_option linter.unusedVariables false
set_option linter.unusedSimpArgs false
set_option maxHeartbeats 1000000 in
theorem szSpace_no (N : Int) (a : Option Addr) (len cap : Nat) (left : Int) (w : World) (hl : len ≤ 9223372036854775807) (h0 : 0 ≤ left) (h1 : left ≤ 1048576) (h : left < (len : Int)) :
    Calls Tryd.prog 12 #[.agg #[.int .i64 N, .slice a len cap], .int .i64 left] w fun e w' => e = .returned (.int .i64 (-1)) ∧ Old w w' := by
  have c := fun W => szInts_any a len cap left W hl h0 h1
  rw [if_pos h] at c
  go_enter Tryd.func12, Tryd.ntmps12
  go_wp2_with fail
  refine (c _).mono ?_
  rintro e w' ⟨rfl, rfl⟩
  go_wp2_with fail
  go_ret
  exact ⟨rfl, (Old.refl _).alloc _⟩
theorem szSpace_yes (N : Int) (a : Option Addr) (len cap : Nat) (left : Int) (w : World) (hl : len ≤ 9223372036854775807) (h0 : 0 ≤ left) (h1 : left ≤ 1048576) (h : ¬ left < (len : Int)) :
    Calls Tryd.prog 12 #[.agg #[.int .i64 N, .slice a len cap], .int .i64 left] w fun e w' => e = .returned (.int .i64 (left - len)) ∧ Old w w' := by
  have c := fun W => szInts_any a len cap left W hl h0 h1
  rw [if_neg h] at c
  have d : decide (left - (len : Int) < 0) = false := by simp; omega
  go_enter Tryd.func12, Tryd.ntmps12
  go_wp2_with fail
  refine (c _).mono ?_
  rintro e w' ⟨rfl, rfl⟩
  go_wp2_with fail
  go_ret
  exact ⟨rfl, (Old.refl _).alloc _⟩
set_option maxHeartbeats 1000000 in
theorem toSpace_any (N : Int) (xs : List Int) (v : Value) (w : World) (h : Row w v xs) (hl : xs.length ≤ 1048576) :
    Calls Tryd.prog 15 #[.agg #[.int .i64 N, v]] w fun e w' => ∃ v', e = .returned (.agg #[.int .i64 N, v']) ∧ Old w w' ∧ Own w' w.heap.size v' xs ∧ Fit v' := by
  have HR : Hid (Row w v xs) := h
  obtain ⟨a0, cap0, rfl⟩ := h.slice
  clear h
  go_enter Tryd.func15, Tryd.ntmps15
  go_wp2_with fail
  refine (toInts_any xs _ _ (HR.out.old (((Old.refl w).alloc _).alloc _ |>.alloc _)) hl).mono ?_
  rintro e w1 ⟨rfl, g1, o1⟩
  have q20 : w1.cell? ⟨w.heap.size + 1 + 1, 0, none⟩ = some (Value.int .i64 N) := (g1.cell (p := ⟨w.heap.size + 1 + 1, 0, none⟩) (by simp; try omega)).trans (by simp [cell_at, cell_lt, fro_at, fro_lt])
  have q21 : w1.cell? ⟨w.heap.size + 1 + 1, 1, none⟩ = some (Value.slice none 0 0) := (g1.cell (p := ⟨w.heap.size + 1 + 1, 1, none⟩) (by simp; try omega)).trans (by simp [cell_at, cell_lt, fro_at, fro_lt])
  have q10 : w1.cell? ⟨w.heap.size + 1, 0, none⟩ = some (Value.int .i64 0) := (g1.cell (p := ⟨w.heap.size + 1, 0, none⟩) (by simp; try omega)).trans (by simp [cell_at, cell_lt, fro_at, fro_lt])
  have q11 : w1.cell? ⟨w.heap.size + 1, 1, none⟩ = some (Value.slice none 0 0) := (g1.cell (p := ⟨w.heap.size + 1, 1, none⟩) (by simp; try omega)).trans (by simp [cell_at, cell_lt, fro_at, fro_lt])
  have f21 : w1.frozen? ⟨w.heap.size + 1 + 1, 1, none⟩ = false := (g1.frozen (p := ⟨w.heap.size + 1 + 1, 1, none⟩) (by simp; try omega)).trans (by simp [cell_at, cell_lt, fro_at, fro_lt])
  have f10 : w1.frozen? ⟨w.heap.size + 1, 0, none⟩ = false := (g1.frozen (p := ⟨w.heap.size + 1, 0, none⟩) (by simp; try omega)).trans (by simp [cell_at, cell_lt, fro_at, fro_lt])
  have f11 : w1.frozen? ⟨w.heap.size + 1, 1, none⟩ = false := (g1.frozen (p := ⟨w.heap.size + 1, 1, none⟩) (by simp; try omega)).trans (by simp [cell_at, cell_lt, fro_at, fro_lt])
  have HG : Hid (Old w w1) := Old.trans (((Old.refl w).alloc _).alloc _ |>.alloc _) g1
  have HO : Hid (Own w1 w.heap.size (.slice (some ⟨w.heap.size + 1 + 1 + 1, 0, none⟩) xs.length xs.length) xs) := by
    have := Own.low o1 (base' := w.heap.size) (by simp; omega)
    simp at this
    exact this
  clear g1 o1 HR
  go_wp2_with fail
  refine bodyPost_ret (v := .agg #[.int .i64 N, .slice (some ⟨w.heap.size + 1 + 1 + 1, 0, none⟩) xs.length xs.length]) (by simp [results, Tryd.results15, go_sem, q10, q11]) rfl ⟨_, rfl, ?_, ?_, Nat.le_refl _⟩
  · exact ((HG.out.own (p := ⟨w.heap.size + 1 + 1, 1, none⟩) (by simp; omega) _).own (p := ⟨w.heap.size + 1, 0, none⟩) (by simp) _).own (p := ⟨w.heap.size + 1, 1, none⟩) (by simp) _
  · exact ownsRow_setCell_other (ownsRow_setCell_other (ownsRow_setCell_other HO.out (by simp [Value.ownBlock]) _) (by simp [Value.ownBlock]; omega) _) (by simp [Value.ownBlock]; omega) _
set_option maxHeartbeats 1000000 in
theorem eqSpace_yes (N : Int) (xs : List Int) (v u : Value) (w : World) (h : Row w v xs) (k : Row w u xs) (hl : xs.length ≤ 1073741824) :
    Calls Tryd.prog 18 #[.agg #[.int .i64 N, v], .agg #[.int .i64 N, u]] w fun e w' => e = .returned (.bool true) ∧ Old w w' := by
  have HR : Hid (Row w v xs) := h
  have HK : Hid (Row w u xs) := k
  obtain ⟨a0, cap0, rfl⟩ := h.slice
  obtain ⟨a1, cap1, rfl⟩ := k.slice
  clear h k
  have dn : (N != N) = false := by simp
  go_enter Tryd.func18, Tryd.ntmps18
  go_wp2_with fail
  refine (eqInts_yes xs _ _ _ (HR.out.old (((Old.refl w).alloc _).alloc _)) (HK.out.old (((Old.refl w).alloc _).alloc _)) hl).mono ?_
  rintro e w1 ⟨rfl, g1⟩
  have HG : Hid (Old w w1) := Old.trans (((Old.refl w).alloc _).alloc _) g1
  clear g1
  go_wp2_with fail
  go_ret
  exact ⟨rfl, HG.out⟩
/-- a space's copy -/
def XS (n : Int) (xs : List Int) (W : World) (lo hi : Nat) (g : Array Value) : Prop := ∃ a c, g = #[.int .i64 n, .slice a xs.length c] ∧ OwI xs W lo hi (.slice a xs.length c) ∧ xs.length ≤ c
theorem far_XS (n : Int) (xs : List Int) : Far (XS n xs) := fun W W' lo hi v h hf hs => by
  obtain ⟨a, c, e, o, f⟩ := h
  exact ⟨a, c, e, far_OwI xs W W' lo hi _ o hf hs, f⟩
theorem shape_XS {n : Int} {xs : List Int} (W : World) (lo hi : Nat) (g : Array Value) (h : XS n xs W lo hi g) : ∃ a c, g = #[.int .i64 n, .slice a xs.length c] := by
  obtain ⟨a, c, e, o, f⟩ := h
  exact ⟨a, c, e⟩
theorem ks_sz (n : Int) (a : Option Addr) (len cap : Nat) (left : Int) (W : World) (hl : len ≤ 9223372036854775807) (h0 : 0 ≤ left) (h1 : left ≤ 1048576) :
    Calls Tryd.prog 12 #[.agg #[.int .i64 n, .slice a len cap], .int .i64 left] W fun e w' => e = .returned (.int .i64 (leftN left len)) ∧ Old W w' := by
  unfold leftN
  split
  · rename_i h
    exact szSpace_no n a len cap left W hl h0 h1 h
  · rename_i h
    exact szSpace_yes n a len cap left W hl h0 h1 h
theorem ks_to (n : Int) (xs : List Int) (v : Value) (W : World) (h : Row W v xs) (hl : xs.length ≤ 1048576) :
    Calls Tryd.prog 15 #[.agg #[.int .i64 n, v]] W fun e w' => ∃ g, e = .returned (.agg g) ∧ Old W w' ∧ XS n xs w' W.heap.size w'.heap.size g := by
  refine (toSpace_any n xs v W h hl).mono ?_
  rintro e w' ⟨v', rfl, g, o, f⟩
  obtain ⟨a, c, rfl⟩ := (Own.row o).slice
  exact ⟨_, rfl, g, a, c, rfl, OwI.of o, f⟩
theorem ks_eq (n : Int) (xs : List Int) (W : World) (lo hi : Nat) (g : Array Value) (lo' hi' : Nat) (g' : Array Value) (h : XS n xs W lo hi g) (h' : XS n xs W lo' hi' g') (hl : xs.length ≤ 1073741824) :
    Calls Tryd.prog 18 #[.agg g, .agg g'] W fun e w' => e = .returned (.bool true) ∧ Old W w' := by
  obtain ⟨a, c, rfl, o, f⟩ := h
  obtain ⟨a', c', rfl, o', f'⟩ := h'
  exact eqSpace_yes n xs _ _ W o.row o'.row hl
end Go.Proofs.YtinldhoimnbkhaaDoor
/- Proved: rows of rows as a law carries them: comparisons, and rows with their mark. -/
namespace Go.Proofs.YtinldhoimnbkhaaDoor
open Go.ChangeShapes Go.WideShapes Go.ChangeAt Go.RowKit
set_option linter.unusedVariables false
set_option linter.unusedSimpArgs false
theorem OwS.high {xss : List (List Int)} {W : World} {lo hi hi' : Nat} {v : Value} (h : OwS xss W lo hi v) (hl : hi ≤ hi') (hs : hi' ≤ W.heap.size) : OwS xss W lo hi' v := by
  obtain ⟨hh, h | ⟨p, cap, vs, e, hcap, hlo, hhi, ho, hvl, hj, hd⟩⟩ := h
  · exact ⟨hs, Or.inl h⟩
  · refine ⟨hs, Or.inr ⟨p, cap, vs, e, hcap, hlo, by omega, ho, hvl, fun j hjl => ?_, hd⟩⟩
    obtain ⟨a, c, e1, hc, o, hb⟩ := hj j hjl
    exact ⟨a, c, e1, hc, ⟨o.1, hs, fun b hb => by have := o.2.2 b hb; omega⟩, hb⟩
/-- rows' copy -/
def XR (n : Bool) (xss : List (List Int)) (W : World) (lo hi : Nat) (g : Array Value) : Prop := ∃ a c, g = #[.bool n, .slice a xss.length c] ∧ OwS xss W lo hi (.slice a xss.length c)
theorem far_XR (n : Bool) (xss : List (List Int)) : Far (XR n xss) := fun W W' lo hi v h hf hs => by
  obtain ⟨a, c, e, o⟩ := h
  exact ⟨a, c, e, far_OwS xss W W' lo hi _ o hf hs⟩
theorem shape_XR {n : Bool} {xss : List (List Int)} (W : World) (lo hi : Nat) (g : Array Value) (h : XR n xss W lo hi g) : ∃ a c, g = #[.bool n, .slice a xss.length c] := by
  obtain ⟨a, c, e, o⟩ := h
  exact ⟨a, c, e⟩
theorem kr_sz (n : Bool) (xss : List (List Int)) (v : Value) (left : Int) (w : World) (hv : RowS w v xss) (hl : xss.length ≤ 9223372036854775807) (hr : ∀ r ∈ xss, r.length ≤ 9223372036854775807) (h0 : 0 ≤ left) (h1 : left ≤ 1048576) :
    Calls Tryd.prog 13 #[.agg #[.bool n, v], .int .i64 left] w fun e w' => e = .returned (.int .i64 (leftSS left xss)) ∧ Old w w' := by
  have c := fun W (h : RowS W v xss) => szIntSS_any xss v left W h hl hr h0 h1
  have HV : Hid (RowS w v xss) := hv
  obtain ⟨a0, cap0, ev⟩ := hv.slice
  subst ev
  have hle : ∀ z : Int, leftSS left xss = z → ¬ z < 0 → 0 ≤ z := fun z _ h => by omega
  have hneg : leftSS left xss < 0 → leftSS left xss = -1 := fun h => by
    unfold leftSS at h ⊢
    split
    · rfl
    · rename_i h2
      rw [if_neg h2] at h
      have key : ∀ (l : List (List Int)) (z : Int), 0 ≤ z → leftL z l < 0 → leftL z l = -1 := fun l => by
        induction l with
        | nil => intro z hz h; unfold leftL at h; omega
        | cons r rs ih =>
          intro z hz h
          unfold leftL at h ⊢
          by_cases hq : leftN z r.length < 0
          · rw [if_pos hq]
          · rw [if_neg hq] at h ⊢
            exact ih _ (by omega) h
      exact key _ _ (by omega) h
  clear hv hr
  by_cases hz : leftSS left xss < 0
  · rw [hneg hz] at c ⊢
    clear hz hneg hle
    go_enter Tryd.func13, Tryd.ntmps13
    go_wp2_with fail
    refine (c _ (HV.out.old ((Old.refl w).alloc _))).mono ?_
    rintro e w1 ⟨rfl, g1⟩
    have HG : Hid (Old w w1) := Old.trans ((Old.refl w).alloc _) g1
    clear g1
    go_wp2_with fail
    go_ret
    exact ⟨rfl, HG.out⟩
  · have d : decide (leftSS left xss < 0) = false := decide_eq_false hz
    generalize leftSS left xss = z at *
    clear hneg hle
    go_enter Tryd.func13, Tryd.ntmps13
    go_wp2_with fail
    refine (c _ (HV.out.old ((Old.refl w).alloc _))).mono ?_
    rintro e w1 ⟨rfl, g1⟩
    have HG : Hid (Old w w1) := Old.trans ((Old.refl w).alloc _) g1
    clear g1
    go_wp2_with fail
    go_ret
    exact ⟨rfl, HG.out⟩
set_option maxHeartbeats 1000000 in
theorem kr_to (n : Bool) (xss : List (List Int)) (v : Value) (w : World) (h : RowS w v xss) (hl : xss.length ≤ 1048576) (hr : ∀ r ∈ xss, r.length ≤ 1048576) :
    Calls Tryd.prog 16 #[.agg #[.bool n, v]] w fun e w' => ∃ g, e = .returned (.agg g) ∧ Old w w' ∧ XR n xss w' w.heap.size w'.heap.size g := by
  have HR : Hid (RowS w v xss) := h
  have HRR : Hid (∀ r ∈ xss, r.length ≤ 1048576) := hr
  obtain ⟨a0, cap0, ev⟩ := h.slice
  subst ev
  clear h hr
  go_enter Tryd.func16, Tryd.ntmps16
  go_wp2_with fail
  refine (toIntSS_any xss _ _ (HR.out.old (((Old.refl w).alloc _).alloc _ |>.alloc _)) hl HRR.out).mono ?_
  rintro e w1 ⟨v1, rfl, g1, o1, a1, c1, rfl⟩
  have q20 : w1.cell? ⟨w.heap.size + 1 + 1, 0, none⟩ = some (Value.bool n) := (g1.cell (p := ⟨w.heap.size + 1 + 1, 0, none⟩) (by simp; try omega)).trans (by simp [cell_at, cell_lt, fro_at, fro_lt])
  have q21 : w1.cell? ⟨w.heap.size + 1 + 1, 1, none⟩ = some (Value.slice none 0 0) := (g1.cell (p := ⟨w.heap.size + 1 + 1, 1, none⟩) (by simp; try omega)).trans (by simp [cell_at, cell_lt, fro_at, fro_lt])
  have q10 : w1.cell? ⟨w.heap.size + 1, 0, none⟩ = some (Value.bool false) := (g1.cell (p := ⟨w.heap.size + 1, 0, none⟩) (by simp; try omega)).trans (by simp [cell_at, cell_lt, fro_at, fro_lt])
  have q11 : w1.cell? ⟨w.heap.size + 1, 1, none⟩ = some (Value.slice none 0 0) := (g1.cell (p := ⟨w.heap.size + 1, 1, none⟩) (by simp; try omega)).trans (by simp [cell_at, cell_lt, fro_at, fro_lt])
  have f21 : w1.frozen? ⟨w.heap.size + 1 + 1, 1, none⟩ = false := (g1.frozen (p := ⟨w.heap.size + 1 + 1, 1, none⟩) (by simp; try omega)).trans (by simp [cell_at, cell_lt, fro_at, fro_lt])
  have f10 : w1.frozen? ⟨w.heap.size + 1, 0, none⟩ = false := (g1.frozen (p := ⟨w.heap.size + 1, 0, none⟩) (by simp; try omega)).trans (by simp [cell_at, cell_lt, fro_at, fro_lt])
  have f11 : w1.frozen? ⟨w.heap.size + 1, 1, none⟩ = false := (g1.frozen (p := ⟨w.heap.size + 1, 1, none⟩) (by simp; try omega)).trans (by simp [cell_at, cell_lt, fro_at, fro_lt])
  have HG : Hid (Old w w1) := Old.trans (((Old.refl w).alloc _).alloc _ |>.alloc _) g1
  have HO : Hid (OwS xss w1 (w.heap.size + 1 + 1 + 1) w1.heap.size (.slice a1 xss.length c1)) := by
    have := o1
    simp at this
    exact this
  clear g1 o1 HR
  go_wp2_with fail
  refine bodyPost_ret (v := .agg #[.bool n, .slice a1 xss.length c1]) (by simp [results, Tryd.results16, go_sem, q10, q11]) rfl ⟨_, rfl, ?_, a1, c1, rfl, ?_⟩
  · exact ((HG.out.own (p := ⟨w.heap.size + 1 + 1, 1, none⟩) (by simp; omega) _).own (p := ⟨w.heap.size + 1, 0, none⟩) (by simp) _).own (p := ⟨w.heap.size + 1, 1, none⟩) (by simp) _
  · have h1 : OwS xss w1 w.heap.size w1.heap.size (.slice a1 xss.length c1) := HO.out.low (by omega)
    have h2 := ((HO.out.put (k := w.heap.size + 1 + 1) (j := 1) (x := .slice a1 xss.length c1) (by omega)).put (k := w.heap.size + 1) (j := 0) (x := .bool n) (by omega)).put (k := w.heap.size + 1) (j := 1) (x := .slice a1 xss.length c1) (by omega)
    have h3 := h2.low (lo' := w.heap.size) (by omega)
    exact h3.high (by simp) (Nat.le_refl _)
set_option maxHeartbeats 1000000 in
theorem kr_eq (n : Bool) (xss : List (List Int)) (w : World) (lo hi : Nat) (g : Array Value) (lo' hi' : Nat) (g' : Array Value) (h : XR n xss w lo hi g) (h' : XR n xss w lo' hi' g') (hl : xss.length ≤ 1048576) (hr : ∀ r ∈ xss, r.length ≤ 1048576) :
    Calls Tryd.prog 19 #[.agg g, .agg g'] w fun e w' => e = .returned (.bool true) ∧ Old w w' := by
  obtain ⟨a0, cap0, rfl, o⟩ := h
  obtain ⟨a1, cap1, rfl, o'⟩ := h'
  have HR : Hid (RowS w (.slice a0 xss.length cap0) xss) := o.rowS
  have HK : Hid (RowS w (.slice a1 xss.length cap1) xss) := o'.rowS
  have HRR : Hid (∀ r ∈ xss, r.length ≤ 1048576) := hr
  clear o o' hr
  have dn : (n != n) = false := by simp
  go_enter Tryd.func19, Tryd.ntmps19
  go_wp2_with fail
  refine (eqIntSS_yes xss _ _ _ (HR.out.old (((Old.refl w).alloc _).alloc _)) (HK.out.old (((Old.refl w).alloc _).alloc _)) hl HRR.out).mono ?_
  rintro e w1 ⟨rfl, g1⟩
  have HG : Hid (Old w w1) := Old.trans (((Old.refl w).alloc _).alloc _) g1
  clear g1
  go_wp2_with fail
  go_ret
  exact ⟨rfl, HG.out⟩
end Go.Proofs.YtinldhoimnbkhaaDoor
/- Proved: whether rows are as they should be, as the model tells it. -/
namespace Go.Proofs.YtinldhoimnbkhaaDoor
open Go.ChangeShapes Go.WideShapes Go.ChangeAt Go.RowKit
open M1
set_option linter.unusedVariables false
set_option linter.unusedSimpArgs false
def grB (N : Int) (ps : List Int) (xss : List (List Int)) : Bool := spB N ps && rwB N ps xss
theorem spec_goodRows (N : Int) (ps : List Int) (n : Bool) (xss : List (List Int)) (v u : Value) (w : World) (hv : Row w v ps) (hf : Fit v) (hu : RowS w u xss) (hlp : ps.length ≤ 1048576) (hx : ∀ x ∈ ps, -9223372036854775808 ≤ x ∧ x ≤ 9223372036854775807) (hl : xss.length ≤ 1048576) (hr : ∀ r ∈ xss, r.length ≤ 1048576) :
    Calls Tryd.prog 14 #[.agg #[.int .i64 N, v], .agg #[.bool n, u]] w fun e w' => e = .returned (.bool (grB N ps xss)) ∧ Old w w' := by
  have cg := fun W (h : Row W v ps) => spec_goodSpace N ps v W h hf (by omega) hx
  have cr := fun W (h : Row W v ps) (k : RowS W u xss) (hs : spB N ps = true) => spec_l5Rows N ps xss v u W h k hl hr hs
  have HV : Hid (Row w v ps) := hv
  have HU : Hid (RowS w u xss) := hu
  obtain ⟨a0, cap0, ev⟩ := hv.slice
  obtain ⟨a1, cap1, eu⟩ := hu.slice
  subst ev eu
  have HN : Hid (Old w ((w.alloc (.cells #[.int .i64 N, .slice a0 ps.length cap0] 31)).alloc (.cells #[.bool n, .slice a1 xss.length cap1] 33))) := ((Old.refl w).alloc _).alloc _
  clear hv hu hf hx hr
  cases hs : spB N ps
  · have HB : Hid (false = grB N ps xss) := by show _ = _; unfold grB; rw [hs]; rfl
    rw [hs] at cg
    generalize grB N ps xss = B at *
    clear hs cr
    go_enter Tryd.func14, Tryd.ntmps14
    go_wp2_with fail
    refine (cg _ (HV.out.old HN.out)).mono ?_
    rintro e w1 ⟨rfl, g1⟩
    have HG : Hid (Old w w1) := Old.trans HN.out g1
    clear g1
    go_wp2_with fail
    go_ret
    exact ⟨ret_bb HB.out, HG.out⟩
  · have HB : Hid (rwB N ps xss = grB N ps xss) := by show _ = _; unfold grB; rw [hs]; rfl
    rw [hs] at cg
    have cr2 := fun W (h : Row W (.slice a0 ps.length cap0) ps) (k : RowS W (.slice a1 xss.length cap1) xss) => cr W h k hs
    generalize grB N ps xss = B at *
    clear hs cr
    go_enter Tryd.func14, Tryd.ntmps14
    go_wp2_with fail
    refine (cg _ (HV.out.old HN.out)).mono ?_
    rintro e w1 ⟨rfl, g1⟩
    have HG : Hid (Old w w1) := Old.trans HN.out g1
    have s0 : w1.cell? ⟨w.heap.size, 0, none⟩ = some (.int .i64 N) := (g1.cell (p := ⟨w.heap.size, 0, none⟩) (by simp; omega)).trans (by simp [cell_at, cell_lt])
    have s1 : w1.cell? ⟨w.heap.size, 1, none⟩ = some (.slice a0 ps.length cap0) := (g1.cell (p := ⟨w.heap.size, 1, none⟩) (by simp; omega)).trans (by simp [cell_at, cell_lt])
    have s2 : w1.cell? ⟨w.heap.size + 1, 1, none⟩ = some (.slice a1 xss.length cap1) := (g1.cell (p := ⟨w.heap.size + 1, 1, none⟩) (by simp)).trans (by simp [cell_at, cell_lt])
    clear g1
    go_wp2_with fail
    refine (cr2 _ (HV.out.old HG.out) (HU.out.old HG.out)).mono ?_
    rintro e w2 ⟨rfl, g2⟩
    have HG2 : Hid (Old w w2) := Old.trans HG.out g2
    clear g2
    go_wp2_with fail
    go_ret
    exact ⟨ret_bb HB.out, HG2.out⟩
end Go.Proofs.YtinldhoimnbkhaaDoor
/- Proved: the contract of the program's ringRowsOf. -/
namespace Go.Proofs.YtinldhoimnbkhaaDoor
open Go.ChangeShapes Go.WideShapes Go.ChangeAt Go.RowKit
open M1
set_option linter.unusedVariables false
set_option linter.unusedSimpArgs false
set_option maxRecDepth 100000 in
set_option maxHeartbeats 4000000 in
theorem impl_ringRows (N : Int) (n : Bool) (ps : List Int) (xss : List (List Int)) (Rf : Nat → Int) (us : Nat → Option Addr) (cs : Nat → Nat) (v : Value) (a1 : Option Addr) (cap1 : Nat) (w : World) (hP : PrsW w) (hT : TabW w) (hv : Row w v ps) (hf : Fit v) (hl : ps.length ≤ 1048576) (hlx : xss.length ≤ 1048576) (hr : ∀ r ∈ xss, r.length ≤ 1048576) (hu : 0 < xss.length → RowsAt w (.slice a1 xss.length cap1) ps xss us cs)
    (hRf : ∀ k, RingOk (ps.getD k 0) N → (0 ≤ Rf k ∧ Rf k < ps.getD k 0) ∧ (∀ W, PrsW W → TabW W → Calls Tryd.prog 111 #[.int .i64 (ps.getD k 0), .int .i64 N] W fun e w' => e = .returned (.tuple #[.agg #[.int .i64 (ps.getD k 0), .int .i64 N, .int .i64 (Rf k)], .bool true]) ∧ Old W w')) :
    Calls Tryd.prog 55 #[.agg #[.int .i64 N, v], .agg #[.bool n, .slice a1 xss.length cap1]] w fun e w' => Old w w' ∧ ((grB N ps xss = false ∧ e = .returned (.tuple #[.slice none 0 0, .bool false])) ∨ (grB N ps xss = true ∧ ∃ g, w.heap.size ≤ g ∧ e = .returned (.tuple #[.slice (some ⟨g, 0, none⟩) ps.length ps.length, .bool true]) ∧ RRs w' g N n ps Rf us ps.length)) := by
  have cr := fun W v (h1 : PrsW W) (h2 : TabW W) (h : Row W v ps) (f : Fit v) => impl_rings N ps Rf v W h1 h2 h f (by omega) hRf
  have HP : Hid (PrsW w) := hP
  have HT : Hid (TabW w) := hT
  have HV : Hid (Row w v ps) := hv
  have HF : Hid (Fit v) := hf
  have HU : Hid (0 < xss.length → RowsAt w (.slice a1 xss.length cap1) ps xss us cs) := hu
  have HR : Hid (∀ r ∈ xss, r.length ≤ 1048576) := hr
  obtain ⟨a0, cap0, ev⟩ := hv.slice
  subst ev
  have HN : Hid (Old w ((w.alloc (.cells #[.int .i64 N, .slice a0 ps.length cap0] 31)).alloc (.cells #[.bool n, .slice a1 xss.length cap1] 33))) := ((Old.refl w).alloc _).alloc _
  clear hP hT hv hf hu hr hRf
  go_enter Tryd.func55, Tryd.ntmps55
  go_wp2_with fail
  refine (cr _ _ (HP.out.old HN.out) (HT.out.old HN.out) (HV.out.old HN.out) HF.out).mono ?_
  rintro e w1 ⟨g1, h⟩
  have HG1 : Hid (Old w w1) := Old.trans HN.out g1
  have hs1 : w.heap.size + 1 + 1 ≤ w1.heap.size := by have := g1.size; simp at this; omega
  have t0 : w1.cell? ⟨w.heap.size + 1, 0, none⟩ = some (.bool n) := (g1.cell (p := ⟨w.heap.size + 1, 0, none⟩) (by simp)).trans (by simp [cell_at, cell_lt])
  have t1 : w1.cell? ⟨w.heap.size + 1, 1, none⟩ = some (.slice a1 xss.length cap1) := (g1.cell (p := ⟨w.heap.size + 1, 1, none⟩) (by simp)).trans (by simp [cell_at, cell_lt])
  clear g1 cr
  rcases h with ⟨hB, rfl⟩ | ⟨hB, g, hg, rfl, hrg⟩
  · have HB : Hid (grB N ps xss = false) := by show _ = _; unfold grB; rw [hB]; rfl
    clear hB
    go_wp2_with fail
    exact bodyPost_ret (v := .tuple #[.slice none 0 0, .bool false]) (by simp [results, Tryd.results55, go_sem]) rfl ⟨HG1.out, Or.inl ⟨HB.out, rfl⟩⟩
  · have ci := impl_rowsIn N n ps xss Rf us cs g a1 cap1 w1 hrg hB hlx HR.out (fun h => (HU.out h).old HG1.out)
    have HSP : Hid (spB N ps = true) := hB
    clear hB hg hrg
    go_wp2_with fail
    refine ci.mono ?_
    rintro e w2 ⟨g2, h⟩
    have HG2 : Hid (Old w w2) := Old.trans HG1.out g2
    clear g2 ci
    rcases h with ⟨hB, rfl⟩ | ⟨hB, g', hg', rfl, hrr⟩
    · have HB : Hid (grB N ps xss = false) := by show _ = _; unfold grB; rw [hB, Bool.and_false]
      clear hB
      go_wp2_with fail
      exact bodyPost_ret (v := .tuple #[.slice none 0 0, .bool false]) (by simp [results, Tryd.results55, go_sem]) rfl ⟨HG2.out, Or.inl ⟨HB.out, rfl⟩⟩
    · have HB : Hid (grB N ps xss = true) := by show _ = _; unfold grB; rw [hB, HSP.out]; rfl
      have HRR : Hid (RRs w2 g' N n ps Rf us ps.length) := hrr
      clear hB hrr
      go_wp2_with fail
      exact bodyPost_ret (v := .tuple #[.slice (some ⟨g', 0, none⟩) ps.length ps.length, .bool true]) (by simp [results, Tryd.results55, go_sem]) rfl ⟨HG2.out, Or.inr ⟨HB.out, g', by omega, rfl, HRR.out⟩⟩
theorem impl_goodRows (N : Int) (n : Bool) (ps : List Int) (xss : List (List Int)) (v u : Value) (w : World) (lo hi : Nat) (hP : PrsW w) (hT : TabW w) (hv : Row w v ps) (hf : Fit v) (hl : ps.length ≤ 1048576) (hlx : xss.length ≤ 1048576) (hr : ∀ r ∈ xss, r.length ≤ 1048576) (hu : OwS xss w lo hi u) :
    Calls Tryd.prog 17 #[.agg #[.int .i64 N, v], .agg #[.bool n, u]] w fun e w' => e = .returned (.bool (grB N ps xss)) ∧ Old w w' := by
  obtain ⟨Rf, hRf⟩ := Rings_roots N ps
  obtain ⟨a1, cap1, eu⟩ := hu.slice
  subst eu
  obtain ⟨us, cs, hat⟩ : ∃ us cs, 0 < xss.length → RowsAt w (.slice a1 xss.length cap1) ps xss us cs := by
    rcases Nat.eq_zero_or_pos xss.length with h0 | h0
    · exact ⟨fun _ => none, fun _ => 0, fun h => by omega⟩
    · obtain ⟨us, cs, h⟩ := hu.at ps h0
      exact ⟨us, cs, fun _ => h⟩
  have cr := fun W v (h1 : PrsW W) (h2 : TabW W) (h : Row W v ps) (f : Fit v) (k : 0 < xss.length → RowsAt W (.slice a1 xss.length cap1) ps xss us cs) => impl_ringRows N n ps xss Rf us cs v a1 cap1 W h1 h2 h f hl hlx hr k hRf
  have HP : Hid (PrsW w) := hP
  have HT : Hid (TabW w) := hT
  have HV : Hid (Row w v ps) := hv
  have HF : Hid (Fit v) := hf
  have HAT : Hid (0 < xss.length → RowsAt w (.slice a1 xss.length cap1) ps xss us cs) := hat
  obtain ⟨a0, cap0, ev⟩ := hv.slice
  subst ev
  have HN : Hid (Old w ((w.alloc (.cells #[.int .i64 N, .slice a0 ps.length cap0] 31)).alloc (.cells #[.bool n, .slice a1 xss.length cap1] 33))) := ((Old.refl w).alloc _).alloc _
  clear hP hT hv hf hRf hat hu hr
  go_enter Tryd.func17, Tryd.ntmps17
  go_wp2_with fail
  refine (cr _ _ (HP.out.old HN.out) (HT.out.old HN.out) (HV.out.old HN.out) HF.out (fun h => (HAT.out h).old HN.out)).mono ?_
  rintro e w1 ⟨g1, h⟩
  have HG1 : Hid (Old w w1) := Old.trans HN.out g1
  clear g1 cr
  rcases h with ⟨hB, rfl⟩ | ⟨hB, g, hg, rfl, hrr⟩
  · have HB : Hid (false = grB N ps xss) := hB.symm
    clear hB
    go_wp2_with fail
    go_ret
    exact ⟨ret_bb HB.out, HG1.out⟩
  · have HB : Hid (true = grB N ps xss) := hB.symm
    clear hB hrr hg
    go_wp2_with fail
    go_ret
    exact ⟨ret_bb HB.out, HG1.out⟩
end Go.Proofs.YtinldhoimnbkhaaDoor
/- Proved: the statement on GoodRows at every space and rows, in a world in which the two tables are laid. -/
namespace Go.Proofs.YtinldhoimnbkhaaDoor
open Go.ChangeShapes Go.WideShapes Go.ChangeAt Go.RowKit
set_option linter.unusedVariables false
set_option linter.unusedSimpArgs false
theorem GoodRows_any (N : Int) (xs : List Int) (n : Bool) (xss : List (List Int)) (v u : Value) (w : World) (hv : Row w v xs) (hl : xs.length ≤ 9223372036854775807) (hx : ∀ x ∈ xs, -9223372036854775808 ≤ x ∧ x ≤ 9223372036854775807) (hu : RowS w u xss) (hlx : xss.length ≤ 9223372036854775807) (hlr : ∀ r ∈ xss, r.length ≤ 9223372036854775807) (hP : PrsW w) (hT : TabW w) :
    Calls Tryd.prog 3 #[.agg #[.int .i64 N, v], .agg #[.bool n, u]] w fun e w' => e = .returned (.bool true) ∧ Old w w' := by
  obtain ⟨a0, c0, rfl⟩ := hv.slice
  obtain ⟨a1, c1, rfl⟩ := hu.slice
  have bnd : ∀ {A : Prop}, ¬ leftN 1048576 xs.length < 0 → ¬ leftSS (leftN 1048576 xs.length) xss < 0 → (xs.length ≤ 1048576 → xss.length ≤ 1048576 → (∀ r ∈ xss, r.length ≤ 1048576) → A) → A := fun h1 h2 k => by
    obtain ⟨q1, q2, q3⟩ := leftN_ok h1 (by omega)
    obtain ⟨p1, p2, p3, p4⟩ := leftSS_ok q3 h2
    exact k (by omega) (by omega) (fun r hr => by have := p4 r hr; omega)
  refine law9_GoodRows w N xs.length a0 c0 n xss.length a1 c1 (grB N xs xss) (leftN 1048576 xs.length) (leftSS (leftN 1048576 xs.length) xss)
    (fun W g => ks_sz N a0 xs.length c0 1048576 W hl (by omega) (by omega))
    (fun h W g => by
      obtain ⟨q1, q2, q3⟩ := leftN_ok h (by omega)
      exact kr_sz n xss _ _ W (hu.old g) hlx hlr q3 (by omega))
    (XS N xs) (far_XS N xs) shape_XS (fun h1 h2 W g => bnd h1 h2 fun h3 h4 h5 => ks_to N xs _ W (hv.old g) h3) (fun h1 h2 W lo hi g lo' hi' g' k k' => bnd h1 h2 fun h3 h4 h5 => ks_eq N xs W lo hi g lo' hi' g' k k' (by omega))
    (XR n xss) (far_XR n xss) shape_XR (fun h1 h2 W g => bnd h1 h2 fun h3 h4 h5 => kr_to n xss _ W (hu.old g) h4 h5) (fun h1 h2 W lo hi g lo' hi' g' k k' => bnd h1 h2 fun h3 h4 h5 => kr_eq n xss W lo hi g lo' hi' g' k k' h4 h5)
    (fun h1 h2 W lo0 hi0 g0 lo1 hi1 g1 k0 k1 _ => bnd h1 h2 fun h3 h4 h5 => ?_) (fun h1 h2 W lo0 hi0 g0 lo1 hi1 g1 k0 k1 q => bnd h1 h2 fun h3 h4 h5 => ?_)
  · obtain ⟨a, c, rfl, o, f⟩ := k0
    obtain ⟨a', c', rfl, o'⟩ := k1
    exact spec_goodRows N xs n xss _ _ W o.row f o'.rowS h3 hx h4 h5
  · obtain ⟨a, c, rfl, o, f⟩ := k0
    obtain ⟨a', c', rfl, o'⟩ := k1
    exact impl_goodRows N n xs xss _ _ W _ _ (hP.old q) (hT.old q) o.row f h3 h4 h5 o'
end Go.Proofs.YtinldhoimnbkhaaDoor
/- Proved: rows that come in, opened: a mark, and rows of numbers. -/
namespace Go.Proofs.YtinldhoimnbkhaaDoor
open Go.ChangeShapes Go.WideShapes Go.ChangeAt Go.RowKit Go.Joins
set_option linter.unusedVariables false
set_option linter.unusedSimpArgs false
theorem cellsRows : Tryd.prog.cellsOf 27 = 2 := by kernel_rfl
set_option maxRecDepth 100000 in
theorem open_rows {H : Type} {enc : TypeId × Value → H} {W : World} {base : Nat} {v : Value} {d : DataW H} {p : List MemPlace} (hok : Value.okWide Tryd.prog W .any base 27 v)
    (h : DataW.Trod enc Tryd.prog W 0 (fun _ => true) true 27 v d p) : ∃ n u xss, v = .agg #[.bool n, u] ∧ RowS W u xss ∧ xss.length ≤ 9223372036854775807 ∧ (∀ r ∈ xss, r.length ≤ 9223372036854775807) ∧ ∀ r ∈ xss, ∀ n ∈ r, (Lit.int .i64 n).wf = true := by
  obtain ⟨c0, c1, y0, y1, m, rfl, rfl, rfl, hy0, hy1⟩ := open_agg2 Tryd.underlying27 (by kernel_rfl) cellsRows hok h
  obtain ⟨n, e0, _⟩ := DataW.trod_bool Tryd.underlying4 hy0
  simp at e0
  subst e0
  rcases Go.Deep.open_int_rows Tryd.underlying25 Tryd.underlying22 Tryd.underlying3 cellsIntsT cellsIntT hy1 with ⟨hcs, _⟩ | ⟨a, len, cap, A, L, C, Z, hcs, _, hl, hm, _, hr⟩
  · simp at hcs
    subst hcs
    exact ⟨n, _, [], rfl, Or.inl ⟨none, 0, rfl, rfl⟩, by simp, by simp, by simp⟩
  · simp at hcs
    subst hcs
    obtain ⟨xss, e, h1, h2, h3⟩ := rows_of hl hr
    refine ⟨n, _, xss, rfl, h1, ?_, h2, h3⟩
    rw [e]
    have : cap ≤ 2 ^ 63 - 1 := hm
    omega
end Go.Proofs.YtinldhoimnbkhaaDoor
/- Proved: a space that comes in, opened: a number, and a row of numbers. -/
namespace Go.Proofs.YtinldhoimnbkhaaDoor
open Go.ChangeShapes Go.WideShapes Go.ChangeAt Go.RowKit Go.Joins
set_option linter.unusedVariables false
set_option linter.unusedSimpArgs false
theorem cellsSpace : Tryd.prog.cellsOf 24 = 2 := by kernel_rfl
set_option maxRecDepth 100000 in
theorem open_space {H : Type} {enc : TypeId × Value → H} {W : World} {base : Nat} {v : Value} {d : DataW H} {p : List MemPlace} (hok : Value.okWide Tryd.prog W .any base 24 v)
    (h : DataW.Trod enc Tryd.prog W 0 (fun _ => true) true 24 v d p) : ∃ n u xs, v = .agg #[.int .i64 n, u] ∧ Row W u xs ∧ xs.length ≤ 9223372036854775807 ∧ (Lit.int .i64 n).wf = true ∧ ∀ n ∈ xs, (Lit.int .i64 n).wf = true := by
  obtain ⟨c0, c1, y0, y1, m, rfl, rfl, rfl, hy0, hy1⟩ := open_agg2 Tryd.underlying24 (by kernel_rfl) cellsSpace hok h
  obtain ⟨n, e0, _, wn⟩ := DataW.trod_int Tryd.underlying3 hy0
  simp at e0
  subst e0
  rcases open_ints Tryd.underlying22 Tryd.underlying3 cellsIntT hy1 with ⟨hcs, _⟩ | ⟨x, l, c, zs, hcs, _, hl, hm, hz, _, hcell, hwz⟩
  · simp at hcs
    subst hcs
    exact ⟨n, _, [], rfl, Or.inl ⟨none, 0, rfl, rfl⟩, by simp, wn, by simp⟩
  · simp at hcs
    subst hcs
    have hz' : zs.length = c := by simpa using hz
    refine ⟨n, _, zs.take l, rfl, row_of_ints hl hz' hcell, ?_, wn, fun n hn => hwz n (List.mem_of_mem_take hn)⟩
    rw [List.length_take]
    have : c ≤ 2 ^ 63 - 1 := hm
    omega
end Go.Proofs.YtinldhoimnbkhaaDoor
