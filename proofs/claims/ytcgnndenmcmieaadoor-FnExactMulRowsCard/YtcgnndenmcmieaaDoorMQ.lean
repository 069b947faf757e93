/- Proved: several texts in one: what each proves is said ahead of it. -/
import Derived.Test.YtcgnndenmcmieaaDoorMB
import Derived.Test.YtcgnndenmcmieaaDoorMP
import Derived.Test.YtcgnndenmcmieaaDoorMC
import Derived.Deep.RegionWith
import Derived.Deep.RegionHeld3
import Derived.Deep.DeepCutAuto
import Derived.Test.YtcgnndenmcmieaaDoorMI
import Derived.Test.YtcgnndenmcmieaaDoorMU
/- Proved: the walk of the statement FnExactMulRows, under what each function that it calls does. -/
namespace Go.Proofs.YtcgnndenmcmieaaDoor
open Go.ChangeShapes Go.WideShapes Go.ChangeAt Go.RowKit
set_option linter.unusedVariables false
set_option linter.unusedSimpArgs false
set_option maxRecDepth 100000 in
set_option maxHeartbeats 16000000 in
theorem law_mulrows (w : World) (Np0 : Int) (lp0 : Nat) (ap0 : Option Addr) (cp0 : Nat) (bp1 : Bool) (lp1 : Nat) (ap1 : Option Addr) (cp1 : Nat) (bp2 : Bool) (lp2 : Nat) (ap2 : Option Addr) (cp2 : Nat) (br0 : Bool) (lr0 : Nat) (ro : Bool) (L0 L1 L2 : Int)
    (csz0 : ∀ W, Old w W → Calls Tryd.prog 22 #[.agg #[.int .i64 Np0, .slice ap0 lp0 cp0], .int .i64 1048576] W fun e w' => e = .returned (.int .i64 L0) ∧ Old W w')
    (csz1 : ¬ L0 < 0 → ∀ W, Old w W → Calls Tryd.prog 33 #[.agg #[.bool bp1, .slice ap1 lp1 cp1], .int .i64 L0] W fun e w' => e = .returned (.int .i64 L1) ∧ Old W w')
    (csz2 : ¬ L0 < 0 → ¬ L1 < 0 → ∀ W, Old w W → Calls Tryd.prog 33 #[.agg #[.bool bp2, .slice ap2 lp2 cp2], .int .i64 L1] W fun e w' => e = .returned (.int .i64 L2) ∧ Old W w')
    (X0 : World → Nat → Nat → Array Value → Prop) (fX0 : Far X0) (hX0 : ∀ W lo hi g, X0 W lo hi g → ∃ a c, g = #[.int .i64 Np0, .slice a lp0 c])
    (cto0 : ¬ L0 < 0 → ¬ L1 < 0 → ¬ L2 < 0 → ∀ W, Old w W → Calls Tryd.prog 25 #[.agg #[.int .i64 Np0, .slice ap0 lp0 cp0]] W fun e w' => ∃ g, e = .returned (.agg g) ∧ Old W w' ∧ X0 w' W.heap.size w'.heap.size g)
    (ceq0 : ¬ L0 < 0 → ¬ L1 < 0 → ¬ L2 < 0 → ∀ W lo hi g lo' hi' g', X0 W lo hi g → X0 W lo' hi' g' → Calls Tryd.prog 29 #[.agg g, .agg g'] W fun e w' => e = .returned (.bool true) ∧ Old W w')
    (k0 : Int) (hk0 : 0 ≤ k0) (cmk0 : ¬ L0 < 0 → ¬ L1 < 0 → ¬ L2 < 0 → ∀ W lo hi g, X0 W lo hi g → Calls Tryd.prog 30 #[.agg g, .int .i64 1] W fun e w' => e = .returned (.int .i64 k0) ∧ Chg W w' lo hi)
    (X1 : World → Nat → Nat → Array Value → Prop) (fX1 : Far X1) (hX1 : ∀ W lo hi g, X1 W lo hi g → ∃ a c, g = #[.bool bp1, .slice a lp1 c])
    (cto1 : ¬ L0 < 0 → ¬ L1 < 0 → ¬ L2 < 0 → ∀ W, Old w W → Calls Tryd.prog 35 #[.agg #[.bool bp1, .slice ap1 lp1 cp1]] W fun e w' => ∃ g, e = .returned (.agg g) ∧ Old W w' ∧ X1 w' W.heap.size w'.heap.size g)
    (ceq1 : ¬ L0 < 0 → ¬ L1 < 0 → ¬ L2 < 0 → ∀ W lo hi g lo' hi' g', X1 W lo hi g → X1 W lo' hi' g' → Calls Tryd.prog 28 #[.agg g, .agg g'] W fun e w' => e = .returned (.bool true) ∧ Old W w')
    (k1 : Int) (hk1 : 0 ≤ k1) (cmk1 : ¬ L0 < 0 → ¬ L1 < 0 → ¬ L2 < 0 → ∀ W lo hi g, X1 W lo hi g → Calls Tryd.prog 31 #[.agg g, .int .i64 k0] W fun e w' => e = .returned (.int .i64 k1) ∧ Chg W w' lo hi)
    (X2 : World → Nat → Nat → Array Value → Prop) (fX2 : Far X2) (hX2 : ∀ W lo hi g, X2 W lo hi g → ∃ a c, g = #[.bool bp2, .slice a lp2 c])
    (cto2 : ¬ L0 < 0 → ¬ L1 < 0 → ¬ L2 < 0 → ∀ W, Old w W → Calls Tryd.prog 35 #[.agg #[.bool bp2, .slice ap2 lp2 cp2]] W fun e w' => ∃ g, e = .returned (.agg g) ∧ Old W w' ∧ X2 w' W.heap.size w'.heap.size g)
    (ceq2 : ¬ L0 < 0 → ¬ L1 < 0 → ¬ L2 < 0 → ∀ W lo hi g lo' hi' g', X2 W lo hi g → X2 W lo' hi' g' → Calls Tryd.prog 28 #[.agg g, .agg g'] W fun e w' => e = .returned (.bool true) ∧ Old W w')
    (k2 : Int) (hk2 : 0 ≤ k2) (cmk2 : ¬ L0 < 0 → ¬ L1 < 0 → ¬ L2 < 0 → ∀ W lo hi g, X2 W lo hi g → Calls Tryd.prog 31 #[.agg g, .int .i64 k1] W fun e w' => e = .returned (.int .i64 k2) ∧ Chg W w' lo hi)
    (SR : World → Nat → Nat → Array Value → Prop) (fSR : Far SR) (hSR : ∀ W lo hi p, SR W lo hi p → ∃ a0 c0, p = #[.bool br0, .slice a0 lr0 c0])
    (IR0 : World → Nat → Nat → Array Value → Prop) (fIR0 : Far IR0) (hIR0 : ∀ W lo hi p, IR0 W lo hi p → ∃ a0 c0, p = #[.bool br0, .slice a0 lr0 c0])
    (IR1 : World → Nat → Nat → Array Value → Prop) (fIR1 : Far IR1) (hIR1 : ∀ W lo hi p, IR1 W lo hi p → ∃ a0 c0, p = #[.bool br0, .slice a0 lr0 c0])
    (csp : ¬ L0 < 0 → ¬ L1 < 0 → ¬ L2 < 0 → ∀ W lo0 hi0 g0 lo1 hi1 g1 lo2 hi2 g2, X0 W lo0 hi0 g0 → X1 W lo1 hi1 g1 → X2 W lo2 hi2 g2 → Calls Tryd.prog 34 #[.agg g0, .agg g1, .agg g2] W fun e w' => ∃ r0, e = .returned (.tuple #[.agg r0, .bool ro]) ∧ Old W w' ∧ SR w' W.heap.size w'.heap.size r0)
    (cim : ¬ L0 < 0 → ¬ L1 < 0 → ¬ L2 < 0 → ∀ W lo0 hi0 g0 lo1 hi1 g1 lo2 hi2 g2, X0 W lo0 hi0 g0 → X1 W lo1 hi1 g1 → X2 W lo2 hi2 g2 → Old w W → Calls Tryd.prog 36 #[.agg g0, .agg g1, .agg g2] W fun e w' => ∃ r0, e = .returned (.tuple #[.agg r0, .bool ro]) ∧ Old W w' ∧ IR0 w' W.heap.size w'.heap.size r0)
    (cer0 : ¬ L0 < 0 → ¬ L1 < 0 → ¬ L2 < 0 → ∀ W lo hi p lo' hi' p', IR0 W lo hi p → SR W lo' hi' p' → Calls Tryd.prog 28 #[.agg p, .agg p'] W fun e w' => e = .returned (.bool true) ∧ Old W w')
    (m0 : Int) (hm0 : 0 ≤ m0) (cmr0 : ¬ L0 < 0 → ¬ L1 < 0 → ¬ L2 < 0 → ∀ W lo hi p, IR0 W lo hi p → Calls Tryd.prog 31 #[.agg p, .int .i64 1] W fun e w' => e = .returned (.int .i64 m0) ∧ Chg W w' lo hi ∧ IR1 w' lo hi p)
    (chr0 : ¬ L0 < 0 → ¬ L1 < 0 → ¬ L2 < 0 → ∀ W lo hi p, IR1 W lo hi p → Calls Tryd.prog 32 #[.agg p, .int .i64 1] W fun e w' => e = .returned (.int .i64 m0) ∧ Old W w') :
    Calls Tryd.prog 6 #[.agg #[.int .i64 Np0, .slice ap0 lp0 cp0], .agg #[.bool bp1, .slice ap1 lp1 cp1], .agg #[.bool bp2, .slice ap2 lp2 cp2]] w fun e w' => e = .returned (.bool true) ∧ Old w w' := by
  have HA : Hid (Old w (((w.alloc (.cells #[.int .i64 Np0, .slice ap0 lp0 cp0] 40)).alloc (.cells #[.bool bp1, .slice ap1 lp1 cp1] 57)).alloc (.cells #[.bool bp2, .slice ap2 lp2 cp2] 57))) := by first | exact ((((Old.refl w).alloc _).alloc _).alloc _)
  have BA0 : Hid (StW (((w.alloc (.cells #[.int .i64 Np0, .slice ap0 lp0 cp0] 40)).alloc (.cells #[.bool bp1, .slice ap1 lp1 cp1] 57)).alloc (.cells #[.bool bp2, .slice ap2 lp2 cp2] 57)) (w.heap.size) (.int .i64 Np0) (.slice ap0 lp0 cp0) 40) := StW.at31 w _ _ _ _ _ _ _ _ _
  have BA1 : Hid (StW (((w.alloc (.cells #[.int .i64 Np0, .slice ap0 lp0 cp0] 40)).alloc (.cells #[.bool bp1, .slice ap1 lp1 cp1] 57)).alloc (.cells #[.bool bp2, .slice ap2 lp2 cp2] 57)) (w.heap.size + 1) (.bool bp1) (.slice ap1 lp1 cp1) 57) := StW.at32 w _ _ _ _ _ _ _ _ _
  have BA2 : Hid (StW (((w.alloc (.cells #[.int .i64 Np0, .slice ap0 lp0 cp0] 40)).alloc (.cells #[.bool bp1, .slice ap1 lp1 cp1] 57)).alloc (.cells #[.bool bp2, .slice ap2 lp2 cp2] 57)) (w.heap.size + 1 + 1) (.bool bp2) (.slice ap2 lp2 cp2) 57) := StW.at33 w _ _ _ _ _ _ _ _ _
  by_cases hL0 : L0 < 0
  · have dL0 : decide (L0 < 0) = true := decide_eq_true hL0
    go_enter Tryd.func6, Tryd.ntmps6
    go_wp2_with fail
    refine (csz0  _ (HA.out)).mono ?_
    rintro e s0 ⟨rfl, g0⟩
    have HS0 : Hid (Old w s0) := Old.trans HA.out g0
    clear g0
    go_wp2_with fail
    go_ret
    exact ⟨rfl, HS0.out⟩
  have dL0 : decide (L0 < 0) = false := decide_eq_false hL0
  by_cases hL1 : L1 < 0
  · have dL1 : decide (L1 < 0) = true := decide_eq_true hL1
    go_enter Tryd.func6, Tryd.ntmps6
    go_wp2_with fail
    refine (csz0  _ (HA.out)).mono ?_
    rintro e s0 ⟨rfl, g0⟩
    have HS0 : Hid (Old w s0) := Old.trans HA.out g0
    have BS00 : Hid (StW s0 (w.heap.size) (.int .i64 Np0) (.slice ap0 lp0 cp0) 40) := BA0.out.old g0
    have BS01 : Hid (StW s0 (w.heap.size + 1) (.bool bp1) (.slice ap1 lp1 cp1) 57) := BA1.out.old g0
    have BS02 : Hid (StW s0 (w.heap.size + 1 + 1) (.bool bp2) (.slice ap2 lp2 cp2) 57) := BA2.out.old g0
    have y0 := BS01.out.c0
    have y1 := BS01.out.c1
    clear g0
    go_wp2_with fail
    refine (csz1 hL0 _ (HS0.out)).mono ?_
    rintro e s1 ⟨rfl, g1⟩
    have HS1 : Hid (Old w s1) := Old.trans HS0.out g1
    clear g1
    go_wp2_with fail
    go_ret
    exact ⟨rfl, HS1.out⟩
  have dL1 : decide (L1 < 0) = false := decide_eq_false hL1
  by_cases hL2 : L2 < 0
  · have dL2 : decide (L2 < 0) = true := decide_eq_true hL2
    go_enter Tryd.func6, Tryd.ntmps6
    go_wp2_with fail
    refine (csz0  _ (HA.out)).mono ?_
    rintro e s0 ⟨rfl, g0⟩
    have HS0 : Hid (Old w s0) := Old.trans HA.out g0
    have BS00 : Hid (StW s0 (w.heap.size) (.int .i64 Np0) (.slice ap0 lp0 cp0) 40) := BA0.out.old g0
    have BS01 : Hid (StW s0 (w.heap.size + 1) (.bool bp1) (.slice ap1 lp1 cp1) 57) := BA1.out.old g0
    have BS02 : Hid (StW s0 (w.heap.size + 1 + 1) (.bool bp2) (.slice ap2 lp2 cp2) 57) := BA2.out.old g0
    have y0 := BS01.out.c0
    have y1 := BS01.out.c1
    clear g0
    go_wp2_with fail
    refine (csz1 hL0 _ (HS0.out)).mono ?_
    rintro e s1 ⟨rfl, g1⟩
    have HS1 : Hid (Old w s1) := Old.trans HS0.out g1
    have BS10 : Hid (StW s1 (w.heap.size) (.int .i64 Np0) (.slice ap0 lp0 cp0) 40) := BS00.out.old g1
    have BS11 : Hid (StW s1 (w.heap.size + 1) (.bool bp1) (.slice ap1 lp1 cp1) 57) := BS01.out.old g1
    have BS12 : Hid (StW s1 (w.heap.size + 1 + 1) (.bool bp2) (.slice ap2 lp2 cp2) 57) := BS02.out.old g1
    have y0 := BS12.out.c0
    have y1 := BS12.out.c1
    clear g1
    go_wp2_with fail
    refine (csz2 hL0 hL1 _ (HS1.out)).mono ?_
    rintro e s2 ⟨rfl, g2⟩
    have HS2 : Hid (Old w s2) := Old.trans HS1.out g2
    clear g2
    go_wp2_with fail
    go_ret
    exact ⟨rfl, HS2.out⟩
  have dL2 : decide (L2 < 0) = false := decide_eq_false hL2
  have TO0 : Hid (∀ W, Old w W → Calls Tryd.prog 25 #[.agg #[.int .i64 Np0, .slice ap0 lp0 cp0]] W fun e w' => ∃ g, e = .returned (.agg g) ∧ Old W w' ∧ X0 w' W.heap.size w'.heap.size g) := cto0 hL0 hL1 hL2
  replace ceq0 := ceq0 hL0 hL1 hL2
  replace cmk0 := cmk0 hL0 hL1 hL2
  clear cto0
  have TO1 : Hid (∀ W, Old w W → Calls Tryd.prog 35 #[.agg #[.bool bp1, .slice ap1 lp1 cp1]] W fun e w' => ∃ g, e = .returned (.agg g) ∧ Old W w' ∧ X1 w' W.heap.size w'.heap.size g) := cto1 hL0 hL1 hL2
  replace ceq1 := ceq1 hL0 hL1 hL2
  replace cmk1 := cmk1 hL0 hL1 hL2
  clear cto1
  have TO2 : Hid (∀ W, Old w W → Calls Tryd.prog 35 #[.agg #[.bool bp2, .slice ap2 lp2 cp2]] W fun e w' => ∃ g, e = .returned (.agg g) ∧ Old W w' ∧ X2 w' W.heap.size w'.heap.size g) := cto2 hL0 hL1 hL2
  replace ceq2 := ceq2 hL0 hL1 hL2
  replace cmk2 := cmk2 hL0 hL1 hL2
  clear cto2
  replace csp := csp hL0 hL1 hL2
  replace cim := cim hL0 hL1 hL2
  replace cer0 := cer0 hL0 hL1 hL2
  replace cmr0 := cmr0 hL0 hL1 hL2
  replace chr0 := chr0 hL0 hL1 hL2
  have dro : (ro != ro) = false := by simp
  go_enter Tryd.func6, Tryd.ntmps6
  go_wp2_with fail
  refine (csz0  _ (HA.out)).mono ?_
  rintro e s0 ⟨rfl, g0⟩
  have HS0 : Hid (Old w s0) := Old.trans HA.out g0
  have BS00 : Hid (StW s0 (w.heap.size) (.int .i64 Np0) (.slice ap0 lp0 cp0) 40) := BA0.out.old g0
  have BS01 : Hid (StW s0 (w.heap.size + 1) (.bool bp1) (.slice ap1 lp1 cp1) 57) := BA1.out.old g0
  have BS02 : Hid (StW s0 (w.heap.size + 1 + 1) (.bool bp2) (.slice ap2 lp2 cp2) 57) := BA2.out.old g0
  have y0 := BS01.out.c0
  have y1 := BS01.out.c1
  clear g0
  go_wp2_with fail
  clear y0 y1
  refine (csz1 hL0 _ (HS0.out)).mono ?_
  rintro e s1 ⟨rfl, g1⟩
  have HS1 : Hid (Old w s1) := Old.trans HS0.out g1
  have BS10 : Hid (StW s1 (w.heap.size) (.int .i64 Np0) (.slice ap0 lp0 cp0) 40) := BS00.out.old g1
  have BS11 : Hid (StW s1 (w.heap.size + 1) (.bool bp1) (.slice ap1 lp1 cp1) 57) := BS01.out.old g1
  have BS12 : Hid (StW s1 (w.heap.size + 1 + 1) (.bool bp2) (.slice ap2 lp2 cp2) 57) := BS02.out.old g1
  have y0 := BS12.out.c0
  have y1 := BS12.out.c1
  clear g1
  go_wp2_with fail
  clear y0 y1
  refine (csz2 hL0 hL1 _ (HS1.out)).mono ?_
  rintro e s2 ⟨rfl, g2⟩
  have HS2 : Hid (Old w s2) := Old.trans HS1.out g2
  have BS20 : Hid (StW s2 (w.heap.size) (.int .i64 Np0) (.slice ap0 lp0 cp0) 40) := BS10.out.old g2
  have BS21 : Hid (StW s2 (w.heap.size + 1) (.bool bp1) (.slice ap1 lp1 cp1) 57) := BS11.out.old g2
  have BS22 : Hid (StW s2 (w.heap.size + 1 + 1) (.bool bp2) (.slice ap2 lp2 cp2) 57) := BS12.out.old g2
  clear g2
  have HG_0 : Hid (Old w s2) := HS2.out
  have A0_0 : Hid (StW s2 (w.heap.size) (.int .i64 Np0) (.slice ap0 lp0 cp0) 40) := BS20.out
  have A1_0 : Hid (StW s2 (w.heap.size + 1) (.bool bp1) (.slice ap1 lp1 cp1) 57) := BS21.out
  have A2_0 : Hid (StW s2 (w.heap.size + 1 + 1) (.bool bp2) (.slice ap2 lp2 cp2) 57) := BS22.out
  have hsw : w.heap.size + 3 ≤ s2.heap.size := by have := A2_0.out.lt; omega
  clear csz0 BA0 csz1 BA1 csz2 BA2 HA HS0 HS1 HS2 BS00 BS01 BS02 BS10 BS11 BS12 BS20 BS21 BS22
  have zA00 := A0_0.out.c0
  have zA01 := A0_0.out.c1
  have zA10 := A1_0.out.c0
  have zA11 := A1_0.out.c1
  have zA20 := A2_0.out.c0
  have zA21 := A2_0.out.c1
  go_wp2_with fail
  refine reg_mulrows11 s2 _ _ _ _ _ _ _ _ _ (fun W v => ∃ lo hi g, v = .agg g ∧ X0 W lo hi g ∧ hi ≤ W.heap.size) (fun W W' v h g => by obtain ⟨lo, hi, y, rfl, h1, h2⟩ := h; exact ⟨lo, hi, y, rfl, fX0.old h1 g h2, Nat.le_trans h2 g.size⟩) (fun W h => (TO0.out W (Old.trans HG_0.out h)).mono (fun e w' h => by obtain ⟨g, rfl, h1, h2⟩ := h; exact ⟨_, rfl, h1, _, _, g, rfl, h2, Nat.le_refl _⟩)) A0_0.out (fun W v => ∃ lo hi g, v = .agg g ∧ X1 W lo hi g ∧ hi ≤ W.heap.size) (fun W W' v h g => by obtain ⟨lo, hi, y, rfl, h1, h2⟩ := h; exact ⟨lo, hi, y, rfl, fX1.old h1 g h2, Nat.le_trans h2 g.size⟩) (fun W h => (TO1.out W (Old.trans HG_0.out h)).mono (fun e w' h => by obtain ⟨g, rfl, h1, h2⟩ := h; exact ⟨_, rfl, h1, _, _, g, rfl, h2, Nat.le_refl _⟩)) A1_0.out (fun W v => ∃ lo hi g, v = .agg g ∧ X2 W lo hi g ∧ hi ≤ W.heap.size) (fun W W' v h g => by obtain ⟨lo, hi, y, rfl, h1, h2⟩ := h; exact ⟨lo, hi, y, rfl, fX2.old h1 g h2, Nat.le_trans h2 g.size⟩) (fun W h => (TO2.out W (Old.trans HG_0.out h)).mono (fun e w' h => by obtain ⟨g, rfl, h1, h2⟩ := h; exact ⟨_, rfl, h1, _, _, g, rfl, h2, Nat.le_refl _⟩)) A2_0.out (fun W lo hi g0 g1 => SR W lo hi g0 ∧ g1 = .bool ro) (fun W W' lo hi g0 g1 h h1 h2 => ⟨fSR _ _ _ _ _ h.1 h1 h2, h.2⟩) (fun W v0 v1 v2 hO H0 H1 H2 => by obtain ⟨lo0, hi0, y0, rfl, x0, q0⟩ := H0; obtain ⟨lo1, hi1, y1, rfl, x1, q1⟩ := H1; obtain ⟨lo2, hi2, y2, rfl, x2, q2⟩ := H2; exact (csp W _ _ _ _ _ _ _ _ _ x0 x1 x2).mono (fun e w' h => by obtain ⟨g0, rfl, h1, h2⟩ := h; obtain ⟨a0_, c0_, hq⟩ := hSR _ _ _ _ h2; subst hq; exact ⟨_, _, rfl, h1, rfl, (by simp [Value.oneCell']), h2, rfl⟩)) _ _ _ (by first | decide | simp) rfl rfl rfl ?_
  intro ks0 loS hiS q0 q1 u_0 u_1 u_2 u_3 u_4 u_5 u_6 u_7 u_8 u_9 ts gS loS_ hiS_ rS_ bS0 hks0 hls0 hns0
  obtain ⟨rS, rfl⟩ := rS_
  obtain ⟨as0, cs0, hq⟩ := hSR _ _ _ _ rS
  subst hq
  have h_s : s2.heap.size ≤ loS ∧ hiS ≤ ts.heap.size := ⟨loS_, hiS_⟩
  obtain ⟨hlos, hhis⟩ := h_s
  clear loS_ hiS_
  simp only [putAll, Act.put]
  clear zA00 zA01 zA10 zA11 zA20 zA21
  have HG_1 : Hid (Old w ts) := Old.trans HG_0.out (gS)
  have A0_1 : Hid (StW ts (w.heap.size) (.int .i64 Np0) (.slice ap0 lp0 cp0) 40) := A0_0.out.old (gS)
  have A1_1 : Hid (StW ts (w.heap.size + 1) (.bool bp1) (.slice ap1 lp1 cp1) 57) := A1_0.out.old (gS)
  have A2_1 : Hid (StW ts (w.heap.size + 1 + 1) (.bool bp2) (.slice ap2 lp2 cp2) 57) := A2_0.out.old (gS)
  clear HG_0 A0_0 A1_0 A2_0
  have C0_1 : Hid (StW ts (ks0) (.bool br0) (.slice as0 lr0 cs0) 46) := bS0
  have SS_1 : Hid (SR ts (loS) (hiS) #[.bool br0, .slice as0 lr0 cs0]) := rS
  have hsts := gS.size
  clear gS rS bS0
  have zA00 := A0_1.out.c0
  have zA01 := A0_1.out.c1
  go_wp2_with fail
  refine (TO0.out _ (HG_1.out)).mono ?_
  rintro e x0 ⟨y_, rfl, g_, o_⟩
  obtain ⟨ax0, cx0, rfl⟩ := hX0 _ _ _ _ o_
  clear zA00 zA01
  have hsx0 : ts.heap.size ≤ x0.heap.size := by have := g_.size; first | exact this | (simp at this; omega)
  have HG_2 : Hid (Old w (x0.alloc (.cells #[.int .i64 Np0, .slice ax0 lp0 cx0] 49))) := Old.trans HG_1.out (Old.trans g_ ((Old.refl x0).alloc _))
  have A0_2 : Hid (StW (x0.alloc (.cells #[.int .i64 Np0, .slice ax0 lp0 cx0] 49)) (w.heap.size) (.int .i64 Np0) (.slice ap0 lp0 cp0) 40) := A0_1.out.old (Old.trans g_ ((Old.refl x0).alloc _))
  have A1_2 : Hid (StW (x0.alloc (.cells #[.int .i64 Np0, .slice ax0 lp0 cx0] 49)) (w.heap.size + 1) (.bool bp1) (.slice ap1 lp1 cp1) 57) := A1_1.out.old (Old.trans g_ ((Old.refl x0).alloc _))
  have A2_2 : Hid (StW (x0.alloc (.cells #[.int .i64 Np0, .slice ax0 lp0 cx0] 49)) (w.heap.size + 1 + 1) (.bool bp2) (.slice ap2 lp2 cp2) 57) := A2_1.out.old (Old.trans g_ ((Old.refl x0).alloc _))
  have C0_2 : Hid (StW (x0.alloc (.cells #[.int .i64 Np0, .slice ax0 lp0 cx0] 49)) (ks0) (.bool br0) (.slice as0 lr0 cs0) 46) := C0_1.out.old (Old.trans g_ ((Old.refl x0).alloc _))
  have SS_2 : Hid (SR (x0.alloc (.cells #[.int .i64 Np0, .slice ax0 lp0 cx0] 49)) (loS) (hiS) #[.bool br0, .slice as0 lr0 cs0]) := fSR.old SS_1.out (Old.trans g_ ((Old.refl x0).alloc _)) (by first | omega | (simp; done) | (simp; omega))
  clear HG_1 A0_1 A1_1 A2_1 C0_1 SS_1
  have Bx0_2 : Hid (StW (x0.alloc (.cells #[.int .i64 Np0, .slice ax0 lp0 cx0] 49)) (x0.heap.size) (.int .i64 Np0) (.slice ax0 lp0 cx0) 49) := StW.new x0 _ _ _
  have Rx0_2 : Hid (X0 (x0.alloc (.cells #[.int .i64 Np0, .slice ax0 lp0 cx0] 49)) (ts.heap.size) (x0.heap.size) #[.int .i64 Np0, .slice ax0 lp0 cx0]) := fX0.old (by first | exact o_ | (simp at o_; exact o_)) ((Old.refl x0).alloc _) (Nat.le_refl _)
  clear g_ o_
  have zA10 := A1_2.out.c0
  have zA11 := A1_2.out.c1
  go_wp2_with fail
  refine (TO1.out _ (HG_2.out)).mono ?_
  rintro e x1 ⟨y_, rfl, g_, o_⟩
  obtain ⟨ax1, cx1, rfl⟩ := hX1 _ _ _ _ o_
  clear zA10 zA11
  have hsx1 : x0.heap.size + 1 ≤ x1.heap.size := by have := g_.size; first | exact this | (simp at this; omega)
  have HG_3 : Hid (Old w (x1.alloc (.cells #[.bool bp1, .slice ax1 lp1 cx1] 46))) := Old.trans HG_2.out (Old.trans g_ ((Old.refl x1).alloc _))
  have A0_3 : Hid (StW (x1.alloc (.cells #[.bool bp1, .slice ax1 lp1 cx1] 46)) (w.heap.size) (.int .i64 Np0) (.slice ap0 lp0 cp0) 40) := A0_2.out.old (Old.trans g_ ((Old.refl x1).alloc _))
  have A1_3 : Hid (StW (x1.alloc (.cells #[.bool bp1, .slice ax1 lp1 cx1] 46)) (w.heap.size + 1) (.bool bp1) (.slice ap1 lp1 cp1) 57) := A1_2.out.old (Old.trans g_ ((Old.refl x1).alloc _))
  have A2_3 : Hid (StW (x1.alloc (.cells #[.bool bp1, .slice ax1 lp1 cx1] 46)) (w.heap.size + 1 + 1) (.bool bp2) (.slice ap2 lp2 cp2) 57) := A2_2.out.old (Old.trans g_ ((Old.refl x1).alloc _))
  have C0_3 : Hid (StW (x1.alloc (.cells #[.bool bp1, .slice ax1 lp1 cx1] 46)) (ks0) (.bool br0) (.slice as0 lr0 cs0) 46) := C0_2.out.old (Old.trans g_ ((Old.refl x1).alloc _))
  have SS_3 : Hid (SR (x1.alloc (.cells #[.bool bp1, .slice ax1 lp1 cx1] 46)) (loS) (hiS) #[.bool br0, .slice as0 lr0 cs0]) := fSR.old SS_2.out (Old.trans g_ ((Old.refl x1).alloc _)) (by first | omega | (simp; done) | (simp; omega))
  have Bx0_3 : Hid (StW (x1.alloc (.cells #[.bool bp1, .slice ax1 lp1 cx1] 46)) (x0.heap.size) (.int .i64 Np0) (.slice ax0 lp0 cx0) 49) := Bx0_2.out.old (Old.trans g_ ((Old.refl x1).alloc _))
  have Rx0_3 : Hid (X0 (x1.alloc (.cells #[.bool bp1, .slice ax1 lp1 cx1] 46)) (ts.heap.size) (x0.heap.size) #[.int .i64 Np0, .slice ax0 lp0 cx0]) := fX0.old Rx0_2.out (Old.trans g_ ((Old.refl x1).alloc _)) (by first | omega | (simp; done) | (simp; omega))
  clear HG_2 A0_2 A1_2 A2_2 C0_2 SS_2 Bx0_2 Rx0_2
  have Bx1_3 : Hid (StW (x1.alloc (.cells #[.bool bp1, .slice ax1 lp1 cx1] 46)) (x1.heap.size) (.bool bp1) (.slice ax1 lp1 cx1) 46) := StW.new x1 _ _ _
  have Rx1_3 : Hid (X1 (x1.alloc (.cells #[.bool bp1, .slice ax1 lp1 cx1] 46)) (x0.heap.size + 1) (x1.heap.size) #[.bool bp1, .slice ax1 lp1 cx1]) := fX1.old (by first | exact o_ | (simp at o_; exact o_)) ((Old.refl x1).alloc _) (Nat.le_refl _)
  clear g_ o_
  have zA20 := A2_3.out.c0
  have zA21 := A2_3.out.c1
  go_wp2_with fail
  refine (TO2.out _ (HG_3.out)).mono ?_
  rintro e x2 ⟨y_, rfl, g_, o_⟩
  obtain ⟨ax2, cx2, rfl⟩ := hX2 _ _ _ _ o_
  clear zA20 zA21
  have hsx2 : x1.heap.size + 1 ≤ x2.heap.size := by have := g_.size; first | exact this | (simp at this; omega)
  have HG_4 : Hid (Old w (x2.alloc (.cells #[.bool bp2, .slice ax2 lp2 cx2] 46))) := Old.trans HG_3.out (Old.trans g_ ((Old.refl x2).alloc _))
  have A0_4 : Hid (StW (x2.alloc (.cells #[.bool bp2, .slice ax2 lp2 cx2] 46)) (w.heap.size) (.int .i64 Np0) (.slice ap0 lp0 cp0) 40) := A0_3.out.old (Old.trans g_ ((Old.refl x2).alloc _))
  have A1_4 : Hid (StW (x2.alloc (.cells #[.bool bp2, .slice ax2 lp2 cx2] 46)) (w.heap.size + 1) (.bool bp1) (.slice ap1 lp1 cp1) 57) := A1_3.out.old (Old.trans g_ ((Old.refl x2).alloc _))
  have A2_4 : Hid (StW (x2.alloc (.cells #[.bool bp2, .slice ax2 lp2 cx2] 46)) (w.heap.size + 1 + 1) (.bool bp2) (.slice ap2 lp2 cp2) 57) := A2_3.out.old (Old.trans g_ ((Old.refl x2).alloc _))
  have C0_4 : Hid (StW (x2.alloc (.cells #[.bool bp2, .slice ax2 lp2 cx2] 46)) (ks0) (.bool br0) (.slice as0 lr0 cs0) 46) := C0_3.out.old (Old.trans g_ ((Old.refl x2).alloc _))
  have SS_4 : Hid (SR (x2.alloc (.cells #[.bool bp2, .slice ax2 lp2 cx2] 46)) (loS) (hiS) #[.bool br0, .slice as0 lr0 cs0]) := fSR.old SS_3.out (Old.trans g_ ((Old.refl x2).alloc _)) (by first | omega | (simp; done) | (simp; omega))
  have Bx0_4 : Hid (StW (x2.alloc (.cells #[.bool bp2, .slice ax2 lp2 cx2] 46)) (x0.heap.size) (.int .i64 Np0) (.slice ax0 lp0 cx0) 49) := Bx0_3.out.old (Old.trans g_ ((Old.refl x2).alloc _))
  have Rx0_4 : Hid (X0 (x2.alloc (.cells #[.bool bp2, .slice ax2 lp2 cx2] 46)) (ts.heap.size) (x0.heap.size) #[.int .i64 Np0, .slice ax0 lp0 cx0]) := fX0.old Rx0_3.out (Old.trans g_ ((Old.refl x2).alloc _)) (by first | omega | (simp; done) | (simp; omega))
  have Bx1_4 : Hid (StW (x2.alloc (.cells #[.bool bp2, .slice ax2 lp2 cx2] 46)) (x1.heap.size) (.bool bp1) (.slice ax1 lp1 cx1) 46) := Bx1_3.out.old (Old.trans g_ ((Old.refl x2).alloc _))
  have Rx1_4 : Hid (X1 (x2.alloc (.cells #[.bool bp2, .slice ax2 lp2 cx2] 46)) (x0.heap.size + 1) (x1.heap.size) #[.bool bp1, .slice ax1 lp1 cx1]) := fX1.old Rx1_3.out (Old.trans g_ ((Old.refl x2).alloc _)) (by first | omega | (simp; done) | (simp; omega))
  clear HG_3 A0_3 A1_3 A2_3 C0_3 SS_3 Bx0_3 Rx0_3 Bx1_3 Rx1_3
  have Bx2_4 : Hid (StW (x2.alloc (.cells #[.bool bp2, .slice ax2 lp2 cx2] 46)) (x2.heap.size) (.bool bp2) (.slice ax2 lp2 cx2) 46) := StW.new x2 _ _ _
  have Rx2_4 : Hid (X2 (x2.alloc (.cells #[.bool bp2, .slice ax2 lp2 cx2] 46)) (x1.heap.size + 1) (x2.heap.size) #[.bool bp2, .slice ax2 lp2 cx2]) := fX2.old (by first | exact o_ | (simp at o_; exact o_)) ((Old.refl x2).alloc _) (Nat.le_refl _)
  clear g_ o_
  have zBx00 := Bx0_4.out.c0
  have zBx01 := Bx0_4.out.c1
  have zBx10 := Bx1_4.out.c0
  have zBx11 := Bx1_4.out.c1
  have zBx20 := Bx2_4.out.c0
  have zBx21 := Bx2_4.out.c1
  go_wp2_with fail
  refine (cim _ _ _ _ _ _ _ _ _ _ Rx0_4.out Rx1_4.out Rx2_4.out (HG_4.out)).mono ?_
  rintro e p1 ⟨q0, rfl, gp, rp⟩
  obtain ⟨ag0, cg0, hq⟩ := hIR0 _ _ _ _ rp
  have hsp1 : x2.heap.size + 1 ≤ p1.heap.size := by have := gp.size; simp at this; omega
  subst hq
  clear zBx00 zBx01 zBx10 zBx11 zBx20 zBx21
  have HG_5 : Hid (Old w (p1.alloc (.cells #[.bool br0, .slice ag0 lr0 cg0] 46))) := Old.trans HG_4.out (Old.trans gp (((Old.refl p1).alloc _)))
  have A0_5 : Hid (StW (p1.alloc (.cells #[.bool br0, .slice ag0 lr0 cg0] 46)) (w.heap.size) (.int .i64 Np0) (.slice ap0 lp0 cp0) 40) := A0_4.out.old (Old.trans gp (((Old.refl p1).alloc _)))
  have A1_5 : Hid (StW (p1.alloc (.cells #[.bool br0, .slice ag0 lr0 cg0] 46)) (w.heap.size + 1) (.bool bp1) (.slice ap1 lp1 cp1) 57) := A1_4.out.old (Old.trans gp (((Old.refl p1).alloc _)))
  have A2_5 : Hid (StW (p1.alloc (.cells #[.bool br0, .slice ag0 lr0 cg0] 46)) (w.heap.size + 1 + 1) (.bool bp2) (.slice ap2 lp2 cp2) 57) := A2_4.out.old (Old.trans gp (((Old.refl p1).alloc _)))
  have C0_5 : Hid (StW (p1.alloc (.cells #[.bool br0, .slice ag0 lr0 cg0] 46)) (ks0) (.bool br0) (.slice as0 lr0 cs0) 46) := C0_4.out.old (Old.trans gp (((Old.refl p1).alloc _)))
  have SS_5 : Hid (SR (p1.alloc (.cells #[.bool br0, .slice ag0 lr0 cg0] 46)) (loS) (hiS) #[.bool br0, .slice as0 lr0 cs0]) := fSR.old SS_4.out (Old.trans gp (((Old.refl p1).alloc _))) (by first | omega | (simp; done) | (simp; omega))
  have Bx0_5 : Hid (StW (p1.alloc (.cells #[.bool br0, .slice ag0 lr0 cg0] 46)) (x0.heap.size) (.int .i64 Np0) (.slice ax0 lp0 cx0) 49) := Bx0_4.out.old (Old.trans gp (((Old.refl p1).alloc _)))
  have Rx0_5 : Hid (X0 (p1.alloc (.cells #[.bool br0, .slice ag0 lr0 cg0] 46)) (ts.heap.size) (x0.heap.size) #[.int .i64 Np0, .slice ax0 lp0 cx0]) := fX0.old Rx0_4.out (Old.trans gp (((Old.refl p1).alloc _))) (by first | omega | (simp; done) | (simp; omega))
  have Bx1_5 : Hid (StW (p1.alloc (.cells #[.bool br0, .slice ag0 lr0 cg0] 46)) (x1.heap.size) (.bool bp1) (.slice ax1 lp1 cx1) 46) := Bx1_4.out.old (Old.trans gp (((Old.refl p1).alloc _)))
  have Rx1_5 : Hid (X1 (p1.alloc (.cells #[.bool br0, .slice ag0 lr0 cg0] 46)) (x0.heap.size + 1) (x1.heap.size) #[.bool bp1, .slice ax1 lp1 cx1]) := fX1.old Rx1_4.out (Old.trans gp (((Old.refl p1).alloc _))) (by first | omega | (simp; done) | (simp; omega))
  have Bx2_5 : Hid (StW (p1.alloc (.cells #[.bool br0, .slice ag0 lr0 cg0] 46)) (x2.heap.size) (.bool bp2) (.slice ax2 lp2 cx2) 46) := Bx2_4.out.old (Old.trans gp (((Old.refl p1).alloc _)))
  have Rx2_5 : Hid (X2 (p1.alloc (.cells #[.bool br0, .slice ag0 lr0 cg0] 46)) (x1.heap.size + 1) (x2.heap.size) #[.bool bp2, .slice ax2 lp2 cx2]) := fX2.old Rx2_4.out (Old.trans gp (((Old.refl p1).alloc _))) (by first | omega | (simp; done) | (simp; omega))
  clear HG_4 A0_4 A1_4 A2_4 C0_4 SS_4 Bx0_4 Rx0_4 Bx1_4 Rx1_4 Bx2_4 Rx2_4
  have Bg0_5 : Hid (StW (p1.alloc (.cells #[.bool br0, .slice ag0 lr0 cg0] 46)) (p1.heap.size) (.bool br0) (.slice ag0 lr0 cg0) 46) := StW.new p1 _ _ _
  have RG_5 : Hid (IR0 (p1.alloc (.cells #[.bool br0, .slice ag0 lr0 cg0] 46)) (x2.heap.size + 1) (p1.heap.size) #[.bool br0, .slice ag0 lr0 cg0]) := fIR0.old (by first | exact rp | (simp at rp; exact rp)) (((Old.refl p1).alloc _)) (Nat.le_refl _)
  clear gp rp
  have zBg00 := Bg0_5.out.c0
  have zBg01 := Bg0_5.out.c1
  have zC00 := C0_5.out.c0
  have zC01 := C0_5.out.c1
  go_wp2_with fail
  refine (cer0 _ _ _ _ _ _ _ RG_5.out SS_5.out).mono ?_
  rintro e f0 ⟨rfl, g_⟩
  clear zBg00 zBg01 zC00 zC01
  have hsf0 : p1.heap.size + 1 ≤ f0.heap.size := by have := g_.size; first | omega | (simp at this; omega)
  have HG_6 : Hid (Old w f0) := Old.trans HG_5.out (g_)
  have A0_6 : Hid (StW f0 (w.heap.size) (.int .i64 Np0) (.slice ap0 lp0 cp0) 40) := A0_5.out.old (g_)
  have A1_6 : Hid (StW f0 (w.heap.size + 1) (.bool bp1) (.slice ap1 lp1 cp1) 57) := A1_5.out.old (g_)
  have A2_6 : Hid (StW f0 (w.heap.size + 1 + 1) (.bool bp2) (.slice ap2 lp2 cp2) 57) := A2_5.out.old (g_)
  have C0_6 : Hid (StW f0 (ks0) (.bool br0) (.slice as0 lr0 cs0) 46) := C0_5.out.old (g_)
  have SS_6 : Hid (SR f0 (loS) (hiS) #[.bool br0, .slice as0 lr0 cs0]) := fSR.old SS_5.out (g_) (by first | omega | (simp; done) | (simp; omega))
  have Bx0_6 : Hid (StW f0 (x0.heap.size) (.int .i64 Np0) (.slice ax0 lp0 cx0) 49) := Bx0_5.out.old (g_)
  have Rx0_6 : Hid (X0 f0 (ts.heap.size) (x0.heap.size) #[.int .i64 Np0, .slice ax0 lp0 cx0]) := fX0.old Rx0_5.out (g_) (by first | omega | (simp; done) | (simp; omega))
  have Bx1_6 : Hid (StW f0 (x1.heap.size) (.bool bp1) (.slice ax1 lp1 cx1) 46) := Bx1_5.out.old (g_)
  have Rx1_6 : Hid (X1 f0 (x0.heap.size + 1) (x1.heap.size) #[.bool bp1, .slice ax1 lp1 cx1]) := fX1.old Rx1_5.out (g_) (by first | omega | (simp; done) | (simp; omega))
  have Bx2_6 : Hid (StW f0 (x2.heap.size) (.bool bp2) (.slice ax2 lp2 cx2) 46) := Bx2_5.out.old (g_)
  have Rx2_6 : Hid (X2 f0 (x1.heap.size + 1) (x2.heap.size) #[.bool bp2, .slice ax2 lp2 cx2]) := fX2.old Rx2_5.out (g_) (by first | omega | (simp; done) | (simp; omega))
  have Bg0_6 : Hid (StW f0 (p1.heap.size) (.bool br0) (.slice ag0 lr0 cg0) 46) := Bg0_5.out.old (g_)
  have RG_6 : Hid (IR0 f0 (x2.heap.size + 1) (p1.heap.size) #[.bool br0, .slice ag0 lr0 cg0]) := fIR0.old RG_5.out (g_) (by first | omega | (simp; done) | (simp; omega))
  clear HG_5 A0_5 A1_5 A2_5 C0_5 SS_5 Bx0_5 Rx0_5 Bx1_5 Rx1_5 Bx2_5 Rx2_5 Bg0_5 RG_5
  clear g_
  have zBx00 := Bx0_6.out.c0
  have zBx01 := Bx0_6.out.c1
  have zA00 := A0_6.out.c0
  have zA01 := A0_6.out.c1
  have HAS : Hid (∀ W', Old f0 W' → (W'.cell? ⟨x0.heap.size, 0, none⟩ = some (.int .i64 Np0) ∧ W'.cell? ⟨x0.heap.size, 1, none⟩ = some (.slice ax0 lp0 cx0) ∧ W'.cell? ⟨w.heap.size, 0, none⟩ = some (.int .i64 Np0) ∧ W'.cell? ⟨w.heap.size, 1, none⟩ = some (.slice ap0 lp0 cp0))) := fun W' g => ⟨(Bx0_6.out.old g).c0, (Bx0_6.out.old g).c1, (A0_6.out.old g).c0, (A0_6.out.old g).c1⟩
  go_wp2_with fail
  go_region_held3 (fun W' => W'.cell? ⟨x0.heap.size, 0, none⟩ = some (.int .i64 Np0) ∧ W'.cell? ⟨x0.heap.size, 1, none⟩ = some (.slice ax0 lp0 cx0) ∧ W'.cell? ⟨w.heap.size, 0, none⟩ = some (.int .i64 Np0) ∧ W'.cell? ⟨w.heap.size, 1, none⟩ = some (.slice ap0 lp0 cp0)) (first | with_reducible exact HAS.out _ GE.out | with_reducible exact HAS.out _ GT.out | with_reducible exact HAS.out _ (Below.drew (Old.refl f0)) | with_reducible exact HAS.out _ (Old.refl f0)) (first
    | (go_at_call 25; refine (TO0.out _ (Below.drew HG_6.out)).mono ?_; rintro e wt ⟨y_, rfl, gt, ot⟩; obtain ⟨at_, ct_, rfl⟩ := hX0 _ _ _ _ ot; have GT : Hid (Old f0 wt) := Old.trans (Below.drew (Old.refl f0)) gt; have RT : Hid (X0 wt _ _ #[.int .i64 Np0, .slice at_ lp0 ct_]) := ot; clear gt ot)
    | (go_at_call 29; refine (ceq0 _ _ _ _ _ _ _ (fX0.old Rx0_6.out GT.out (by omega)) RT.out).mono ?_; rintro e v0 ⟨rfl, ge⟩; have GE : Hid (Old f0 v0) := Old.trans GT.out ge; clear ge)
    | fail)
  clear zBx00 zBx01 zA00 zA01
  have hsv0 := GE.out.size
  have HG_7 : Hid (Old w v0) := Old.trans HG_6.out (GE.out)
  have A0_7 : Hid (StW v0 (w.heap.size) (.int .i64 Np0) (.slice ap0 lp0 cp0) 40) := A0_6.out.old (GE.out)
  have A1_7 : Hid (StW v0 (w.heap.size + 1) (.bool bp1) (.slice ap1 lp1 cp1) 57) := A1_6.out.old (GE.out)
  have A2_7 : Hid (StW v0 (w.heap.size + 1 + 1) (.bool bp2) (.slice ap2 lp2 cp2) 57) := A2_6.out.old (GE.out)
  have C0_7 : Hid (StW v0 (ks0) (.bool br0) (.slice as0 lr0 cs0) 46) := C0_6.out.old (GE.out)
  have SS_7 : Hid (SR v0 (loS) (hiS) #[.bool br0, .slice as0 lr0 cs0]) := fSR.old SS_6.out (GE.out) (by first | omega | (simp; done) | (simp; omega))
  have Bx0_7 : Hid (StW v0 (x0.heap.size) (.int .i64 Np0) (.slice ax0 lp0 cx0) 49) := Bx0_6.out.old (GE.out)
  have Rx0_7 : Hid (X0 v0 (ts.heap.size) (x0.heap.size) #[.int .i64 Np0, .slice ax0 lp0 cx0]) := fX0.old Rx0_6.out (GE.out) (by first | omega | (simp; done) | (simp; omega))
  have Bx1_7 : Hid (StW v0 (x1.heap.size) (.bool bp1) (.slice ax1 lp1 cx1) 46) := Bx1_6.out.old (GE.out)
  have Rx1_7 : Hid (X1 v0 (x0.heap.size + 1) (x1.heap.size) #[.bool bp1, .slice ax1 lp1 cx1]) := fX1.old Rx1_6.out (GE.out) (by first | omega | (simp; done) | (simp; omega))
  have Bx2_7 : Hid (StW v0 (x2.heap.size) (.bool bp2) (.slice ax2 lp2 cx2) 46) := Bx2_6.out.old (GE.out)
  have Rx2_7 : Hid (X2 v0 (x1.heap.size + 1) (x2.heap.size) #[.bool bp2, .slice ax2 lp2 cx2]) := fX2.old Rx2_6.out (GE.out) (by first | omega | (simp; done) | (simp; omega))
  have Bg0_7 : Hid (StW v0 (p1.heap.size) (.bool br0) (.slice ag0 lr0 cg0) 46) := Bg0_6.out.old (GE.out)
  have RG_7 : Hid (IR0 v0 (x2.heap.size + 1) (p1.heap.size) #[.bool br0, .slice ag0 lr0 cg0]) := fIR0.old RG_6.out (GE.out) (by first | omega | (simp; done) | (simp; omega))
  clear HG_6 A0_6 A1_6 A2_6 C0_6 SS_6 Bx0_6 Rx0_6 Bx1_6 Rx1_6 Bx2_6 Rx2_6 Bg0_6 RG_6
  clear GE GT RT HAS
  have zBx10 := Bx1_7.out.c0
  have zBx11 := Bx1_7.out.c1
  have zA10 := A1_7.out.c0
  have zA11 := A1_7.out.c1
  have HAS : Hid (∀ W', Old v0 W' → (W'.cell? ⟨x1.heap.size, 0, none⟩ = some (.bool bp1) ∧ W'.cell? ⟨x1.heap.size, 1, none⟩ = some (.slice ax1 lp1 cx1) ∧ W'.cell? ⟨w.heap.size + 1, 0, none⟩ = some (.bool bp1) ∧ W'.cell? ⟨w.heap.size + 1, 1, none⟩ = some (.slice ap1 lp1 cp1))) := fun W' g => ⟨(Bx1_7.out.old g).c0, (Bx1_7.out.old g).c1, (A1_7.out.old g).c0, (A1_7.out.old g).c1⟩
  go_wp2_with fail
  go_region_held3 (fun W' => W'.cell? ⟨x1.heap.size, 0, none⟩ = some (.bool bp1) ∧ W'.cell? ⟨x1.heap.size, 1, none⟩ = some (.slice ax1 lp1 cx1) ∧ W'.cell? ⟨w.heap.size + 1, 0, none⟩ = some (.bool bp1) ∧ W'.cell? ⟨w.heap.size + 1, 1, none⟩ = some (.slice ap1 lp1 cp1)) (first | with_reducible exact HAS.out _ GE.out | with_reducible exact HAS.out _ GT.out | with_reducible exact HAS.out _ (Below.drew (Old.refl v0)) | with_reducible exact HAS.out _ (Old.refl v0)) (first
    | (go_at_call 35; refine (TO1.out _ (Below.drew HG_7.out)).mono ?_; rintro e wt ⟨y_, rfl, gt, ot⟩; obtain ⟨at_, ct_, rfl⟩ := hX1 _ _ _ _ ot; have GT : Hid (Old v0 wt) := Old.trans (Below.drew (Old.refl v0)) gt; have RT : Hid (X1 wt _ _ #[.bool bp1, .slice at_ lp1 ct_]) := ot; clear gt ot)
    | (go_at_call 28; refine (ceq1 _ _ _ _ _ _ _ (fX1.old Rx1_7.out GT.out (by omega)) RT.out).mono ?_; rintro e v1 ⟨rfl, ge⟩; have GE : Hid (Old v0 v1) := Old.trans GT.out ge; clear ge)
    | fail)
  clear zBx10 zBx11 zA10 zA11
  have hsv1 := GE.out.size
  have HG_8 : Hid (Old w v1) := Old.trans HG_7.out (GE.out)
  have A0_8 : Hid (StW v1 (w.heap.size) (.int .i64 Np0) (.slice ap0 lp0 cp0) 40) := A0_7.out.old (GE.out)
  have A1_8 : Hid (StW v1 (w.heap.size + 1) (.bool bp1) (.slice ap1 lp1 cp1) 57) := A1_7.out.old (GE.out)
  have A2_8 : Hid (StW v1 (w.heap.size + 1 + 1) (.bool bp2) (.slice ap2 lp2 cp2) 57) := A2_7.out.old (GE.out)
  have C0_8 : Hid (StW v1 (ks0) (.bool br0) (.slice as0 lr0 cs0) 46) := C0_7.out.old (GE.out)
  have SS_8 : Hid (SR v1 (loS) (hiS) #[.bool br0, .slice as0 lr0 cs0]) := fSR.old SS_7.out (GE.out) (by first | omega | (simp; done) | (simp; omega))
  have Bx0_8 : Hid (StW v1 (x0.heap.size) (.int .i64 Np0) (.slice ax0 lp0 cx0) 49) := Bx0_7.out.old (GE.out)
  have Rx0_8 : Hid (X0 v1 (ts.heap.size) (x0.heap.size) #[.int .i64 Np0, .slice ax0 lp0 cx0]) := fX0.old Rx0_7.out (GE.out) (by first | omega | (simp; done) | (simp; omega))
  have Bx1_8 : Hid (StW v1 (x1.heap.size) (.bool bp1) (.slice ax1 lp1 cx1) 46) := Bx1_7.out.old (GE.out)
  have Rx1_8 : Hid (X1 v1 (x0.heap.size + 1) (x1.heap.size) #[.bool bp1, .slice ax1 lp1 cx1]) := fX1.old Rx1_7.out (GE.out) (by first | omega | (simp; done) | (simp; omega))
  have Bx2_8 : Hid (StW v1 (x2.heap.size) (.bool bp2) (.slice ax2 lp2 cx2) 46) := Bx2_7.out.old (GE.out)
  have Rx2_8 : Hid (X2 v1 (x1.heap.size + 1) (x2.heap.size) #[.bool bp2, .slice ax2 lp2 cx2]) := fX2.old Rx2_7.out (GE.out) (by first | omega | (simp; done) | (simp; omega))
  have Bg0_8 : Hid (StW v1 (p1.heap.size) (.bool br0) (.slice ag0 lr0 cg0) 46) := Bg0_7.out.old (GE.out)
  have RG_8 : Hid (IR0 v1 (x2.heap.size + 1) (p1.heap.size) #[.bool br0, .slice ag0 lr0 cg0]) := fIR0.old RG_7.out (GE.out) (by first | omega | (simp; done) | (simp; omega))
  clear HG_7 A0_7 A1_7 A2_7 C0_7 SS_7 Bx0_7 Rx0_7 Bx1_7 Rx1_7 Bx2_7 Rx2_7 Bg0_7 RG_7
  clear GE GT RT HAS
  have zBx20 := Bx2_8.out.c0
  have zBx21 := Bx2_8.out.c1
  have zA20 := A2_8.out.c0
  have zA21 := A2_8.out.c1
  have HAS : Hid (∀ W', Old v1 W' → (W'.cell? ⟨x2.heap.size, 0, none⟩ = some (.bool bp2) ∧ W'.cell? ⟨x2.heap.size, 1, none⟩ = some (.slice ax2 lp2 cx2) ∧ W'.cell? ⟨w.heap.size + 1 + 1, 0, none⟩ = some (.bool bp2) ∧ W'.cell? ⟨w.heap.size + 1 + 1, 1, none⟩ = some (.slice ap2 lp2 cp2))) := fun W' g => ⟨(Bx2_8.out.old g).c0, (Bx2_8.out.old g).c1, (A2_8.out.old g).c0, (A2_8.out.old g).c1⟩
  go_wp2_with fail
  go_region_held3 (fun W' => W'.cell? ⟨x2.heap.size, 0, none⟩ = some (.bool bp2) ∧ W'.cell? ⟨x2.heap.size, 1, none⟩ = some (.slice ax2 lp2 cx2) ∧ W'.cell? ⟨w.heap.size + 1 + 1, 0, none⟩ = some (.bool bp2) ∧ W'.cell? ⟨w.heap.size + 1 + 1, 1, none⟩ = some (.slice ap2 lp2 cp2)) (first | with_reducible exact HAS.out _ GE.out | with_reducible exact HAS.out _ GT.out | with_reducible exact HAS.out _ (Below.drew (Old.refl v1)) | with_reducible exact HAS.out _ (Old.refl v1)) (first
    | (go_at_call 35; refine (TO2.out _ (Below.drew HG_8.out)).mono ?_; rintro e wt ⟨y_, rfl, gt, ot⟩; obtain ⟨at_, ct_, rfl⟩ := hX2 _ _ _ _ ot; have GT : Hid (Old v1 wt) := Old.trans (Below.drew (Old.refl v1)) gt; have RT : Hid (X2 wt _ _ #[.bool bp2, .slice at_ lp2 ct_]) := ot; clear gt ot)
    | (go_at_call 28; refine (ceq2 _ _ _ _ _ _ _ (fX2.old Rx2_8.out GT.out (by omega)) RT.out).mono ?_; rintro e v2 ⟨rfl, ge⟩; have GE : Hid (Old v1 v2) := Old.trans GT.out ge; clear ge)
    | fail)
  clear zBx20 zBx21 zA20 zA21
  have hsv2 := GE.out.size
  have HG_9 : Hid (Old w v2) := Old.trans HG_8.out (GE.out)
  have A0_9 : Hid (StW v2 (w.heap.size) (.int .i64 Np0) (.slice ap0 lp0 cp0) 40) := A0_8.out.old (GE.out)
  have A1_9 : Hid (StW v2 (w.heap.size + 1) (.bool bp1) (.slice ap1 lp1 cp1) 57) := A1_8.out.old (GE.out)
  have A2_9 : Hid (StW v2 (w.heap.size + 1 + 1) (.bool bp2) (.slice ap2 lp2 cp2) 57) := A2_8.out.old (GE.out)
  have C0_9 : Hid (StW v2 (ks0) (.bool br0) (.slice as0 lr0 cs0) 46) := C0_8.out.old (GE.out)
  have SS_9 : Hid (SR v2 (loS) (hiS) #[.bool br0, .slice as0 lr0 cs0]) := fSR.old SS_8.out (GE.out) (by first | omega | (simp; done) | (simp; omega))
  have Bx0_9 : Hid (StW v2 (x0.heap.size) (.int .i64 Np0) (.slice ax0 lp0 cx0) 49) := Bx0_8.out.old (GE.out)
  have Rx0_9 : Hid (X0 v2 (ts.heap.size) (x0.heap.size) #[.int .i64 Np0, .slice ax0 lp0 cx0]) := fX0.old Rx0_8.out (GE.out) (by first | omega | (simp; done) | (simp; omega))
  have Bx1_9 : Hid (StW v2 (x1.heap.size) (.bool bp1) (.slice ax1 lp1 cx1) 46) := Bx1_8.out.old (GE.out)
  have Rx1_9 : Hid (X1 v2 (x0.heap.size + 1) (x1.heap.size) #[.bool bp1, .slice ax1 lp1 cx1]) := fX1.old Rx1_8.out (GE.out) (by first | omega | (simp; done) | (simp; omega))
  have Bx2_9 : Hid (StW v2 (x2.heap.size) (.bool bp2) (.slice ax2 lp2 cx2) 46) := Bx2_8.out.old (GE.out)
  have Rx2_9 : Hid (X2 v2 (x1.heap.size + 1) (x2.heap.size) #[.bool bp2, .slice ax2 lp2 cx2]) := fX2.old Rx2_8.out (GE.out) (by first | omega | (simp; done) | (simp; omega))
  have Bg0_9 : Hid (StW v2 (p1.heap.size) (.bool br0) (.slice ag0 lr0 cg0) 46) := Bg0_8.out.old (GE.out)
  have RG_9 : Hid (IR0 v2 (x2.heap.size + 1) (p1.heap.size) #[.bool br0, .slice ag0 lr0 cg0]) := fIR0.old RG_8.out (GE.out) (by first | omega | (simp; done) | (simp; omega))
  clear HG_8 A0_8 A1_8 A2_8 C0_8 SS_8 Bx0_8 Rx0_8 Bx1_8 Rx1_8 Bx2_8 Rx2_8 Bg0_8 RG_8
  clear GE GT RT HAS
  have zBx00 := Bx0_9.out.c0
  have zBx01 := Bx0_9.out.c1
  go_wp2_with fail
  refine (cmk0 _ _ _ _ Rx0_9.out).mono ?_
  rintro e y0 ⟨rfl, gm⟩
  clear zBx00 zBx01
  have hsy0 := gm.size
  have HG_10 : Hid (Old w y0) := Old.chg HG_9.out (gm) (by omega)
  have A0_10 : Hid (StW y0 (w.heap.size) (.int .i64 Np0) (.slice ap0 lp0 cp0) 40) := A0_9.out.chg (gm) (by omega)
  have A1_10 : Hid (StW y0 (w.heap.size + 1) (.bool bp1) (.slice ap1 lp1 cp1) 57) := A1_9.out.chg (gm) (by omega)
  have A2_10 : Hid (StW y0 (w.heap.size + 1 + 1) (.bool bp2) (.slice ap2 lp2 cp2) 57) := A2_9.out.chg (gm) (by omega)
  have C0_10 : Hid (StW y0 (ks0) (.bool br0) (.slice as0 lr0 cs0) 46) := C0_9.out.chg (gm) (by omega)
  have SS_10 : Hid (SR y0 (loS) (hiS) #[.bool br0, .slice as0 lr0 cs0]) := fSR.chg SS_9.out (gm) (by first | omega | (simp; done) | (simp; omega)) (by omega)
  have Bx0_10 : Hid (StW y0 (x0.heap.size) (.int .i64 Np0) (.slice ax0 lp0 cx0) 49) := Bx0_9.out.chg (gm) (by omega)
  have Bx1_10 : Hid (StW y0 (x1.heap.size) (.bool bp1) (.slice ax1 lp1 cx1) 46) := Bx1_9.out.chg (gm) (by omega)
  have Rx1_10 : Hid (X1 y0 (x0.heap.size + 1) (x1.heap.size) #[.bool bp1, .slice ax1 lp1 cx1]) := fX1.chg Rx1_9.out (gm) (by first | omega | (simp; done) | (simp; omega)) (by omega)
  have Bx2_10 : Hid (StW y0 (x2.heap.size) (.bool bp2) (.slice ax2 lp2 cx2) 46) := Bx2_9.out.chg (gm) (by omega)
  have Rx2_10 : Hid (X2 y0 (x1.heap.size + 1) (x2.heap.size) #[.bool bp2, .slice ax2 lp2 cx2]) := fX2.chg Rx2_9.out (gm) (by first | omega | (simp; done) | (simp; omega)) (by omega)
  have Bg0_10 : Hid (StW y0 (p1.heap.size) (.bool br0) (.slice ag0 lr0 cg0) 46) := Bg0_9.out.chg (gm) (by omega)
  have RG_10 : Hid (IR0 y0 (x2.heap.size + 1) (p1.heap.size) #[.bool br0, .slice ag0 lr0 cg0]) := fIR0.chg RG_9.out (gm) (by first | omega | (simp; done) | (simp; omega)) (by omega)
  clear HG_9 A0_9 A1_9 A2_9 C0_9 SS_9 Bx0_9 Rx0_9 Bx1_9 Rx1_9 Bx2_9 Rx2_9 Bg0_9 RG_9
  clear gm
  have zBx10 := Bx1_10.out.c0
  have zBx11 := Bx1_10.out.c1
  go_wp2_with fail
  refine (cmk1 _ _ _ _ Rx1_10.out).mono ?_
  rintro e y1 ⟨rfl, gm⟩
  clear zBx10 zBx11
  have hsy1 := gm.size
  have HG_11 : Hid (Old w y1) := Old.chg HG_10.out (gm) (by omega)
  have A0_11 : Hid (StW y1 (w.heap.size) (.int .i64 Np0) (.slice ap0 lp0 cp0) 40) := A0_10.out.chg (gm) (by omega)
  have A1_11 : Hid (StW y1 (w.heap.size + 1) (.bool bp1) (.slice ap1 lp1 cp1) 57) := A1_10.out.chg (gm) (by omega)
  have A2_11 : Hid (StW y1 (w.heap.size + 1 + 1) (.bool bp2) (.slice ap2 lp2 cp2) 57) := A2_10.out.chg (gm) (by omega)
  have C0_11 : Hid (StW y1 (ks0) (.bool br0) (.slice as0 lr0 cs0) 46) := C0_10.out.chg (gm) (by omega)
  have SS_11 : Hid (SR y1 (loS) (hiS) #[.bool br0, .slice as0 lr0 cs0]) := fSR.chg SS_10.out (gm) (by first | omega | (simp; done) | (simp; omega)) (by omega)
  have Bx0_11 : Hid (StW y1 (x0.heap.size) (.int .i64 Np0) (.slice ax0 lp0 cx0) 49) := Bx0_10.out.chg (gm) (by omega)
  have Bx1_11 : Hid (StW y1 (x1.heap.size) (.bool bp1) (.slice ax1 lp1 cx1) 46) := Bx1_10.out.chg (gm) (by omega)
  have Bx2_11 : Hid (StW y1 (x2.heap.size) (.bool bp2) (.slice ax2 lp2 cx2) 46) := Bx2_10.out.chg (gm) (by omega)
  have Rx2_11 : Hid (X2 y1 (x1.heap.size + 1) (x2.heap.size) #[.bool bp2, .slice ax2 lp2 cx2]) := fX2.chg Rx2_10.out (gm) (by first | omega | (simp; done) | (simp; omega)) (by omega)
  have Bg0_11 : Hid (StW y1 (p1.heap.size) (.bool br0) (.slice ag0 lr0 cg0) 46) := Bg0_10.out.chg (gm) (by omega)
  have RG_11 : Hid (IR0 y1 (x2.heap.size + 1) (p1.heap.size) #[.bool br0, .slice ag0 lr0 cg0]) := fIR0.chg RG_10.out (gm) (by first | omega | (simp; done) | (simp; omega)) (by omega)
  clear HG_10 A0_10 A1_10 A2_10 C0_10 SS_10 Bx0_10 Bx1_10 Rx1_10 Bx2_10 Rx2_10 Bg0_10 RG_10
  clear gm
  have zBx20 := Bx2_11.out.c0
  have zBx21 := Bx2_11.out.c1
  go_wp2_with fail
  refine (cmk2 _ _ _ _ Rx2_11.out).mono ?_
  rintro e y2 ⟨rfl, gm⟩
  clear zBx20 zBx21
  have hsy2 := gm.size
  have HG_12 : Hid (Old w y2) := Old.chg HG_11.out (gm) (by omega)
  have A0_12 : Hid (StW y2 (w.heap.size) (.int .i64 Np0) (.slice ap0 lp0 cp0) 40) := A0_11.out.chg (gm) (by omega)
  have A1_12 : Hid (StW y2 (w.heap.size + 1) (.bool bp1) (.slice ap1 lp1 cp1) 57) := A1_11.out.chg (gm) (by omega)
  have A2_12 : Hid (StW y2 (w.heap.size + 1 + 1) (.bool bp2) (.slice ap2 lp2 cp2) 57) := A2_11.out.chg (gm) (by omega)
  have C0_12 : Hid (StW y2 (ks0) (.bool br0) (.slice as0 lr0 cs0) 46) := C0_11.out.chg (gm) (by omega)
  have SS_12 : Hid (SR y2 (loS) (hiS) #[.bool br0, .slice as0 lr0 cs0]) := fSR.chg SS_11.out (gm) (by first | omega | (simp; done) | (simp; omega)) (by omega)
  have Bx0_12 : Hid (StW y2 (x0.heap.size) (.int .i64 Np0) (.slice ax0 lp0 cx0) 49) := Bx0_11.out.chg (gm) (by omega)
  have Bx1_12 : Hid (StW y2 (x1.heap.size) (.bool bp1) (.slice ax1 lp1 cx1) 46) := Bx1_11.out.chg (gm) (by omega)
  have Bx2_12 : Hid (StW y2 (x2.heap.size) (.bool bp2) (.slice ax2 lp2 cx2) 46) := Bx2_11.out.chg (gm) (by omega)
  have Bg0_12 : Hid (StW y2 (p1.heap.size) (.bool br0) (.slice ag0 lr0 cg0) 46) := Bg0_11.out.chg (gm) (by omega)
  have RG_12 : Hid (IR0 y2 (x2.heap.size + 1) (p1.heap.size) #[.bool br0, .slice ag0 lr0 cg0]) := fIR0.chg RG_11.out (gm) (by first | omega | (simp; done) | (simp; omega)) (by omega)
  clear HG_11 A0_11 A1_11 A2_11 C0_11 SS_11 Bx0_11 Bx1_11 Bx2_11 Rx2_11 Bg0_11 RG_11
  clear gm
  have dk : decide (k2 < 0) = false := decide_eq_false (by omega)
  have zBg00 := Bg0_12.out.c0
  have zBg01 := Bg0_12.out.c1
  have zC00 := C0_12.out.c0
  have zC01 := C0_12.out.c1
  go_wp2_with fail
  refine (cer0 _ _ _ _ _ _ _ RG_12.out SS_12.out).mono ?_
  rintro e h0 ⟨rfl, g_⟩
  clear zBg00 zBg01 zC00 zC01
  have hsh0 := g_.size
  have HG_13 : Hid (Old w h0) := Old.trans HG_12.out (g_)
  have A0_13 : Hid (StW h0 (w.heap.size) (.int .i64 Np0) (.slice ap0 lp0 cp0) 40) := A0_12.out.old (g_)
  have A1_13 : Hid (StW h0 (w.heap.size + 1) (.bool bp1) (.slice ap1 lp1 cp1) 57) := A1_12.out.old (g_)
  have A2_13 : Hid (StW h0 (w.heap.size + 1 + 1) (.bool bp2) (.slice ap2 lp2 cp2) 57) := A2_12.out.old (g_)
  have C0_13 : Hid (StW h0 (ks0) (.bool br0) (.slice as0 lr0 cs0) 46) := C0_12.out.old (g_)
  have SS_13 : Hid (SR h0 (loS) (hiS) #[.bool br0, .slice as0 lr0 cs0]) := fSR.old SS_12.out (g_) (by first | omega | (simp; done) | (simp; omega))
  have Bx0_13 : Hid (StW h0 (x0.heap.size) (.int .i64 Np0) (.slice ax0 lp0 cx0) 49) := Bx0_12.out.old (g_)
  have Bx1_13 : Hid (StW h0 (x1.heap.size) (.bool bp1) (.slice ax1 lp1 cx1) 46) := Bx1_12.out.old (g_)
  have Bx2_13 : Hid (StW h0 (x2.heap.size) (.bool bp2) (.slice ax2 lp2 cx2) 46) := Bx2_12.out.old (g_)
  have Bg0_13 : Hid (StW h0 (p1.heap.size) (.bool br0) (.slice ag0 lr0 cg0) 46) := Bg0_12.out.old (g_)
  have RG_13 : Hid (IR0 h0 (x2.heap.size + 1) (p1.heap.size) #[.bool br0, .slice ag0 lr0 cg0]) := fIR0.old RG_12.out (g_) (by first | omega | (simp; done) | (simp; omega))
  clear HG_12 A0_12 A1_12 A2_12 C0_12 SS_12 Bx0_12 Bx1_12 Bx2_12 Bg0_12 RG_12
  clear g_
  have zBg00 := Bg0_13.out.c0
  have zBg01 := Bg0_13.out.c1
  go_wp2_with fail
  refine (cmr0 _ _ _ _ RG_13.out).mono ?_
  rintro e i0 ⟨rfl, gm, rm⟩
  clear zBg00 zBg01
  have hsi0 := gm.size
  have HG_14 : Hid (Old w i0) := Old.chg HG_13.out (gm) (by omega)
  have A0_14 : Hid (StW i0 (w.heap.size) (.int .i64 Np0) (.slice ap0 lp0 cp0) 40) := A0_13.out.chg (gm) (by omega)
  have A1_14 : Hid (StW i0 (w.heap.size + 1) (.bool bp1) (.slice ap1 lp1 cp1) 57) := A1_13.out.chg (gm) (by omega)
  have A2_14 : Hid (StW i0 (w.heap.size + 1 + 1) (.bool bp2) (.slice ap2 lp2 cp2) 57) := A2_13.out.chg (gm) (by omega)
  have C0_14 : Hid (StW i0 (ks0) (.bool br0) (.slice as0 lr0 cs0) 46) := C0_13.out.chg (gm) (by omega)
  have SS_14 : Hid (SR i0 (loS) (hiS) #[.bool br0, .slice as0 lr0 cs0]) := fSR.chg SS_13.out (gm) (by first | omega | (simp; done) | (simp; omega)) (by omega)
  have Bx0_14 : Hid (StW i0 (x0.heap.size) (.int .i64 Np0) (.slice ax0 lp0 cx0) 49) := Bx0_13.out.chg (gm) (by omega)
  have Bx1_14 : Hid (StW i0 (x1.heap.size) (.bool bp1) (.slice ax1 lp1 cx1) 46) := Bx1_13.out.chg (gm) (by omega)
  have Bx2_14 : Hid (StW i0 (x2.heap.size) (.bool bp2) (.slice ax2 lp2 cx2) 46) := Bx2_13.out.chg (gm) (by omega)
  have Bg0_14 : Hid (StW i0 (p1.heap.size) (.bool br0) (.slice ag0 lr0 cg0) 46) := Bg0_13.out.chg (gm) (by omega)
  clear HG_13 A0_13 A1_13 A2_13 C0_13 SS_13 Bx0_13 Bx1_13 Bx2_13 Bg0_13 RG_13
  have RG_14 : Hid (IR1 i0 (x2.heap.size + 1) (p1.heap.size) #[.bool br0, .slice ag0 lr0 cg0]) := rm
  clear gm rm
  have dm0 : decide (m0 < 0) = false := decide_eq_false (by omega)
  have dmm : (m0 != m0) = false := by simp
  have zBg00 := Bg0_14.out.c0
  have zBg01 := Bg0_14.out.c1
  go_wp2_with fail
  refine (chr0 _ _ _ _ RG_14.out).mono ?_
  rintro e j0 ⟨rfl, g_⟩
  clear zBg00 zBg01
  have hsj0 := g_.size
  have HG_15 : Hid (Old w j0) := Old.trans HG_14.out (g_)
  have A0_15 : Hid (StW j0 (w.heap.size) (.int .i64 Np0) (.slice ap0 lp0 cp0) 40) := A0_14.out.old (g_)
  have A1_15 : Hid (StW j0 (w.heap.size + 1) (.bool bp1) (.slice ap1 lp1 cp1) 57) := A1_14.out.old (g_)
  have A2_15 : Hid (StW j0 (w.heap.size + 1 + 1) (.bool bp2) (.slice ap2 lp2 cp2) 57) := A2_14.out.old (g_)
  have C0_15 : Hid (StW j0 (ks0) (.bool br0) (.slice as0 lr0 cs0) 46) := C0_14.out.old (g_)
  have SS_15 : Hid (SR j0 (loS) (hiS) #[.bool br0, .slice as0 lr0 cs0]) := fSR.old SS_14.out (g_) (by first | omega | (simp; done) | (simp; omega))
  have Bx0_15 : Hid (StW j0 (x0.heap.size) (.int .i64 Np0) (.slice ax0 lp0 cx0) 49) := Bx0_14.out.old (g_)
  have Bx1_15 : Hid (StW j0 (x1.heap.size) (.bool bp1) (.slice ax1 lp1 cx1) 46) := Bx1_14.out.old (g_)
  have Bx2_15 : Hid (StW j0 (x2.heap.size) (.bool bp2) (.slice ax2 lp2 cx2) 46) := Bx2_14.out.old (g_)
  have Bg0_15 : Hid (StW j0 (p1.heap.size) (.bool br0) (.slice ag0 lr0 cg0) 46) := Bg0_14.out.old (g_)
  have RG_15 : Hid (IR1 j0 (x2.heap.size + 1) (p1.heap.size) #[.bool br0, .slice ag0 lr0 cg0]) := fIR1.old RG_14.out (g_) (by first | omega | (simp; done) | (simp; omega))
  clear HG_14 A0_14 A1_14 A2_14 C0_14 SS_14 Bx0_14 Bx1_14 Bx2_14 Bg0_14 RG_14
  clear g_
  have zA00 := A0_15.out.c0
  have zA01 := A0_15.out.c1
  have zA10 := A1_15.out.c0
  have zA11 := A1_15.out.c1
  have zA20 := A2_15.out.c0
  have zA21 := A2_15.out.c1
  go_wp2_with fail
  refine reg_mulrows38 j0 _ _ _ _ _ _ _ _ _ (fun W v => ∃ lo hi g, v = .agg g ∧ X0 W lo hi g ∧ hi ≤ W.heap.size) (fun W W' v h g => by obtain ⟨lo, hi, y, rfl, h1, h2⟩ := h; exact ⟨lo, hi, y, rfl, fX0.old h1 g h2, Nat.le_trans h2 g.size⟩) (fun W h => (TO0.out W (Old.trans HG_15.out h)).mono (fun e w' h => by obtain ⟨g, rfl, h1, h2⟩ := h; exact ⟨_, rfl, h1, _, _, g, rfl, h2, Nat.le_refl _⟩)) A0_15.out (fun W v => ∃ lo hi g, v = .agg g ∧ X1 W lo hi g ∧ hi ≤ W.heap.size) (fun W W' v h g => by obtain ⟨lo, hi, y, rfl, h1, h2⟩ := h; exact ⟨lo, hi, y, rfl, fX1.old h1 g h2, Nat.le_trans h2 g.size⟩) (fun W h => (TO1.out W (Old.trans HG_15.out h)).mono (fun e w' h => by obtain ⟨g, rfl, h1, h2⟩ := h; exact ⟨_, rfl, h1, _, _, g, rfl, h2, Nat.le_refl _⟩)) A1_15.out (fun W v => ∃ lo hi g, v = .agg g ∧ X2 W lo hi g ∧ hi ≤ W.heap.size) (fun W W' v h g => by obtain ⟨lo, hi, y, rfl, h1, h2⟩ := h; exact ⟨lo, hi, y, rfl, fX2.old h1 g h2, Nat.le_trans h2 g.size⟩) (fun W h => (TO2.out W (Old.trans HG_15.out h)).mono (fun e w' h => by obtain ⟨g, rfl, h1, h2⟩ := h; exact ⟨_, rfl, h1, _, _, g, rfl, h2, Nat.le_refl _⟩)) A2_15.out (fun W lo hi g0 g1 => IR0 W lo hi g0 ∧ g1 = .bool ro) (fun W W' lo hi g0 g1 h h1 h2 => ⟨fIR0 _ _ _ _ _ h.1 h1 h2, h.2⟩) (fun W v0 v1 v2 hO H0 H1 H2 => by obtain ⟨lo0, hi0, y0, rfl, x0, q0⟩ := H0; obtain ⟨lo1, hi1, y1, rfl, x1, q1⟩ := H1; obtain ⟨lo2, hi2, y2, rfl, x2, q2⟩ := H2; exact (cim W _ _ _ _ _ _ _ _ _ x0 x1 x2 (Old.trans HG_15.out hO)).mono (fun e w' h => by obtain ⟨g0, rfl, h1, h2⟩ := h; obtain ⟨a0_, c0_, hq⟩ := hIR0 _ _ _ _ h2; subst hq; exact ⟨_, _, rfl, h1, rfl, (by simp [Value.oneCell']), h2, rfl⟩)) _ _ _ (by first | decide | simp) rfl rfl rfl ?_
  intro kt0 loT hiT q0 q1 u_0 u_1 u_2 u_3 u_4 u_5 u_6 u_7 u_8 u_9 ts2 gS loS_ hiS_ rS_ bS0 hkt0 hlt0 hnt0
  obtain ⟨rS, rfl⟩ := rS_
  obtain ⟨at0, ct0, hq⟩ := hIR0 _ _ _ _ rS
  subst hq
  have h_t : j0.heap.size ≤ loT ∧ hiT ≤ ts2.heap.size := ⟨loS_, hiS_⟩
  obtain ⟨hlot, hhit⟩ := h_t
  clear loS_ hiS_
  simp only [putAll, Act.put]
  clear zA00 zA01 zA10 zA11 zA20 zA21
  have HG_16 : Hid (Old w ts2) := Old.trans HG_15.out (gS)
  have A0_16 : Hid (StW ts2 (w.heap.size) (.int .i64 Np0) (.slice ap0 lp0 cp0) 40) := A0_15.out.old (gS)
  have A1_16 : Hid (StW ts2 (w.heap.size + 1) (.bool bp1) (.slice ap1 lp1 cp1) 57) := A1_15.out.old (gS)
  have A2_16 : Hid (StW ts2 (w.heap.size + 1 + 1) (.bool bp2) (.slice ap2 lp2 cp2) 57) := A2_15.out.old (gS)
  have C0_16 : Hid (StW ts2 (ks0) (.bool br0) (.slice as0 lr0 cs0) 46) := C0_15.out.old (gS)
  have SS_16 : Hid (SR ts2 (loS) (hiS) #[.bool br0, .slice as0 lr0 cs0]) := fSR.old SS_15.out (gS) (by first | omega | (simp; done) | (simp; omega))
  have Bx0_16 : Hid (StW ts2 (x0.heap.size) (.int .i64 Np0) (.slice ax0 lp0 cx0) 49) := Bx0_15.out.old (gS)
  have Bx1_16 : Hid (StW ts2 (x1.heap.size) (.bool bp1) (.slice ax1 lp1 cx1) 46) := Bx1_15.out.old (gS)
  have Bx2_16 : Hid (StW ts2 (x2.heap.size) (.bool bp2) (.slice ax2 lp2 cx2) 46) := Bx2_15.out.old (gS)
  have Bg0_16 : Hid (StW ts2 (p1.heap.size) (.bool br0) (.slice ag0 lr0 cg0) 46) := Bg0_15.out.old (gS)
  have RG_16 : Hid (IR1 ts2 (x2.heap.size + 1) (p1.heap.size) #[.bool br0, .slice ag0 lr0 cg0]) := fIR1.old RG_15.out (gS) (by first | omega | (simp; done) | (simp; omega))
  clear HG_15 A0_15 A1_15 A2_15 C0_15 SS_15 Bx0_15 Bx1_15 Bx2_15 Bg0_15 RG_15
  have D0_16 : Hid (StW ts2 (kt0) (.bool br0) (.slice at0 lr0 ct0) 46) := bS0
  have HH_16 : Hid (IR0 ts2 (loT) (hiT) #[.bool br0, .slice at0 lr0 ct0]) := rS
  have hsts2 := gS.size
  clear gS rS bS0
  have zD00 := D0_16.out.c0
  have zD01 := D0_16.out.c1
  have zC00 := C0_16.out.c0
  have zC01 := C0_16.out.c1
  go_wp2_with fail
  refine (cer0 _ _ _ _ _ _ _ HH_16.out SS_16.out).mono ?_
  rintro e o0 ⟨rfl, g_⟩
  clear zD00 zD01 zC00 zC01
  have hso0 := g_.size
  have HG_17 : Hid (Old w o0) := Old.trans HG_16.out (g_)
  have A0_17 : Hid (StW o0 (w.heap.size) (.int .i64 Np0) (.slice ap0 lp0 cp0) 40) := A0_16.out.old (g_)
  have A1_17 : Hid (StW o0 (w.heap.size + 1) (.bool bp1) (.slice ap1 lp1 cp1) 57) := A1_16.out.old (g_)
  have A2_17 : Hid (StW o0 (w.heap.size + 1 + 1) (.bool bp2) (.slice ap2 lp2 cp2) 57) := A2_16.out.old (g_)
  have C0_17 : Hid (StW o0 (ks0) (.bool br0) (.slice as0 lr0 cs0) 46) := C0_16.out.old (g_)
  have SS_17 : Hid (SR o0 (loS) (hiS) #[.bool br0, .slice as0 lr0 cs0]) := fSR.old SS_16.out (g_) (by first | omega | (simp; done) | (simp; omega))
  have Bx0_17 : Hid (StW o0 (x0.heap.size) (.int .i64 Np0) (.slice ax0 lp0 cx0) 49) := Bx0_16.out.old (g_)
  have Bx1_17 : Hid (StW o0 (x1.heap.size) (.bool bp1) (.slice ax1 lp1 cx1) 46) := Bx1_16.out.old (g_)
  have Bx2_17 : Hid (StW o0 (x2.heap.size) (.bool bp2) (.slice ax2 lp2 cx2) 46) := Bx2_16.out.old (g_)
  have Bg0_17 : Hid (StW o0 (p1.heap.size) (.bool br0) (.slice ag0 lr0 cg0) 46) := Bg0_16.out.old (g_)
  have RG_17 : Hid (IR1 o0 (x2.heap.size + 1) (p1.heap.size) #[.bool br0, .slice ag0 lr0 cg0]) := fIR1.old RG_16.out (g_) (by first | omega | (simp; done) | (simp; omega))
  have D0_17 : Hid (StW o0 (kt0) (.bool br0) (.slice at0 lr0 ct0) 46) := D0_16.out.old (g_)
  have HH_17 : Hid (IR0 o0 (loT) (hiT) #[.bool br0, .slice at0 lr0 ct0]) := fIR0.old HH_16.out (g_) (by first | omega | (simp; done) | (simp; omega))
  clear HG_16 A0_16 A1_16 A2_16 C0_16 SS_16 Bx0_16 Bx1_16 Bx2_16 Bg0_16 RG_16 D0_16 HH_16
  clear g_
  have zBg00 := Bg0_17.out.c0
  have zBg01 := Bg0_17.out.c1
  go_wp2_with fail
  refine (chr0 _ _ _ _ RG_17.out).mono ?_
  rintro e n0 ⟨rfl, g_⟩
  clear zBg00 zBg01
  have hsn0 := g_.size
  have HG_18 : Hid (Old w n0) := Old.trans HG_17.out (g_)
  have A0_18 : Hid (StW n0 (w.heap.size) (.int .i64 Np0) (.slice ap0 lp0 cp0) 40) := A0_17.out.old (g_)
  have A1_18 : Hid (StW n0 (w.heap.size + 1) (.bool bp1) (.slice ap1 lp1 cp1) 57) := A1_17.out.old (g_)
  have A2_18 : Hid (StW n0 (w.heap.size + 1 + 1) (.bool bp2) (.slice ap2 lp2 cp2) 57) := A2_17.out.old (g_)
  have C0_18 : Hid (StW n0 (ks0) (.bool br0) (.slice as0 lr0 cs0) 46) := C0_17.out.old (g_)
  have SS_18 : Hid (SR n0 (loS) (hiS) #[.bool br0, .slice as0 lr0 cs0]) := fSR.old SS_17.out (g_) (by first | omega | (simp; done) | (simp; omega))
  have Bx0_18 : Hid (StW n0 (x0.heap.size) (.int .i64 Np0) (.slice ax0 lp0 cx0) 49) := Bx0_17.out.old (g_)
  have Bx1_18 : Hid (StW n0 (x1.heap.size) (.bool bp1) (.slice ax1 lp1 cx1) 46) := Bx1_17.out.old (g_)
  have Bx2_18 : Hid (StW n0 (x2.heap.size) (.bool bp2) (.slice ax2 lp2 cx2) 46) := Bx2_17.out.old (g_)
  have Bg0_18 : Hid (StW n0 (p1.heap.size) (.bool br0) (.slice ag0 lr0 cg0) 46) := Bg0_17.out.old (g_)
  have RG_18 : Hid (IR1 n0 (x2.heap.size + 1) (p1.heap.size) #[.bool br0, .slice ag0 lr0 cg0]) := fIR1.old RG_17.out (g_) (by first | omega | (simp; done) | (simp; omega))
  have D0_18 : Hid (StW n0 (kt0) (.bool br0) (.slice at0 lr0 ct0) 46) := D0_17.out.old (g_)
  have HH_18 : Hid (IR0 n0 (loT) (hiT) #[.bool br0, .slice at0 lr0 ct0]) := fIR0.old HH_17.out (g_) (by first | omega | (simp; done) | (simp; omega))
  clear HG_17 A0_17 A1_17 A2_17 C0_17 SS_17 Bx0_17 Bx1_17 Bx2_17 Bg0_17 RG_17 D0_17 HH_17
  clear g_
  go_wp2_with fail
  go_ret
  exact ⟨rfl, HG_18.out⟩
end Go.Proofs.YtcgnndenmcmieaaDoor
/- Proved: the statement on MulRows at every space and rows, in a world in which the two tables are laid. -/
namespace Go.Proofs.YtcgnndenmcmieaaDoor
open Go.ChangeShapes Go.WideShapes Go.ChangeAt Go.RowKit
set_option linter.unusedVariables false
set_option linter.unusedSimpArgs false
def mk2 (f : Int → List Int → List Int → List Int) (ps : List Int) (xss yss : List (List Int)) : List (List Int) := (List.range ps.length).map fun k => f (ps.getD k 0) (xss.getD k []) (yss.getD k [])
theorem mk2_len (f : Int → List Int → List Int → List Int) (ps : List Int) (xss yss : List (List Int)) : (mk2 f ps xss yss).length = ps.length := by simp [mk2]
theorem mk2_get (f : Int → List Int → List Int → List Int) (ps : List Int) (xss yss : List (List Int)) (k : Nat) (hk : k < ps.length) : (mk2 f ps xss yss).getD k [] = f (ps.getD k 0) (xss.getD k []) (yss.getD k []) := by
  simp [mk2, List.getD, hk]
def timesF (N : Int) (a : Bool) (p : Int) (xs ys : List Int) : List Int := if a then toZ (eachN p.toNat N.toNat (xs.map Int.toNat) (ys.map Int.toNat)) else toZ (muO p.toNat N.toNat (xs.map Int.toNat) (ys.map Int.toNat) N.toNat)
theorem timesF_t (M P : Nat) (xs ys : List Nat) : timesF M true P (toZ xs) (toZ ys) = toZ (eachN P M xs ys) := by
  unfold timesF
  rw [toZ_back, toZ_back]
  simp
theorem timesF_f (M P : Nat) (xs ys : List Nat) : timesF M false P (toZ xs) (toZ ys) = toZ (muO P M xs ys M) := by
  unfold timesF
  rw [toZ_back, toZ_back]
  simp
theorem toZ_getI (xs : List Nat) (i : Nat) : (toZ xs).getD i 0 = (xs.getD i 0 : Int) := by
  unfold toZ
  simp only [List.getD, List.getElem?_map]
  cases xs[i]? <;> rfl
theorem eachN_getZ (P N : Nat) (xs ys : List Nat) (i : Nat) (h : i < N) (la : xs.length = N) (lb : ys.length = N) : (toZ (eachN P N xs ys)).getD i 0 = (toZ xs).getD i 0 * (toZ ys).getD i 0 % (P : Int) := by
  rw [toZ_getI, toZ_getI, toZ_getI, eachN_get _ _ _ _ _ h]
  simp
theorem rows_open {N : Int} {ps : List Int} {a b : Bool} {xss yss : List (List Int)} {Rf : Nat → Int} (hR : ∀ k, RingOk (ps.getD k 0) N → ((0 ≤ Rf k ∧ Rf k < ps.getD k 0) ∧ (∀ W, PrsW W → TabW W → Calls Tryd.prog 90 #[.int .i64 (ps.getD k 0), .int .i64 N] W fun e w' => e = .returned (.tuple #[.agg #[.int .i64 (ps.getD k 0), .int .i64 N, .int .i64 (Rf k)], .bool true]) ∧ Old W w')) ∧ (∀ W, Calls Tryd.prog 88 #[.int .i64 (ps.getD k 0), .int .i64 N] W fun e w' => e = .returned (.tuple #[.agg #[.int .i64 (ps.getD k 0), .int .i64 N, .int .i64 (Rf k)], .bool true]) ∧ Old W w') ∧ ∃ P M R : Nat, ps.getD k 0 = P ∧ N = M ∧ Rf k = R ∧ R < P ∧ RingOk P M ∧ (F1.Pr P → Rt P (2 * M) R)) (h : twoB N ps a b xss yss = true) (k : Nat) (hk : k < ps.length) :
    ∃ (P M R : Nat) (ys zs : List Nat), ps.getD k 0 = P ∧ N = M ∧ Rf k = R ∧ xss.getD k [] = toZ ys ∧ yss.getD k [] = toZ zs ∧ R < P ∧ (2 ≤ P ∧ P ≤ 268435456) ∧ P % 2 = 1 ∧ Sz4 M ∧ ys.length = M ∧ zs.length = M ∧ (∀ y ∈ ys, y < P) ∧ (∀ y ∈ zs, y < P) ∧ Cg P ((R : Int) ^ (2 * M)) 1 ∧ Cg P ((R : Int) ^ M) (-1) := by
  obtain ⟨g1, g2, g3⟩ := two_of.1 h
  obtain ⟨P, M, R, ys, e1, e2, e3, e4, hlt, hP, hS, la, ha, r1, r2⟩ := row_open hR g1 k hk
  obtain ⟨P', M', R', zs, e1', e2', e3', e4', _, _, _, lb, hb, _, _⟩ := row_open hR g2 k hk
  have hok := ((gr_poly g1).2 k hk).1
  rw [e1, e2] at hok
  obtain rfl : P = P' := by omega
  obtain rfl : M = M' := by omega
  refine ⟨P, M, R, ys, zs, e1, e2, e3, e4, e4', hlt, hP, ?_, hS, la, lb, ha, hb, r1, r2⟩
  have q1 := hok.dv
  have q2 := hok.sz
  rcases q2 with e | e | e | e <;> rw [e] at q1 <;> omega
theorem timesF_len (N : Int) (a b : Bool) (ps : List Int) (xss yss : List (List Int)) (Rf : Nat → Int) (hR : ∀ k, RingOk (ps.getD k 0) N → ((0 ≤ Rf k ∧ Rf k < ps.getD k 0) ∧ (∀ W, PrsW W → TabW W → Calls Tryd.prog 90 #[.int .i64 (ps.getD k 0), .int .i64 N] W fun e w' => e = .returned (.tuple #[.agg #[.int .i64 (ps.getD k 0), .int .i64 N, .int .i64 (Rf k)], .bool true]) ∧ Old W w')) ∧ (∀ W, Calls Tryd.prog 88 #[.int .i64 (ps.getD k 0), .int .i64 N] W fun e w' => e = .returned (.tuple #[.agg #[.int .i64 (ps.getD k 0), .int .i64 N, .int .i64 (Rf k)], .bool true]) ∧ Old W w') ∧ ∃ P M R : Nat, ps.getD k 0 = P ∧ N = M ∧ Rf k = R ∧ R < P ∧ RingOk P M ∧ (F1.Pr P → Rt P (2 * M) R)) (h : twoB N ps a b xss yss = true) (k : Nat) (hk : k < ps.length) : ((timesF N a (ps.getD k 0) (xss.getD k []) (yss.getD k [])).length : Int) = N := by
  obtain ⟨P, M, R, ys, zs, e1, e2, e3, e4, e5, hlt, hP2, ho, hS, la, lb, ha, hb, r1, r2⟩ := rows_open hR h k hk
  rw [e1, e4, e5, e2]
  cases a
  · rw [timesF_f, toZ_len, muO_len]
  · rw [timesF_t, toZ_len, eachN_len]
theorem spec_MulRows_any (N : Int) (ps : List Int) (a b : Bool) (xss yss : List (List Int)) (Rf : Nat → Int) (hR : ∀ k, RingOk (ps.getD k 0) N → ((0 ≤ Rf k ∧ Rf k < ps.getD k 0) ∧ (∀ W, PrsW W → TabW W → Calls Tryd.prog 90 #[.int .i64 (ps.getD k 0), .int .i64 N] W fun e w' => e = .returned (.tuple #[.agg #[.int .i64 (ps.getD k 0), .int .i64 N, .int .i64 (Rf k)], .bool true]) ∧ Old W w')) ∧ (∀ W, Calls Tryd.prog 88 #[.int .i64 (ps.getD k 0), .int .i64 N] W fun e w' => e = .returned (.tuple #[.agg #[.int .i64 (ps.getD k 0), .int .i64 N, .int .i64 (Rf k)], .bool true]) ∧ Old W w') ∧ ∃ P M R : Nat, ps.getD k 0 = P ∧ N = M ∧ Rf k = R ∧ R < P ∧ RingOk P M ∧ (F1.Pr P → Rt P (2 * M) R)) (v u1 u2 : Value) (w : World) (hv : Row w v ps) (hf : Fit v) (h1 : RowS w u1 xss) (h2 : RowS w u2 yss) (hlp : ps.length ≤ 1048576) (hx : ∀ x ∈ ps, -9223372036854775808 ≤ x ∧ x ≤ 9223372036854775807) (hl1 : xss.length ≤ 1048576) (hr1 : ∀ r ∈ xss, r.length ≤ 1048576) (hl2 : yss.length ≤ 1048576) (hr2 : ∀ r ∈ yss, r.length ≤ 1048576) (h : twoB N ps a b xss yss = true) :
    Calls Tryd.prog 34 #[.agg #[.int .i64 N, v], .agg #[.bool a, u1], .agg #[.bool b, u2]] w (Rs w a (mk2 (timesF N a) ps xss yss) true) := by
  obtain ⟨t1, t2, t3, t4, t5, t6⟩ := two_parts h
  subst t5
  cases a
  · refine spec_MulRows_back N ps false false xss yss v u1 u2 w hv hf h1 h2 hlp hx hl1 hr1 hl2 hr2 h rfl _ (fun W g => ?_)
    refine spec_l5Mul N ps xss yss _ v u1 u2 W (hv.old g) (h1.old g) (h2.old g) t2 t3 t4 (mk2_len _ _ _ _) (fun k hk W u t hu ht => ?_)
    obtain ⟨P, M, R, ys, zs, e1, e2, e3, e4, e5, hlt, hP2, ho, hS, la, lb, ha, hb, r1, r2⟩ := rows_open hR h k hk
    rw [mk2_get _ _ _ _ _ hk]
    rw [e4] at hu
    rw [e5] at ht
    rw [e1, e4, e5, e2, timesF_f]
    exact spec_l3Mul P M 0 ys zs u t W hu ht hP2 (sz4_bd hS) la lb ha hb
  · refine spec_MulRows_ahead N ps xss yss v u1 u2 w hv hf h1 h2 hlp hx hl1 hr1 hl2 hr2 h _ t2 t3 t4 (mk2_len _ _ _ _) (fun k hk => ?_)
    obtain ⟨s1, s2, s3, s4⟩ := t6 k hk
    have hlen := timesF_len N true true ps xss yss Rf hR h k hk
    rw [mk2_get _ _ _ _ _ hk]
    refine ⟨by omega, by omega, by omega, s3, fun i hi => ?_⟩
    obtain ⟨⟨q1, q2⟩, q3, q4⟩ := s4 i hi
    refine ⟨by omega, by omega, ?_⟩
    obtain ⟨P, M, R, ys, zs, e1, e2, e3, e4, e5, hlt, hP2, ho, hS, la, lb, ha, hb, r1, r2⟩ := rows_open hR h k hk
    rw [e4, toZ_len] at hi
    rw [e1, e4, e5, e2, timesF_t]
    exact eachN_getZ P M ys zs i (by omega) la lb
theorem impl_MulRows (N : Int) (ps : List Int) (a b : Bool) (xss yss : List (List Int)) (Rf : Nat → Int) (hR : ∀ k, RingOk (ps.getD k 0) N → ((0 ≤ Rf k ∧ Rf k < ps.getD k 0) ∧ (∀ W, PrsW W → TabW W → Calls Tryd.prog 90 #[.int .i64 (ps.getD k 0), .int .i64 N] W fun e w' => e = .returned (.tuple #[.agg #[.int .i64 (ps.getD k 0), .int .i64 N, .int .i64 (Rf k)], .bool true]) ∧ Old W w')) ∧ (∀ W, Calls Tryd.prog 88 #[.int .i64 (ps.getD k 0), .int .i64 N] W fun e w' => e = .returned (.tuple #[.agg #[.int .i64 (ps.getD k 0), .int .i64 N, .int .i64 (Rf k)], .bool true]) ∧ Old W w') ∧ ∃ P M R : Nat, ps.getD k 0 = P ∧ N = M ∧ Rf k = R ∧ R < P ∧ RingOk P M ∧ (F1.Pr P → Rt P (2 * M) R)) (v u1 u2 : Value) (w : World) (lo1 hi1 lo2 hi2 : Nat) (hP : PrsW w) (hT : TabW w) (hv : Row w v ps) (hf : Fit v) (h1 : OwS xss w lo1 hi1 u1) (h2 : OwS yss w lo2 hi2 u2) (hlp : ps.length ≤ 1048576) (hl1 : xss.length ≤ 1048576) (hr1 : ∀ r ∈ xss, r.length ≤ 1048576) (hl2 : yss.length ≤ 1048576) (hr2 : ∀ r ∈ yss, r.length ≤ 1048576) :
    Calls Tryd.prog 36 #[.agg #[.int .i64 N, v], .agg #[.bool a, u1], .agg #[.bool b, u2]] w fun e w' => (twoB N ps a b xss yss = true → Rs w a (mk2 (timesF N a) ps xss yss) true e w') ∧ (twoB N ps a b xss yss = false → Rs w false [] false e w') := by
  obtain ⟨us1, cs1, at1⟩ := h1.ats ps
  obtain ⟨us2, cs2, at2⟩ := h2.ats ps
  obtain ⟨a0, cap0, ev⟩ := hv.slice
  obtain ⟨a1, cap1, e1⟩ := h1.slice
  obtain ⟨a2, cap2, e2⟩ := h2.slice
  subst ev e1 e2
  have c1 := fun W W' (q : Old w W) (p1 : PrsW W') (p2 : TabW W') (q' : Old W W') => impl_ringRows N a ps xss Rf us1 cs1 (.slice a0 ps.length cap0) a1 cap1 W' p1 p2 (hv.old (Old.trans q q')) hf hlp hl1 hr1 (fun h => (at1 h).old (Old.trans q q')) (fun k hk => (hR k hk).1)
  have c2 := fun W W' (q : Old w W) (p1 : PrsW W') (p2 : TabW W') (q' : Old W W') => impl_ringRows N b ps yss Rf us2 cs2 (.slice a0 ps.length cap0) a2 cap2 W' p1 p2 (hv.old (Old.trans q q')) hf hlp hl2 hr2 (fun h => (at2 h).old (Old.trans q q')) (fun k hk => (hR k hk).1)
  cases htw : twoB N ps a b xss yss
  · have hno : ¬ (grB N ps xss = true ∧ grB N ps yss = true ∧ a = b) := fun h => by
      rw [two_of.2 h] at htw
      cases htw
    refine (impl_MulRows_of N a b a0 a1 a2 _ _ _ _ _ _ w false [] false (fun W q => eachPair_times_no N ps a b xss yss Rf us1 us2 _ a1 a2 cap1 cap2 W (hP.old q) (hT.old q) (hv.old q) (fun W' p1 p2 q' => c1 W W' q p1 p2 q') (fun W' p1 p2 q' => c2 W W' q p1 p2 q') hno)).mono (fun e w' h => ⟨(fun h' => by cases h'), fun _ => h⟩)
  · obtain ⟨g1, g2, g3⟩ := two_of.1 htw
    obtain ⟨t1, t2, t3, t4, t5, t6⟩ := two_parts htw
    obtain ⟨Nn, hNn⟩ : ∃ Nn : Nat, N = Nn := ⟨N.toNat, by omega⟩
    subst hNn
    refine (impl_MulRows_of Nn a b a0 a1 a2 _ _ _ _ _ _ w a (mk2 (timesF Nn a) ps xss yss) true (fun W q => eachPair_times_yes Nn ps a b xss yss Rf us1 us2 _ a1 a2 cap1 cap2 W (hP.old q) (hT.old q) (hv.old q) (fun W' p1 p2 q' => c1 W W' q p1 p2 q') (fun W' p1 p2 q' => c2 W W' q p1 p2 q') g1 g2 g3 (mk2 (timesF Nn a) ps xss yss) (mk2_len _ _ _ _) t2.2 (fun k hk => ?_))).mono (fun e w' h => ⟨fun _ => h, (fun h' => by cases h')⟩)
    obtain ⟨s1, s2, s3, s4⟩ := t6 k hk
    obtain ⟨b1, _, _, _, rr1⟩ := at1 (by omega)
    obtain ⟨b2, _, _, _, rr2⟩ := at2 (by omega)
    have row1 := (rr1 k (by omega)).2.2
    have row2 := (rr2 k (by omega)).2.2
    have l1 : (xss.getD k []).length = Nn := by omega
    have l2 : (yss.getD k []).length = Nn := by omega
    rw [l1] at row1
    rw [l2] at row2
    have row1' := row1.recap (c' := Nn) (fun h => by rw [h] at l1; simp at l1; omega)
    have row2' := row2.recap (c' := Nn) (fun h => by rw [h] at l2; simp at l2; omega)
    have hlen := timesF_len Nn a b ps xss yss Rf hR htw k hk
    rw [mk2_get _ _ _ _ _ hk]
    refine ⟨by omega, fun W' q' => ?_⟩
    obtain ⟨P, M, R, ys, zs, e1, e2, e3, e4, e5, hlt, hP2, ho, hS, la, lb, ha, hb, r1, r2⟩ := rows_open hR htw k hk
    obtain rfl : Nn = M := by omega
    rw [e1, e3, e4, e5]
    rw [e1, e4, e5] at hlen
    rw [e4] at row1'
    rw [e5] at row2'
    have hN2 := sz4_bd hS
    cases a
    · refine impl_times_false P R Nn b _ (us1 k) (us2 k) W' (fun W'' q'' => ?_) (by omega) (by omega)
      rw [timesF_f]
      exact impl_product P Nn R ys zs _ _ W'' (hT.old (Old.trans q (Old.trans q' q''))) (row1'.old (Old.trans q (Old.trans q' q''))) (row2'.old (Old.trans q (Old.trans q' q''))) hP2 ho hS hlt la lb ha hb r1 r2
    · refine impl_times_true P R Nn b _ (us1 k) (us2 k) W' (fun W'' q'' => ?_) (by omega) (by omega)
      rw [timesF_t]
      exact impl_products P Nn R ys zs _ _ W'' (row1'.old (Old.trans q (Old.trans q' q''))) (row2'.old (Old.trans q (Old.trans q' q''))) hP2 hN2 la lb ha hb
theorem MulRows_any (N : Int) (xs : List Int) (n m : Bool) (xss yss : List (List Int)) (v u t : Value) (w : World) (hv : Row w v xs) (hl : xs.length ≤ 9223372036854775807) (hx : ∀ x ∈ xs, -9223372036854775808 ≤ x ∧ x ≤ 9223372036854775807) (hu : RowS w u xss) (hlx : xss.length ≤ 9223372036854775807) (hlr : ∀ r ∈ xss, r.length ≤ 9223372036854775807) (ht : RowS w t yss) (hly : yss.length ≤ 9223372036854775807) (hlq : ∀ r ∈ yss, r.length ≤ 9223372036854775807) (hP : PrsW w) (hT : TabW w) :
    Calls Tryd.prog 6 #[.agg #[.int .i64 N, v], .agg #[.bool n, u], .agg #[.bool m, t]] w fun e w' => e = .returned (.bool true) ∧ Old w w' := by
  obtain ⟨Rf, hR⟩ := Rings_both N xs
  obtain ⟨a0, c0, rfl⟩ := hv.slice
  obtain ⟨a1, c1, rfl⟩ := hu.slice
  obtain ⟨a2, c2, rfl⟩ := ht.slice
  have bnd : ∀ {A : Prop}, ¬ leftN 1048576 xs.length < 0 → ¬ leftSS (leftN 1048576 xs.length) xss < 0 → ¬ leftSS (leftSS (leftN 1048576 xs.length) xss) yss < 0 → (xs.length ≤ 1048576 → xss.length ≤ 1048576 → (∀ r ∈ xss, r.length ≤ 1048576) → yss.length ≤ 1048576 → (∀ r ∈ yss, r.length ≤ 1048576) → offL xss xss.length ≤ 1048576 → offL yss yss.length ≤ 1048576 → A) → A := fun h1 h2 h3 k => by
    obtain ⟨q1, q2, q3⟩ := leftN_ok h1 (by omega)
    obtain ⟨p1, p2, p3, p4⟩ := leftSS_ok q3 h2
    obtain ⟨s1, s2, s3, s4⟩ := leftSS_ok (by omega) h3
    have o1 := offL_leftSS q3 h2
    have o2 := offL_leftSS (by omega) h3
    exact k (by omega) (by omega) (fun r hr => by have := p4 r hr; omega) (by omega) (fun r hr => by have := s4 r hr; omega) (by omega) (by omega)
  have zb : ∀ (zss : List (List Int)) (ro br : Bool),
      (twoB N xs n m xss yss = true → zss = mk2 (timesF N n) xs xss yss ∧ ro = true ∧ br = n) → (twoB N xs n m xss yss = false → zss = [] ∧ ro = false ∧ br = false) → zss.length ≤ 6 ∧ (∀ r ∈ zss, r.length ≤ 16) ∧ offL zss zss.length ≤ 96 := fun zss ro br h1 h2 => by
    have key : zss.length ≤ 6 ∧ ∀ r ∈ zss, r.length ≤ 16 := by
      cases htw : twoB N xs n m xss yss
      · obtain ⟨rfl, _, _⟩ := h2 htw
        exact ⟨by simp, fun r hr => by cases hr⟩
      · obtain ⟨rfl, _, _⟩ := h1 htw
        obtain ⟨t1, t2, t3, t4, t5, t6⟩ := two_parts htw
        refine ⟨by rw [mk2_len]; omega, fun r hr => ?_⟩
        unfold mk2 at hr
        rw [List.mem_map] at hr
        obtain ⟨k, hk, rfl⟩ := hr
        have hk' : k < xs.length := by simpa using hk
        have := timesF_len N n m xs xss yss Rf hR htw k hk'
        omega
    refine ⟨key.1, key.2, ?_⟩
    have := offL_bd zss 16 key.2
    omega
  obtain ⟨zss, ro, br, hy, hn⟩ : ∃ (zss : List (List Int)) (ro br : Bool), (twoB N xs n m xss yss = true → zss = mk2 (timesF N n) xs xss yss ∧ ro = true ∧ br = n) ∧ (twoB N xs n m xss yss = false → zss = [] ∧ ro = false ∧ br = false) := by
    cases twoB N xs n m xss yss
    · exact ⟨[], false, false, (fun h => by cases h), fun _ => ⟨rfl, rfl, rfl⟩⟩
    · exact ⟨_, true, n, fun _ => ⟨rfl, rfl, rfl⟩, (fun h => by cases h)⟩
  obtain ⟨z1, z2, z3⟩ := zb zss ro br hy hn
  have z2' : ∀ r ∈ zss, r.length ≤ 1048576 := fun r hr => by have := z2 r hr; omega
  refine law_mulrows w N xs.length a0 c0 n xss.length a1 c1 m yss.length a2 c2 br zss.length ro (leftN 1048576 xs.length) (leftSS (leftN 1048576 xs.length) xss) (leftSS (leftSS (leftN 1048576 xs.length) xss) yss)
    (fun W g => ks_sz N a0 xs.length c0 1048576 W hl (by omega) (by omega))
    (fun h W g => by
      obtain ⟨q1, q2, q3⟩ := leftN_ok h (by omega)
      exact kr_sz n xss _ _ W (hu.old g) hlx hlr q3 (by omega))
    (fun h h2 W g => by
      obtain ⟨q1, q2, q3⟩ := leftN_ok h (by omega)
      obtain ⟨p1, p2, p3, p4⟩ := leftSS_ok q3 h2
      exact kr_sz m yss _ _ W (ht.old g) hly hlq (by omega) (by omega))
    (XS N xs) (far_XS N xs) shape_XS (fun h1 h2 h3 W g => bnd h1 h2 h3 fun d1 d2 d3 d4 d5 d6 d7 => ks_to N xs _ W (hv.old g) d1) (fun h1 h2 h3 W lo hi g lo' hi' g' k k' => bnd h1 h2 h3 fun d1 d2 d3 d4 d5 d6 d7 => ks_eq N xs W lo hi g lo' hi' g' k k' (by omega))
    (1 + xs.length) (by omega) (fun h1 h2 h3 W lo hi g k => bnd h1 h2 h3 fun d1 d2 d3 d4 d5 d6 d7 => ks_mark N xs 1 W lo hi g k d1 (by omega) (by omega))
    (XR n xss) (far_XR n xss) shape_XR (fun h1 h2 h3 W g => bnd h1 h2 h3 fun d1 d2 d3 d4 d5 d6 d7 => kr_to n xss _ W (hu.old g) d2 d3) (fun h1 h2 h3 W lo hi g lo' hi' g' k k' => bnd h1 h2 h3 fun d1 d2 d3 d4 d5 d6 d7 => kr_eq n xss W lo hi g lo' hi' g' k k' d2 d3)
    (1 + xs.length + offL xss xss.length) (by omega) (fun h1 h2 h3 W lo hi g k => bnd h1 h2 h3 fun d1 d2 d3 d4 d5 d6 d7 => (kr_mark n xss _ W lo hi g k d2 d3 (by omega) (by omega)).mono (fun e w' h => ⟨h.1, h.2.1⟩))
    (XR m yss) (far_XR m yss) shape_XR (fun h1 h2 h3 W g => bnd h1 h2 h3 fun d1 d2 d3 d4 d5 d6 d7 => kr_to m yss _ W (ht.old g) d4 d5) (fun h1 h2 h3 W lo hi g lo' hi' g' k k' => bnd h1 h2 h3 fun d1 d2 d3 d4 d5 d6 d7 => kr_eq m yss W lo hi g lo' hi' g' k k' d4 d5)
    (1 + xs.length + offL xss xss.length + offL yss yss.length) (by omega) (fun h1 h2 h3 W lo hi g k => bnd h1 h2 h3 fun d1 d2 d3 d4 d5 d6 d7 => (kr_mark m yss _ W lo hi g k d4 d5 (by omega) (by omega)).mono (fun e w' h => ⟨h.1, h.2.1⟩))
    (XR br zss) (far_XR br zss) shape_XR (XR br zss) (far_XR br zss) shape_XR (XM br 1 zss) (far_XM br 1 zss) shape_XM
    (fun h1 h2 h3 W lo0 hi0 g0 lo1 hi1 g1 lo2 hi2 g2 k0 k1 k2 => bnd h1 h2 h3 fun d1 d2 d3 d4 d5 d6 d7 => ?_) (fun h1 h2 h3 W lo0 hi0 g0 lo1 hi1 g1 lo2 hi2 g2 k0 k1 k2 q => bnd h1 h2 h3 fun d1 d2 d3 d4 d5 d6 d7 => ?_)
    (fun h1 h2 h3 W lo hi p lo' hi' p' k k' => kr_eq br zss W lo hi p lo' hi' p' k k' (by omega) z2')
    (1 + offL zss zss.length) (by omega) (fun h1 h2 h3 W lo hi p k => kr_mark br zss 1 W lo hi p k (by omega) z2' (by omega) (by omega)) (fun h1 h2 h3 W lo hi p k => kr_held br zss 1 W lo hi p k (by omega) z2' (by omega) (by omega))
  · obtain ⟨a, c, rfl, o, f⟩ := k0
    obtain ⟨a', c', rfl, o'⟩ := k1
    obtain ⟨a'', c'', rfl, o''⟩ := k2
    cases htw : twoB N xs n m xss yss
    · obtain ⟨rfl, rfl, rfl⟩ := hn htw
      exact spec_MulRows_no N xs n m xss yss _ _ _ W o.row f o'.rowS o''.rowS d1 hx d2 d3 d4 d5 htw
    · obtain ⟨rfl, rfl, rfl⟩ := hy htw
      exact spec_MulRows_any N xs br m xss yss Rf hR _ _ _ W o.row f o'.rowS o''.rowS d1 hx d2 d3 d4 d5 htw
  · obtain ⟨a, c, rfl, o, f⟩ := k0
    obtain ⟨a', c', rfl, o'⟩ := k1
    obtain ⟨a'', c'', rfl, o''⟩ := k2
    refine (impl_MulRows N xs n m xss yss Rf hR _ _ _ W _ _ _ _ (hP.old q) (hT.old q) o.row f o' o'' d1 d2 d3 d4 d5).mono (fun e w' h => ?_)
    cases htw : twoB N xs n m xss yss
    · obtain ⟨rfl, rfl, rfl⟩ := hn htw
      exact h.2 htw
    · obtain ⟨rfl, rfl, rfl⟩ := hy htw
      exact h.1 htw
end Go.Proofs.YtcgnndenmcmieaaDoor
