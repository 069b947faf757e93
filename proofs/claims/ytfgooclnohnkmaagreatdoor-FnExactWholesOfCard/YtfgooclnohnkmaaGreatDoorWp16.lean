/- Proved: several texts in one: what each proves is said ahead of it. -/
import Derived.Test.YtfgooclnohnkmaaGreatDoorBk
import Derived.Test.YtfgooclnohnkmaaGreatDoorWp15
import Derived.Deep.RegionWith
import Derived.Deep.RegionHeld3
import Derived.Deep.DeepCutAuto
import Derived.Test.YtfgooclnohnkmaaGreatDoorWp06
import Derived.Test.YtfgooclnohnkmaaGreatDoorWp13
import Derived.KernelRfl
import Derived.Test.YtfgooclnohnkmaaGreatDoorWp11
import Derived.Deep.AppendLies
import Derived.Maps.AppendAt
/- Proved: the walk of the statement FnExactWholesOf, under what each function that it calls does. -/
namespace Go.Proofs.YtfgooclnohnkmaaGreatDoor
open Go.ChangeShapes Go.WideShapes Go.ChangeAt Go.RowKit
set_option linter.unusedVariables false
set_option linter.unusedSimpArgs false
set_option maxRecDepth 100000 in
set_option maxHeartbeats 16000000 in
theorem law9_WholesOf (w : World) (Np0 : Int) (lp0 : Nat) (ap0 : Option Addr) (cp0 : Nat) (bp1 : Bool) (lp1 : Nat) (ap1 : Option Addr) (cp1 : Nat) (lr0 : Nat) (br1 : Bool) (L0 L1 : Int)
    (csz0 : ∀ W, Old w W → Calls Tryz.prog 23 #[.agg #[.int .i64 Np0, .slice ap0 lp0 cp0], .int .i64 1048576] W fun e w' => e = .returned (.int .i64 L0) ∧ Old W w')
    (csz1 : ¬ L0 < 0 → ∀ W, Old w W → Calls Tryz.prog 24 #[.agg #[.bool bp1, .slice ap1 lp1 cp1], .int .i64 L0] W fun e w' => e = .returned (.int .i64 L1) ∧ Old W w')
    (X0 : World → Nat → Nat → Array Value → Prop) (fX0 : Far X0) (hX0 : ∀ W lo hi g, X0 W lo hi g → ∃ a c, g = #[.int .i64 Np0, .slice a lp0 c])
    (cto0 : ¬ L0 < 0 → ¬ L1 < 0 → ∀ W, Old w W → Calls Tryz.prog 26 #[.agg #[.int .i64 Np0, .slice ap0 lp0 cp0]] W fun e w' => ∃ g, e = .returned (.agg g) ∧ Old W w' ∧ X0 w' W.heap.size w'.heap.size g)
    (ceq0 : ¬ L0 < 0 → ¬ L1 < 0 → ∀ W lo hi g lo' hi' g', X0 W lo hi g → X0 W lo' hi' g' → Calls Tryz.prog 30 #[.agg g, .agg g'] W fun e w' => e = .returned (.bool true) ∧ Old W w')
    (k0 : Int) (hk0 : 0 ≤ k0) (cmk0 : ¬ L0 < 0 → ¬ L1 < 0 → ∀ W lo hi g, X0 W lo hi g → Calls Tryz.prog 32 #[.agg g, .int .i64 1] W fun e w' => e = .returned (.int .i64 k0) ∧ Chg W w' lo hi)
    (X1 : World → Nat → Nat → Array Value → Prop) (fX1 : Far X1) (hX1 : ∀ W lo hi g, X1 W lo hi g → ∃ a c, g = #[.bool bp1, .slice a lp1 c])
    (cto1 : ¬ L0 < 0 → ¬ L1 < 0 → ∀ W, Old w W → Calls Tryz.prog 27 #[.agg #[.bool bp1, .slice ap1 lp1 cp1]] W fun e w' => ∃ g, e = .returned (.agg g) ∧ Old W w' ∧ X1 w' W.heap.size w'.heap.size g)
    (ceq1 : ¬ L0 < 0 → ¬ L1 < 0 → ∀ W lo hi g lo' hi' g', X1 W lo hi g → X1 W lo' hi' g' → Calls Tryz.prog 31 #[.agg g, .agg g'] W fun e w' => e = .returned (.bool true) ∧ Old W w')
    (k1 : Int) (hk1 : 0 ≤ k1) (cmk1 : ¬ L0 < 0 → ¬ L1 < 0 → ∀ W lo hi g, X1 W lo hi g → Calls Tryz.prog 33 #[.agg g, .int .i64 k0] W fun e w' => e = .returned (.int .i64 k1) ∧ Chg W w' lo hi)
    (SR : World → Nat → Nat → Value → Prop) (fSR : Far SR) (hSR : ∀ W lo hi p, SR W lo hi p → ∃ a0 c0, p = (.slice a0 lr0 c0))
    (IR0 : World → Nat → Nat → Value → Prop) (fIR0 : Far IR0) (hIR0 : ∀ W lo hi p, IR0 W lo hi p → ∃ a0 c0, p = (.slice a0 lr0 c0))
    (IR1 : World → Nat → Nat → Value → Prop) (fIR1 : Far IR1) (hIR1 : ∀ W lo hi p, IR1 W lo hi p → ∃ a0 c0, p = (.slice a0 lr0 c0))
    (csp : ¬ L0 < 0 → ¬ L1 < 0 → ∀ W lo0 hi0 g0 lo1 hi1 g1, X0 W lo0 hi0 g0 → X1 W lo1 hi1 g1 → Old w W → Calls Tryz.prog 25 #[.agg g0, .agg g1] W fun e w' => ∃ r0, e = .returned (.tuple #[r0, .bool br1]) ∧ Old W w' ∧ SR w' W.heap.size w'.heap.size r0)
    (cim : ¬ L0 < 0 → ¬ L1 < 0 → ∀ W lo0 hi0 g0 lo1 hi1 g1, X0 W lo0 hi0 g0 → X1 W lo1 hi1 g1 → Old w W → Calls Tryz.prog 28 #[.agg g0, .agg g1] W fun e w' => ∃ r0, e = .returned (.tuple #[r0, .bool br1]) ∧ Old W w' ∧ IR0 w' W.heap.size w'.heap.size r0)
    (cer0 : ¬ L0 < 0 → ¬ L1 < 0 → ∀ W lo hi p lo' hi' p', IR0 W lo hi p → SR W lo' hi' p' → Calls Tryz.prog 29 #[p, p'] W fun e w' => e = .returned (.bool true) ∧ Old W w')
    (m0 : Int) (hm0 : 0 ≤ m0) (cmr0 : ¬ L0 < 0 → ¬ L1 < 0 → ∀ W lo hi p, IR0 W lo hi p → Calls Tryz.prog 34 #[p, .int .i64 1] W fun e w' => e = .returned (.int .i64 m0) ∧ Chg W w' lo hi ∧ IR1 w' lo hi p)
    (chr0 : ¬ L0 < 0 → ¬ L1 < 0 → ∀ W lo hi p, IR1 W lo hi p → Calls Tryz.prog 35 #[p, .int .i64 1] W fun e w' => e = .returned (.int .i64 m0) ∧ Old W w') :
    Calls Tryz.prog 5 #[.agg #[.int .i64 Np0, .slice ap0 lp0 cp0], .agg #[.bool bp1, .slice ap1 lp1 cp1]] w fun e w' => e = .returned (.bool true) ∧ Old w w' := by
  have HA : Hid (Old w ((w.alloc (.cells #[.int .i64 Np0, .slice ap0 lp0 cp0] 47)).alloc (.cells #[.bool bp1, .slice ap1 lp1 cp1] 50))) := (((Old.refl w).alloc _).alloc _)
  have BA0 : Hid (Bk ((w.alloc (.cells #[.int .i64 Np0, .slice ap0 lp0 cp0] 47)).alloc (.cells #[.bool bp1, .slice ap1 lp1 cp1] 50)) (w.heap.size) #[.int .i64 Np0, .slice ap0 lp0 cp0] 47) := ((Bk.new' w _ _ (by simp)).alloc _)
  have BA1 : Hid (Bk ((w.alloc (.cells #[.int .i64 Np0, .slice ap0 lp0 cp0] 47)).alloc (.cells #[.bool bp1, .slice ap1 lp1 cp1] 50)) (w.heap.size + 1) #[.bool bp1, .slice ap1 lp1 cp1] 50) := (Bk.new' (w.alloc (.cells #[.int .i64 Np0, .slice ap0 lp0 cp0] 47)) _ _ (by simp))
  by_cases hL0 : L0 < 0
  · have dL0 : decide (L0 < 0) = true := decide_eq_true hL0
    go_enter Tryz.func5, Tryz.ntmps5
    go_wp2_with fail
    refine (csz0  _ (HA.out)).mono ?_
    rintro e s0 ⟨rfl, g0⟩
    have HS0 : Hid (Old w s0) := Old.trans HA.out g0
    clear g0
    go_wp2_with fail
    go_ret
    exact ⟨rfl, HS0.out⟩
  have dL0 : decide (L0 < 0) = false := decide_eq_false hL0
  by_cases hL1 : L1 < 0
  · have dL1 : decide (L1 < 0) = true := decide_eq_true hL1
    go_enter Tryz.func5, Tryz.ntmps5
    go_wp2_with fail
    refine (csz0  _ (HA.out)).mono ?_
    rintro e s0 ⟨rfl, g0⟩
    have HS0 : Hid (Old w s0) := Old.trans HA.out g0
    have BS0_0 : Hid (Bk s0 (w.heap.size) #[.int .i64 Np0, .slice ap0 lp0 cp0] 47) := BA0.out.old g0
    have BS0_1 : Hid (Bk s0 (w.heap.size + 1) #[.bool bp1, .slice ap1 lp1 cp1] 50) := BA1.out.old g0
    clear g0
    have y0 := BS0_1.out.c (i := 0) rfl
    have y1 := BS0_1.out.c (i := 1) rfl
    go_wp2_with fail
    clear y0 y1
    refine (csz1 hL0 _ (HS0.out)).mono ?_
    rintro e s1 ⟨rfl, g1⟩
    have HS1 : Hid (Old w s1) := Old.trans HS0.out g1
    clear g1
    go_wp2_with fail
    go_ret
    exact ⟨rfl, HS1.out⟩
  have dL1 : decide (L1 < 0) = false := decide_eq_false hL1
  have TO0 : Hid (∀ W, Old w W → Calls Tryz.prog 26 #[.agg #[.int .i64 Np0, .slice ap0 lp0 cp0]] W fun e w' => ∃ g, e = .returned (.agg g) ∧ Old W w' ∧ X0 w' W.heap.size w'.heap.size g) := cto0 hL0 hL1
  replace ceq0 := ceq0 hL0 hL1
  replace cmk0 := cmk0 hL0 hL1
  clear cto0
  have TO1 : Hid (∀ W, Old w W → Calls Tryz.prog 27 #[.agg #[.bool bp1, .slice ap1 lp1 cp1]] W fun e w' => ∃ g, e = .returned (.agg g) ∧ Old W w' ∧ X1 w' W.heap.size w'.heap.size g) := cto1 hL0 hL1
  replace ceq1 := ceq1 hL0 hL1
  replace cmk1 := cmk1 hL0 hL1
  clear cto1
  replace csp := csp hL0 hL1
  replace cim := cim hL0 hL1
  replace cer0 := cer0 hL0 hL1
  replace cmr0 := cmr0 hL0 hL1
  replace chr0 := chr0 hL0 hL1
  have dro1 : (br1 != br1) = false := by simp
  go_enter Tryz.func5, Tryz.ntmps5
  go_wp2_with fail
  refine (csz0  _ (HA.out)).mono ?_
  rintro e s0 ⟨rfl, g0⟩
  have HS0 : Hid (Old w s0) := Old.trans HA.out g0
  have BS0_0 : Hid (Bk s0 (w.heap.size) #[.int .i64 Np0, .slice ap0 lp0 cp0] 47) := BA0.out.old g0
  have BS0_1 : Hid (Bk s0 (w.heap.size + 1) #[.bool bp1, .slice ap1 lp1 cp1] 50) := BA1.out.old g0
  clear g0
  have y0 := BS0_1.out.c (i := 0) rfl
  have y1 := BS0_1.out.c (i := 1) rfl
  go_wp2_with fail
  clear y0 y1
  refine (csz1 hL0 _ (HS0.out)).mono ?_
  rintro e s1 ⟨rfl, g1⟩
  have HS1 : Hid (Old w s1) := Old.trans HS0.out g1
  have BS1_0 : Hid (Bk s1 (w.heap.size) #[.int .i64 Np0, .slice ap0 lp0 cp0] 47) := BS0_0.out.old g1
  have BS1_1 : Hid (Bk s1 (w.heap.size + 1) #[.bool bp1, .slice ap1 lp1 cp1] 50) := BS0_1.out.old g1
  clear g1
  have HG_0 : Hid (Old w s1) := HS1.out
  have A0_0 : Hid (Bk s1 (w.heap.size) #[.int .i64 Np0, .slice ap0 lp0 cp0] 47) := BS1_0.out
  have A1_0 : Hid (Bk s1 (w.heap.size + 1) #[.bool bp1, .slice ap1 lp1 cp1] 50) := BS1_1.out
  have hsw : w.heap.size + 2 ≤ s1.heap.size := by have := A1_0.out.lt; omega
  clear csz0 csz1 BA0 BA1 HA HS0 HS1 BS0_0 BS0_1 BS1_0 BS1_1
  have zA0_0 := A0_0.out.c (i := 0) rfl
  have zA0_1 := A0_0.out.c (i := 1) rfl
  have zA1_0 := A1_0.out.c (i := 0) rfl
  have zA1_1 := A1_0.out.c (i := 1) rfl
  go_wp2_with fail
  refine reg9_WholesOfA s1 _ _ _ _ _ _ (fun W v => ∃ lo hi g, v = .agg g ∧ X0 W lo hi g ∧ hi ≤ W.heap.size) (fun W W' v h g => by obtain ⟨lo, hi, y, rfl, h1, h2⟩ := h; exact ⟨lo, hi, _, rfl, fX0.old h1 g h2, Nat.le_trans h2 g.size⟩) (fun W h => (TO0.out W (Old.trans HG_0.out h)).mono (fun e w' h => by obtain ⟨g, rfl, h1, h2⟩ := h; exact ⟨_, rfl, h1, _, _, g, rfl, h2, Nat.le_refl _⟩)) A0_0.out (fun W v => ∃ lo hi g, v = .agg g ∧ X1 W lo hi g ∧ hi ≤ W.heap.size) (fun W W' v h g => by obtain ⟨lo, hi, y, rfl, h1, h2⟩ := h; exact ⟨lo, hi, _, rfl, fX1.old h1 g h2, Nat.le_trans h2 g.size⟩) (fun W h => (TO1.out W (Old.trans HG_0.out h)).mono (fun e w' h => by obtain ⟨g, rfl, h1, h2⟩ := h; exact ⟨_, rfl, h1, _, _, g, rfl, h2, Nat.le_refl _⟩)) A1_0.out (fun W lo hi g0 g1 => SR W lo hi g0 ∧ g1 = .bool br1) (fun W W' lo hi g0 g1 h h1 h2 => ⟨fSR _ _ _ _ _ h.1 h1 h2, h.2⟩) (fun W v0 v1 hO H0 H1 => by obtain ⟨lo0, hi0, y0, rfl, x0, q0⟩ := H0; obtain ⟨lo1, hi1, y1, rfl, x1, q1⟩ := H1; exact (csp W _ _ _ _ _ _ x0 x1 (Old.trans HG_0.out hO)).mono (fun e w' h => by obtain ⟨g0, rfl, h1, h2⟩ := h; obtain ⟨a0_, c0_, hq⟩ := hSR _ _ _ _ h2; subst hq; exact ⟨_, _, rfl, h1, h2, rfl⟩)) _ _ _ (by first | decide | simp) rfl rfl ?_
  intro  los his q0 q1 u_0 u_1 u_2 u_3 u_4 u_5 u_6 u_7 ts gS loS_ hiS_ rS_ 
  obtain ⟨rS, rfl⟩ := rS_
  obtain ⟨as0, cs0, hq⟩ := hSR _ _ _ _ rS
  subst hq
  have h_s : s1.heap.size ≤ los ∧ his ≤ ts.heap.size := ⟨loS_, hiS_⟩
  obtain ⟨hlos, hhis⟩ := h_s
  clear loS_ hiS_
  simp only [putAll, Act.put]
  clear zA0_0 zA0_1 zA1_0 zA1_1
  have HG_1 : Hid (Old w ts) := Old.trans HG_0.out (gS)
  have A0_1 : Hid (Bk ts (w.heap.size) #[.int .i64 Np0, .slice ap0 lp0 cp0] 47) := A0_0.out.old (gS)
  have A1_1 : Hid (Bk ts (w.heap.size + 1) #[.bool bp1, .slice ap1 lp1 cp1] 50) := A1_0.out.old (gS)
  clear HG_0 A0_0 A1_0
  have SS_1 : Hid (SR ts (los) (his) (.slice as0 lr0 cs0)) := rS
  have hsts := gS.size
  clear gS rS 
  have zA0_0 := A0_1.out.c (i := 0) rfl
  have zA0_1 := A0_1.out.c (i := 1) rfl
  go_wp2_with fail
  refine (TO0.out _ (HG_1.out)).mono ?_
  rintro e x0 ⟨y_, rfl, g_, o_⟩
  obtain ⟨ax0, cx0, rfl⟩ := hX0 _ _ _ _ o_
  clear zA0_0 zA0_1
  have hsx0 : ts.heap.size ≤ x0.heap.size := by have := g_.size; first | exact this | (simp at this; omega)
  have HG_2 : Hid (Old w (x0.alloc (.cells #[.int .i64 Np0, .slice ax0 lp0 cx0] 56))) := Old.trans HG_1.out (Old.trans g_ ((Old.refl x0).alloc _))
  have A0_2 : Hid (Bk (x0.alloc (.cells #[.int .i64 Np0, .slice ax0 lp0 cx0] 56)) (w.heap.size) #[.int .i64 Np0, .slice ap0 lp0 cp0] 47) := A0_1.out.old (Old.trans g_ ((Old.refl x0).alloc _))
  have A1_2 : Hid (Bk (x0.alloc (.cells #[.int .i64 Np0, .slice ax0 lp0 cx0] 56)) (w.heap.size + 1) #[.bool bp1, .slice ap1 lp1 cp1] 50) := A1_1.out.old (Old.trans g_ ((Old.refl x0).alloc _))
  have SS_2 : Hid (SR (x0.alloc (.cells #[.int .i64 Np0, .slice ax0 lp0 cx0] 56)) (los) (his) (.slice as0 lr0 cs0)) := fSR.old SS_1.out (Old.trans g_ ((Old.refl x0).alloc _)) (by first | omega | (simp; done) | (simp; omega))
  clear HG_1 A0_1 A1_1 SS_1
  have Bx0_2 : Hid (Bk (x0.alloc (.cells #[.int .i64 Np0, .slice ax0 lp0 cx0] 56)) (x0.heap.size) #[.int .i64 Np0, .slice ax0 lp0 cx0] 56) := Bk.new' x0 _ _ rfl
  have Rx0_2 : Hid (X0 (x0.alloc (.cells #[.int .i64 Np0, .slice ax0 lp0 cx0] 56)) (ts.heap.size) (x0.heap.size) #[.int .i64 Np0, .slice ax0 lp0 cx0]) := fX0.old (by first | exact o_ | (simp at o_; exact o_)) ((Old.refl x0).alloc _) (Nat.le_refl _)
  clear g_ o_
  have zA1_0 := A1_2.out.c (i := 0) rfl
  have zA1_1 := A1_2.out.c (i := 1) rfl
  go_wp2_with fail
  refine (TO1.out _ (HG_2.out)).mono ?_
  rintro e x1 ⟨y_, rfl, g_, o_⟩
  obtain ⟨ax1, cx1, rfl⟩ := hX1 _ _ _ _ o_
  clear zA1_0 zA1_1
  have hsx1 : x0.heap.size + 1 ≤ x1.heap.size := by have := g_.size; first | exact this | (simp at this; omega)
  have HG_3 : Hid (Old w (x1.alloc (.cells #[.bool bp1, .slice ax1 lp1 cx1] 58))) := Old.trans HG_2.out (Old.trans g_ ((Old.refl x1).alloc _))
  have A0_3 : Hid (Bk (x1.alloc (.cells #[.bool bp1, .slice ax1 lp1 cx1] 58)) (w.heap.size) #[.int .i64 Np0, .slice ap0 lp0 cp0] 47) := A0_2.out.old (Old.trans g_ ((Old.refl x1).alloc _))
  have A1_3 : Hid (Bk (x1.alloc (.cells #[.bool bp1, .slice ax1 lp1 cx1] 58)) (w.heap.size + 1) #[.bool bp1, .slice ap1 lp1 cp1] 50) := A1_2.out.old (Old.trans g_ ((Old.refl x1).alloc _))
  have SS_3 : Hid (SR (x1.alloc (.cells #[.bool bp1, .slice ax1 lp1 cx1] 58)) (los) (his) (.slice as0 lr0 cs0)) := fSR.old SS_2.out (Old.trans g_ ((Old.refl x1).alloc _)) (by first | omega | (simp; done) | (simp; omega))
  have Bx0_3 : Hid (Bk (x1.alloc (.cells #[.bool bp1, .slice ax1 lp1 cx1] 58)) (x0.heap.size) #[.int .i64 Np0, .slice ax0 lp0 cx0] 56) := Bx0_2.out.old (Old.trans g_ ((Old.refl x1).alloc _))
  have Rx0_3 : Hid (X0 (x1.alloc (.cells #[.bool bp1, .slice ax1 lp1 cx1] 58)) (ts.heap.size) (x0.heap.size) #[.int .i64 Np0, .slice ax0 lp0 cx0]) := fX0.old Rx0_2.out (Old.trans g_ ((Old.refl x1).alloc _)) (by first | omega | (simp; done) | (simp; omega))
  clear HG_2 A0_2 A1_2 SS_2 Bx0_2 Rx0_2
  have Bx1_3 : Hid (Bk (x1.alloc (.cells #[.bool bp1, .slice ax1 lp1 cx1] 58)) (x1.heap.size) #[.bool bp1, .slice ax1 lp1 cx1] 58) := Bk.new' x1 _ _ rfl
  have Rx1_3 : Hid (X1 (x1.alloc (.cells #[.bool bp1, .slice ax1 lp1 cx1] 58)) (x0.heap.size + 1) (x1.heap.size) #[.bool bp1, .slice ax1 lp1 cx1]) := fX1.old (by first | exact o_ | (simp at o_; exact o_)) ((Old.refl x1).alloc _) (Nat.le_refl _)
  clear g_ o_
  have zBx0_0 := Bx0_3.out.c (i := 0) rfl
  have zBx0_1 := Bx0_3.out.c (i := 1) rfl
  have zBx1_0 := Bx1_3.out.c (i := 0) rfl
  have zBx1_1 := Bx1_3.out.c (i := 1) rfl
  go_wp2_with fail
  refine (cim _ _ _ _ _ _ _ Rx0_3.out Rx1_3.out (HG_3.out)).mono ?_
  rintro e p1 ⟨q0, rfl, gp, rp⟩
  obtain ⟨ag0, cg0, hq⟩ := hIR0 _ _ _ _ rp
  have hsp1 : x1.heap.size + 1 ≤ p1.heap.size := by have := gp.size; first | exact this | (simp at this; omega)
  subst hq
  clear zBx0_0 zBx0_1 zBx1_0 zBx1_1
  have HG_4 : Hid (Old w p1) := Old.trans HG_3.out (Old.trans gp ((Old.refl p1)))
  have A0_4 : Hid (Bk p1 (w.heap.size) #[.int .i64 Np0, .slice ap0 lp0 cp0] 47) := A0_3.out.old (Old.trans gp ((Old.refl p1)))
  have A1_4 : Hid (Bk p1 (w.heap.size + 1) #[.bool bp1, .slice ap1 lp1 cp1] 50) := A1_3.out.old (Old.trans gp ((Old.refl p1)))
  have SS_4 : Hid (SR p1 (los) (his) (.slice as0 lr0 cs0)) := fSR.old SS_3.out (Old.trans gp ((Old.refl p1))) (by first | omega | (simp; done) | (simp; omega))
  have Bx0_4 : Hid (Bk p1 (x0.heap.size) #[.int .i64 Np0, .slice ax0 lp0 cx0] 56) := Bx0_3.out.old (Old.trans gp ((Old.refl p1)))
  have Rx0_4 : Hid (X0 p1 (ts.heap.size) (x0.heap.size) #[.int .i64 Np0, .slice ax0 lp0 cx0]) := fX0.old Rx0_3.out (Old.trans gp ((Old.refl p1))) (by first | omega | (simp; done) | (simp; omega))
  have Bx1_4 : Hid (Bk p1 (x1.heap.size) #[.bool bp1, .slice ax1 lp1 cx1] 58) := Bx1_3.out.old (Old.trans gp ((Old.refl p1)))
  have Rx1_4 : Hid (X1 p1 (x0.heap.size + 1) (x1.heap.size) #[.bool bp1, .slice ax1 lp1 cx1]) := fX1.old Rx1_3.out (Old.trans gp ((Old.refl p1))) (by first | omega | (simp; done) | (simp; omega))
  clear HG_3 A0_3 A1_3 SS_3 Bx0_3 Rx0_3 Bx1_3 Rx1_3
  have RG_4 : Hid (IR0 p1 (x1.heap.size + 1) (p1.heap.size) (.slice ag0 lr0 cg0)) := fIR0.old (by first | exact rp | (simp at rp; exact rp)) ((Old.refl p1)) (Nat.le_refl _)
  clear gp rp
  go_wp2_with fail
  refine (cer0 _ _ _ _ _ _ _ RG_4.out SS_4.out).mono ?_
  rintro e f0 ⟨rfl, g_⟩
  have hsf0 : p1.heap.size + 0 ≤ f0.heap.size := by have := g_.size; first | omega | (simp at this; omega)
  have HG_5 : Hid (Old w f0) := Old.trans HG_4.out (g_)
  have A0_5 : Hid (Bk f0 (w.heap.size) #[.int .i64 Np0, .slice ap0 lp0 cp0] 47) := A0_4.out.old (g_)
  have A1_5 : Hid (Bk f0 (w.heap.size + 1) #[.bool bp1, .slice ap1 lp1 cp1] 50) := A1_4.out.old (g_)
  have SS_5 : Hid (SR f0 (los) (his) (.slice as0 lr0 cs0)) := fSR.old SS_4.out (g_) (by first | omega | (simp; done) | (simp; omega))
  have Bx0_5 : Hid (Bk f0 (x0.heap.size) #[.int .i64 Np0, .slice ax0 lp0 cx0] 56) := Bx0_4.out.old (g_)
  have Rx0_5 : Hid (X0 f0 (ts.heap.size) (x0.heap.size) #[.int .i64 Np0, .slice ax0 lp0 cx0]) := fX0.old Rx0_4.out (g_) (by first | omega | (simp; done) | (simp; omega))
  have Bx1_5 : Hid (Bk f0 (x1.heap.size) #[.bool bp1, .slice ax1 lp1 cx1] 58) := Bx1_4.out.old (g_)
  have Rx1_5 : Hid (X1 f0 (x0.heap.size + 1) (x1.heap.size) #[.bool bp1, .slice ax1 lp1 cx1]) := fX1.old Rx1_4.out (g_) (by first | omega | (simp; done) | (simp; omega))
  have RG_5 : Hid (IR0 f0 (x1.heap.size + 1) (p1.heap.size) (.slice ag0 lr0 cg0)) := fIR0.old RG_4.out (g_) (by first | omega | (simp; done) | (simp; omega))
  clear HG_4 A0_4 A1_4 SS_4 Bx0_4 Rx0_4 Bx1_4 Rx1_4 RG_4
  clear g_
  have zBx0_0 := Bx0_5.out.c (i := 0) rfl
  have zBx0_1 := Bx0_5.out.c (i := 1) rfl
  have zA0_0 := A0_5.out.c (i := 0) rfl
  have zA0_1 := A0_5.out.c (i := 1) rfl
  have HAS : Hid (∀ W', Old f0 W' → (W'.cell? ⟨x0.heap.size, 0, none⟩ = some (.int .i64 Np0) ∧ W'.cell? ⟨x0.heap.size, 1, none⟩ = some (.slice ax0 lp0 cx0) ∧ W'.cell? ⟨w.heap.size, 0, none⟩ = some (.int .i64 Np0) ∧ W'.cell? ⟨w.heap.size, 1, none⟩ = some (.slice ap0 lp0 cp0))) := fun W' g => ⟨(Bx0_5.out.old g).c (i := 0) rfl, (Bx0_5.out.old g).c (i := 1) rfl, (A0_5.out.old g).c (i := 0) rfl, (A0_5.out.old g).c (i := 1) rfl⟩
  go_wp2_with fail
  go_region_held3 (fun W' => W'.cell? ⟨x0.heap.size, 0, none⟩ = some (.int .i64 Np0) ∧ W'.cell? ⟨x0.heap.size, 1, none⟩ = some (.slice ax0 lp0 cx0) ∧ W'.cell? ⟨w.heap.size, 0, none⟩ = some (.int .i64 Np0) ∧ W'.cell? ⟨w.heap.size, 1, none⟩ = some (.slice ap0 lp0 cp0)) (first | with_reducible exact HAS.out _ GE.out | with_reducible exact HAS.out _ GT.out | with_reducible exact HAS.out _ (Below.drew (Old.refl f0)) | with_reducible exact HAS.out _ (Old.refl f0)) (first
    | (go_at_call 26; refine (TO0.out _ (Below.drew HG_5.out)).mono ?_; rintro e wt ⟨y_, rfl, gt, ot⟩; obtain ⟨at_, ct_, rfl⟩ := hX0 _ _ _ _ ot; have GT : Hid (Old f0 wt) := Old.trans (Below.drew (Old.refl f0)) gt; have RT : Hid (X0 wt _ _ #[.int .i64 Np0, .slice at_ lp0 ct_]) := ot; clear gt ot)
    | (go_at_call 30; refine (ceq0 _ _ _ _ _ _ _ (fX0.old Rx0_5.out GT.out (by omega)) RT.out).mono ?_; rintro e v0 ⟨rfl, ge⟩; have GE : Hid (Old f0 v0) := Old.trans GT.out ge; clear ge)
    | fail)
  clear zBx0_0 zBx0_1 zA0_0 zA0_1
  have hsv0 := GE.out.size
  have HG_6 : Hid (Old w v0) := Old.trans HG_5.out (GE.out)
  have A0_6 : Hid (Bk v0 (w.heap.size) #[.int .i64 Np0, .slice ap0 lp0 cp0] 47) := A0_5.out.old (GE.out)
  have A1_6 : Hid (Bk v0 (w.heap.size + 1) #[.bool bp1, .slice ap1 lp1 cp1] 50) := A1_5.out.old (GE.out)
  have SS_6 : Hid (SR v0 (los) (his) (.slice as0 lr0 cs0)) := fSR.old SS_5.out (GE.out) (by first | omega | (simp; done) | (simp; omega))
  have Bx0_6 : Hid (Bk v0 (x0.heap.size) #[.int .i64 Np0, .slice ax0 lp0 cx0] 56) := Bx0_5.out.old (GE.out)
  have Rx0_6 : Hid (X0 v0 (ts.heap.size) (x0.heap.size) #[.int .i64 Np0, .slice ax0 lp0 cx0]) := fX0.old Rx0_5.out (GE.out) (by first | omega | (simp; done) | (simp; omega))
  have Bx1_6 : Hid (Bk v0 (x1.heap.size) #[.bool bp1, .slice ax1 lp1 cx1] 58) := Bx1_5.out.old (GE.out)
  have Rx1_6 : Hid (X1 v0 (x0.heap.size + 1) (x1.heap.size) #[.bool bp1, .slice ax1 lp1 cx1]) := fX1.old Rx1_5.out (GE.out) (by first | omega | (simp; done) | (simp; omega))
  have RG_6 : Hid (IR0 v0 (x1.heap.size + 1) (p1.heap.size) (.slice ag0 lr0 cg0)) := fIR0.old RG_5.out (GE.out) (by first | omega | (simp; done) | (simp; omega))
  clear HG_5 A0_5 A1_5 SS_5 Bx0_5 Rx0_5 Bx1_5 Rx1_5 RG_5
  clear GE GT RT HAS
  have zBx1_0 := Bx1_6.out.c (i := 0) rfl
  have zBx1_1 := Bx1_6.out.c (i := 1) rfl
  have zA1_0 := A1_6.out.c (i := 0) rfl
  have zA1_1 := A1_6.out.c (i := 1) rfl
  have HAS : Hid (∀ W', Old v0 W' → (W'.cell? ⟨x1.heap.size, 0, none⟩ = some (.bool bp1) ∧ W'.cell? ⟨x1.heap.size, 1, none⟩ = some (.slice ax1 lp1 cx1) ∧ W'.cell? ⟨w.heap.size + 1, 0, none⟩ = some (.bool bp1) ∧ W'.cell? ⟨w.heap.size + 1, 1, none⟩ = some (.slice ap1 lp1 cp1))) := fun W' g => ⟨(Bx1_6.out.old g).c (i := 0) rfl, (Bx1_6.out.old g).c (i := 1) rfl, (A1_6.out.old g).c (i := 0) rfl, (A1_6.out.old g).c (i := 1) rfl⟩
  go_wp2_with fail
  go_region_held3 (fun W' => W'.cell? ⟨x1.heap.size, 0, none⟩ = some (.bool bp1) ∧ W'.cell? ⟨x1.heap.size, 1, none⟩ = some (.slice ax1 lp1 cx1) ∧ W'.cell? ⟨w.heap.size + 1, 0, none⟩ = some (.bool bp1) ∧ W'.cell? ⟨w.heap.size + 1, 1, none⟩ = some (.slice ap1 lp1 cp1)) (first | with_reducible exact HAS.out _ GE.out | with_reducible exact HAS.out _ GT.out | with_reducible exact HAS.out _ (Below.drew (Old.refl v0)) | with_reducible exact HAS.out _ (Old.refl v0)) (first
    | (go_at_call 27; refine (TO1.out _ (Below.drew HG_6.out)).mono ?_; rintro e wt ⟨y_, rfl, gt, ot⟩; obtain ⟨at_, ct_, rfl⟩ := hX1 _ _ _ _ ot; have GT : Hid (Old v0 wt) := Old.trans (Below.drew (Old.refl v0)) gt; have RT : Hid (X1 wt _ _ #[.bool bp1, .slice at_ lp1 ct_]) := ot; clear gt ot)
    | (go_at_call 31; refine (ceq1 _ _ _ _ _ _ _ (fX1.old Rx1_6.out GT.out (by omega)) RT.out).mono ?_; rintro e v1 ⟨rfl, ge⟩; have GE : Hid (Old v0 v1) := Old.trans GT.out ge; clear ge)
    | fail)
  clear zBx1_0 zBx1_1 zA1_0 zA1_1
  have hsv1 := GE.out.size
  have HG_7 : Hid (Old w v1) := Old.trans HG_6.out (GE.out)
  have A0_7 : Hid (Bk v1 (w.heap.size) #[.int .i64 Np0, .slice ap0 lp0 cp0] 47) := A0_6.out.old (GE.out)
  have A1_7 : Hid (Bk v1 (w.heap.size + 1) #[.bool bp1, .slice ap1 lp1 cp1] 50) := A1_6.out.old (GE.out)
  have SS_7 : Hid (SR v1 (los) (his) (.slice as0 lr0 cs0)) := fSR.old SS_6.out (GE.out) (by first | omega | (simp; done) | (simp; omega))
  have Bx0_7 : Hid (Bk v1 (x0.heap.size) #[.int .i64 Np0, .slice ax0 lp0 cx0] 56) := Bx0_6.out.old (GE.out)
  have Rx0_7 : Hid (X0 v1 (ts.heap.size) (x0.heap.size) #[.int .i64 Np0, .slice ax0 lp0 cx0]) := fX0.old Rx0_6.out (GE.out) (by first | omega | (simp; done) | (simp; omega))
  have Bx1_7 : Hid (Bk v1 (x1.heap.size) #[.bool bp1, .slice ax1 lp1 cx1] 58) := Bx1_6.out.old (GE.out)
  have Rx1_7 : Hid (X1 v1 (x0.heap.size + 1) (x1.heap.size) #[.bool bp1, .slice ax1 lp1 cx1]) := fX1.old Rx1_6.out (GE.out) (by first | omega | (simp; done) | (simp; omega))
  have RG_7 : Hid (IR0 v1 (x1.heap.size + 1) (p1.heap.size) (.slice ag0 lr0 cg0)) := fIR0.old RG_6.out (GE.out) (by first | omega | (simp; done) | (simp; omega))
  clear HG_6 A0_6 A1_6 SS_6 Bx0_6 Rx0_6 Bx1_6 Rx1_6 RG_6
  clear GE GT RT HAS
  have zBx0_0 := Bx0_7.out.c (i := 0) rfl
  have zBx0_1 := Bx0_7.out.c (i := 1) rfl
  go_wp2_with fail
  refine (cmk0 _ _ _ _ Rx0_7.out).mono ?_
  rintro e y0 ⟨rfl, gm⟩
  clear zBx0_0 zBx0_1
  have hsy0 := gm.size
  have HG_8 : Hid (Old w y0) := Old.chg HG_7.out (gm) (by omega)
  have A0_8 : Hid (Bk y0 (w.heap.size) #[.int .i64 Np0, .slice ap0 lp0 cp0] 47) := A0_7.out.chg (gm) (by omega)
  have A1_8 : Hid (Bk y0 (w.heap.size + 1) #[.bool bp1, .slice ap1 lp1 cp1] 50) := A1_7.out.chg (gm) (by omega)
  have SS_8 : Hid (SR y0 (los) (his) (.slice as0 lr0 cs0)) := fSR.chg SS_7.out (gm) (by first | omega | (simp; done) | (simp; omega)) (by omega)
  have Bx0_8 : Hid (Bk y0 (x0.heap.size) #[.int .i64 Np0, .slice ax0 lp0 cx0] 56) := Bx0_7.out.chg (gm) (by omega)
  have Bx1_8 : Hid (Bk y0 (x1.heap.size) #[.bool bp1, .slice ax1 lp1 cx1] 58) := Bx1_7.out.chg (gm) (by omega)
  have Rx1_8 : Hid (X1 y0 (x0.heap.size + 1) (x1.heap.size) #[.bool bp1, .slice ax1 lp1 cx1]) := fX1.chg Rx1_7.out (gm) (by first | omega | (simp; done) | (simp; omega)) (by omega)
  have RG_8 : Hid (IR0 y0 (x1.heap.size + 1) (p1.heap.size) (.slice ag0 lr0 cg0)) := fIR0.chg RG_7.out (gm) (by first | omega | (simp; done) | (simp; omega)) (by omega)
  clear HG_7 A0_7 A1_7 SS_7 Bx0_7 Rx0_7 Bx1_7 Rx1_7 RG_7
  clear gm
  have zBx1_0 := Bx1_8.out.c (i := 0) rfl
  have zBx1_1 := Bx1_8.out.c (i := 1) rfl
  go_wp2_with fail
  refine (cmk1 _ _ _ _ Rx1_8.out).mono ?_
  rintro e y1 ⟨rfl, gm⟩
  clear zBx1_0 zBx1_1
  have hsy1 := gm.size
  have HG_9 : Hid (Old w y1) := Old.chg HG_8.out (gm) (by omega)
  have A0_9 : Hid (Bk y1 (w.heap.size) #[.int .i64 Np0, .slice ap0 lp0 cp0] 47) := A0_8.out.chg (gm) (by omega)
  have A1_9 : Hid (Bk y1 (w.heap.size + 1) #[.bool bp1, .slice ap1 lp1 cp1] 50) := A1_8.out.chg (gm) (by omega)
  have SS_9 : Hid (SR y1 (los) (his) (.slice as0 lr0 cs0)) := fSR.chg SS_8.out (gm) (by first | omega | (simp; done) | (simp; omega)) (by omega)
  have Bx0_9 : Hid (Bk y1 (x0.heap.size) #[.int .i64 Np0, .slice ax0 lp0 cx0] 56) := Bx0_8.out.chg (gm) (by omega)
  have Bx1_9 : Hid (Bk y1 (x1.heap.size) #[.bool bp1, .slice ax1 lp1 cx1] 58) := Bx1_8.out.chg (gm) (by omega)
  have RG_9 : Hid (IR0 y1 (x1.heap.size + 1) (p1.heap.size) (.slice ag0 lr0 cg0)) := fIR0.chg RG_8.out (gm) (by first | omega | (simp; done) | (simp; omega)) (by omega)
  clear HG_8 A0_8 A1_8 SS_8 Bx0_8 Bx1_8 Rx1_8 RG_8
  clear gm
  have dk : decide (k1 < 0) = false := decide_eq_false (by omega)
  go_wp2_with fail
  refine (cer0 _ _ _ _ _ _ _ RG_9.out SS_9.out).mono ?_
  rintro e h0 ⟨rfl, g_⟩
  have hsh0 := g_.size
  have HG_10 : Hid (Old w h0) := Old.trans HG_9.out (g_)
  have A0_10 : Hid (Bk h0 (w.heap.size) #[.int .i64 Np0, .slice ap0 lp0 cp0] 47) := A0_9.out.old (g_)
  have A1_10 : Hid (Bk h0 (w.heap.size + 1) #[.bool bp1, .slice ap1 lp1 cp1] 50) := A1_9.out.old (g_)
  have SS_10 : Hid (SR h0 (los) (his) (.slice as0 lr0 cs0)) := fSR.old SS_9.out (g_) (by first | omega | (simp; done) | (simp; omega))
  have Bx0_10 : Hid (Bk h0 (x0.heap.size) #[.int .i64 Np0, .slice ax0 lp0 cx0] 56) := Bx0_9.out.old (g_)
  have Bx1_10 : Hid (Bk h0 (x1.heap.size) #[.bool bp1, .slice ax1 lp1 cx1] 58) := Bx1_9.out.old (g_)
  have RG_10 : Hid (IR0 h0 (x1.heap.size + 1) (p1.heap.size) (.slice ag0 lr0 cg0)) := fIR0.old RG_9.out (g_) (by first | omega | (simp; done) | (simp; omega))
  clear HG_9 A0_9 A1_9 SS_9 Bx0_9 Bx1_9 RG_9
  clear g_
  go_wp2_with fail
  refine (cmr0 _ _ _ _ RG_10.out).mono ?_
  rintro e i0 ⟨rfl, gm, rm⟩
  have hsi0 := gm.size
  have HG_11 : Hid (Old w i0) := Old.chg HG_10.out (gm) (by omega)
  have A0_11 : Hid (Bk i0 (w.heap.size) #[.int .i64 Np0, .slice ap0 lp0 cp0] 47) := A0_10.out.chg (gm) (by omega)
  have A1_11 : Hid (Bk i0 (w.heap.size + 1) #[.bool bp1, .slice ap1 lp1 cp1] 50) := A1_10.out.chg (gm) (by omega)
  have SS_11 : Hid (SR i0 (los) (his) (.slice as0 lr0 cs0)) := fSR.chg SS_10.out (gm) (by first | omega | (simp; done) | (simp; omega)) (by omega)
  have Bx0_11 : Hid (Bk i0 (x0.heap.size) #[.int .i64 Np0, .slice ax0 lp0 cx0] 56) := Bx0_10.out.chg (gm) (by omega)
  have Bx1_11 : Hid (Bk i0 (x1.heap.size) #[.bool bp1, .slice ax1 lp1 cx1] 58) := Bx1_10.out.chg (gm) (by omega)
  clear HG_10 A0_10 A1_10 SS_10 Bx0_10 Bx1_10 RG_10
  have RG_11 : Hid (IR1 i0 (x1.heap.size + 1) (p1.heap.size) (.slice ag0 lr0 cg0)) := rm
  clear gm rm
  have dm0 : decide (m0 < 0) = false := decide_eq_false (by omega)
  have dmm : (m0 != m0) = false := by simp
  go_wp2_with fail
  refine (chr0 _ _ _ _ RG_11.out).mono ?_
  rintro e j0 ⟨rfl, g_⟩
  have hsj0 := g_.size
  have HG_12 : Hid (Old w j0) := Old.trans HG_11.out (g_)
  have A0_12 : Hid (Bk j0 (w.heap.size) #[.int .i64 Np0, .slice ap0 lp0 cp0] 47) := A0_11.out.old (g_)
  have A1_12 : Hid (Bk j0 (w.heap.size + 1) #[.bool bp1, .slice ap1 lp1 cp1] 50) := A1_11.out.old (g_)
  have SS_12 : Hid (SR j0 (los) (his) (.slice as0 lr0 cs0)) := fSR.old SS_11.out (g_) (by first | omega | (simp; done) | (simp; omega))
  have Bx0_12 : Hid (Bk j0 (x0.heap.size) #[.int .i64 Np0, .slice ax0 lp0 cx0] 56) := Bx0_11.out.old (g_)
  have Bx1_12 : Hid (Bk j0 (x1.heap.size) #[.bool bp1, .slice ax1 lp1 cx1] 58) := Bx1_11.out.old (g_)
  have RG_12 : Hid (IR1 j0 (x1.heap.size + 1) (p1.heap.size) (.slice ag0 lr0 cg0)) := fIR1.old RG_11.out (g_) (by first | omega | (simp; done) | (simp; omega))
  clear HG_11 A0_11 A1_11 SS_11 Bx0_11 Bx1_11 RG_11
  clear g_
  have zA0_0 := A0_12.out.c (i := 0) rfl
  have zA0_1 := A0_12.out.c (i := 1) rfl
  have zA1_0 := A1_12.out.c (i := 0) rfl
  have zA1_1 := A1_12.out.c (i := 1) rfl
  go_wp2_with fail
  refine reg9_WholesOfB j0 _ _ _ _ _ _ (fun W v => ∃ lo hi g, v = .agg g ∧ X0 W lo hi g ∧ hi ≤ W.heap.size) (fun W W' v h g => by obtain ⟨lo, hi, y, rfl, h1, h2⟩ := h; exact ⟨lo, hi, _, rfl, fX0.old h1 g h2, Nat.le_trans h2 g.size⟩) (fun W h => (TO0.out W (Old.trans HG_12.out h)).mono (fun e w' h => by obtain ⟨g, rfl, h1, h2⟩ := h; exact ⟨_, rfl, h1, _, _, g, rfl, h2, Nat.le_refl _⟩)) A0_12.out (fun W v => ∃ lo hi g, v = .agg g ∧ X1 W lo hi g ∧ hi ≤ W.heap.size) (fun W W' v h g => by obtain ⟨lo, hi, y, rfl, h1, h2⟩ := h; exact ⟨lo, hi, _, rfl, fX1.old h1 g h2, Nat.le_trans h2 g.size⟩) (fun W h => (TO1.out W (Old.trans HG_12.out h)).mono (fun e w' h => by obtain ⟨g, rfl, h1, h2⟩ := h; exact ⟨_, rfl, h1, _, _, g, rfl, h2, Nat.le_refl _⟩)) A1_12.out (fun W lo hi g0 g1 => IR0 W lo hi g0 ∧ g1 = .bool br1) (fun W W' lo hi g0 g1 h h1 h2 => ⟨fIR0 _ _ _ _ _ h.1 h1 h2, h.2⟩) (fun W v0 v1 hO H0 H1 => by obtain ⟨lo0, hi0, y0, rfl, x0, q0⟩ := H0; obtain ⟨lo1, hi1, y1, rfl, x1, q1⟩ := H1; exact (cim W _ _ _ _ _ _ x0 x1 (Old.trans HG_12.out hO)).mono (fun e w' h => by obtain ⟨g0, rfl, h1, h2⟩ := h; obtain ⟨a0_, c0_, hq⟩ := hIR0 _ _ _ _ h2; subst hq; exact ⟨_, _, rfl, h1, h2, rfl⟩)) _ _ _ (by first | decide | simp) rfl rfl ?_
  intro  lot hit q0 q1 u_0 u_1 u_2 u_3 u_4 u_5 u_6 u_7 ts2 gS loS_ hiS_ rS_ 
  obtain ⟨rS, rfl⟩ := rS_
  obtain ⟨at0, ct0, hq⟩ := hIR0 _ _ _ _ rS
  subst hq
  have h_t : j0.heap.size ≤ lot ∧ hit ≤ ts2.heap.size := ⟨loS_, hiS_⟩
  obtain ⟨hlot, hhit⟩ := h_t
  clear loS_ hiS_
  simp only [putAll, Act.put]
  clear zA0_0 zA0_1 zA1_0 zA1_1
  have HG_13 : Hid (Old w ts2) := Old.trans HG_12.out (gS)
  have A0_13 : Hid (Bk ts2 (w.heap.size) #[.int .i64 Np0, .slice ap0 lp0 cp0] 47) := A0_12.out.old (gS)
  have A1_13 : Hid (Bk ts2 (w.heap.size + 1) #[.bool bp1, .slice ap1 lp1 cp1] 50) := A1_12.out.old (gS)
  have SS_13 : Hid (SR ts2 (los) (his) (.slice as0 lr0 cs0)) := fSR.old SS_12.out (gS) (by first | omega | (simp; done) | (simp; omega))
  have Bx0_13 : Hid (Bk ts2 (x0.heap.size) #[.int .i64 Np0, .slice ax0 lp0 cx0] 56) := Bx0_12.out.old (gS)
  have Bx1_13 : Hid (Bk ts2 (x1.heap.size) #[.bool bp1, .slice ax1 lp1 cx1] 58) := Bx1_12.out.old (gS)
  have RG_13 : Hid (IR1 ts2 (x1.heap.size + 1) (p1.heap.size) (.slice ag0 lr0 cg0)) := fIR1.old RG_12.out (gS) (by first | omega | (simp; done) | (simp; omega))
  clear HG_12 A0_12 A1_12 SS_12 Bx0_12 Bx1_12 RG_12
  have HH_13 : Hid (IR0 ts2 (lot) (hit) (.slice at0 lr0 ct0)) := rS
  have hsts2 := gS.size
  clear gS rS 
  go_wp2_with fail
  refine (cer0 _ _ _ _ _ _ _ HH_13.out SS_13.out).mono ?_
  rintro e o0 ⟨rfl, g_⟩
  have hso0 : ts2.heap.size ≤ o0.heap.size := by have := g_.size; first | exact this | (simp at this; omega)
  have HG_14 : Hid (Old w o0) := Old.trans HG_13.out (g_)
  have A0_14 : Hid (Bk o0 (w.heap.size) #[.int .i64 Np0, .slice ap0 lp0 cp0] 47) := A0_13.out.old (g_)
  have A1_14 : Hid (Bk o0 (w.heap.size + 1) #[.bool bp1, .slice ap1 lp1 cp1] 50) := A1_13.out.old (g_)
  have SS_14 : Hid (SR o0 (los) (his) (.slice as0 lr0 cs0)) := fSR.old SS_13.out (g_) (by first | omega | (simp; done) | (simp; omega))
  have Bx0_14 : Hid (Bk o0 (x0.heap.size) #[.int .i64 Np0, .slice ax0 lp0 cx0] 56) := Bx0_13.out.old (g_)
  have Bx1_14 : Hid (Bk o0 (x1.heap.size) #[.bool bp1, .slice ax1 lp1 cx1] 58) := Bx1_13.out.old (g_)
  have RG_14 : Hid (IR1 o0 (x1.heap.size + 1) (p1.heap.size) (.slice ag0 lr0 cg0)) := fIR1.old RG_13.out (g_) (by first | omega | (simp; done) | (simp; omega))
  have HH_14 : Hid (IR0 o0 (lot) (hit) (.slice at0 lr0 ct0)) := fIR0.old HH_13.out (g_) (by first | omega | (simp; done) | (simp; omega))
  clear HG_13 A0_13 A1_13 SS_13 Bx0_13 Bx1_13 RG_13 HH_13
  clear g_
  go_wp2_with fail
  refine (chr0 _ _ _ _ RG_14.out).mono ?_
  rintro e n0 ⟨rfl, g_⟩
  have hsn0 := g_.size
  have HG_15 : Hid (Old w n0) := Old.trans HG_14.out (g_)
  have A0_15 : Hid (Bk n0 (w.heap.size) #[.int .i64 Np0, .slice ap0 lp0 cp0] 47) := A0_14.out.old (g_)
  have A1_15 : Hid (Bk n0 (w.heap.size + 1) #[.bool bp1, .slice ap1 lp1 cp1] 50) := A1_14.out.old (g_)
  have SS_15 : Hid (SR n0 (los) (his) (.slice as0 lr0 cs0)) := fSR.old SS_14.out (g_) (by first | omega | (simp; done) | (simp; omega))
  have Bx0_15 : Hid (Bk n0 (x0.heap.size) #[.int .i64 Np0, .slice ax0 lp0 cx0] 56) := Bx0_14.out.old (g_)
  have Bx1_15 : Hid (Bk n0 (x1.heap.size) #[.bool bp1, .slice ax1 lp1 cx1] 58) := Bx1_14.out.old (g_)
  have RG_15 : Hid (IR1 n0 (x1.heap.size + 1) (p1.heap.size) (.slice ag0 lr0 cg0)) := fIR1.old RG_14.out (g_) (by first | omega | (simp; done) | (simp; omega))
  have HH_15 : Hid (IR0 n0 (lot) (hit) (.slice at0 lr0 ct0)) := fIR0.old HH_14.out (g_) (by first | omega | (simp; done) | (simp; omega))
  clear HG_14 A0_14 A1_14 SS_14 Bx0_14 Bx1_14 RG_14 HH_14
  clear g_
  go_wp2_with fail
  go_ret
  exact ⟨rfl, HG_15.out⟩
end Go.Proofs.YtfgooclnohnkmaaGreatDoor
/- Proved: rows of rows as a law carries them: marks that are held still. -/
namespace Go.Proofs.YtfgooclnohnkmaaGreatDoor
open Go.ChangeShapes Go.WideShapes Go.ChangeAt Go.RowKit
set_option linter.unusedVariables false
set_option linter.unusedSimpArgs false
/-- rows with marks, in a struct -/
def XM (n : Bool) (k : Int) (xss : List (List Int)) (W : World) (lo hi : Nat) (g : Array Value) : Prop := ∃ a c, g = #[.bool n, .slice a xss.length c] ∧ OwM k xss W lo hi (.slice a xss.length c)
set_option maxHeartbeats 1000000 in
theorem kr_mark (n : Bool) (xss : List (List Int)) (k : Int) (w : World) (lo hi : Nat) (g : Array Value) (h : XR n xss w lo hi g) (hl : xss.length ≤ 1048576) (hr : ∀ r ∈ xss, r.length ≤ 1048576) (hk : 0 ≤ k) (hs : k + (offL xss xss.length : Int) ≤ 1073741824) :
    Calls Tryz.prog 33 #[.agg g, .int .i64 k] w fun e w' => e = .returned (.int .i64 (k + offL xss xss.length)) ∧ Chg w w' lo hi ∧ XM n k xss w' lo hi g := by
  obtain ⟨a0, cap0, rfl, o⟩ := h
  have HO : Hid (OwS xss (w.alloc (.cells #[.bool n, .slice a0 xss.length cap0] 58)) lo hi (.slice a0 xss.length cap0)) := (far_OwS xss).old o ((Old.refl w).alloc _) o.1
  have HA : Hid (Chg w (w.alloc (.cells #[.bool n, .slice a0 xss.length cap0] 58)) lo hi) := ((Old.refl w).alloc _).toChg lo hi
  have HR : Hid (∀ r ∈ xss, r.length ≤ 1048576) := hr
  have HS : Hid (k + (offL xss xss.length : Int) ≤ 1073741824) := hs
  clear o hr hs
  go_enter Tryz.func33, Tryz.ntmps33
  go_wp2_with fail
  refine (markIntSS_any xss _ k lo hi _ HO.out hl HR.out hk HS.out).mono ?_
  rintro e w1 ⟨rfl, g1, o1⟩
  have HG : Hid (Chg w w1 lo hi) := Chg.trans HA.out g1
  have HM : Hid (OwM k xss w1 lo hi (.slice a0 xss.length cap0)) := o1
  clear g1 o1
  go_wp2_with fail
  go_ret
  exact ⟨rfl, HG.out, _, _, rfl, HM.out⟩
end Go.Proofs.YtfgooclnohnkmaaGreatDoor
/- Proved: a region that draws its order and of which every operation writes a slot of its own and nothing that was there: what each operation is worth once those that it waits for are done; no function of the program. -/
namespace Go.Proofs.YtfgooclnohnkmaaGreatDoor
open Go.ChangeShapes Go.WideShapes Go.ChangeAt Go.RowKit
set_option linter.unusedSimpArgs false
set_option linter.unusedVariables false
/-- the frame beside the region's own slots is as it was -/
structure Fram (n : Nat) (slot : Nat → Nat) (a0 a : Act) : Prop where
  size : a.tmps.size = a0.tmps.size
  defers : a.defers = a0.defers
  same : ∀ s, (∀ i, i < n → slot i ≠ s) → a.eval (.tmp s) = a0.eval (.tmp s)
/-- each operation, in any world that has grown, leaves in its slot what is said of it -/
def StepsO (P : Program) (Q : Exit → Act → World → Prop) (w0 : World) (n : Nat) (slot : Nat → Nat) (a0 : Act) (Qs : Nat → World → Value → Prop) : Nat → List Oper → Prop
  | _, [] => True
  | i, o :: os => (∀ a W, Old w0 W → Fram n slot a0 a → (∀ e ∈ o.after.toList, Region.binds .any e = true → Qs e.on W (a.eval (.tmp (slot e.on)))) → o.wp P a W (fun a' W' => ∃ v, a' = a.put (some (slot i)) v ∧ Old W W' ∧ Qs i W' v) Q) ∧ StepsO P Q w0 n slot a0 Qs (i + 1) os
theorem eval_put_same (a : Act) (s : Nat) (v : Value) (h : s < a.tmps.size) : (a.put (some s) v).eval (.tmp s) = v := by
  simp [Act.put, Act.eval, Array.getD, h]
theorem eval_put_other (a : Act) (s t : Nat) (v : Value) (h : s ≠ t) : (a.put (some s) v).eval (.tmp t) = a.eval (.tmp t) := by
  have e : (a.tmps.setIfInBounds s v)[t]? = a.tmps[t]? := Array.getElem?_setIfInBounds_ne h
  simp only [Act.put, Act.eval]
  rw [Array.getD_eq_getD_getElem?, Array.getD_eq_getD_getElem?, e]
/-- an operation that is worth a value -/
theorem op_val {P : Program} {a : Act} {W : World} {K : Act → World → Prop} {Q : Exit → Act → World → Prop} {o : Oper} (ρ : Operand → Value) (hρ : a.eval = ρ) (v : Value) (hr : (execOp ρ o).run P W = .ok (.value v) W) (hK : K (a.put o.dst v) W) : o.wp P a W K Q := by
  unfold Oper.wp
  rw [hρ, hr]
  exact hK
end Go.Proofs.YtfgooclnohnkmaaGreatDoor
/- Proved: a region that draws its order and ends in one operation that waits for all others; and a frame told by its slots; no function of the program. -/
namespace Go.Proofs.YtfgooclnohnkmaaGreatDoor
open Go.ChangeShapes Go.WideShapes Go.ChangeAt Go.RowKit
set_option linter.unusedSimpArgs false
set_option linter.unusedVariables false
theorem getKey_map (slot : Nat → Nat) (us : Nat → Value) (s : Nat) : ∀ (l : List Nat), (∀ i j, i ∈ l → j ∈ l → slot i = slot j → i = j) → (∀ i, i ∈ l → slot i = s → getKey (l.map fun i => (slot i, us i)) s = some (us i)) ∧ ((∀ i, i ∈ l → slot i ≠ s) → getKey (l.map fun i => (slot i, us i)) s = none)
  | [], _ => ⟨fun i h => by simp at h, fun _ => rfl⟩
  | x :: l, hinj => by
    obtain ⟨h1, h2⟩ := getKey_map slot us s l (fun i j hi hj => hinj i j (by simp [hi]) (by simp [hj]))
    refine ⟨fun i hi hs => ?_, fun h => ?_⟩
    · show (if slot x = s then some (us x) else getKey (l.map fun i => (slot i, us i)) s) = _
      by_cases hx : slot x = s
      · rw [if_pos hx]
        have : i = x := hinj i x hi (by simp) (hs.trans hx.symm)
        rw [this]
      · rw [if_neg hx]
        rcases List.mem_cons.1 hi with h3 | h3
        · subst h3; exact absurd hs hx
        · exact h1 i h3 hs
    · show (if slot x = s then some (us x) else getKey (l.map fun i => (slot i, us i)) s) = none
      rw [if_neg (h x (by simp))]
      exact h2 (fun i hi => h i (by simp [hi]))
theorem act_ext {a b : Act} (hs : a.tmps.size = b.tmps.size) (hd : a.defers = b.defers) (h : ∀ s, s < a.tmps.size → a.eval (.tmp s) = b.eval (.tmp s)) : a = b := by
  cases a with
  | mk ta da =>
    cases b with
    | mk tb db =>
      simp only at hs hd h
      subst hd
      congr 1
      apply Array.ext hs
      intro i h1 h2
      have := h i h1
      simpa [Act.eval, Array.getD, h1, h2] using this
theorem putAll_defers (a : Act) : ∀ l, (putAll a l).defers = a.defers
  | [] => rfl
  | (t, u) :: l => by simp [putAll, Act.put, putAll_defers a l]
/-- a frame that differs in some slots alone is the old one with those written anew -/
theorem fram_put {n : Nat} {slot : Nat → Nat} {a0 a : Act} (hF : Fram n slot a0 a) (hinj : ∀ i j, i < n → j < n → slot i = slot j → i = j) : a = putAll a0 ((List.range n).map fun i => (slot i, a.eval (.tmp (slot i)))) := by
  refine act_ext (by rw [putAll_size]; exact hF.size) (by rw [putAll_defers]; exact hF.defers) (fun s hs => ?_)
  rw [eval_putAll a0 s (by rw [← hF.size]; exact hs)]
  obtain ⟨h1, h2⟩ := getKey_map slot (fun i => a.eval (.tmp (slot i))) s (List.range n) (fun i j hi hj => hinj i j (by simpa using hi) (by simpa using hj))
  by_cases hx : ∃ i, i < n ∧ slot i = s
  · obtain ⟨i, hi, rfl⟩ := hx
    rw [h1 i (by simpa using hi) rfl]
    rfl
  · have hn : ∀ i, i < n → slot i ≠ s := fun i hi e => hx ⟨i, hi, e⟩
    rw [h2 (fun i hi => hn i (by simpa using hi))]
    exact hF.same s hn
end Go.Proofs.YtfgooclnohnkmaaGreatDoor
/- Proved: a region that draws its order, of which one operation turns what was there (an append) once all others are done, and one more hands on what it told; no function of the program. -/
namespace Go.Proofs.YtfgooclnohnkmaaGreatDoor
open Go.ChangeShapes Go.WideShapes Go.ChangeAt Go.RowKit
set_option linter.unusedSimpArgs false
set_option linter.unusedVariables false
/-- what an operation waits for -/
def depsO (ops : Array Oper) (i : Nat) : List Nat := match ops[i]? with
  | some o => (o.after.toList.filter (fun e => Region.binds .any e)).map (·.on)
  | none => []
def nextS (ops : Array Oper) (n : Nat) (S : List Nat) : List Nat := (List.range n).filter (fun i => S.contains i || S.any (fun s => (depsO ops s).contains i))
def closS (ops : Array Oper) (n : Nat) : Nat → List Nat → List Nat
  | 0, S => S
  | k + 1, S => closS ops n k (nextS ops n S)
/-- what is done has all done that it waits for -/
def Done (ops : Array Oper) (d : Nat → Bool) : Prop := ∀ i, d i = true → ∀ j ∈ depsO ops i, d j = true
theorem nextS_done {ops : Array Oper} {n : Nat} {d : Nat → Bool} (h : Done ops d) {S : List Nat} (hS : ∀ i ∈ S, d i = true) : ∀ i ∈ nextS ops n S, d i = true := by
  intro i hi
  unfold nextS at hi
  have h2 := (List.mem_filter.1 hi).2
  rw [Bool.or_eq_true] at h2
  rcases h2 with h3 | h3
  · exact hS i (by simpa using h3)
  · obtain ⟨s, hs, h4⟩ := List.any_eq_true.1 h3
    exact h s (hS s hs) i (by simpa using h4)
theorem closS_done {ops : Array Oper} {n : Nat} {d : Nat → Bool} (h : Done ops d) : ∀ k S, (∀ i ∈ S, d i = true) → ∀ i ∈ closS ops n k S, d i = true
  | 0, S, hS => hS
  | k + 1, S, hS => closS_done h k _ (nextS_done h hS)
theorem mem_depsO {ops : Array Oper} {i : Nat} {o : Oper} (ho : ops[i]? = some o) (j : Nat) : j ∈ depsO ops i ↔ ∃ e ∈ o.after.toList, Region.binds .any e = true ∧ e.on = j := by
  unfold depsO
  rw [ho]
  simp only [List.mem_map, List.mem_filter]
  constructor
  · rintro ⟨e, ⟨h1, h2⟩, h3⟩; exact ⟨e, h1, h2, h3⟩
  · rintro ⟨e, h1, h2, h3⟩; exact ⟨e, ⟨h1, h2⟩, h3⟩
theorem Done.upd {ops : Array Oper} {d : Nat → Bool} (h : Done ops d) {i : Nat} {o : Oper} (ho : ops[i]? = some o) (hd : ∀ e ∈ o.after.toList, Region.binds .any e = true → d e.on = true) : Done ops (upd d i) := by
  intro k hk j hj
  by_cases hji : j = i
  · subst hji; exact upd_same d j
  · rw [upd_other d hji]
    by_cases hki : k = i
    · subst hki
      obtain ⟨e, h1, h2, h3⟩ := (mem_depsO ho j).1 hj
      rw [← h3]
      exact hd e h1 h2
    · rw [upd_other d hki] at hk
      exact h k hk j hj
theorem wp_region_turn {P : Program} {id : Nat} {l : List Oper} {Q : Exit → Act → World → Prop} {a0 : Act} {w0 : World} (n : Nat) {t f : Oper} (hn : l.length = n + 2) (ht : l[n]? = some t) (hf : l[n + 1]? = some f) (hm : P.follows .mixedOrders = true)
    (hord : (List.range l.toArray.size).all (fun i => ((l.toArray[i]?).map (fun o => o.after.all fun e => !Region.binds .any e || decide (e.on < i))).getD true) = true)
    (hg : l.all (fun o => o.guard.isNone) = true)
    (hall : (List.range n).all (fun i => (closS l.toArray n n (depsO l.toArray n)).contains i) = true)
    (hft : (depsO l.toArray (n + 1)).contains n = true)
    (slot : Nat → Nat) (hslot : ∀ i, i < n + 2 → slot i < a0.tmps.size) (hinj : ∀ i j, i < n + 2 → j < n + 2 → slot i = slot j → i = j)
    (Qs : Nat → World → Value → Prop) (hQ : ∀ i W W' v, Qs i W v → Old W W' → Qs i W' v)
    (QT : World → Value → Prop)
    (hstep : StepsO P Q w0 (n + 1) slot a0 Qs 0 (l.take n))
    (hturn : ∀ a W, Old w0 W → Fram (n + 1) slot a0 a → (∀ i, i < n → Qs i W (a.eval (.tmp (slot i)))) → t.wp P a W (fun a' W' => ∃ v, a' = a.put (some (slot n)) v ∧ QT W' v) Q)
    (hlast : ∀ a W v, a.eval (.tmp (slot n)) = v → f.wp P a W (fun a' W' => a' = a.put (some (slot (n + 1))) v ∧ W' = W) Q)
    (hdone : ∀ a W, Fram (n + 2) slot a0 a → QT W (a.eval (.tmp (slot (n + 1)))) → Q .normal a W) :
    (Code.region id l.toArray true).wp P Q a0 w0 := by
  have hsz : l.toArray.size = n + 2 := by simpa using hn
  have hon : ∀ i o, l.toArray[i]? = some o → ∀ e ∈ o.after.toList, Region.binds .any e = true → e.on < i := by
    intro i o ho e he hb
    have hi : i < l.toArray.size := (Array.getElem?_eq_some_iff.1 ho).1
    have h1 := List.all_eq_true.1 hord i (by simpa using hi)
    rw [ho] at h1
    simp only [Option.map_some, Option.getD_some] at h1
    rw [Array.all_eq_true'] at h1
    have h2 := h1 e (by simpa using he)
    rw [hb] at h2
    simpa using h2
  let I : (Nat → Bool) → Act → World → Prop := fun d a W => Fram (n + 2) slot a0 a ∧ (d (n + 1) = false → Fram (n + 1) slot a0 a) ∧ Done l.toArray d ∧
    (d n = false → Old w0 W ∧ d (n + 1) = false ∧ ∀ i, i < n → d i = true → Qs i W (a.eval (.tmp (slot i)))) ∧
    (d n = true → (∀ i, i < n → d i = true) ∧ QT W (a.eval (.tmp (slot n))) ∧ (d (n + 1) = true → a.eval (.tmp (slot (n + 1))) = a.eval (.tmp (slot n))))
  have fput : ∀ a v i, i < n + 2 → Fram (n + 2) slot a0 a → Fram (n + 2) slot a0 (a.put (some (slot i)) v) := fun a v i hi hF =>
    ⟨by simp [Act.put, hF.size], by simp [Act.put, hF.defers], fun s hs => by rw [eval_put_other _ _ _ _ (hs i hi)]; exact hF.same s hs⟩
  have fput1 : ∀ a v i, i < n + 1 → Fram (n + 1) slot a0 a → Fram (n + 1) slot a0 (a.put (some (slot i)) v) := fun a v i hi hF =>
    ⟨by simp [Act.put, hF.size], by simp [Act.put, hF.defers], fun s hs => by rw [eval_put_other _ _ _ _ (hs i hi)]; exact hF.same s hs⟩
  refine wp_region_inv hm I hord ⟨⟨rfl, rfl, fun _ _ => rfl⟩, (fun _ => ⟨rfl, rfl, fun _ _ => rfl⟩), (fun i h => by cases h), (fun _ => ⟨Below.drew (Old.refl w0), rfl, (fun i _ h => by cases h)⟩), (fun h => by cases h)⟩ ?_ ?_
  · intro i o ho d a W hI hdi hd
    have hgn := List.all_eq_true.1 hg o (List.mem_of_getElem? (by simpa using ho))
    have hw : Region.wanted o (yielded l.toArray a.tmps) = true := by
      cases h : o.guard with
      | none => simp [Region.wanted, h]
      | some g => rw [h] at hgn; cases hgn
    rw [if_pos hw]
    have hi : i < n + 2 := by
      have := (Array.getElem?_eq_some_iff.1 ho).1
      omega
    obtain ⟨hF, hE, hC, hA, hB⟩ := hI
    have hC' := hC.upd ho hd
    rcases Nat.lt_trichotomy i n with h1 | h1 | h1
    · -- ahead of the turn
      cases hdn : d n with
      | true =>
        have := (hB hdn).1 i h1
        rw [this] at hdi
        cases hdi
      | false =>
        obtain ⟨g, hf0, hq⟩ := hA hdn
        have key : ∀ (m : List Oper) (k : Nat), StepsO P Q w0 (n + 1) slot a0 Qs k m → ∀ (j : Nat) (o : Oper), m[j]? = some o → ∀ (a : Act) (W : World), Old w0 W → Fram (n + 1) slot a0 a → (∀ e ∈ o.after.toList, Region.binds .any e = true → Qs e.on W (a.eval (.tmp (slot e.on)))) → o.wp P a W (fun a' W' => ∃ v, a' = a.put (some (slot (k + j))) v ∧ Old W W' ∧ Qs (k + j) W' v) Q := by
          intro m
          induction m with
          | nil => intro k _ j o h; simp at h
          | cons x m ih =>
            intro k hs j o hj
            cases j with
            | zero =>
              simp at hj
              subst hj
              exact hs.1
            | succ j =>
              have := ih (k + 1) hs.2 j o (by simpa using hj)
              rw [show k + 1 + j = k + (j + 1) by omega] at this
              exact this
        have hst := key (l.take n) 0 hstep i o (by rw [List.getElem?_take, if_pos h1]; simpa using ho) a W g (hE hf0) (fun e he hb => hq e.on (by have := hon i o ho e he hb; omega) (hd e he hb))
        rw [Nat.zero_add] at hst
        refine Oper.wp_mono ?_ hst
        rintro a' W' ⟨v, rfl, g', hv⟩
        refine ⟨fput a v i hi hF, (fun _ => fput1 a v i (by omega) (hE hf0)), hC', (fun _ => ⟨Old.trans g g', (by rw [upd_other d (by omega)]; exact hf0), (fun j hj hdj => ?_)⟩), (fun h => by rw [upd_other d (by omega), hdn] at h; cases h)⟩
        by_cases hji : j = i
        · subst hji
          rw [eval_put_same _ _ _ (by rw [hF.size]; exact hslot j hi)]
          exact hv
        · rw [eval_put_other _ _ _ _ (fun e => hji (hinj i j hi (by omega) e).symm)]
          rw [upd_other d hji] at hdj
          exact hQ j W W' _ (hq j hj hdj) g'
    · subst h1
      have hot : o = t := by
        have : l[i]? = some o := by simpa using ho
        rw [ht] at this
        exact (Option.some.inj this).symm
      subst hot
      obtain ⟨g, hf0, hq⟩ := hA hdi
      have hpre : ∀ j, j < i → d j = true := fun j hj => by
        have h2 := List.all_eq_true.1 hall j (by simpa using hj)
        exact closS_done hC i _ (fun s hs => by
          obtain ⟨e, e1, e2, e3⟩ := (mem_depsO ho s).1 hs
          rw [← e3]
          exact hd e e1 e2) j (by simpa using h2)
      refine Oper.wp_mono ?_ (hturn a W g (hE hf0) (fun j hj => hq j hj (hpre j hj)))
      rintro a' W' ⟨v, rfl, hv⟩
      refine ⟨fput a v i hi hF, (fun _ => fput1 a v i (by omega) (hE hf0)), hC', (fun h => by rw [upd_same] at h; cases h), (fun _ => ⟨(fun j hj => by rw [upd_other d (by omega)]; exact hpre j hj), ?_, (fun h => ?_)⟩)⟩
      · rw [eval_put_same _ _ _ (by rw [hF.size]; exact hslot i hi)]
        exact hv
      · rw [upd_other d (by omega), hf0] at h
        cases h
    · obtain rfl : i = n + 1 := by omega
      have hof : o = f := by
        have : l[n + 1]? = some o := by simpa using ho
        rw [hf] at this
        exact (Option.some.inj this).symm
      subst hof
      have hdn : d n = true := by
        obtain ⟨e, e1, e2, e3⟩ := (mem_depsO ho n).1 (by simpa using hft)
        rw [← e3]
        exact hd e e1 e2
      obtain ⟨b1, b2, _⟩ := hB hdn
      refine Oper.wp_mono ?_ (hlast a W _ rfl)
      rintro a' W' ⟨rfl, rfl⟩
      have hne : slot (n + 1) ≠ slot n := fun e => by have := hinj (n + 1) n (by omega) (by omega) e; omega
      refine ⟨fput a _ (n + 1) hi hF, (fun h => by rw [upd_same] at h; cases h), hC', (fun h => by rw [upd_other d (by omega), hdn] at h; cases h), (fun _ => ⟨(fun j hj => by rw [upd_other d (by omega)]; exact b1 j hj), ?_, (fun _ => ?_)⟩)⟩
      · rw [eval_put_other _ _ _ _ hne]
        exact b2
      · rw [eval_put_same _ _ _ (by rw [hF.size]; exact hslot (n + 1) hi), eval_put_other _ _ _ _ hne]
  · intro d a W hd hI
    obtain ⟨hF, _, hC, hA, hB⟩ := hI
    obtain ⟨b1, b2, b3⟩ := hB (hd n (by omega))
    refine hdone a W hF ?_
    rw [b3 (hd (n + 1) (by omega))]
    exact b2
end Go.Proofs.YtfgooclnohnkmaaGreatDoor
/- Proved: the two drawn regions of the model's product in a ring: a number is added to one place, or taken away. -/
namespace Go.Proofs.YtfgooclnohnkmaaGreatDoor
open Go.ChangeShapes Go.WideShapes Go.ChangeAt Go.RowKit
set_option linter.unusedVariables false
set_option linter.unusedSimpArgs false
def regionAtmul (n : Nat) : Code → Option Code
  | .region i ops b => if i = n then some (.region i ops b) else none
  | .seq a b => match regionAtmul n a with
    | some c => some c
    | none => regionAtmul n b
  | .block _ c => regionAtmul n c
  | .loop c => regionAtmul n c
  | .cond _ a b => match regionAtmul n a with
    | some c => some c
    | none => regionAtmul n b
  | _ => none
end Go.Proofs.YtfgooclnohnkmaaGreatDoor
/- Proved: rows of rows that grow row by row. -/
namespace Go.Proofs.YtfgooclnohnkmaaGreatDoor
open Go.ChangeShapes Go.WideShapes Go.ChangeAt Go.RowKit
open M1
set_option linter.unusedVariables false
set_option linter.unusedSimpArgs false
theorem getD_app1 (yss : List (List Int)) (r : List Int) (j : Nat) (h : j < yss.length) : (yss ++ [r]).getD j [] = yss.getD j [] := by
  simp [List.getD, List.getElem?_append_left h]
theorem getD_app2 (yss : List (List Int)) (r : List Int) : (yss ++ [r]).getD yss.length [] = r := by
  simp [List.getD]
theorem OwS.app {yss : List (List Int)} {wr W : World} {lo : Nat} {x : Value} {r : List Int} {a : Option Addr} {c : Nat} (h : OwS yss wr lo wr.heap.size x) (hlo : lo ≤ wr.heap.size) (g : Old wr W) (o : Own W wr.heap.size (.slice a r.length c) r) (hc : r.length ≤ c) :
    ∃ vs, W.ownsRow lo 23 1 x yss.length vs ∧ (∀ v' w', w'.ownsRow lo 23 1 v' (yss.length + 1) (vs ++ [.slice a r.length c]) → W.grownBy w' x.ownBlock → (v'.ownBlock = x.ownBlock ∨ v'.ownBlock = some W.heap.size) → OwS (yss ++ [r]) w' lo w'.heap.size v') := by
  have key : ∃ vs : List Value, W.ownsRow lo 23 1 x yss.length vs ∧ vs.length = yss.length ∧ (∀ p, x.ownBlock = some p → p < wr.heap.size)
      ∧ (∀ j, j < yss.length → ∃ a c, vs[j]? = some (.slice a (yss.getD j []).length c) ∧ (yss.getD j []).length ≤ c ∧ Own wr lo (.slice a (yss.getD j []).length c) (yss.getD j []) ∧ (∀ b, (Value.slice a (yss.getD j []).length c).ownBlock = some b → x.ownBlock ≠ some b))
      ∧ (∀ (i j : Nat) (x y : Value) (b : Nat), i < j → vs[i]? = some x → vs[j]? = some y → x.ownBlock = some b → y.ownBlock = some b → False) := by
    obtain ⟨hh, ⟨e, e2⟩ | ⟨p, cap, vs, e, hcap, hl, hhi, ho, hvl, hj, hd⟩⟩ := h
    · subst e e2
      refine ⟨[], ⟨rfl, Or.inl ⟨rfl, rfl⟩⟩, rfl, (fun p hp => by cases hp), (fun j hj => by simp at hj), (fun i j x y b hij hx => by simp at hx)⟩
    · subst e
      refine ⟨vs, ?_, hvl, fun q hq => ?_, fun j hjl => ?_, hd⟩
      · refine ⟨ho.1, ?_⟩
        rcases ho.2 with ⟨hn, _⟩ | ⟨p', cap', cur, e', hb', hgg, rest⟩
        · cases hn
        · refine .inr ⟨p', cap', cur, e', hb', ?_, rest⟩
          rw [g.block p' (Array.getElem?_eq_some_iff.1 hgg).1]
          exact hgg
      · simp only [Value.ownBlock, Option.some.injEq] at hq
        omega
      · obtain ⟨a2, c2, e3, hc2, oj, hb2⟩ := hj j hjl
        refine ⟨a2, c2, e3, hc2, oj.1, fun b hb hx => hb2 b hb ?_⟩
        simp only [Value.ownBlock, Option.some.injEq] at hx
        exact hx.symm
  obtain ⟨vs, ho, hvl, hp, hj, hd⟩ := key
  refine ⟨vs, ho, fun v' w' ho' gr hv' => ?_⟩
  have hsz := g.size
  have hsz' := gr.size
  have hrow : ∀ j, j < yss.length → ∃ a c, vs[j]? = some (.slice a (yss.getD j []).length c) ∧ (yss.getD j []).length ≤ c ∧ Own w' lo (.slice a (yss.getD j []).length c) (yss.getD j []) ∧ (∀ b, (Value.slice a (yss.getD j []).length c).ownBlock = some b → b < wr.heap.size ∧ v'.ownBlock ≠ some b) := fun j hjl => by
    obtain ⟨a2, c2, e3, hc2, oj, hb2⟩ := hj j hjl
    refine ⟨a2, c2, e3, hc2, Own.by_ (oj.old g) gr (fun q y hx hy hxy => ?_), fun b hb => ⟨(oj.lt b hb).2, fun hx => ?_⟩⟩
    · subst hxy
      exact hb2 q hx hy
    · rcases hv' with e | e
      · exact hb2 b hb (e.symm.trans hx)
      · rw [e] at hx
        have := (oj.lt b hb).2
        simp only [Option.some.injEq] at hx
        omega
  have hnew : Own w' lo (.slice a r.length c) r := Own.low (Own.by_ o gr (fun q y hx hy hxy => by
    subst hxy
    have h1 := (o.lt q hx).1
    have h2 := hp q hy
    omega)) hlo
  have hnewb : ∀ b, (Value.slice a r.length c).ownBlock = some b → wr.heap.size ≤ b ∧ b < W.heap.size ∧ v'.ownBlock ≠ some b := fun b hb => by
    obtain ⟨h1, h2⟩ := o.lt b hb
    refine ⟨h1, h2, fun hx => ?_⟩
    rcases hv' with e | e
    · have := hp b (e.symm.trans hx)
      omega
    · rw [e] at hx
      simp only [Option.some.injEq] at hx
      omega
  have ho2 := ho'
  rcases ho'.2 with ⟨_, h0⟩ | ⟨p', cap', cur, e', hb', hgg, hnc, rest⟩
  · omega
  subst e'
  have hlt' : p' < w'.heap.size := (Array.getElem?_eq_some_iff.1 hgg).1
  refine ⟨Nat.le_refl _, Or.inr ⟨p', cap', vs ++ [.slice a r.length c], by simp, by simpa using hnc, hb', hlt', by simpa using ho2, by simp [hvl], fun j hjl => ?_, fun i j x y b hij hx hy hbx hby => ?_⟩⟩
  · simp at hjl
    rcases Nat.lt_or_ge j yss.length with h1 | h1
    · rw [getD_app1 yss r j h1]
      obtain ⟨a2, c2, e3, hc2, oj, hb2⟩ := hrow j h1
      refine ⟨a2, c2, by rw [List.getElem?_append_left (by omega)]; exact e3, hc2, ⟨oj, Nat.le_refl _, fun b hb => (oj.lt b hb).2⟩, fun b hb hx => (hb2 b hb).2 ?_⟩
      rw [hx]
      rfl
    · obtain rfl : j = yss.length := by omega
      rw [getD_app2 yss r]
      refine ⟨a, c, by rw [← hvl]; simp, hc, ⟨hnew, Nat.le_refl _, fun b hb => (hnew.lt b hb).2⟩, fun b hb hx => (hnewb b hb).2.2 ?_⟩
      rw [hx]
      rfl
  · have hjl : j < vs.length + 1 := by
      have := (List.getElem?_eq_some_iff.1 hy).1
      simpa using this
    rcases Nat.lt_or_ge j vs.length with h1 | h1
    · rw [List.getElem?_append_left (by omega)] at hx hy
      exact hd i j x y b hij hx hy hbx hby
    · obtain rfl : j = vs.length := by omega
      rw [List.getElem?_append_left (by omega)] at hx
      simp at hy
      subst hy
      obtain ⟨a2, c2, e3, hc2, oj, hb2⟩ := hrow i (by omega)
      rw [e3] at hx
      obtain rfl := Option.some.inj hx
      have h3 := (hb2 b hbx).1
      have h4 := (hnewb b hby).1
      omega
theorem take_succL (xs : List (List Int)) (k : Nat) (h : k < xs.length) : xs.take (k + 1) = xs.take k ++ [xs.getD k []] := by
  rw [List.take_add_one]
  simp [List.getD, h]
end Go.Proofs.YtfgooclnohnkmaaGreatDoor
/- Proved: rows added, as the model makes them. -/
namespace Go.Proofs.YtfgooclnohnkmaaGreatDoor
open Go.ChangeShapes Go.WideShapes Go.ChangeAt Go.RowKit
open M1
set_option linter.unusedVariables false
set_option linter.unusedSimpArgs false
theorem one_sl (a : Option Addr) (n c : Nat) : ∀ u ∈ [Value.slice a n c], u.oneCell' = true := by simp [Value.oneCell']
end Go.Proofs.YtfgooclnohnkmaaGreatDoor
