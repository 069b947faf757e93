/- Proved: the walk of the statement FnExactRowsOf, under what each function that it calls does. -/
import Derived.Test.YtfgooclnohnkmaaDoorNC
import Derived.Deep.RegionWith
import Derived.Deep.RegionHeld3
import Derived.Deep.DeepCutAuto
namespace Go.Proofs.YtfgooclnohnkmaaDoor
open Go.ChangeShapes Go.WideShapes Go.ChangeAt Go.RowKit
set_option linter.unusedVariables false
set_option linter.unusedSimpArgs false
set_option maxRecDepth 100000 in
set_option maxHeartbeats 16000000 in
theorem law9_RowsOf (w : World) (Np0 : Int) (lp0 : Nat) (ap0 : Option Addr) (cp0 : Nat) (lp1 : Nat) (ap1 : Option Addr) (cp1 : Nat) (br0 : Bool) (lr0 : Nat) (br1 : Bool) (L0 L1 : Int)
    (csz0 : ∀ W, Old w W → Calls Tryd.prog 27 #[.agg #[.int .i64 Np0, .slice ap0 lp0 cp0], .int .i64 1048576] W fun e w' => e = .returned (.int .i64 L0) ∧ Old W w')
    (csz1 : ¬ L0 < 0 → ∀ W, Old w W → Calls Tryd.prog 28 #[.slice ap1 lp1 cp1, .int .i64 L0] W fun e w' => e = .returned (.int .i64 L1) ∧ Old W w')
    (X0 : World → Nat → Nat → Array Value → Prop) (fX0 : Far X0) (hX0 : ∀ W lo hi g, X0 W lo hi g → ∃ a c, g = #[.int .i64 Np0, .slice a lp0 c])
    (cto0 : ¬ L0 < 0 → ¬ L1 < 0 → ∀ W, Old w W → Calls Tryd.prog 30 #[.agg #[.int .i64 Np0, .slice ap0 lp0 cp0]] W fun e w' => ∃ g, e = .returned (.agg g) ∧ Old W w' ∧ X0 w' W.heap.size w'.heap.size g)
    (ceq0 : ¬ L0 < 0 → ¬ L1 < 0 → ∀ W lo hi g lo' hi' g', X0 W lo hi g → X0 W lo' hi' g' → Calls Tryd.prog 34 #[.agg g, .agg g'] W fun e w' => e = .returned (.bool true) ∧ Old W w')
    (k0 : Int) (hk0 : 0 ≤ k0) (cmk0 : ¬ L0 < 0 → ¬ L1 < 0 → ∀ W lo hi g, X0 W lo hi g → Calls Tryd.prog 35 #[.agg g, .int .i64 1] W fun e w' => e = .returned (.int .i64 k0) ∧ Chg W w' lo hi)
    (X1 : World → Nat → Nat → Value → Prop) (fX1 : Far X1) (hX1 : ∀ W lo hi g, X1 W lo hi g → ∃ a c, g = (.slice a lp1 c))
    (cto1 : ¬ L0 < 0 → ¬ L1 < 0 → ∀ W, Old w W → Calls Tryd.prog 31 #[.slice ap1 lp1 cp1] W fun e w' => ∃ g, e = .returned (g) ∧ Old W w' ∧ X1 w' W.heap.size w'.heap.size g)
    (ceq1 : ¬ L0 < 0 → ¬ L1 < 0 → ∀ W lo hi g lo' hi' g', X1 W lo hi g → X1 W lo' hi' g' → Calls Tryd.prog 22 #[g, g'] W fun e w' => e = .returned (.bool true) ∧ Old W w')
    (k1 : Int) (hk1 : 0 ≤ k1) (cmk1 : ¬ L0 < 0 → ¬ L1 < 0 → ∀ W lo hi g, X1 W lo hi g → Calls Tryd.prog 25 #[g, .int .i64 k0] W fun e w' => e = .returned (.int .i64 k1) ∧ Chg W w' lo hi)
    (SR : World → Nat → Nat → Array Value → Prop) (fSR : Far SR) (hSR : ∀ W lo hi p, SR W lo hi p → ∃ a0 c0, p = #[.bool br0, .slice a0 lr0 c0])
    (IR0 : World → Nat → Nat → Array Value → Prop) (fIR0 : Far IR0) (hIR0 : ∀ W lo hi p, IR0 W lo hi p → ∃ a0 c0, p = #[.bool br0, .slice a0 lr0 c0])
    (IR1 : World → Nat → Nat → Array Value → Prop) (fIR1 : Far IR1) (hIR1 : ∀ W lo hi p, IR1 W lo hi p → ∃ a0 c0, p = #[.bool br0, .slice a0 lr0 c0])
    (csp : ¬ L0 < 0 → ¬ L1 < 0 → ∀ W lo0 hi0 g0 lo1 hi1 g1, X0 W lo0 hi0 g0 → X1 W lo1 hi1 g1 → Old w W → Calls Tryd.prog 29 #[.agg g0, g1] W fun e w' => ∃ r0, e = .returned (.tuple #[.agg r0, .bool br1]) ∧ Old W w' ∧ SR w' W.heap.size w'.heap.size r0)
    (cim : ¬ L0 < 0 → ¬ L1 < 0 → ∀ W lo0 hi0 g0 lo1 hi1 g1, X0 W lo0 hi0 g0 → X1 W lo1 hi1 g1 → Old w W → Calls Tryd.prog 32 #[.agg g0, g1] W fun e w' => ∃ r0, e = .returned (.tuple #[.agg r0, .bool br1]) ∧ Old W w' ∧ IR0 w' W.heap.size w'.heap.size r0)
    (cer0 : ¬ L0 < 0 → ¬ L1 < 0 → ∀ W lo hi p lo' hi' p', IR0 W lo hi p → SR W lo' hi' p' → Calls Tryd.prog 33 #[.agg p, .agg p'] W fun e w' => e = .returned (.bool true) ∧ Old W w')
    (m0 : Int) (hm0 : 0 ≤ m0) (cmr0 : ¬ L0 < 0 → ¬ L1 < 0 → ∀ W lo hi p, IR0 W lo hi p → Calls Tryd.prog 36 #[.agg p, .int .i64 1] W fun e w' => e = .returned (.int .i64 m0) ∧ Chg W w' lo hi ∧ IR1 w' lo hi p)
    (chr0 : ¬ L0 < 0 → ¬ L1 < 0 → ∀ W lo hi p, IR1 W lo hi p → Calls Tryd.prog 37 #[.agg p, .int .i64 1] W fun e w' => e = .returned (.int .i64 m0) ∧ Old W w') :
    Calls Tryd.prog 5 #[.agg #[.int .i64 Np0, .slice ap0 lp0 cp0], .slice ap1 lp1 cp1] w fun e w' => e = .returned (.bool true) ∧ Old w w' := by
  have HA : Hid (Old w (w.alloc (.cells #[.int .i64 Np0, .slice ap0 lp0 cp0] 48))) := ((Old.refl w).alloc _)
  have BA0 : Hid (Bk (w.alloc (.cells #[.int .i64 Np0, .slice ap0 lp0 cp0] 48)) (w.heap.size) #[.int .i64 Np0, .slice ap0 lp0 cp0] 48) := (Bk.new' w _ _ (by simp))
  by_cases hL0 : L0 < 0
  · have dL0 : decide (L0 < 0) = true := decide_eq_true hL0
    go_enter Tryd.func5, Tryd.ntmps5
    go_wp2_with fail
    refine (csz0  _ (HA.out)).mono ?_
    rintro e s0 ⟨rfl, g0⟩
    have HS0 : Hid (Old w s0) := Old.trans HA.out g0
    clear g0
    go_wp2_with fail
    go_ret
    exact ⟨rfl, HS0.out⟩
  have dL0 : decide (L0 < 0) = false := decide_eq_false hL0
  by_cases hL1 : L1 < 0
  · have dL1 : decide (L1 < 0) = true := decide_eq_true hL1
    go_enter Tryd.func5, Tryd.ntmps5
    go_wp2_with fail
    refine (csz0  _ (HA.out)).mono ?_
    rintro e s0 ⟨rfl, g0⟩
    have HS0 : Hid (Old w s0) := Old.trans HA.out g0
    have BS0_0 : Hid (Bk s0 (w.heap.size) #[.int .i64 Np0, .slice ap0 lp0 cp0] 48) := BA0.out.old g0
    clear g0
    go_wp2_with fail
    refine (csz1 hL0 _ (HS0.out)).mono ?_
    rintro e s1 ⟨rfl, g1⟩
    have HS1 : Hid (Old w s1) := Old.trans HS0.out g1
    clear g1
    go_wp2_with fail
    go_ret
    exact ⟨rfl, HS1.out⟩
  have dL1 : decide (L1 < 0) = false := decide_eq_false hL1
  have TO0 : Hid (∀ W, Old w W → Calls Tryd.prog 30 #[.agg #[.int .i64 Np0, .slice ap0 lp0 cp0]] W fun e w' => ∃ g, e = .returned (.agg g) ∧ Old W w' ∧ X0 w' W.heap.size w'.heap.size g) := cto0 hL0 hL1
  replace ceq0 := ceq0 hL0 hL1
  replace cmk0 := cmk0 hL0 hL1
  clear cto0
  have TO1 : Hid (∀ W, Old w W → Calls Tryd.prog 31 #[.slice ap1 lp1 cp1] W fun e w' => ∃ g, e = .returned (g) ∧ Old W w' ∧ X1 w' W.heap.size w'.heap.size g) := cto1 hL0 hL1
  replace ceq1 := ceq1 hL0 hL1
  replace cmk1 := cmk1 hL0 hL1
  clear cto1
  replace csp := csp hL0 hL1
  replace cim := cim hL0 hL1
  replace cer0 := cer0 hL0 hL1
  replace cmr0 := cmr0 hL0 hL1
  replace chr0 := chr0 hL0 hL1
  have dro1 : (br1 != br1) = false := by simp
  go_enter Tryd.func5, Tryd.ntmps5
  go_wp2_with fail
  refine (csz0  _ (HA.out)).mono ?_
  rintro e s0 ⟨rfl, g0⟩
  have HS0 : Hid (Old w s0) := Old.trans HA.out g0
  have BS0_0 : Hid (Bk s0 (w.heap.size) #[.int .i64 Np0, .slice ap0 lp0 cp0] 48) := BA0.out.old g0
  clear g0
  go_wp2_with fail
  refine (csz1 hL0 _ (HS0.out)).mono ?_
  rintro e s1 ⟨rfl, g1⟩
  have HS1 : Hid (Old w s1) := Old.trans HS0.out g1
  have BS1_0 : Hid (Bk s1 (w.heap.size) #[.int .i64 Np0, .slice ap0 lp0 cp0] 48) := BS0_0.out.old g1
  clear g1
  have HG_0 : Hid (Old w s1) := HS1.out
  have A0_0 : Hid (Bk s1 (w.heap.size) #[.int .i64 Np0, .slice ap0 lp0 cp0] 48) := BS1_0.out
  have hsw : w.heap.size + 1 ≤ s1.heap.size := by have := A0_0.out.lt; omega
  clear csz0 csz1 BA0 HA HS0 HS1 BS0_0 BS1_0
  have zA0_0 := A0_0.out.c (i := 0) rfl
  have zA0_1 := A0_0.out.c (i := 1) rfl
  go_wp2_with fail
  refine (TO0.out _ (HG_0.out)).mono ?_
  rintro e b0 ⟨y_, rfl, g_, o_⟩
  obtain ⟨ab0, cb0, rfl⟩ := hX0 _ _ _ _ o_
  clear zA0_0 zA0_1
  have hsb0 : s1.heap.size ≤ b0.heap.size := by have := g_.size; first | exact this | (simp at this; omega)
  have HG_1 : Hid (Old w b0) := Old.trans HG_0.out (g_)
  have A0_1 : Hid (Bk b0 (w.heap.size) #[.int .i64 Np0, .slice ap0 lp0 cp0] 48) := A0_0.out.old (g_)
  clear HG_0 A0_0
  have Rb0_1 : Hid (X0 b0 (s1.heap.size) (b0.heap.size) #[.int .i64 Np0, .slice ab0 lp0 cb0]) := (by first | exact o_ | (simp at o_; exact o_))
  clear g_ o_
  go_wp2_with fail
  refine (TO1.out _ (HG_1.out)).mono ?_
  rintro e b1 ⟨y_, rfl, g_, o_⟩
  obtain ⟨ab1, cb1, rfl⟩ := hX1 _ _ _ _ o_
  have hsb1 : b0.heap.size ≤ b1.heap.size := by have := g_.size; first | exact this | (simp at this; omega)
  have HG_2 : Hid (Old w b1) := Old.trans HG_1.out (g_)
  have A0_2 : Hid (Bk b1 (w.heap.size) #[.int .i64 Np0, .slice ap0 lp0 cp0] 48) := A0_1.out.old (g_)
  have Rb0_2 : Hid (X0 b1 (s1.heap.size) (b0.heap.size) #[.int .i64 Np0, .slice ab0 lp0 cb0]) := fX0.old Rb0_1.out (g_) (by first | omega | (simp; done) | (simp; omega))
  clear HG_1 A0_1 Rb0_1
  have Rb1_2 : Hid (X1 b1 (b0.heap.size) (b1.heap.size) (.slice ab1 lp1 cb1)) := (by first | exact o_ | (simp at o_; exact o_))
  clear g_ o_
  go_wp2_with fail
  refine (csp _ _ _ _ _ _ _ Rb0_2.out Rb1_2.out (HG_2.out)).mono ?_
  rintro e ts ⟨q0, rfl, gp, rp⟩
  obtain ⟨as0, cs0, hq⟩ := hSR _ _ _ _ rp
  have hsts : b1.heap.size ≤ ts.heap.size := by have := gp.size; first | exact this | (simp at this; omega)
  subst hq
  clear Rb0_2 Rb1_2
  have HG_3 : Hid (Old w (ts.alloc (.cells #[.bool br0, .slice as0 lr0 cs0] 54))) := Old.trans HG_2.out (Old.trans gp (((Old.refl ts).alloc _)))
  have A0_3 : Hid (Bk (ts.alloc (.cells #[.bool br0, .slice as0 lr0 cs0] 54)) (w.heap.size) #[.int .i64 Np0, .slice ap0 lp0 cp0] 48) := A0_2.out.old (Old.trans gp (((Old.refl ts).alloc _)))
  clear HG_2 A0_2
  have C0_3 : Hid (Bk (ts.alloc (.cells #[.bool br0, .slice as0 lr0 cs0] 54)) (ts.heap.size) #[.bool br0, .slice as0 lr0 cs0] 54) := (Bk.new' ts _ _ (by simp))
  have SS_3 : Hid (SR (ts.alloc (.cells #[.bool br0, .slice as0 lr0 cs0] 54)) (b1.heap.size) (ts.heap.size) #[.bool br0, .slice as0 lr0 cs0]) := fSR.old (by first | exact rp | (simp at rp; exact rp)) (((Old.refl ts).alloc _)) (Nat.le_refl _)
  clear gp rp
  have zA0_0 := A0_3.out.c (i := 0) rfl
  have zA0_1 := A0_3.out.c (i := 1) rfl
  go_wp2_with fail
  refine (TO0.out _ (HG_3.out)).mono ?_
  rintro e x0 ⟨y_, rfl, g_, o_⟩
  obtain ⟨ax0, cx0, rfl⟩ := hX0 _ _ _ _ o_
  clear zA0_0 zA0_1
  have hsx0 : ts.heap.size + 1 ≤ x0.heap.size := by have := g_.size; first | exact this | (simp at this; omega)
  have HG_4 : Hid (Old w (x0.alloc (.cells #[.int .i64 Np0, .slice ax0 lp0 cx0] 57))) := Old.trans HG_3.out (Old.trans g_ ((Old.refl x0).alloc _))
  have A0_4 : Hid (Bk (x0.alloc (.cells #[.int .i64 Np0, .slice ax0 lp0 cx0] 57)) (w.heap.size) #[.int .i64 Np0, .slice ap0 lp0 cp0] 48) := A0_3.out.old (Old.trans g_ ((Old.refl x0).alloc _))
  have C0_4 : Hid (Bk (x0.alloc (.cells #[.int .i64 Np0, .slice ax0 lp0 cx0] 57)) (ts.heap.size) #[.bool br0, .slice as0 lr0 cs0] 54) := C0_3.out.old (Old.trans g_ ((Old.refl x0).alloc _))
  have SS_4 : Hid (SR (x0.alloc (.cells #[.int .i64 Np0, .slice ax0 lp0 cx0] 57)) (b1.heap.size) (ts.heap.size) #[.bool br0, .slice as0 lr0 cs0]) := fSR.old SS_3.out (Old.trans g_ ((Old.refl x0).alloc _)) (by first | omega | (simp; done) | (simp; omega))
  clear HG_3 A0_3 C0_3 SS_3
  have Bx0_4 : Hid (Bk (x0.alloc (.cells #[.int .i64 Np0, .slice ax0 lp0 cx0] 57)) (x0.heap.size) #[.int .i64 Np0, .slice ax0 lp0 cx0] 57) := Bk.new' x0 _ _ rfl
  have Rx0_4 : Hid (X0 (x0.alloc (.cells #[.int .i64 Np0, .slice ax0 lp0 cx0] 57)) (ts.heap.size + 1) (x0.heap.size) #[.int .i64 Np0, .slice ax0 lp0 cx0]) := fX0.old (by first | exact o_ | (simp at o_; exact o_)) ((Old.refl x0).alloc _) (Nat.le_refl _)
  clear g_ o_
  go_wp2_with fail
  refine (TO1.out _ (HG_4.out)).mono ?_
  rintro e x1 ⟨y_, rfl, g_, o_⟩
  obtain ⟨ax1, cx1, rfl⟩ := hX1 _ _ _ _ o_
  have hsx1 : x0.heap.size + 1 ≤ x1.heap.size := by have := g_.size; first | exact this | (simp at this; omega)
  have HG_5 : Hid (Old w x1) := Old.trans HG_4.out (g_)
  have A0_5 : Hid (Bk x1 (w.heap.size) #[.int .i64 Np0, .slice ap0 lp0 cp0] 48) := A0_4.out.old (g_)
  have C0_5 : Hid (Bk x1 (ts.heap.size) #[.bool br0, .slice as0 lr0 cs0] 54) := C0_4.out.old (g_)
  have SS_5 : Hid (SR x1 (b1.heap.size) (ts.heap.size) #[.bool br0, .slice as0 lr0 cs0]) := fSR.old SS_4.out (g_) (by first | omega | (simp; done) | (simp; omega))
  have Bx0_5 : Hid (Bk x1 (x0.heap.size) #[.int .i64 Np0, .slice ax0 lp0 cx0] 57) := Bx0_4.out.old (g_)
  have Rx0_5 : Hid (X0 x1 (ts.heap.size + 1) (x0.heap.size) #[.int .i64 Np0, .slice ax0 lp0 cx0]) := fX0.old Rx0_4.out (g_) (by first | omega | (simp; done) | (simp; omega))
  clear HG_4 A0_4 C0_4 SS_4 Bx0_4 Rx0_4
  have Rx1_5 : Hid (X1 x1 (x0.heap.size + 1) (x1.heap.size) (.slice ax1 lp1 cx1)) := (by first | exact o_ | (simp at o_; exact o_))
  clear g_ o_
  have zBx0_0 := Bx0_5.out.c (i := 0) rfl
  have zBx0_1 := Bx0_5.out.c (i := 1) rfl
  go_wp2_with fail
  refine (cim _ _ _ _ _ _ _ Rx0_5.out Rx1_5.out (HG_5.out)).mono ?_
  rintro e p1 ⟨q0, rfl, gp, rp⟩
  obtain ⟨ag0, cg0, hq⟩ := hIR0 _ _ _ _ rp
  have hsp1 : x1.heap.size ≤ p1.heap.size := by have := gp.size; first | exact this | (simp at this; omega)
  subst hq
  clear zBx0_0 zBx0_1
  have HG_6 : Hid (Old w (p1.alloc (.cells #[.bool br0, .slice ag0 lr0 cg0] 54))) := Old.trans HG_5.out (Old.trans gp (((Old.refl p1).alloc _)))
  have A0_6 : Hid (Bk (p1.alloc (.cells #[.bool br0, .slice ag0 lr0 cg0] 54)) (w.heap.size) #[.int .i64 Np0, .slice ap0 lp0 cp0] 48) := A0_5.out.old (Old.trans gp (((Old.refl p1).alloc _)))
  have C0_6 : Hid (Bk (p1.alloc (.cells #[.bool br0, .slice ag0 lr0 cg0] 54)) (ts.heap.size) #[.bool br0, .slice as0 lr0 cs0] 54) := C0_5.out.old (Old.trans gp (((Old.refl p1).alloc _)))
  have SS_6 : Hid (SR (p1.alloc (.cells #[.bool br0, .slice ag0 lr0 cg0] 54)) (b1.heap.size) (ts.heap.size) #[.bool br0, .slice as0 lr0 cs0]) := fSR.old SS_5.out (Old.trans gp (((Old.refl p1).alloc _))) (by first | omega | (simp; done) | (simp; omega))
  have Bx0_6 : Hid (Bk (p1.alloc (.cells #[.bool br0, .slice ag0 lr0 cg0] 54)) (x0.heap.size) #[.int .i64 Np0, .slice ax0 lp0 cx0] 57) := Bx0_5.out.old (Old.trans gp (((Old.refl p1).alloc _)))
  have Rx0_6 : Hid (X0 (p1.alloc (.cells #[.bool br0, .slice ag0 lr0 cg0] 54)) (ts.heap.size + 1) (x0.heap.size) #[.int .i64 Np0, .slice ax0 lp0 cx0]) := fX0.old Rx0_5.out (Old.trans gp (((Old.refl p1).alloc _))) (by first | omega | (simp; done) | (simp; omega))
  have Rx1_6 : Hid (X1 (p1.alloc (.cells #[.bool br0, .slice ag0 lr0 cg0] 54)) (x0.heap.size + 1) (x1.heap.size) (.slice ax1 lp1 cx1)) := fX1.old Rx1_5.out (Old.trans gp (((Old.refl p1).alloc _))) (by first | omega | (simp; done) | (simp; omega))
  clear HG_5 A0_5 C0_5 SS_5 Bx0_5 Rx0_5 Rx1_5
  have Bg0_6 : Hid (Bk (p1.alloc (.cells #[.bool br0, .slice ag0 lr0 cg0] 54)) (p1.heap.size) #[.bool br0, .slice ag0 lr0 cg0] 54) := (Bk.new' p1 _ _ (by simp))
  have RG_6 : Hid (IR0 (p1.alloc (.cells #[.bool br0, .slice ag0 lr0 cg0] 54)) (x1.heap.size) (p1.heap.size) #[.bool br0, .slice ag0 lr0 cg0]) := fIR0.old (by first | exact rp | (simp at rp; exact rp)) (((Old.refl p1).alloc _)) (Nat.le_refl _)
  clear gp rp
  have zBg0_0 := Bg0_6.out.c (i := 0) rfl
  have zBg0_1 := Bg0_6.out.c (i := 1) rfl
  have zC0_0 := C0_6.out.c (i := 0) rfl
  have zC0_1 := C0_6.out.c (i := 1) rfl
  go_wp2_with fail
  refine (cer0 _ _ _ _ _ _ _ RG_6.out SS_6.out).mono ?_
  rintro e f0 ⟨rfl, g_⟩
  clear zBg0_0 zBg0_1 zC0_0 zC0_1
  have hsf0 : p1.heap.size + 1 ≤ f0.heap.size := by have := g_.size; first | omega | (simp at this; omega)
  have HG_7 : Hid (Old w f0) := Old.trans HG_6.out (g_)
  have A0_7 : Hid (Bk f0 (w.heap.size) #[.int .i64 Np0, .slice ap0 lp0 cp0] 48) := A0_6.out.old (g_)
  have C0_7 : Hid (Bk f0 (ts.heap.size) #[.bool br0, .slice as0 lr0 cs0] 54) := C0_6.out.old (g_)
  have SS_7 : Hid (SR f0 (b1.heap.size) (ts.heap.size) #[.bool br0, .slice as0 lr0 cs0]) := fSR.old SS_6.out (g_) (by first | omega | (simp; done) | (simp; omega))
  have Bx0_7 : Hid (Bk f0 (x0.heap.size) #[.int .i64 Np0, .slice ax0 lp0 cx0] 57) := Bx0_6.out.old (g_)
  have Rx0_7 : Hid (X0 f0 (ts.heap.size + 1) (x0.heap.size) #[.int .i64 Np0, .slice ax0 lp0 cx0]) := fX0.old Rx0_6.out (g_) (by first | omega | (simp; done) | (simp; omega))
  have Rx1_7 : Hid (X1 f0 (x0.heap.size + 1) (x1.heap.size) (.slice ax1 lp1 cx1)) := fX1.old Rx1_6.out (g_) (by first | omega | (simp; done) | (simp; omega))
  have Bg0_7 : Hid (Bk f0 (p1.heap.size) #[.bool br0, .slice ag0 lr0 cg0] 54) := Bg0_6.out.old (g_)
  have RG_7 : Hid (IR0 f0 (x1.heap.size) (p1.heap.size) #[.bool br0, .slice ag0 lr0 cg0]) := fIR0.old RG_6.out (g_) (by first | omega | (simp; done) | (simp; omega))
  clear HG_6 A0_6 C0_6 SS_6 Bx0_6 Rx0_6 Rx1_6 Bg0_6 RG_6
  clear g_
  have zBx0_0 := Bx0_7.out.c (i := 0) rfl
  have zBx0_1 := Bx0_7.out.c (i := 1) rfl
  have zA0_0 := A0_7.out.c (i := 0) rfl
  have zA0_1 := A0_7.out.c (i := 1) rfl
  have HAS : Hid (∀ W', Old f0 W' → (W'.cell? ⟨x0.heap.size, 0, none⟩ = some (.int .i64 Np0) ∧ W'.cell? ⟨x0.heap.size, 1, none⟩ = some (.slice ax0 lp0 cx0) ∧ W'.cell? ⟨w.heap.size, 0, none⟩ = some (.int .i64 Np0) ∧ W'.cell? ⟨w.heap.size, 1, none⟩ = some (.slice ap0 lp0 cp0))) := fun W' g => ⟨(Bx0_7.out.old g).c (i := 0) rfl, (Bx0_7.out.old g).c (i := 1) rfl, (A0_7.out.old g).c (i := 0) rfl, (A0_7.out.old g).c (i := 1) rfl⟩
  go_wp2_with fail
  go_region_held3 (fun W' => W'.cell? ⟨x0.heap.size, 0, none⟩ = some (.int .i64 Np0) ∧ W'.cell? ⟨x0.heap.size, 1, none⟩ = some (.slice ax0 lp0 cx0) ∧ W'.cell? ⟨w.heap.size, 0, none⟩ = some (.int .i64 Np0) ∧ W'.cell? ⟨w.heap.size, 1, none⟩ = some (.slice ap0 lp0 cp0)) (first | with_reducible exact HAS.out _ GE.out | with_reducible exact HAS.out _ GT.out | with_reducible exact HAS.out _ (Below.drew (Old.refl f0)) | with_reducible exact HAS.out _ (Old.refl f0)) (first
    | (go_at_call 30; refine (TO0.out _ (Below.drew HG_7.out)).mono ?_; rintro e wt ⟨y_, rfl, gt, ot⟩; obtain ⟨at_, ct_, rfl⟩ := hX0 _ _ _ _ ot; have GT : Hid (Old f0 wt) := Old.trans (Below.drew (Old.refl f0)) gt; have RT : Hid (X0 wt _ _ #[.int .i64 Np0, .slice at_ lp0 ct_]) := ot; clear gt ot)
    | (go_at_call 34; refine (ceq0 _ _ _ _ _ _ _ (fX0.old Rx0_7.out GT.out (by omega)) RT.out).mono ?_; rintro e v0 ⟨rfl, ge⟩; have GE : Hid (Old f0 v0) := Old.trans GT.out ge; clear ge)
    | fail)
  clear zBx0_0 zBx0_1 zA0_0 zA0_1
  have hsv0 := GE.out.size
  have HG_8 : Hid (Old w v0) := Old.trans HG_7.out (GE.out)
  have A0_8 : Hid (Bk v0 (w.heap.size) #[.int .i64 Np0, .slice ap0 lp0 cp0] 48) := A0_7.out.old (GE.out)
  have C0_8 : Hid (Bk v0 (ts.heap.size) #[.bool br0, .slice as0 lr0 cs0] 54) := C0_7.out.old (GE.out)
  have SS_8 : Hid (SR v0 (b1.heap.size) (ts.heap.size) #[.bool br0, .slice as0 lr0 cs0]) := fSR.old SS_7.out (GE.out) (by first | omega | (simp; done) | (simp; omega))
  have Bx0_8 : Hid (Bk v0 (x0.heap.size) #[.int .i64 Np0, .slice ax0 lp0 cx0] 57) := Bx0_7.out.old (GE.out)
  have Rx0_8 : Hid (X0 v0 (ts.heap.size + 1) (x0.heap.size) #[.int .i64 Np0, .slice ax0 lp0 cx0]) := fX0.old Rx0_7.out (GE.out) (by first | omega | (simp; done) | (simp; omega))
  have Rx1_8 : Hid (X1 v0 (x0.heap.size + 1) (x1.heap.size) (.slice ax1 lp1 cx1)) := fX1.old Rx1_7.out (GE.out) (by first | omega | (simp; done) | (simp; omega))
  have Bg0_8 : Hid (Bk v0 (p1.heap.size) #[.bool br0, .slice ag0 lr0 cg0] 54) := Bg0_7.out.old (GE.out)
  have RG_8 : Hid (IR0 v0 (x1.heap.size) (p1.heap.size) #[.bool br0, .slice ag0 lr0 cg0]) := fIR0.old RG_7.out (GE.out) (by first | omega | (simp; done) | (simp; omega))
  clear HG_7 A0_7 C0_7 SS_7 Bx0_7 Rx0_7 Rx1_7 Bg0_7 RG_7
  clear GE GT RT HAS
  go_wp2_with fail
  refine (TO1.out _ (HG_8.out)).mono ?_
  rintro e wt ⟨y_, rfl, gt, ot⟩
  obtain ⟨at_, ct_, rfl⟩ := hX1 _ _ _ _ ot
  have GT : Hid (Old v0 wt) := gt
  have RT : Hid (X1 wt _ _ (.slice at_ lp1 ct_)) := ot
  clear gt ot
  go_wp2_with fail
  refine (ceq1 _ _ _ _ _ _ _ (fX1.old Rx1_8.out GT.out (by omega)) RT.out).mono ?_
  rintro e v1 ⟨rfl, ge⟩
  have GE : Hid (Old v0 v1) := Old.trans GT.out ge
  clear ge
  have hsv1 := GE.out.size
  have HG_9 : Hid (Old w v1) := Old.trans HG_8.out (GE.out)
  have A0_9 : Hid (Bk v1 (w.heap.size) #[.int .i64 Np0, .slice ap0 lp0 cp0] 48) := A0_8.out.old (GE.out)
  have C0_9 : Hid (Bk v1 (ts.heap.size) #[.bool br0, .slice as0 lr0 cs0] 54) := C0_8.out.old (GE.out)
  have SS_9 : Hid (SR v1 (b1.heap.size) (ts.heap.size) #[.bool br0, .slice as0 lr0 cs0]) := fSR.old SS_8.out (GE.out) (by first | omega | (simp; done) | (simp; omega))
  have Bx0_9 : Hid (Bk v1 (x0.heap.size) #[.int .i64 Np0, .slice ax0 lp0 cx0] 57) := Bx0_8.out.old (GE.out)
  have Rx0_9 : Hid (X0 v1 (ts.heap.size + 1) (x0.heap.size) #[.int .i64 Np0, .slice ax0 lp0 cx0]) := fX0.old Rx0_8.out (GE.out) (by first | omega | (simp; done) | (simp; omega))
  have Rx1_9 : Hid (X1 v1 (x0.heap.size + 1) (x1.heap.size) (.slice ax1 lp1 cx1)) := fX1.old Rx1_8.out (GE.out) (by first | omega | (simp; done) | (simp; omega))
  have Bg0_9 : Hid (Bk v1 (p1.heap.size) #[.bool br0, .slice ag0 lr0 cg0] 54) := Bg0_8.out.old (GE.out)
  have RG_9 : Hid (IR0 v1 (x1.heap.size) (p1.heap.size) #[.bool br0, .slice ag0 lr0 cg0]) := fIR0.old RG_8.out (GE.out) (by first | omega | (simp; done) | (simp; omega))
  clear HG_8 A0_8 C0_8 SS_8 Bx0_8 Rx0_8 Rx1_8 Bg0_8 RG_8
  clear GE GT RT
  have zBx0_0 := Bx0_9.out.c (i := 0) rfl
  have zBx0_1 := Bx0_9.out.c (i := 1) rfl
  go_wp2_with fail
  refine (cmk0 _ _ _ _ Rx0_9.out).mono ?_
  rintro e y0 ⟨rfl, gm⟩
  clear zBx0_0 zBx0_1
  have hsy0 := gm.size
  have HG_10 : Hid (Old w y0) := Old.chg HG_9.out (gm) (by omega)
  have A0_10 : Hid (Bk y0 (w.heap.size) #[.int .i64 Np0, .slice ap0 lp0 cp0] 48) := A0_9.out.chg (gm) (by omega)
  have C0_10 : Hid (Bk y0 (ts.heap.size) #[.bool br0, .slice as0 lr0 cs0] 54) := C0_9.out.chg (gm) (by omega)
  have SS_10 : Hid (SR y0 (b1.heap.size) (ts.heap.size) #[.bool br0, .slice as0 lr0 cs0]) := fSR.chg SS_9.out (gm) (by first | omega | (simp; done) | (simp; omega)) (by omega)
  have Bx0_10 : Hid (Bk y0 (x0.heap.size) #[.int .i64 Np0, .slice ax0 lp0 cx0] 57) := Bx0_9.out.chg (gm) (by omega)
  have Rx1_10 : Hid (X1 y0 (x0.heap.size + 1) (x1.heap.size) (.slice ax1 lp1 cx1)) := fX1.chg Rx1_9.out (gm) (by first | omega | (simp; done) | (simp; omega)) (by omega)
  have Bg0_10 : Hid (Bk y0 (p1.heap.size) #[.bool br0, .slice ag0 lr0 cg0] 54) := Bg0_9.out.chg (gm) (by omega)
  have RG_10 : Hid (IR0 y0 (x1.heap.size) (p1.heap.size) #[.bool br0, .slice ag0 lr0 cg0]) := fIR0.chg RG_9.out (gm) (by first | omega | (simp; done) | (simp; omega)) (by omega)
  clear HG_9 A0_9 C0_9 SS_9 Bx0_9 Rx0_9 Rx1_9 Bg0_9 RG_9
  clear gm
  go_wp2_with fail
  refine (cmk1 _ _ _ _ Rx1_10.out).mono ?_
  rintro e y1 ⟨rfl, gm⟩
  have hsy1 := gm.size
  have HG_11 : Hid (Old w y1) := Old.chg HG_10.out (gm) (by omega)
  have A0_11 : Hid (Bk y1 (w.heap.size) #[.int .i64 Np0, .slice ap0 lp0 cp0] 48) := A0_10.out.chg (gm) (by omega)
  have C0_11 : Hid (Bk y1 (ts.heap.size) #[.bool br0, .slice as0 lr0 cs0] 54) := C0_10.out.chg (gm) (by omega)
  have SS_11 : Hid (SR y1 (b1.heap.size) (ts.heap.size) #[.bool br0, .slice as0 lr0 cs0]) := fSR.chg SS_10.out (gm) (by first | omega | (simp; done) | (simp; omega)) (by omega)
  have Bx0_11 : Hid (Bk y1 (x0.heap.size) #[.int .i64 Np0, .slice ax0 lp0 cx0] 57) := Bx0_10.out.chg (gm) (by omega)
  have Bg0_11 : Hid (Bk y1 (p1.heap.size) #[.bool br0, .slice ag0 lr0 cg0] 54) := Bg0_10.out.chg (gm) (by omega)
  have RG_11 : Hid (IR0 y1 (x1.heap.size) (p1.heap.size) #[.bool br0, .slice ag0 lr0 cg0]) := fIR0.chg RG_10.out (gm) (by first | omega | (simp; done) | (simp; omega)) (by omega)
  clear HG_10 A0_10 C0_10 SS_10 Bx0_10 Rx1_10 Bg0_10 RG_10
  clear gm
  have dk : decide (k1 < 0) = false := decide_eq_false (by omega)
  have zBg0_0 := Bg0_11.out.c (i := 0) rfl
  have zBg0_1 := Bg0_11.out.c (i := 1) rfl
  have zC0_0 := C0_11.out.c (i := 0) rfl
  have zC0_1 := C0_11.out.c (i := 1) rfl
  go_wp2_with fail
  refine (cer0 _ _ _ _ _ _ _ RG_11.out SS_11.out).mono ?_
  rintro e h0 ⟨rfl, g_⟩
  clear zBg0_0 zBg0_1 zC0_0 zC0_1
  have hsh0 := g_.size
  have HG_12 : Hid (Old w h0) := Old.trans HG_11.out (g_)
  have A0_12 : Hid (Bk h0 (w.heap.size) #[.int .i64 Np0, .slice ap0 lp0 cp0] 48) := A0_11.out.old (g_)
  have C0_12 : Hid (Bk h0 (ts.heap.size) #[.bool br0, .slice as0 lr0 cs0] 54) := C0_11.out.old (g_)
  have SS_12 : Hid (SR h0 (b1.heap.size) (ts.heap.size) #[.bool br0, .slice as0 lr0 cs0]) := fSR.old SS_11.out (g_) (by first | omega | (simp; done) | (simp; omega))
  have Bx0_12 : Hid (Bk h0 (x0.heap.size) #[.int .i64 Np0, .slice ax0 lp0 cx0] 57) := Bx0_11.out.old (g_)
  have Bg0_12 : Hid (Bk h0 (p1.heap.size) #[.bool br0, .slice ag0 lr0 cg0] 54) := Bg0_11.out.old (g_)
  have RG_12 : Hid (IR0 h0 (x1.heap.size) (p1.heap.size) #[.bool br0, .slice ag0 lr0 cg0]) := fIR0.old RG_11.out (g_) (by first | omega | (simp; done) | (simp; omega))
  clear HG_11 A0_11 C0_11 SS_11 Bx0_11 Bg0_11 RG_11
  clear g_
  have zBg0_0 := Bg0_12.out.c (i := 0) rfl
  have zBg0_1 := Bg0_12.out.c (i := 1) rfl
  go_wp2_with fail
  refine (cmr0 _ _ _ _ RG_12.out).mono ?_
  rintro e i0 ⟨rfl, gm, rm⟩
  clear zBg0_0 zBg0_1
  have hsi0 := gm.size
  have HG_13 : Hid (Old w i0) := Old.chg HG_12.out (gm) (by omega)
  have A0_13 : Hid (Bk i0 (w.heap.size) #[.int .i64 Np0, .slice ap0 lp0 cp0] 48) := A0_12.out.chg (gm) (by omega)
  have C0_13 : Hid (Bk i0 (ts.heap.size) #[.bool br0, .slice as0 lr0 cs0] 54) := C0_12.out.chg (gm) (by omega)
  have SS_13 : Hid (SR i0 (b1.heap.size) (ts.heap.size) #[.bool br0, .slice as0 lr0 cs0]) := fSR.chg SS_12.out (gm) (by first | omega | (simp; done) | (simp; omega)) (by omega)
  have Bx0_13 : Hid (Bk i0 (x0.heap.size) #[.int .i64 Np0, .slice ax0 lp0 cx0] 57) := Bx0_12.out.chg (gm) (by omega)
  have Bg0_13 : Hid (Bk i0 (p1.heap.size) #[.bool br0, .slice ag0 lr0 cg0] 54) := Bg0_12.out.chg (gm) (by omega)
  clear HG_12 A0_12 C0_12 SS_12 Bx0_12 Bg0_12 RG_12
  have RG_13 : Hid (IR1 i0 (x1.heap.size) (p1.heap.size) #[.bool br0, .slice ag0 lr0 cg0]) := rm
  clear gm rm
  have dm0 : decide (m0 < 0) = false := decide_eq_false (by omega)
  have dmm : (m0 != m0) = false := by simp
  have zBg0_0 := Bg0_13.out.c (i := 0) rfl
  have zBg0_1 := Bg0_13.out.c (i := 1) rfl
  go_wp2_with fail
  refine (chr0 _ _ _ _ RG_13.out).mono ?_
  rintro e j0 ⟨rfl, g_⟩
  clear zBg0_0 zBg0_1
  have hsj0 := g_.size
  have HG_14 : Hid (Old w j0) := Old.trans HG_13.out (g_)
  have A0_14 : Hid (Bk j0 (w.heap.size) #[.int .i64 Np0, .slice ap0 lp0 cp0] 48) := A0_13.out.old (g_)
  have C0_14 : Hid (Bk j0 (ts.heap.size) #[.bool br0, .slice as0 lr0 cs0] 54) := C0_13.out.old (g_)
  have SS_14 : Hid (SR j0 (b1.heap.size) (ts.heap.size) #[.bool br0, .slice as0 lr0 cs0]) := fSR.old SS_13.out (g_) (by first | omega | (simp; done) | (simp; omega))
  have Bx0_14 : Hid (Bk j0 (x0.heap.size) #[.int .i64 Np0, .slice ax0 lp0 cx0] 57) := Bx0_13.out.old (g_)
  have Bg0_14 : Hid (Bk j0 (p1.heap.size) #[.bool br0, .slice ag0 lr0 cg0] 54) := Bg0_13.out.old (g_)
  have RG_14 : Hid (IR1 j0 (x1.heap.size) (p1.heap.size) #[.bool br0, .slice ag0 lr0 cg0]) := fIR1.old RG_13.out (g_) (by first | omega | (simp; done) | (simp; omega))
  clear HG_13 A0_13 C0_13 SS_13 Bx0_13 Bg0_13 RG_13
  clear g_
  have zA0_0 := A0_14.out.c (i := 0) rfl
  have zA0_1 := A0_14.out.c (i := 1) rfl
  go_wp2_with fail
  refine (TO0.out _ (HG_14.out)).mono ?_
  rintro e d0 ⟨y_, rfl, g_, o_⟩
  obtain ⟨ad0, cd0, rfl⟩ := hX0 _ _ _ _ o_
  clear zA0_0 zA0_1
  have hsd0 : j0.heap.size ≤ d0.heap.size := by have := g_.size; first | exact this | (simp at this; omega)
  have HG_15 : Hid (Old w d0) := Old.trans HG_14.out (g_)
  have A0_15 : Hid (Bk d0 (w.heap.size) #[.int .i64 Np0, .slice ap0 lp0 cp0] 48) := A0_14.out.old (g_)
  have C0_15 : Hid (Bk d0 (ts.heap.size) #[.bool br0, .slice as0 lr0 cs0] 54) := C0_14.out.old (g_)
  have SS_15 : Hid (SR d0 (b1.heap.size) (ts.heap.size) #[.bool br0, .slice as0 lr0 cs0]) := fSR.old SS_14.out (g_) (by first | omega | (simp; done) | (simp; omega))
  have Bx0_15 : Hid (Bk d0 (x0.heap.size) #[.int .i64 Np0, .slice ax0 lp0 cx0] 57) := Bx0_14.out.old (g_)
  have Bg0_15 : Hid (Bk d0 (p1.heap.size) #[.bool br0, .slice ag0 lr0 cg0] 54) := Bg0_14.out.old (g_)
  have RG_15 : Hid (IR1 d0 (x1.heap.size) (p1.heap.size) #[.bool br0, .slice ag0 lr0 cg0]) := fIR1.old RG_14.out (g_) (by first | omega | (simp; done) | (simp; omega))
  clear HG_14 A0_14 C0_14 SS_14 Bx0_14 Bg0_14 RG_14
  have Rd0_15 : Hid (X0 d0 (j0.heap.size) (d0.heap.size) #[.int .i64 Np0, .slice ad0 lp0 cd0]) := (by first | exact o_ | (simp at o_; exact o_))
  clear g_ o_
  go_wp2_with fail
  refine (TO1.out _ (HG_15.out)).mono ?_
  rintro e d1 ⟨y_, rfl, g_, o_⟩
  obtain ⟨ad1, cd1, rfl⟩ := hX1 _ _ _ _ o_
  have hsd1 : d0.heap.size ≤ d1.heap.size := by have := g_.size; first | exact this | (simp at this; omega)
  have HG_16 : Hid (Old w d1) := Old.trans HG_15.out (g_)
  have A0_16 : Hid (Bk d1 (w.heap.size) #[.int .i64 Np0, .slice ap0 lp0 cp0] 48) := A0_15.out.old (g_)
  have C0_16 : Hid (Bk d1 (ts.heap.size) #[.bool br0, .slice as0 lr0 cs0] 54) := C0_15.out.old (g_)
  have SS_16 : Hid (SR d1 (b1.heap.size) (ts.heap.size) #[.bool br0, .slice as0 lr0 cs0]) := fSR.old SS_15.out (g_) (by first | omega | (simp; done) | (simp; omega))
  have Bx0_16 : Hid (Bk d1 (x0.heap.size) #[.int .i64 Np0, .slice ax0 lp0 cx0] 57) := Bx0_15.out.old (g_)
  have Bg0_16 : Hid (Bk d1 (p1.heap.size) #[.bool br0, .slice ag0 lr0 cg0] 54) := Bg0_15.out.old (g_)
  have RG_16 : Hid (IR1 d1 (x1.heap.size) (p1.heap.size) #[.bool br0, .slice ag0 lr0 cg0]) := fIR1.old RG_15.out (g_) (by first | omega | (simp; done) | (simp; omega))
  have Rd0_16 : Hid (X0 d1 (j0.heap.size) (d0.heap.size) #[.int .i64 Np0, .slice ad0 lp0 cd0]) := fX0.old Rd0_15.out (g_) (by first | omega | (simp; done) | (simp; omega))
  clear HG_15 A0_15 C0_15 SS_15 Bx0_15 Bg0_15 RG_15 Rd0_15
  have Rd1_16 : Hid (X1 d1 (d0.heap.size) (d1.heap.size) (.slice ad1 lp1 cd1)) := (by first | exact o_ | (simp at o_; exact o_))
  clear g_ o_
  go_wp2_with fail
  refine (cim _ _ _ _ _ _ _ Rd0_16.out Rd1_16.out (HG_16.out)).mono ?_
  rintro e ts2 ⟨q0, rfl, gp, rp⟩
  obtain ⟨at0, ct0, hq⟩ := hIR0 _ _ _ _ rp
  have hsts2 : d1.heap.size ≤ ts2.heap.size := by have := gp.size; first | exact this | (simp at this; omega)
  subst hq
  clear Rd0_16 Rd1_16
  have HG_17 : Hid (Old w (ts2.alloc (.cells #[.bool br0, .slice at0 lr0 ct0] 54))) := Old.trans HG_16.out (Old.trans gp (((Old.refl ts2).alloc _)))
  have A0_17 : Hid (Bk (ts2.alloc (.cells #[.bool br0, .slice at0 lr0 ct0] 54)) (w.heap.size) #[.int .i64 Np0, .slice ap0 lp0 cp0] 48) := A0_16.out.old (Old.trans gp (((Old.refl ts2).alloc _)))
  have C0_17 : Hid (Bk (ts2.alloc (.cells #[.bool br0, .slice at0 lr0 ct0] 54)) (ts.heap.size) #[.bool br0, .slice as0 lr0 cs0] 54) := C0_16.out.old (Old.trans gp (((Old.refl ts2).alloc _)))
  have SS_17 : Hid (SR (ts2.alloc (.cells #[.bool br0, .slice at0 lr0 ct0] 54)) (b1.heap.size) (ts.heap.size) #[.bool br0, .slice as0 lr0 cs0]) := fSR.old SS_16.out (Old.trans gp (((Old.refl ts2).alloc _))) (by first | omega | (simp; done) | (simp; omega))
  have Bx0_17 : Hid (Bk (ts2.alloc (.cells #[.bool br0, .slice at0 lr0 ct0] 54)) (x0.heap.size) #[.int .i64 Np0, .slice ax0 lp0 cx0] 57) := Bx0_16.out.old (Old.trans gp (((Old.refl ts2).alloc _)))
  have Bg0_17 : Hid (Bk (ts2.alloc (.cells #[.bool br0, .slice at0 lr0 ct0] 54)) (p1.heap.size) #[.bool br0, .slice ag0 lr0 cg0] 54) := Bg0_16.out.old (Old.trans gp (((Old.refl ts2).alloc _)))
  have RG_17 : Hid (IR1 (ts2.alloc (.cells #[.bool br0, .slice at0 lr0 ct0] 54)) (x1.heap.size) (p1.heap.size) #[.bool br0, .slice ag0 lr0 cg0]) := fIR1.old RG_16.out (Old.trans gp (((Old.refl ts2).alloc _))) (by first | omega | (simp; done) | (simp; omega))
  clear HG_16 A0_16 C0_16 SS_16 Bx0_16 Bg0_16 RG_16
  have D0_17 : Hid (Bk (ts2.alloc (.cells #[.bool br0, .slice at0 lr0 ct0] 54)) (ts2.heap.size) #[.bool br0, .slice at0 lr0 ct0] 54) := (Bk.new' ts2 _ _ (by simp))
  have HH_17 : Hid (IR0 (ts2.alloc (.cells #[.bool br0, .slice at0 lr0 ct0] 54)) (d1.heap.size) (ts2.heap.size) #[.bool br0, .slice at0 lr0 ct0]) := fIR0.old (by first | exact rp | (simp at rp; exact rp)) (((Old.refl ts2).alloc _)) (Nat.le_refl _)
  clear gp rp
  have zD0_0 := D0_17.out.c (i := 0) rfl
  have zD0_1 := D0_17.out.c (i := 1) rfl
  have zC0_0 := C0_17.out.c (i := 0) rfl
  have zC0_1 := C0_17.out.c (i := 1) rfl
  go_wp2_with fail
  refine (cer0 _ _ _ _ _ _ _ HH_17.out SS_17.out).mono ?_
  rintro e o0 ⟨rfl, g_⟩
  clear zD0_0 zD0_1 zC0_0 zC0_1
  have hso0 : ts2.heap.size + 1 ≤ o0.heap.size := by have := g_.size; first | exact this | (simp at this; omega)
  have HG_18 : Hid (Old w o0) := Old.trans HG_17.out (g_)
  have A0_18 : Hid (Bk o0 (w.heap.size) #[.int .i64 Np0, .slice ap0 lp0 cp0] 48) := A0_17.out.old (g_)
  have C0_18 : Hid (Bk o0 (ts.heap.size) #[.bool br0, .slice as0 lr0 cs0] 54) := C0_17.out.old (g_)
  have SS_18 : Hid (SR o0 (b1.heap.size) (ts.heap.size) #[.bool br0, .slice as0 lr0 cs0]) := fSR.old SS_17.out (g_) (by first | omega | (simp; done) | (simp; omega))
  have Bx0_18 : Hid (Bk o0 (x0.heap.size) #[.int .i64 Np0, .slice ax0 lp0 cx0] 57) := Bx0_17.out.old (g_)
  have Bg0_18 : Hid (Bk o0 (p1.heap.size) #[.bool br0, .slice ag0 lr0 cg0] 54) := Bg0_17.out.old (g_)
  have RG_18 : Hid (IR1 o0 (x1.heap.size) (p1.heap.size) #[.bool br0, .slice ag0 lr0 cg0]) := fIR1.old RG_17.out (g_) (by first | omega | (simp; done) | (simp; omega))
  have D0_18 : Hid (Bk o0 (ts2.heap.size) #[.bool br0, .slice at0 lr0 ct0] 54) := D0_17.out.old (g_)
  have HH_18 : Hid (IR0 o0 (d1.heap.size) (ts2.heap.size) #[.bool br0, .slice at0 lr0 ct0]) := fIR0.old HH_17.out (g_) (by first | omega | (simp; done) | (simp; omega))
  clear HG_17 A0_17 C0_17 SS_17 Bx0_17 Bg0_17 RG_17 D0_17 HH_17
  clear g_
  have zBg0_0 := Bg0_18.out.c (i := 0) rfl
  have zBg0_1 := Bg0_18.out.c (i := 1) rfl
  go_wp2_with fail
  refine (chr0 _ _ _ _ RG_18.out).mono ?_
  rintro e n0 ⟨rfl, g_⟩
  clear zBg0_0 zBg0_1
  have hsn0 := g_.size
  have HG_19 : Hid (Old w n0) := Old.trans HG_18.out (g_)
  have A0_19 : Hid (Bk n0 (w.heap.size) #[.int .i64 Np0, .slice ap0 lp0 cp0] 48) := A0_18.out.old (g_)
  have C0_19 : Hid (Bk n0 (ts.heap.size) #[.bool br0, .slice as0 lr0 cs0] 54) := C0_18.out.old (g_)
  have SS_19 : Hid (SR n0 (b1.heap.size) (ts.heap.size) #[.bool br0, .slice as0 lr0 cs0]) := fSR.old SS_18.out (g_) (by first | omega | (simp; done) | (simp; omega))
  have Bx0_19 : Hid (Bk n0 (x0.heap.size) #[.int .i64 Np0, .slice ax0 lp0 cx0] 57) := Bx0_18.out.old (g_)
  have Bg0_19 : Hid (Bk n0 (p1.heap.size) #[.bool br0, .slice ag0 lr0 cg0] 54) := Bg0_18.out.old (g_)
  have RG_19 : Hid (IR1 n0 (x1.heap.size) (p1.heap.size) #[.bool br0, .slice ag0 lr0 cg0]) := fIR1.old RG_18.out (g_) (by first | omega | (simp; done) | (simp; omega))
  have D0_19 : Hid (Bk n0 (ts2.heap.size) #[.bool br0, .slice at0 lr0 ct0] 54) := D0_18.out.old (g_)
  have HH_19 : Hid (IR0 n0 (d1.heap.size) (ts2.heap.size) #[.bool br0, .slice at0 lr0 ct0]) := fIR0.old HH_18.out (g_) (by first | omega | (simp; done) | (simp; omega))
  clear HG_18 A0_18 C0_18 SS_18 Bx0_18 Bg0_18 RG_18 D0_18 HH_18
  clear g_
  go_wp2_with fail
  go_ret
  exact ⟨rfl, HG_19.out⟩
end Go.Proofs.YtfgooclnohnkmaaDoor
