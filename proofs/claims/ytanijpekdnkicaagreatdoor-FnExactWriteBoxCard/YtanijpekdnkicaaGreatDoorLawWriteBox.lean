/- Proved: the walk of the statement FnExactWriteBox, under what each function that it calls does. -/
import Derived.Test.YtanijpekdnkicaaGreatDoorWq02
import Derived.Deep.RegionWith
import Derived.Deep.RegionHeld3
import Derived.Deep.DeepCutAuto
namespace Go.Proofs.YtanijpekdnkicaaGreatDoor
open Go.ChangeShapes Go.WideShapes Go.ChangeAt Go.RowKit
set_option linter.unusedVariables false
set_option linter.unusedSimpArgs false
set_option maxRecDepth 100000 in
set_option maxHeartbeats 16000000 in
theorem law9_WriteBox (w : World) (kp0 Np0 Tp0 Ep0 : Int) (lp0 mp0 np0 op0 rp0 : Nat) (bp0 : Bool) (ap0 : Option Addr) (cp0 : Nat) (dp0 : Option Addr) (ep0 : Nat) (up0 : Option Addr) (vp0 : Nat) (yp0 : Option Addr) (zp0 : Nat) (sp0 : Option Addr) (tp0 : Nat) (lr0 : Nat) (br1 : Bool) (BX : Prop)
    (csz0 : ∀ W, Old w W → Calls Tryz.prog 23 #[.agg #[.int .i64 kp0, .int .i64 Np0, .int .i64 Tp0, .int .i64 Ep0, .slice ap0 lp0 cp0, .slice dp0 mp0 ep0, .slice up0 np0 vp0, .bool bp0, .slice yp0 op0 zp0, .slice sp0 rp0 tp0], .int .i64 1048576] W fun e w' => ∃ L0 : Int, e = .returned (.int .i64 L0) ∧ Old W w' ∧ (L0 < 0 ∨ BX))
    (X0 : World → Nat → Nat → Array Value → Prop) (fX0 : Far X0) (hX0 : ∀ W lo hi g, X0 W lo hi g → ∃ a c d e u v y z s t, g = #[.int .i64 kp0, .int .i64 Np0, .int .i64 Tp0, .int .i64 Ep0, .slice a lp0 c, .slice d mp0 e, .slice u np0 v, .bool bp0, .slice y op0 z, .slice s rp0 t])
    (cto0 : BX → ∀ W, Old w W → Calls Tryz.prog 25 #[.agg #[.int .i64 kp0, .int .i64 Np0, .int .i64 Tp0, .int .i64 Ep0, .slice ap0 lp0 cp0, .slice dp0 mp0 ep0, .slice up0 np0 vp0, .bool bp0, .slice yp0 op0 zp0, .slice sp0 rp0 tp0]] W fun e w' => ∃ g, e = .returned (.agg g) ∧ Old W w' ∧ X0 w' W.heap.size w'.heap.size g)
    (ceq0 : BX → ∀ W lo hi g lo' hi' g', X0 W lo hi g → X0 W lo' hi' g' → Calls Tryz.prog 28 #[.agg g, .agg g'] W fun e w' => e = .returned (.bool true) ∧ Old W w')
    (k0 : Int) (hk0 : 0 ≤ k0) (cmk0 : BX → ∀ W lo hi g, X0 W lo hi g → Calls Tryz.prog 29 #[.agg g, .int .i64 1] W fun e w' => e = .returned (.int .i64 k0) ∧ Chg W w' lo hi)
    (SR : World → Nat → Nat → Value → Prop) (fSR : Far SR) (hSR : ∀ W lo hi p, SR W lo hi p → ∃ a0 c0, p = (.slice a0 lr0 c0))
    (IR0 : World → Nat → Nat → Value → Prop) (fIR0 : Far IR0) (hIR0 : ∀ W lo hi p, IR0 W lo hi p → ∃ a0 c0, p = (.slice a0 lr0 c0))
    (IR1 : World → Nat → Nat → Value → Prop) (fIR1 : Far IR1) (hIR1 : ∀ W lo hi p, IR1 W lo hi p → ∃ a0 c0, p = (.slice a0 lr0 c0))
    (csp : BX → ∀ W lo0 hi0 g0, X0 W lo0 hi0 g0 → Old w W → Calls Tryz.prog 24 #[.agg g0] W fun e w' => ∃ r0, e = .returned (.tuple #[r0, .bool br1]) ∧ Old W w' ∧ SR w' W.heap.size w'.heap.size r0)
    (cim : BX → ∀ W lo0 hi0 g0, X0 W lo0 hi0 g0 → Old w W → Calls Tryz.prog 26 #[.agg g0] W fun e w' => ∃ r0, e = .returned (.tuple #[r0, .bool br1]) ∧ Old W w' ∧ IR0 w' W.heap.size w'.heap.size r0)
    (cer0 : BX → ∀ W lo hi p lo' hi' p', IR0 W lo hi p → SR W lo' hi' p' → Calls Tryz.prog 27 #[p, p'] W fun e w' => e = .returned (.bool true) ∧ Old W w')
    (m0 : Int) (hm0 : 0 ≤ m0) (cmr0 : BX → ∀ W lo hi p, IR0 W lo hi p → Calls Tryz.prog 30 #[p, .int .i64 1] W fun e w' => e = .returned (.int .i64 m0) ∧ Chg W w' lo hi ∧ IR1 w' lo hi p)
    (chr0 : BX → ∀ W lo hi p, IR1 W lo hi p → Calls Tryz.prog 31 #[p, .int .i64 1] W fun e w' => e = .returned (.int .i64 m0) ∧ Old W w') :
    Calls Tryz.prog 5 #[.agg #[.int .i64 kp0, .int .i64 Np0, .int .i64 Tp0, .int .i64 Ep0, .slice ap0 lp0 cp0, .slice dp0 mp0 ep0, .slice up0 np0 vp0, .bool bp0, .slice yp0 op0 zp0, .slice sp0 rp0 tp0]] w fun e w' => e = .returned (.bool true) ∧ Old w w' := by
  have HA : Hid (Old w (w.alloc (.cells #[.int .i64 kp0, .int .i64 Np0, .int .i64 Tp0, .int .i64 Ep0, .slice ap0 lp0 cp0, .slice dp0 mp0 ep0, .slice up0 np0 vp0, .bool bp0, .slice yp0 op0 zp0, .slice sp0 rp0 tp0] 52))) := ((Old.refl w).alloc _)
  have BA0 : Hid (Bk (w.alloc (.cells #[.int .i64 kp0, .int .i64 Np0, .int .i64 Tp0, .int .i64 Ep0, .slice ap0 lp0 cp0, .slice dp0 mp0 ep0, .slice up0 np0 vp0, .bool bp0, .slice yp0 op0 zp0, .slice sp0 rp0 tp0] 52)) (w.heap.size) #[.int .i64 kp0, .int .i64 Np0, .int .i64 Tp0, .int .i64 Ep0, .slice ap0 lp0 cp0, .slice dp0 mp0 ep0, .slice up0 np0 vp0, .bool bp0, .slice yp0 op0 zp0, .slice sp0 rp0 tp0] 52) := (Bk.new' w _ _ (by simp))
  have dro1 : (br1 != br1) = false := by simp
  go_enter Tryz.func5, Tryz.ntmps5
  go_wp2_with fail
  refine (csz0 _ (HA.out)).mono ?_
  rintro e s0 ⟨L0, rfl, g0, hBX⟩
  have HS0 : Hid (Old w s0) := Old.trans HA.out g0
  by_cases hL0 : L0 < 0
  · have dL0 : decide (L0 < 0) = true := decide_eq_true hL0
    clear csp cim ceq0 cmk0 cer0 cmr0 chr0 cto0
    go_wp2_with fail
    go_ret
    exact ⟨rfl, HS0.out⟩
  have dL0 : decide (L0 < 0) = false := decide_eq_false hL0
  have hbx : BX := hBX.resolve_left hL0
  have TO0 : Hid (∀ W, Old w W → Calls Tryz.prog 25 #[.agg #[.int .i64 kp0, .int .i64 Np0, .int .i64 Tp0, .int .i64 Ep0, .slice ap0 lp0 cp0, .slice dp0 mp0 ep0, .slice up0 np0 vp0, .bool bp0, .slice yp0 op0 zp0, .slice sp0 rp0 tp0]] W fun e w' => ∃ g, e = .returned (.agg g) ∧ Old W w' ∧ X0 w' W.heap.size w'.heap.size g) := cto0 hbx
  clear cto0
  replace ceq0 := ceq0 hbx
  replace cmk0 := cmk0 hbx
  replace csp := csp hbx
  replace cim := cim hbx
  replace cer0 := cer0 hbx
  replace cmr0 := cmr0 hbx
  replace chr0 := chr0 hbx
  clear hBX hbx hL0
  have BS0_0 : Hid (Bk s0 (w.heap.size) #[.int .i64 kp0, .int .i64 Np0, .int .i64 Tp0, .int .i64 Ep0, .slice ap0 lp0 cp0, .slice dp0 mp0 ep0, .slice up0 np0 vp0, .bool bp0, .slice yp0 op0 zp0, .slice sp0 rp0 tp0] 52) := BA0.out.old g0
  clear g0
  have HG_0 : Hid (Old w s0) := HS0.out
  have A0_0 : Hid (Bk s0 (w.heap.size) #[.int .i64 kp0, .int .i64 Np0, .int .i64 Tp0, .int .i64 Ep0, .slice ap0 lp0 cp0, .slice dp0 mp0 ep0, .slice up0 np0 vp0, .bool bp0, .slice yp0 op0 zp0, .slice sp0 rp0 tp0] 52) := BS0_0.out
  have hsw : w.heap.size + 1 ≤ s0.heap.size := by have := A0_0.out.lt; omega
  clear csz0 BA0 HA HS0 BS0_0
  have zA0_0 := A0_0.out.c (i := 0) rfl
  have zA0_1 := A0_0.out.c (i := 1) rfl
  have zA0_2 := A0_0.out.c (i := 2) rfl
  have zA0_3 := A0_0.out.c (i := 3) rfl
  have zA0_4 := A0_0.out.c (i := 4) rfl
  have zA0_5 := A0_0.out.c (i := 5) rfl
  have zA0_6 := A0_0.out.c (i := 6) rfl
  have zA0_7 := A0_0.out.c (i := 7) rfl
  have zA0_8 := A0_0.out.c (i := 8) rfl
  have zA0_9 := A0_0.out.c (i := 9) rfl
  go_wp2_with fail
  refine (TO0.out _ (HG_0.out)).mono ?_
  rintro e b0 ⟨y_, rfl, g_, o_⟩
  obtain ⟨ab0, cb0, db0, eb0, ub0, vb0, yb0, zb0, sb0, tb0, rfl⟩ := hX0 _ _ _ _ o_
  clear zA0_0 zA0_1 zA0_2 zA0_3 zA0_4 zA0_5 zA0_6 zA0_7 zA0_8 zA0_9
  have hsb0 : s0.heap.size ≤ b0.heap.size := by have := g_.size; first | exact this | (simp at this; omega)
  have HG_1 : Hid (Old w b0) := Old.trans HG_0.out (g_)
  have A0_1 : Hid (Bk b0 (w.heap.size) #[.int .i64 kp0, .int .i64 Np0, .int .i64 Tp0, .int .i64 Ep0, .slice ap0 lp0 cp0, .slice dp0 mp0 ep0, .slice up0 np0 vp0, .bool bp0, .slice yp0 op0 zp0, .slice sp0 rp0 tp0] 52) := A0_0.out.old (g_)
  clear HG_0 A0_0
  have Rb0_1 : Hid (X0 b0 (s0.heap.size) (b0.heap.size) #[.int .i64 kp0, .int .i64 Np0, .int .i64 Tp0, .int .i64 Ep0, .slice ab0 lp0 cb0, .slice db0 mp0 eb0, .slice ub0 np0 vb0, .bool bp0, .slice yb0 op0 zb0, .slice sb0 rp0 tb0]) := (by first | exact o_ | (simp at o_; exact o_))
  clear g_ o_
  go_wp2_with fail
  refine (csp _ _ _ _ Rb0_1.out (HG_1.out)).mono ?_
  rintro e ts ⟨q0, rfl, gp, rp⟩
  obtain ⟨as0, cs0, hq⟩ := hSR _ _ _ _ rp
  have hsts : b0.heap.size ≤ ts.heap.size := by have := gp.size; first | exact this | (simp at this; omega)
  subst hq
  clear Rb0_1
  have HG_2 : Hid (Old w ts) := Old.trans HG_1.out (Old.trans gp ((Old.refl ts)))
  have A0_2 : Hid (Bk ts (w.heap.size) #[.int .i64 kp0, .int .i64 Np0, .int .i64 Tp0, .int .i64 Ep0, .slice ap0 lp0 cp0, .slice dp0 mp0 ep0, .slice up0 np0 vp0, .bool bp0, .slice yp0 op0 zp0, .slice sp0 rp0 tp0] 52) := A0_1.out.old (Old.trans gp ((Old.refl ts)))
  clear HG_1 A0_1
  have SS_2 : Hid (SR ts (b0.heap.size) (ts.heap.size) (.slice as0 lr0 cs0)) := fSR.old (by first | exact rp | (simp at rp; exact rp)) ((Old.refl ts)) (Nat.le_refl _)
  clear gp rp
  have zA0_0 := A0_2.out.c (i := 0) rfl
  have zA0_1 := A0_2.out.c (i := 1) rfl
  have zA0_2 := A0_2.out.c (i := 2) rfl
  have zA0_3 := A0_2.out.c (i := 3) rfl
  have zA0_4 := A0_2.out.c (i := 4) rfl
  have zA0_5 := A0_2.out.c (i := 5) rfl
  have zA0_6 := A0_2.out.c (i := 6) rfl
  have zA0_7 := A0_2.out.c (i := 7) rfl
  have zA0_8 := A0_2.out.c (i := 8) rfl
  have zA0_9 := A0_2.out.c (i := 9) rfl
  go_wp2_with fail
  refine (TO0.out _ (HG_2.out)).mono ?_
  rintro e x0 ⟨y_, rfl, g_, o_⟩
  obtain ⟨ax0, cx0, dx0, ex0, ux0, vx0, yx0, zx0, sx0, tx0, rfl⟩ := hX0 _ _ _ _ o_
  clear zA0_0 zA0_1 zA0_2 zA0_3 zA0_4 zA0_5 zA0_6 zA0_7 zA0_8 zA0_9
  have hsx0 : ts.heap.size ≤ x0.heap.size := by have := g_.size; first | exact this | (simp at this; omega)
  have HG_3 : Hid (Old w (x0.alloc (.cells #[.int .i64 kp0, .int .i64 Np0, .int .i64 Tp0, .int .i64 Ep0, .slice ax0 lp0 cx0, .slice dx0 mp0 ex0, .slice ux0 np0 vx0, .bool bp0, .slice yx0 op0 zx0, .slice sx0 rp0 tx0] 59))) := Old.trans HG_2.out (Old.trans g_ ((Old.refl x0).alloc _))
  have A0_3 : Hid (Bk (x0.alloc (.cells #[.int .i64 kp0, .int .i64 Np0, .int .i64 Tp0, .int .i64 Ep0, .slice ax0 lp0 cx0, .slice dx0 mp0 ex0, .slice ux0 np0 vx0, .bool bp0, .slice yx0 op0 zx0, .slice sx0 rp0 tx0] 59)) (w.heap.size) #[.int .i64 kp0, .int .i64 Np0, .int .i64 Tp0, .int .i64 Ep0, .slice ap0 lp0 cp0, .slice dp0 mp0 ep0, .slice up0 np0 vp0, .bool bp0, .slice yp0 op0 zp0, .slice sp0 rp0 tp0] 52) := A0_2.out.old (Old.trans g_ ((Old.refl x0).alloc _))
  have SS_3 : Hid (SR (x0.alloc (.cells #[.int .i64 kp0, .int .i64 Np0, .int .i64 Tp0, .int .i64 Ep0, .slice ax0 lp0 cx0, .slice dx0 mp0 ex0, .slice ux0 np0 vx0, .bool bp0, .slice yx0 op0 zx0, .slice sx0 rp0 tx0] 59)) (b0.heap.size) (ts.heap.size) (.slice as0 lr0 cs0)) := fSR.old SS_2.out (Old.trans g_ ((Old.refl x0).alloc _)) (by first | omega | (simp; done) | (simp; omega))
  clear HG_2 A0_2 SS_2
  have Bx0_3 : Hid (Bk (x0.alloc (.cells #[.int .i64 kp0, .int .i64 Np0, .int .i64 Tp0, .int .i64 Ep0, .slice ax0 lp0 cx0, .slice dx0 mp0 ex0, .slice ux0 np0 vx0, .bool bp0, .slice yx0 op0 zx0, .slice sx0 rp0 tx0] 59)) (x0.heap.size) #[.int .i64 kp0, .int .i64 Np0, .int .i64 Tp0, .int .i64 Ep0, .slice ax0 lp0 cx0, .slice dx0 mp0 ex0, .slice ux0 np0 vx0, .bool bp0, .slice yx0 op0 zx0, .slice sx0 rp0 tx0] 59) := Bk.new' x0 _ _ rfl
  have Rx0_3 : Hid (X0 (x0.alloc (.cells #[.int .i64 kp0, .int .i64 Np0, .int .i64 Tp0, .int .i64 Ep0, .slice ax0 lp0 cx0, .slice dx0 mp0 ex0, .slice ux0 np0 vx0, .bool bp0, .slice yx0 op0 zx0, .slice sx0 rp0 tx0] 59)) (ts.heap.size) (x0.heap.size) #[.int .i64 kp0, .int .i64 Np0, .int .i64 Tp0, .int .i64 Ep0, .slice ax0 lp0 cx0, .slice dx0 mp0 ex0, .slice ux0 np0 vx0, .bool bp0, .slice yx0 op0 zx0, .slice sx0 rp0 tx0]) := fX0.old (by first | exact o_ | (simp at o_; exact o_)) ((Old.refl x0).alloc _) (Nat.le_refl _)
  clear g_ o_
  have zBx0_0 := Bx0_3.out.c (i := 0) rfl
  have zBx0_1 := Bx0_3.out.c (i := 1) rfl
  have zBx0_2 := Bx0_3.out.c (i := 2) rfl
  have zBx0_3 := Bx0_3.out.c (i := 3) rfl
  have zBx0_4 := Bx0_3.out.c (i := 4) rfl
  have zBx0_5 := Bx0_3.out.c (i := 5) rfl
  have zBx0_6 := Bx0_3.out.c (i := 6) rfl
  have zBx0_7 := Bx0_3.out.c (i := 7) rfl
  have zBx0_8 := Bx0_3.out.c (i := 8) rfl
  have zBx0_9 := Bx0_3.out.c (i := 9) rfl
  go_wp2_with fail
  refine (cim _ _ _ _ Rx0_3.out (HG_3.out)).mono ?_
  rintro e p1 ⟨q0, rfl, gp, rp⟩
  obtain ⟨ag0, cg0, hq⟩ := hIR0 _ _ _ _ rp
  have hsp1 : x0.heap.size + 1 ≤ p1.heap.size := by have := gp.size; first | exact this | (simp at this; omega)
  subst hq
  clear zBx0_0 zBx0_1 zBx0_2 zBx0_3 zBx0_4 zBx0_5 zBx0_6 zBx0_7 zBx0_8 zBx0_9
  have HG_4 : Hid (Old w p1) := Old.trans HG_3.out (Old.trans gp ((Old.refl p1)))
  have A0_4 : Hid (Bk p1 (w.heap.size) #[.int .i64 kp0, .int .i64 Np0, .int .i64 Tp0, .int .i64 Ep0, .slice ap0 lp0 cp0, .slice dp0 mp0 ep0, .slice up0 np0 vp0, .bool bp0, .slice yp0 op0 zp0, .slice sp0 rp0 tp0] 52) := A0_3.out.old (Old.trans gp ((Old.refl p1)))
  have SS_4 : Hid (SR p1 (b0.heap.size) (ts.heap.size) (.slice as0 lr0 cs0)) := fSR.old SS_3.out (Old.trans gp ((Old.refl p1))) (by first | omega | (simp; done) | (simp; omega))
  have Bx0_4 : Hid (Bk p1 (x0.heap.size) #[.int .i64 kp0, .int .i64 Np0, .int .i64 Tp0, .int .i64 Ep0, .slice ax0 lp0 cx0, .slice dx0 mp0 ex0, .slice ux0 np0 vx0, .bool bp0, .slice yx0 op0 zx0, .slice sx0 rp0 tx0] 59) := Bx0_3.out.old (Old.trans gp ((Old.refl p1)))
  have Rx0_4 : Hid (X0 p1 (ts.heap.size) (x0.heap.size) #[.int .i64 kp0, .int .i64 Np0, .int .i64 Tp0, .int .i64 Ep0, .slice ax0 lp0 cx0, .slice dx0 mp0 ex0, .slice ux0 np0 vx0, .bool bp0, .slice yx0 op0 zx0, .slice sx0 rp0 tx0]) := fX0.old Rx0_3.out (Old.trans gp ((Old.refl p1))) (by first | omega | (simp; done) | (simp; omega))
  clear HG_3 A0_3 SS_3 Bx0_3 Rx0_3
  have RG_4 : Hid (IR0 p1 (x0.heap.size + 1) (p1.heap.size) (.slice ag0 lr0 cg0)) := fIR0.old (by first | exact rp | (simp at rp; exact rp)) ((Old.refl p1)) (Nat.le_refl _)
  clear gp rp
  go_wp2_with fail
  refine (cer0 _ _ _ _ _ _ _ RG_4.out SS_4.out).mono ?_
  rintro e f0 ⟨rfl, g_⟩
  have hsf0 : p1.heap.size + 0 ≤ f0.heap.size := by have := g_.size; first | omega | (simp at this; omega)
  have HG_5 : Hid (Old w f0) := Old.trans HG_4.out (g_)
  have A0_5 : Hid (Bk f0 (w.heap.size) #[.int .i64 kp0, .int .i64 Np0, .int .i64 Tp0, .int .i64 Ep0, .slice ap0 lp0 cp0, .slice dp0 mp0 ep0, .slice up0 np0 vp0, .bool bp0, .slice yp0 op0 zp0, .slice sp0 rp0 tp0] 52) := A0_4.out.old (g_)
  have SS_5 : Hid (SR f0 (b0.heap.size) (ts.heap.size) (.slice as0 lr0 cs0)) := fSR.old SS_4.out (g_) (by first | omega | (simp; done) | (simp; omega))
  have Bx0_5 : Hid (Bk f0 (x0.heap.size) #[.int .i64 kp0, .int .i64 Np0, .int .i64 Tp0, .int .i64 Ep0, .slice ax0 lp0 cx0, .slice dx0 mp0 ex0, .slice ux0 np0 vx0, .bool bp0, .slice yx0 op0 zx0, .slice sx0 rp0 tx0] 59) := Bx0_4.out.old (g_)
  have Rx0_5 : Hid (X0 f0 (ts.heap.size) (x0.heap.size) #[.int .i64 kp0, .int .i64 Np0, .int .i64 Tp0, .int .i64 Ep0, .slice ax0 lp0 cx0, .slice dx0 mp0 ex0, .slice ux0 np0 vx0, .bool bp0, .slice yx0 op0 zx0, .slice sx0 rp0 tx0]) := fX0.old Rx0_4.out (g_) (by first | omega | (simp; done) | (simp; omega))
  have RG_5 : Hid (IR0 f0 (x0.heap.size + 1) (p1.heap.size) (.slice ag0 lr0 cg0)) := fIR0.old RG_4.out (g_) (by first | omega | (simp; done) | (simp; omega))
  clear HG_4 A0_4 SS_4 Bx0_4 Rx0_4 RG_4
  clear g_
  have zBx0_0 := Bx0_5.out.c (i := 0) rfl
  have zBx0_1 := Bx0_5.out.c (i := 1) rfl
  have zBx0_2 := Bx0_5.out.c (i := 2) rfl
  have zBx0_3 := Bx0_5.out.c (i := 3) rfl
  have zBx0_4 := Bx0_5.out.c (i := 4) rfl
  have zBx0_5 := Bx0_5.out.c (i := 5) rfl
  have zBx0_6 := Bx0_5.out.c (i := 6) rfl
  have zBx0_7 := Bx0_5.out.c (i := 7) rfl
  have zBx0_8 := Bx0_5.out.c (i := 8) rfl
  have zBx0_9 := Bx0_5.out.c (i := 9) rfl
  have zA0_0 := A0_5.out.c (i := 0) rfl
  have zA0_1 := A0_5.out.c (i := 1) rfl
  have zA0_2 := A0_5.out.c (i := 2) rfl
  have zA0_3 := A0_5.out.c (i := 3) rfl
  have zA0_4 := A0_5.out.c (i := 4) rfl
  have zA0_5 := A0_5.out.c (i := 5) rfl
  have zA0_6 := A0_5.out.c (i := 6) rfl
  have zA0_7 := A0_5.out.c (i := 7) rfl
  have zA0_8 := A0_5.out.c (i := 8) rfl
  have zA0_9 := A0_5.out.c (i := 9) rfl
  have HAS : Hid (∀ W', Old f0 W' → (W'.cell? ⟨x0.heap.size, 0, none⟩ = some (.int .i64 kp0) ∧ W'.cell? ⟨x0.heap.size, 1, none⟩ = some (.int .i64 Np0) ∧ W'.cell? ⟨x0.heap.size, 2, none⟩ = some (.int .i64 Tp0) ∧ W'.cell? ⟨x0.heap.size, 3, none⟩ = some (.int .i64 Ep0) ∧ W'.cell? ⟨x0.heap.size, 4, none⟩ = some (.slice ax0 lp0 cx0) ∧ W'.cell? ⟨x0.heap.size, 5, none⟩ = some (.slice dx0 mp0 ex0) ∧ W'.cell? ⟨x0.heap.size, 6, none⟩ = some (.slice ux0 np0 vx0) ∧ W'.cell? ⟨x0.heap.size, 7, none⟩ = some (.bool bp0) ∧ W'.cell? ⟨x0.heap.size, 8, none⟩ = some (.slice yx0 op0 zx0) ∧ W'.cell? ⟨x0.heap.size, 9, none⟩ = some (.slice sx0 rp0 tx0) ∧ W'.cell? ⟨w.heap.size, 0, none⟩ = some (.int .i64 kp0) ∧ W'.cell? ⟨w.heap.size, 1, none⟩ = some (.int .i64 Np0) ∧ W'.cell? ⟨w.heap.size, 2, none⟩ = some (.int .i64 Tp0) ∧ W'.cell? ⟨w.heap.size, 3, none⟩ = some (.int .i64 Ep0) ∧ W'.cell? ⟨w.heap.size, 4, none⟩ = some (.slice ap0 lp0 cp0) ∧ W'.cell? ⟨w.heap.size, 5, none⟩ = some (.slice dp0 mp0 ep0) ∧ W'.cell? ⟨w.heap.size, 6, none⟩ = some (.slice up0 np0 vp0) ∧ W'.cell? ⟨w.heap.size, 7, none⟩ = some (.bool bp0) ∧ W'.cell? ⟨w.heap.size, 8, none⟩ = some (.slice yp0 op0 zp0) ∧ W'.cell? ⟨w.heap.size, 9, none⟩ = some (.slice sp0 rp0 tp0))) := fun W' g => ⟨(Bx0_5.out.old g).c (i := 0) rfl, (Bx0_5.out.old g).c (i := 1) rfl, (Bx0_5.out.old g).c (i := 2) rfl, (Bx0_5.out.old g).c (i := 3) rfl, (Bx0_5.out.old g).c (i := 4) rfl, (Bx0_5.out.old g).c (i := 5) rfl, (Bx0_5.out.old g).c (i := 6) rfl, (Bx0_5.out.old g).c (i := 7) rfl, (Bx0_5.out.old g).c (i := 8) rfl, (Bx0_5.out.old g).c (i := 9) rfl, (A0_5.out.old g).c (i := 0) rfl, (A0_5.out.old g).c (i := 1) rfl, (A0_5.out.old g).c (i := 2) rfl, (A0_5.out.old g).c (i := 3) rfl, (A0_5.out.old g).c (i := 4) rfl, (A0_5.out.old g).c (i := 5) rfl, (A0_5.out.old g).c (i := 6) rfl, (A0_5.out.old g).c (i := 7) rfl, (A0_5.out.old g).c (i := 8) rfl, (A0_5.out.old g).c (i := 9) rfl⟩
  go_wp2_with fail
  go_region_held3 (fun W' => W'.cell? ⟨x0.heap.size, 0, none⟩ = some (.int .i64 kp0) ∧ W'.cell? ⟨x0.heap.size, 1, none⟩ = some (.int .i64 Np0) ∧ W'.cell? ⟨x0.heap.size, 2, none⟩ = some (.int .i64 Tp0) ∧ W'.cell? ⟨x0.heap.size, 3, none⟩ = some (.int .i64 Ep0) ∧ W'.cell? ⟨x0.heap.size, 4, none⟩ = some (.slice ax0 lp0 cx0) ∧ W'.cell? ⟨x0.heap.size, 5, none⟩ = some (.slice dx0 mp0 ex0) ∧ W'.cell? ⟨x0.heap.size, 6, none⟩ = some (.slice ux0 np0 vx0) ∧ W'.cell? ⟨x0.heap.size, 7, none⟩ = some (.bool bp0) ∧ W'.cell? ⟨x0.heap.size, 8, none⟩ = some (.slice yx0 op0 zx0) ∧ W'.cell? ⟨x0.heap.size, 9, none⟩ = some (.slice sx0 rp0 tx0) ∧ W'.cell? ⟨w.heap.size, 0, none⟩ = some (.int .i64 kp0) ∧ W'.cell? ⟨w.heap.size, 1, none⟩ = some (.int .i64 Np0) ∧ W'.cell? ⟨w.heap.size, 2, none⟩ = some (.int .i64 Tp0) ∧ W'.cell? ⟨w.heap.size, 3, none⟩ = some (.int .i64 Ep0) ∧ W'.cell? ⟨w.heap.size, 4, none⟩ = some (.slice ap0 lp0 cp0) ∧ W'.cell? ⟨w.heap.size, 5, none⟩ = some (.slice dp0 mp0 ep0) ∧ W'.cell? ⟨w.heap.size, 6, none⟩ = some (.slice up0 np0 vp0) ∧ W'.cell? ⟨w.heap.size, 7, none⟩ = some (.bool bp0) ∧ W'.cell? ⟨w.heap.size, 8, none⟩ = some (.slice yp0 op0 zp0) ∧ W'.cell? ⟨w.heap.size, 9, none⟩ = some (.slice sp0 rp0 tp0)) (first | with_reducible exact HAS.out _ GE.out | with_reducible exact HAS.out _ GT.out | with_reducible exact HAS.out _ (Below.drew (Old.refl f0)) | with_reducible exact HAS.out _ (Old.refl f0)) (first
    | (go_at_call 25; refine (TO0.out _ (Below.drew HG_5.out)).mono ?_; rintro e wt ⟨y_, rfl, gt, ot⟩; obtain ⟨at_, ct_, dt_, et_, ut_, vt_, yt_, zt_, st_, tt_, rfl⟩ := hX0 _ _ _ _ ot; have GT : Hid (Old f0 wt) := Old.trans (Below.drew (Old.refl f0)) gt; have RT : Hid (X0 wt _ _ #[.int .i64 kp0, .int .i64 Np0, .int .i64 Tp0, .int .i64 Ep0, .slice at_ lp0 ct_, .slice dt_ mp0 et_, .slice ut_ np0 vt_, .bool bp0, .slice yt_ op0 zt_, .slice st_ rp0 tt_]) := ot; clear gt ot)
    | (go_at_call 28; refine (ceq0 _ _ _ _ _ _ _ (fX0.old Rx0_5.out GT.out (by omega)) RT.out).mono ?_; rintro e v0 ⟨rfl, ge⟩; have GE : Hid (Old f0 v0) := Old.trans GT.out ge; clear ge)
    | fail)
  clear zBx0_0 zBx0_1 zBx0_2 zBx0_3 zBx0_4 zBx0_5 zBx0_6 zBx0_7 zBx0_8 zBx0_9 zA0_0 zA0_1 zA0_2 zA0_3 zA0_4 zA0_5 zA0_6 zA0_7 zA0_8 zA0_9
  have hsv0 := GE.out.size
  have HG_6 : Hid (Old w v0) := Old.trans HG_5.out (GE.out)
  have A0_6 : Hid (Bk v0 (w.heap.size) #[.int .i64 kp0, .int .i64 Np0, .int .i64 Tp0, .int .i64 Ep0, .slice ap0 lp0 cp0, .slice dp0 mp0 ep0, .slice up0 np0 vp0, .bool bp0, .slice yp0 op0 zp0, .slice sp0 rp0 tp0] 52) := A0_5.out.old (GE.out)
  have SS_6 : Hid (SR v0 (b0.heap.size) (ts.heap.size) (.slice as0 lr0 cs0)) := fSR.old SS_5.out (GE.out) (by first | omega | (simp; done) | (simp; omega))
  have Bx0_6 : Hid (Bk v0 (x0.heap.size) #[.int .i64 kp0, .int .i64 Np0, .int .i64 Tp0, .int .i64 Ep0, .slice ax0 lp0 cx0, .slice dx0 mp0 ex0, .slice ux0 np0 vx0, .bool bp0, .slice yx0 op0 zx0, .slice sx0 rp0 tx0] 59) := Bx0_5.out.old (GE.out)
  have Rx0_6 : Hid (X0 v0 (ts.heap.size) (x0.heap.size) #[.int .i64 kp0, .int .i64 Np0, .int .i64 Tp0, .int .i64 Ep0, .slice ax0 lp0 cx0, .slice dx0 mp0 ex0, .slice ux0 np0 vx0, .bool bp0, .slice yx0 op0 zx0, .slice sx0 rp0 tx0]) := fX0.old Rx0_5.out (GE.out) (by first | omega | (simp; done) | (simp; omega))
  have RG_6 : Hid (IR0 v0 (x0.heap.size + 1) (p1.heap.size) (.slice ag0 lr0 cg0)) := fIR0.old RG_5.out (GE.out) (by first | omega | (simp; done) | (simp; omega))
  clear HG_5 A0_5 SS_5 Bx0_5 Rx0_5 RG_5
  clear GE GT RT HAS
  have zBx0_0 := Bx0_6.out.c (i := 0) rfl
  have zBx0_1 := Bx0_6.out.c (i := 1) rfl
  have zBx0_2 := Bx0_6.out.c (i := 2) rfl
  have zBx0_3 := Bx0_6.out.c (i := 3) rfl
  have zBx0_4 := Bx0_6.out.c (i := 4) rfl
  have zBx0_5 := Bx0_6.out.c (i := 5) rfl
  have zBx0_6 := Bx0_6.out.c (i := 6) rfl
  have zBx0_7 := Bx0_6.out.c (i := 7) rfl
  have zBx0_8 := Bx0_6.out.c (i := 8) rfl
  have zBx0_9 := Bx0_6.out.c (i := 9) rfl
  go_wp2_with fail
  refine (cmk0 _ _ _ _ Rx0_6.out).mono ?_
  rintro e y0 ⟨rfl, gm⟩
  clear zBx0_0 zBx0_1 zBx0_2 zBx0_3 zBx0_4 zBx0_5 zBx0_6 zBx0_7 zBx0_8 zBx0_9
  have hsy0 := gm.size
  have HG_7 : Hid (Old w y0) := Old.chg HG_6.out (gm) (by omega)
  have A0_7 : Hid (Bk y0 (w.heap.size) #[.int .i64 kp0, .int .i64 Np0, .int .i64 Tp0, .int .i64 Ep0, .slice ap0 lp0 cp0, .slice dp0 mp0 ep0, .slice up0 np0 vp0, .bool bp0, .slice yp0 op0 zp0, .slice sp0 rp0 tp0] 52) := A0_6.out.chg (gm) (by omega)
  have SS_7 : Hid (SR y0 (b0.heap.size) (ts.heap.size) (.slice as0 lr0 cs0)) := fSR.chg SS_6.out (gm) (by first | omega | (simp; done) | (simp; omega)) (by omega)
  have Bx0_7 : Hid (Bk y0 (x0.heap.size) #[.int .i64 kp0, .int .i64 Np0, .int .i64 Tp0, .int .i64 Ep0, .slice ax0 lp0 cx0, .slice dx0 mp0 ex0, .slice ux0 np0 vx0, .bool bp0, .slice yx0 op0 zx0, .slice sx0 rp0 tx0] 59) := Bx0_6.out.chg (gm) (by omega)
  have RG_7 : Hid (IR0 y0 (x0.heap.size + 1) (p1.heap.size) (.slice ag0 lr0 cg0)) := fIR0.chg RG_6.out (gm) (by first | omega | (simp; done) | (simp; omega)) (by omega)
  clear HG_6 A0_6 SS_6 Bx0_6 Rx0_6 RG_6
  clear gm
  have dk : decide (k0 < 0) = false := decide_eq_false (by omega)
  go_wp2_with fail
  refine (cer0 _ _ _ _ _ _ _ RG_7.out SS_7.out).mono ?_
  rintro e h0 ⟨rfl, g_⟩
  have hsh0 := g_.size
  have HG_8 : Hid (Old w h0) := Old.trans HG_7.out (g_)
  have A0_8 : Hid (Bk h0 (w.heap.size) #[.int .i64 kp0, .int .i64 Np0, .int .i64 Tp0, .int .i64 Ep0, .slice ap0 lp0 cp0, .slice dp0 mp0 ep0, .slice up0 np0 vp0, .bool bp0, .slice yp0 op0 zp0, .slice sp0 rp0 tp0] 52) := A0_7.out.old (g_)
  have SS_8 : Hid (SR h0 (b0.heap.size) (ts.heap.size) (.slice as0 lr0 cs0)) := fSR.old SS_7.out (g_) (by first | omega | (simp; done) | (simp; omega))
  have Bx0_8 : Hid (Bk h0 (x0.heap.size) #[.int .i64 kp0, .int .i64 Np0, .int .i64 Tp0, .int .i64 Ep0, .slice ax0 lp0 cx0, .slice dx0 mp0 ex0, .slice ux0 np0 vx0, .bool bp0, .slice yx0 op0 zx0, .slice sx0 rp0 tx0] 59) := Bx0_7.out.old (g_)
  have RG_8 : Hid (IR0 h0 (x0.heap.size + 1) (p1.heap.size) (.slice ag0 lr0 cg0)) := fIR0.old RG_7.out (g_) (by first | omega | (simp; done) | (simp; omega))
  clear HG_7 A0_7 SS_7 Bx0_7 RG_7
  clear g_
  go_wp2_with fail
  refine (cmr0 _ _ _ _ RG_8.out).mono ?_
  rintro e i0 ⟨rfl, gm, rm⟩
  have hsi0 := gm.size
  have HG_9 : Hid (Old w i0) := Old.chg HG_8.out (gm) (by omega)
  have A0_9 : Hid (Bk i0 (w.heap.size) #[.int .i64 kp0, .int .i64 Np0, .int .i64 Tp0, .int .i64 Ep0, .slice ap0 lp0 cp0, .slice dp0 mp0 ep0, .slice up0 np0 vp0, .bool bp0, .slice yp0 op0 zp0, .slice sp0 rp0 tp0] 52) := A0_8.out.chg (gm) (by omega)
  have SS_9 : Hid (SR i0 (b0.heap.size) (ts.heap.size) (.slice as0 lr0 cs0)) := fSR.chg SS_8.out (gm) (by first | omega | (simp; done) | (simp; omega)) (by omega)
  have Bx0_9 : Hid (Bk i0 (x0.heap.size) #[.int .i64 kp0, .int .i64 Np0, .int .i64 Tp0, .int .i64 Ep0, .slice ax0 lp0 cx0, .slice dx0 mp0 ex0, .slice ux0 np0 vx0, .bool bp0, .slice yx0 op0 zx0, .slice sx0 rp0 tx0] 59) := Bx0_8.out.chg (gm) (by omega)
  clear HG_8 A0_8 SS_8 Bx0_8 RG_8
  have RG_9 : Hid (IR1 i0 (x0.heap.size + 1) (p1.heap.size) (.slice ag0 lr0 cg0)) := rm
  clear gm rm
  have dm0 : decide (m0 < 0) = false := decide_eq_false (by omega)
  have dmm : (m0 != m0) = false := by simp
  go_wp2_with fail
  refine (chr0 _ _ _ _ RG_9.out).mono ?_
  rintro e j0 ⟨rfl, g_⟩
  have hsj0 := g_.size
  have HG_10 : Hid (Old w j0) := Old.trans HG_9.out (g_)
  have A0_10 : Hid (Bk j0 (w.heap.size) #[.int .i64 kp0, .int .i64 Np0, .int .i64 Tp0, .int .i64 Ep0, .slice ap0 lp0 cp0, .slice dp0 mp0 ep0, .slice up0 np0 vp0, .bool bp0, .slice yp0 op0 zp0, .slice sp0 rp0 tp0] 52) := A0_9.out.old (g_)
  have SS_10 : Hid (SR j0 (b0.heap.size) (ts.heap.size) (.slice as0 lr0 cs0)) := fSR.old SS_9.out (g_) (by first | omega | (simp; done) | (simp; omega))
  have Bx0_10 : Hid (Bk j0 (x0.heap.size) #[.int .i64 kp0, .int .i64 Np0, .int .i64 Tp0, .int .i64 Ep0, .slice ax0 lp0 cx0, .slice dx0 mp0 ex0, .slice ux0 np0 vx0, .bool bp0, .slice yx0 op0 zx0, .slice sx0 rp0 tx0] 59) := Bx0_9.out.old (g_)
  have RG_10 : Hid (IR1 j0 (x0.heap.size + 1) (p1.heap.size) (.slice ag0 lr0 cg0)) := fIR1.old RG_9.out (g_) (by first | omega | (simp; done) | (simp; omega))
  clear HG_9 A0_9 SS_9 Bx0_9 RG_9
  clear g_
  have zA0_0 := A0_10.out.c (i := 0) rfl
  have zA0_1 := A0_10.out.c (i := 1) rfl
  have zA0_2 := A0_10.out.c (i := 2) rfl
  have zA0_3 := A0_10.out.c (i := 3) rfl
  have zA0_4 := A0_10.out.c (i := 4) rfl
  have zA0_5 := A0_10.out.c (i := 5) rfl
  have zA0_6 := A0_10.out.c (i := 6) rfl
  have zA0_7 := A0_10.out.c (i := 7) rfl
  have zA0_8 := A0_10.out.c (i := 8) rfl
  have zA0_9 := A0_10.out.c (i := 9) rfl
  go_wp2_with fail
  refine (TO0.out _ (HG_10.out)).mono ?_
  rintro e d0 ⟨y_, rfl, g_, o_⟩
  obtain ⟨ad0, cd0, dd0, ed0, ud0, vd0, yd0, zd0, sd0, td0, rfl⟩ := hX0 _ _ _ _ o_
  clear zA0_0 zA0_1 zA0_2 zA0_3 zA0_4 zA0_5 zA0_6 zA0_7 zA0_8 zA0_9
  have hsd0 : j0.heap.size ≤ d0.heap.size := by have := g_.size; first | exact this | (simp at this; omega)
  have HG_11 : Hid (Old w d0) := Old.trans HG_10.out (g_)
  have A0_11 : Hid (Bk d0 (w.heap.size) #[.int .i64 kp0, .int .i64 Np0, .int .i64 Tp0, .int .i64 Ep0, .slice ap0 lp0 cp0, .slice dp0 mp0 ep0, .slice up0 np0 vp0, .bool bp0, .slice yp0 op0 zp0, .slice sp0 rp0 tp0] 52) := A0_10.out.old (g_)
  have SS_11 : Hid (SR d0 (b0.heap.size) (ts.heap.size) (.slice as0 lr0 cs0)) := fSR.old SS_10.out (g_) (by first | omega | (simp; done) | (simp; omega))
  have Bx0_11 : Hid (Bk d0 (x0.heap.size) #[.int .i64 kp0, .int .i64 Np0, .int .i64 Tp0, .int .i64 Ep0, .slice ax0 lp0 cx0, .slice dx0 mp0 ex0, .slice ux0 np0 vx0, .bool bp0, .slice yx0 op0 zx0, .slice sx0 rp0 tx0] 59) := Bx0_10.out.old (g_)
  have RG_11 : Hid (IR1 d0 (x0.heap.size + 1) (p1.heap.size) (.slice ag0 lr0 cg0)) := fIR1.old RG_10.out (g_) (by first | omega | (simp; done) | (simp; omega))
  clear HG_10 A0_10 SS_10 Bx0_10 RG_10
  have Rd0_11 : Hid (X0 d0 (j0.heap.size) (d0.heap.size) #[.int .i64 kp0, .int .i64 Np0, .int .i64 Tp0, .int .i64 Ep0, .slice ad0 lp0 cd0, .slice dd0 mp0 ed0, .slice ud0 np0 vd0, .bool bp0, .slice yd0 op0 zd0, .slice sd0 rp0 td0]) := (by first | exact o_ | (simp at o_; exact o_))
  clear g_ o_
  go_wp2_with fail
  refine (cim _ _ _ _ Rd0_11.out (HG_11.out)).mono ?_
  rintro e ts2 ⟨q0, rfl, gp, rp⟩
  obtain ⟨at0, ct0, hq⟩ := hIR0 _ _ _ _ rp
  have hsts2 : d0.heap.size ≤ ts2.heap.size := by have := gp.size; first | exact this | (simp at this; omega)
  subst hq
  clear Rd0_11
  have HG_12 : Hid (Old w ts2) := Old.trans HG_11.out (Old.trans gp ((Old.refl ts2)))
  have A0_12 : Hid (Bk ts2 (w.heap.size) #[.int .i64 kp0, .int .i64 Np0, .int .i64 Tp0, .int .i64 Ep0, .slice ap0 lp0 cp0, .slice dp0 mp0 ep0, .slice up0 np0 vp0, .bool bp0, .slice yp0 op0 zp0, .slice sp0 rp0 tp0] 52) := A0_11.out.old (Old.trans gp ((Old.refl ts2)))
  have SS_12 : Hid (SR ts2 (b0.heap.size) (ts.heap.size) (.slice as0 lr0 cs0)) := fSR.old SS_11.out (Old.trans gp ((Old.refl ts2))) (by first | omega | (simp; done) | (simp; omega))
  have Bx0_12 : Hid (Bk ts2 (x0.heap.size) #[.int .i64 kp0, .int .i64 Np0, .int .i64 Tp0, .int .i64 Ep0, .slice ax0 lp0 cx0, .slice dx0 mp0 ex0, .slice ux0 np0 vx0, .bool bp0, .slice yx0 op0 zx0, .slice sx0 rp0 tx0] 59) := Bx0_11.out.old (Old.trans gp ((Old.refl ts2)))
  have RG_12 : Hid (IR1 ts2 (x0.heap.size + 1) (p1.heap.size) (.slice ag0 lr0 cg0)) := fIR1.old RG_11.out (Old.trans gp ((Old.refl ts2))) (by first | omega | (simp; done) | (simp; omega))
  clear HG_11 A0_11 SS_11 Bx0_11 RG_11
  have HH_12 : Hid (IR0 ts2 (d0.heap.size) (ts2.heap.size) (.slice at0 lr0 ct0)) := fIR0.old (by first | exact rp | (simp at rp; exact rp)) ((Old.refl ts2)) (Nat.le_refl _)
  clear gp rp
  go_wp2_with fail
  refine (cer0 _ _ _ _ _ _ _ HH_12.out SS_12.out).mono ?_
  rintro e o0 ⟨rfl, g_⟩
  have hso0 : ts2.heap.size ≤ o0.heap.size := by have := g_.size; first | exact this | (simp at this; omega)
  have HG_13 : Hid (Old w o0) := Old.trans HG_12.out (g_)
  have A0_13 : Hid (Bk o0 (w.heap.size) #[.int .i64 kp0, .int .i64 Np0, .int .i64 Tp0, .int .i64 Ep0, .slice ap0 lp0 cp0, .slice dp0 mp0 ep0, .slice up0 np0 vp0, .bool bp0, .slice yp0 op0 zp0, .slice sp0 rp0 tp0] 52) := A0_12.out.old (g_)
  have SS_13 : Hid (SR o0 (b0.heap.size) (ts.heap.size) (.slice as0 lr0 cs0)) := fSR.old SS_12.out (g_) (by first | omega | (simp; done) | (simp; omega))
  have Bx0_13 : Hid (Bk o0 (x0.heap.size) #[.int .i64 kp0, .int .i64 Np0, .int .i64 Tp0, .int .i64 Ep0, .slice ax0 lp0 cx0, .slice dx0 mp0 ex0, .slice ux0 np0 vx0, .bool bp0, .slice yx0 op0 zx0, .slice sx0 rp0 tx0] 59) := Bx0_12.out.old (g_)
  have RG_13 : Hid (IR1 o0 (x0.heap.size + 1) (p1.heap.size) (.slice ag0 lr0 cg0)) := fIR1.old RG_12.out (g_) (by first | omega | (simp; done) | (simp; omega))
  have HH_13 : Hid (IR0 o0 (d0.heap.size) (ts2.heap.size) (.slice at0 lr0 ct0)) := fIR0.old HH_12.out (g_) (by first | omega | (simp; done) | (simp; omega))
  clear HG_12 A0_12 SS_12 Bx0_12 RG_12 HH_12
  clear g_
  go_wp2_with fail
  refine (chr0 _ _ _ _ RG_13.out).mono ?_
  rintro e n0 ⟨rfl, g_⟩
  have hsn0 := g_.size
  have HG_14 : Hid (Old w n0) := Old.trans HG_13.out (g_)
  have A0_14 : Hid (Bk n0 (w.heap.size) #[.int .i64 kp0, .int .i64 Np0, .int .i64 Tp0, .int .i64 Ep0, .slice ap0 lp0 cp0, .slice dp0 mp0 ep0, .slice up0 np0 vp0, .bool bp0, .slice yp0 op0 zp0, .slice sp0 rp0 tp0] 52) := A0_13.out.old (g_)
  have SS_14 : Hid (SR n0 (b0.heap.size) (ts.heap.size) (.slice as0 lr0 cs0)) := fSR.old SS_13.out (g_) (by first | omega | (simp; done) | (simp; omega))
  have Bx0_14 : Hid (Bk n0 (x0.heap.size) #[.int .i64 kp0, .int .i64 Np0, .int .i64 Tp0, .int .i64 Ep0, .slice ax0 lp0 cx0, .slice dx0 mp0 ex0, .slice ux0 np0 vx0, .bool bp0, .slice yx0 op0 zx0, .slice sx0 rp0 tx0] 59) := Bx0_13.out.old (g_)
  have RG_14 : Hid (IR1 n0 (x0.heap.size + 1) (p1.heap.size) (.slice ag0 lr0 cg0)) := fIR1.old RG_13.out (g_) (by first | omega | (simp; done) | (simp; omega))
  have HH_14 : Hid (IR0 n0 (d0.heap.size) (ts2.heap.size) (.slice at0 lr0 ct0)) := fIR0.old HH_13.out (g_) (by first | omega | (simp; done) | (simp; omega))
  clear HG_13 A0_13 SS_13 Bx0_13 RG_13 HH_13
  clear g_
  go_wp2_with fail
  go_ret
  exact ⟨rfl, HG_14.out⟩
end Go.Proofs.YtanijpekdnkicaaGreatDoor
