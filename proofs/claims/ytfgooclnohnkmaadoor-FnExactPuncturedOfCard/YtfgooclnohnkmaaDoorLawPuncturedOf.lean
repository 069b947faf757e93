/- Proved: the walk of the statement FnExactPuncturedOf, under what each function that it calls does. -/
import Derived.Test.YtfgooclnohnkmaaDoorNC
import Derived.Deep.RegionWith
import Derived.Deep.RegionHeld3
import Derived.Deep.DeepCutAuto
namespace Go.Proofs.YtfgooclnohnkmaaDoor
open Go.ChangeShapes Go.WideShapes Go.ChangeAt Go.RowKit
set_option linter.unusedVariables false
set_option linter.unusedSimpArgs false
set_option maxRecDepth 100000 in
set_option maxHeartbeats 16000000 in
theorem law9_PuncturedOf (w : World) (lp0 : Nat) (ap0 : Option Addr) (cp0 : Nat) (lr0 : Nat) (br1 : Bool) (L_ : Int)
    (X0 : World → Nat → Nat → Value → Prop) (fX0 : Far X0) (hX0 : ∀ W lo hi g, X0 W lo hi g → ∃ a c, g = (.slice a lp0 c))
    (cto0 : ¬ (1048576 : Int) < (lp0 : Int) → ∀ W, Old w W → Calls Tryd.prog 20 #[.slice ap0 lp0 cp0] W fun e w' => ∃ g, e = .returned (g) ∧ Old W w' ∧ X0 w' W.heap.size w'.heap.size g)
    (ceq0 : ¬ (1048576 : Int) < (lp0 : Int) → ∀ W lo hi g lo' hi' g', X0 W lo hi g → X0 W lo' hi' g' → Calls Tryd.prog 23 #[g, g'] W fun e w' => e = .returned (.bool true) ∧ Old W w')
    (k0 : Int) (hk0 : 0 ≤ k0) (cmk0 : ¬ (1048576 : Int) < (lp0 : Int) → ∀ W lo hi g, X0 W lo hi g → Calls Tryd.prog 24 #[g, .int .i64 1] W fun e w' => e = .returned (.int .i64 k0) ∧ Chg W w' lo hi)
    (SR : World → Nat → Nat → Value → Prop) (fSR : Far SR) (hSR : ∀ W lo hi p, SR W lo hi p → ∃ a0 c0, p = (.slice a0 lr0 c0))
    (IR0 : World → Nat → Nat → Value → Prop) (fIR0 : Far IR0) (hIR0 : ∀ W lo hi p, IR0 W lo hi p → ∃ a0 c0, p = (.slice a0 lr0 c0))
    (IR1 : World → Nat → Nat → Value → Prop) (fIR1 : Far IR1) (hIR1 : ∀ W lo hi p, IR1 W lo hi p → ∃ a0 c0, p = (.slice a0 lr0 c0))
    (csp : ¬ (1048576 : Int) < (lp0 : Int) → ∀ W lo0 hi0 g0, X0 W lo0 hi0 g0 → Old w W → Calls Tryd.prog 19 #[g0] W fun e w' => ∃ r0, e = .returned (.tuple #[r0, .bool br1]) ∧ Old W w' ∧ SR w' W.heap.size w'.heap.size r0)
    (cim : ¬ (1048576 : Int) < (lp0 : Int) → ∀ W lo0 hi0 g0, X0 W lo0 hi0 g0 → Old w W → Calls Tryd.prog 21 #[g0] W fun e w' => ∃ r0, e = .returned (.tuple #[r0, .bool br1]) ∧ Old W w' ∧ IR0 w' W.heap.size w'.heap.size r0)
    (cer0 : ¬ (1048576 : Int) < (lp0 : Int) → ∀ W lo hi p lo' hi' p', IR0 W lo hi p → SR W lo' hi' p' → Calls Tryd.prog 22 #[p, p'] W fun e w' => e = .returned (.bool true) ∧ Old W w')
    (m0 : Int) (hm0 : 0 ≤ m0) (cmr0 : ¬ (1048576 : Int) < (lp0 : Int) → ∀ W lo hi p, IR0 W lo hi p → Calls Tryd.prog 25 #[p, .int .i64 1] W fun e w' => e = .returned (.int .i64 m0) ∧ Chg W w' lo hi ∧ IR1 w' lo hi p)
    (chr0 : ¬ (1048576 : Int) < (lp0 : Int) → ∀ W lo hi p, IR1 W lo hi p → Calls Tryd.prog 26 #[p, .int .i64 1] W fun e w' => e = .returned (.int .i64 m0) ∧ Old W w') :
    Calls Tryd.prog 4 #[.slice ap0 lp0 cp0] w fun e w' => e = .returned (.bool true) ∧ Old w w' := by
  have HA : Hid (Old w w) := (Old.refl w)
  by_cases hL0 : (1048576 : Int) < (lp0 : Int)
  · have dL0 : decide ((1048576 : Int) < (lp0 : Int)) = true := decide_eq_true hL0
    clear  ceq0 cto0 csp cim cer0 cmr0 chr0
    go_enter Tryd.func4, Tryd.ntmps4
    go_wp2_with fail
    go_ret
    exact ⟨rfl, HA.out⟩
  have dL0 : decide ((1048576 : Int) < (lp0 : Int)) = false := decide_eq_false hL0
  have TO0 : Hid (∀ W, Old w W → Calls Tryd.prog 20 #[.slice ap0 lp0 cp0] W fun e w' => ∃ g, e = .returned (g) ∧ Old W w' ∧ X0 w' W.heap.size w'.heap.size g) := cto0 hL0
  replace ceq0 := ceq0 hL0
  replace cmk0 := cmk0 hL0
  clear cto0
  replace csp := csp hL0
  replace cim := cim hL0
  replace cer0 := cer0 hL0
  replace cmr0 := cmr0 hL0
  replace chr0 := chr0 hL0
  have dro1 : (br1 != br1) = false := by simp
  go_enter Tryd.func4, Tryd.ntmps4
  go_wp2_with fail
  have HG_0 : Hid (Old w w) := HA.out
  have hsw : w.heap.size ≤ w.heap.size := HG_0.out.size
  clear   HA  
  go_wp2_with fail
  refine (TO0.out _ (HG_0.out)).mono ?_
  rintro e b0 ⟨y_, rfl, g_, o_⟩
  obtain ⟨ab0, cb0, rfl⟩ := hX0 _ _ _ _ o_
  have hsb0 : w.heap.size ≤ b0.heap.size := by have := g_.size; first | exact this | (simp at this; omega)
  have HG_1 : Hid (Old w b0) := Old.trans HG_0.out (g_)
  clear HG_0
  have Rb0_1 : Hid (X0 b0 (w.heap.size) (b0.heap.size) (.slice ab0 lp0 cb0)) := (by first | exact o_ | (simp at o_; exact o_))
  clear g_ o_
  go_wp2_with fail
  refine (csp _ _ _ _ Rb0_1.out (HG_1.out)).mono ?_
  rintro e ts ⟨q0, rfl, gp, rp⟩
  obtain ⟨as0, cs0, hq⟩ := hSR _ _ _ _ rp
  have hsts : b0.heap.size ≤ ts.heap.size := by have := gp.size; first | exact this | (simp at this; omega)
  subst hq
  clear Rb0_1
  have HG_2 : Hid (Old w ts) := Old.trans HG_1.out (Old.trans gp ((Old.refl ts)))
  clear HG_1
  have SS_2 : Hid (SR ts (b0.heap.size) (ts.heap.size) (.slice as0 lr0 cs0)) := fSR.old (by first | exact rp | (simp at rp; exact rp)) ((Old.refl ts)) (Nat.le_refl _)
  clear gp rp
  go_wp2_with fail
  refine (TO0.out _ (HG_2.out)).mono ?_
  rintro e x0 ⟨y_, rfl, g_, o_⟩
  obtain ⟨ax0, cx0, rfl⟩ := hX0 _ _ _ _ o_
  have hsx0 : ts.heap.size ≤ x0.heap.size := by have := g_.size; first | exact this | (simp at this; omega)
  have HG_3 : Hid (Old w x0) := Old.trans HG_2.out (g_)
  have SS_3 : Hid (SR x0 (b0.heap.size) (ts.heap.size) (.slice as0 lr0 cs0)) := fSR.old SS_2.out (g_) (by first | omega | (simp; done) | (simp; omega))
  clear HG_2 SS_2
  have Rx0_3 : Hid (X0 x0 (ts.heap.size) (x0.heap.size) (.slice ax0 lp0 cx0)) := (by first | exact o_ | (simp at o_; exact o_))
  clear g_ o_
  go_wp2_with fail
  refine (cim _ _ _ _ Rx0_3.out (HG_3.out)).mono ?_
  rintro e p1 ⟨q0, rfl, gp, rp⟩
  obtain ⟨ag0, cg0, hq⟩ := hIR0 _ _ _ _ rp
  have hsp1 : x0.heap.size ≤ p1.heap.size := by have := gp.size; first | exact this | (simp at this; omega)
  subst hq
  have HG_4 : Hid (Old w p1) := Old.trans HG_3.out (Old.trans gp ((Old.refl p1)))
  have SS_4 : Hid (SR p1 (b0.heap.size) (ts.heap.size) (.slice as0 lr0 cs0)) := fSR.old SS_3.out (Old.trans gp ((Old.refl p1))) (by first | omega | (simp; done) | (simp; omega))
  have Rx0_4 : Hid (X0 p1 (ts.heap.size) (x0.heap.size) (.slice ax0 lp0 cx0)) := fX0.old Rx0_3.out (Old.trans gp ((Old.refl p1))) (by first | omega | (simp; done) | (simp; omega))
  clear HG_3 SS_3 Rx0_3
  have RG_4 : Hid (IR0 p1 (x0.heap.size) (p1.heap.size) (.slice ag0 lr0 cg0)) := fIR0.old (by first | exact rp | (simp at rp; exact rp)) ((Old.refl p1)) (Nat.le_refl _)
  clear gp rp
  go_wp2_with fail
  refine (cer0 _ _ _ _ _ _ _ RG_4.out SS_4.out).mono ?_
  rintro e f0 ⟨rfl, g_⟩
  have hsf0 : p1.heap.size + 0 ≤ f0.heap.size := by have := g_.size; first | omega | (simp at this; omega)
  have HG_5 : Hid (Old w f0) := Old.trans HG_4.out (g_)
  have SS_5 : Hid (SR f0 (b0.heap.size) (ts.heap.size) (.slice as0 lr0 cs0)) := fSR.old SS_4.out (g_) (by first | omega | (simp; done) | (simp; omega))
  have Rx0_5 : Hid (X0 f0 (ts.heap.size) (x0.heap.size) (.slice ax0 lp0 cx0)) := fX0.old Rx0_4.out (g_) (by first | omega | (simp; done) | (simp; omega))
  have RG_5 : Hid (IR0 f0 (x0.heap.size) (p1.heap.size) (.slice ag0 lr0 cg0)) := fIR0.old RG_4.out (g_) (by first | omega | (simp; done) | (simp; omega))
  clear HG_4 SS_4 Rx0_4 RG_4
  clear g_
  go_wp2_with fail
  refine (TO0.out _ (HG_5.out)).mono ?_
  rintro e wt ⟨y_, rfl, gt, ot⟩
  obtain ⟨at_, ct_, rfl⟩ := hX0 _ _ _ _ ot
  have GT : Hid (Old f0 wt) := gt
  have RT : Hid (X0 wt _ _ (.slice at_ lp0 ct_)) := ot
  clear gt ot
  go_wp2_with fail
  refine (ceq0 _ _ _ _ _ _ _ (fX0.old Rx0_5.out GT.out (by omega)) RT.out).mono ?_
  rintro e v0 ⟨rfl, ge⟩
  have GE : Hid (Old f0 v0) := Old.trans GT.out ge
  clear ge
  have hsv0 := GE.out.size
  have HG_6 : Hid (Old w v0) := Old.trans HG_5.out (GE.out)
  have SS_6 : Hid (SR v0 (b0.heap.size) (ts.heap.size) (.slice as0 lr0 cs0)) := fSR.old SS_5.out (GE.out) (by first | omega | (simp; done) | (simp; omega))
  have Rx0_6 : Hid (X0 v0 (ts.heap.size) (x0.heap.size) (.slice ax0 lp0 cx0)) := fX0.old Rx0_5.out (GE.out) (by first | omega | (simp; done) | (simp; omega))
  have RG_6 : Hid (IR0 v0 (x0.heap.size) (p1.heap.size) (.slice ag0 lr0 cg0)) := fIR0.old RG_5.out (GE.out) (by first | omega | (simp; done) | (simp; omega))
  clear HG_5 SS_5 Rx0_5 RG_5
  clear GE GT RT
  go_wp2_with fail
  refine (cmk0 _ _ _ _ Rx0_6.out).mono ?_
  rintro e y0 ⟨rfl, gm⟩
  have hsy0 := gm.size
  have HG_7 : Hid (Old w y0) := Old.chg HG_6.out (gm) (by omega)
  have SS_7 : Hid (SR y0 (b0.heap.size) (ts.heap.size) (.slice as0 lr0 cs0)) := fSR.chg SS_6.out (gm) (by first | omega | (simp; done) | (simp; omega)) (by omega)
  have RG_7 : Hid (IR0 y0 (x0.heap.size) (p1.heap.size) (.slice ag0 lr0 cg0)) := fIR0.chg RG_6.out (gm) (by first | omega | (simp; done) | (simp; omega)) (by omega)
  clear HG_6 SS_6 Rx0_6 RG_6
  clear gm
  have dk : decide (k0 < 0) = false := decide_eq_false (by omega)
  go_wp2_with fail
  refine (cer0 _ _ _ _ _ _ _ RG_7.out SS_7.out).mono ?_
  rintro e h0 ⟨rfl, g_⟩
  have hsh0 := g_.size
  have HG_8 : Hid (Old w h0) := Old.trans HG_7.out (g_)
  have SS_8 : Hid (SR h0 (b0.heap.size) (ts.heap.size) (.slice as0 lr0 cs0)) := fSR.old SS_7.out (g_) (by first | omega | (simp; done) | (simp; omega))
  have RG_8 : Hid (IR0 h0 (x0.heap.size) (p1.heap.size) (.slice ag0 lr0 cg0)) := fIR0.old RG_7.out (g_) (by first | omega | (simp; done) | (simp; omega))
  clear HG_7 SS_7 RG_7
  clear g_
  go_wp2_with fail
  refine (cmr0 _ _ _ _ RG_8.out).mono ?_
  rintro e i0 ⟨rfl, gm, rm⟩
  have hsi0 := gm.size
  have HG_9 : Hid (Old w i0) := Old.chg HG_8.out (gm) (by omega)
  have SS_9 : Hid (SR i0 (b0.heap.size) (ts.heap.size) (.slice as0 lr0 cs0)) := fSR.chg SS_8.out (gm) (by first | omega | (simp; done) | (simp; omega)) (by omega)
  clear HG_8 SS_8 RG_8
  have RG_9 : Hid (IR1 i0 (x0.heap.size) (p1.heap.size) (.slice ag0 lr0 cg0)) := rm
  clear gm rm
  have dm0 : decide (m0 < 0) = false := decide_eq_false (by omega)
  have dmm : (m0 != m0) = false := by simp
  go_wp2_with fail
  refine (chr0 _ _ _ _ RG_9.out).mono ?_
  rintro e j0 ⟨rfl, g_⟩
  have hsj0 := g_.size
  have HG_10 : Hid (Old w j0) := Old.trans HG_9.out (g_)
  have SS_10 : Hid (SR j0 (b0.heap.size) (ts.heap.size) (.slice as0 lr0 cs0)) := fSR.old SS_9.out (g_) (by first | omega | (simp; done) | (simp; omega))
  have RG_10 : Hid (IR1 j0 (x0.heap.size) (p1.heap.size) (.slice ag0 lr0 cg0)) := fIR1.old RG_9.out (g_) (by first | omega | (simp; done) | (simp; omega))
  clear HG_9 SS_9 RG_9
  clear g_
  go_wp2_with fail
  refine (TO0.out _ (HG_10.out)).mono ?_
  rintro e d0 ⟨y_, rfl, g_, o_⟩
  obtain ⟨ad0, cd0, rfl⟩ := hX0 _ _ _ _ o_
  have hsd0 : j0.heap.size ≤ d0.heap.size := by have := g_.size; first | exact this | (simp at this; omega)
  have HG_11 : Hid (Old w d0) := Old.trans HG_10.out (g_)
  have SS_11 : Hid (SR d0 (b0.heap.size) (ts.heap.size) (.slice as0 lr0 cs0)) := fSR.old SS_10.out (g_) (by first | omega | (simp; done) | (simp; omega))
  have RG_11 : Hid (IR1 d0 (x0.heap.size) (p1.heap.size) (.slice ag0 lr0 cg0)) := fIR1.old RG_10.out (g_) (by first | omega | (simp; done) | (simp; omega))
  clear HG_10 SS_10 RG_10
  have Rd0_11 : Hid (X0 d0 (j0.heap.size) (d0.heap.size) (.slice ad0 lp0 cd0)) := (by first | exact o_ | (simp at o_; exact o_))
  clear g_ o_
  go_wp2_with fail
  refine (cim _ _ _ _ Rd0_11.out (HG_11.out)).mono ?_
  rintro e ts2 ⟨q0, rfl, gp, rp⟩
  obtain ⟨at0, ct0, hq⟩ := hIR0 _ _ _ _ rp
  have hsts2 : d0.heap.size ≤ ts2.heap.size := by have := gp.size; first | exact this | (simp at this; omega)
  subst hq
  clear Rd0_11
  have HG_12 : Hid (Old w ts2) := Old.trans HG_11.out (Old.trans gp ((Old.refl ts2)))
  have SS_12 : Hid (SR ts2 (b0.heap.size) (ts.heap.size) (.slice as0 lr0 cs0)) := fSR.old SS_11.out (Old.trans gp ((Old.refl ts2))) (by first | omega | (simp; done) | (simp; omega))
  have RG_12 : Hid (IR1 ts2 (x0.heap.size) (p1.heap.size) (.slice ag0 lr0 cg0)) := fIR1.old RG_11.out (Old.trans gp ((Old.refl ts2))) (by first | omega | (simp; done) | (simp; omega))
  clear HG_11 SS_11 RG_11
  have HH_12 : Hid (IR0 ts2 (d0.heap.size) (ts2.heap.size) (.slice at0 lr0 ct0)) := fIR0.old (by first | exact rp | (simp at rp; exact rp)) ((Old.refl ts2)) (Nat.le_refl _)
  clear gp rp
  go_wp2_with fail
  refine (cer0 _ _ _ _ _ _ _ HH_12.out SS_12.out).mono ?_
  rintro e o0 ⟨rfl, g_⟩
  have hso0 := g_.size
  have HG_13 : Hid (Old w o0) := Old.trans HG_12.out (g_)
  have SS_13 : Hid (SR o0 (b0.heap.size) (ts.heap.size) (.slice as0 lr0 cs0)) := fSR.old SS_12.out (g_) (by first | omega | (simp; done) | (simp; omega))
  have RG_13 : Hid (IR1 o0 (x0.heap.size) (p1.heap.size) (.slice ag0 lr0 cg0)) := fIR1.old RG_12.out (g_) (by first | omega | (simp; done) | (simp; omega))
  have HH_13 : Hid (IR0 o0 (d0.heap.size) (ts2.heap.size) (.slice at0 lr0 ct0)) := fIR0.old HH_12.out (g_) (by first | omega | (simp; done) | (simp; omega))
  clear HG_12 SS_12 RG_12 HH_12
  clear g_
  go_wp2_with fail
  refine (chr0 _ _ _ _ RG_13.out).mono ?_
  rintro e n0 ⟨rfl, g_⟩
  have hsn0 := g_.size
  have HG_14 : Hid (Old w n0) := Old.trans HG_13.out (g_)
  have SS_14 : Hid (SR n0 (b0.heap.size) (ts.heap.size) (.slice as0 lr0 cs0)) := fSR.old SS_13.out (g_) (by first | omega | (simp; done) | (simp; omega))
  have RG_14 : Hid (IR1 n0 (x0.heap.size) (p1.heap.size) (.slice ag0 lr0 cg0)) := fIR1.old RG_13.out (g_) (by first | omega | (simp; done) | (simp; omega))
  have HH_14 : Hid (IR0 n0 (d0.heap.size) (ts2.heap.size) (.slice at0 lr0 ct0)) := fIR0.old HH_13.out (g_) (by first | omega | (simp; done) | (simp; omega))
  clear HG_13 SS_13 RG_13 HH_13
  clear g_
  go_wp2_with fail
  go_ret
  exact ⟨rfl, HG_14.out⟩
end Go.Proofs.YtfgooclnohnkmaaDoor
