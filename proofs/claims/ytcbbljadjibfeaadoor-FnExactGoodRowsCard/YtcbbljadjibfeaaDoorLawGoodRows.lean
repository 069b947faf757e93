/- Proved: the walk of the statement FnExactGoodRows, under what each function that it calls does. -/
import Derived.Test.YtcbbljadjibfeaaDoorFar
import Derived.Test.YtcbbljadjibfeaaDoorKRows2
import Derived.Deep.RegionWith
import Derived.Deep.RegionHeld3
import Derived.Deep.DeepCutAuto
namespace Go.Proofs.YtcbbljadjibfeaaDoor
open Go.ChangeShapes Go.WideShapes Go.ChangeAt Go.RowKit
set_option linter.unusedVariables false
set_option linter.unusedSimpArgs false
set_option maxRecDepth 100000 in
set_option maxHeartbeats 16000000 in
theorem law_grows (w : World) (Np0 : Int) (lp0 : Nat) (ap0 : Option Addr) (cp0 : Nat) (bp1 : Bool) (lp1 : Nat) (ap1 : Option Addr) (cp1 : Nat)  (ro : Bool) (L0 L1 : Int)
    (csz0 : ∀ W, Old w W → Calls Tryd.prog 24 #[.agg #[.int .i64 Np0, .slice ap0 lp0 cp0], .int .i64 1048576] W fun e w' => e = .returned (.int .i64 L0) ∧ Old W w')
    (csz1 : ¬ L0 < 0 → ∀ W, Old w W → Calls Tryd.prog 29 #[.agg #[.bool bp1, .slice ap1 lp1 cp1], .int .i64 L0] W fun e w' => e = .returned (.int .i64 L1) ∧ Old W w')
    (X0 : World → Nat → Nat → Array Value → Prop) (fX0 : Far X0) (hX0 : ∀ W lo hi g, X0 W lo hi g → ∃ a c, g = #[.int .i64 Np0, .slice a lp0 c])
    (cto0 : ¬ L0 < 0 → ¬ L1 < 0 → ∀ W, Old w W → Calls Tryd.prog 26 #[.agg #[.int .i64 Np0, .slice ap0 lp0 cp0]] W fun e w' => ∃ g, e = .returned (.agg g) ∧ Old W w' ∧ X0 w' W.heap.size w'.heap.size g)
    (ceq0 : ¬ L0 < 0 → ¬ L1 < 0 → ∀ W lo hi g lo' hi' g', X0 W lo hi g → X0 W lo' hi' g' → Calls Tryd.prog 28 #[.agg g, .agg g'] W fun e w' => e = .returned (.bool true) ∧ Old W w')
    (X1 : World → Nat → Nat → Array Value → Prop) (fX1 : Far X1) (hX1 : ∀ W lo hi g, X1 W lo hi g → ∃ a c, g = #[.bool bp1, .slice a lp1 c])
    (cto1 : ¬ L0 < 0 → ¬ L1 < 0 → ∀ W, Old w W → Calls Tryd.prog 31 #[.agg #[.bool bp1, .slice ap1 lp1 cp1]] W fun e w' => ∃ g, e = .returned (.agg g) ∧ Old W w' ∧ X1 w' W.heap.size w'.heap.size g)
    (ceq1 : ¬ L0 < 0 → ¬ L1 < 0 → ∀ W lo hi g lo' hi' g', X1 W lo hi g → X1 W lo' hi' g' → Calls Tryd.prog 33 #[.agg g, .agg g'] W fun e w' => e = .returned (.bool true) ∧ Old W w')
    (csp : ¬ L0 < 0 → ¬ L1 < 0 → ∀ W lo0 hi0 g0 lo1 hi1 g1, X0 W lo0 hi0 g0 → X1 W lo1 hi1 g1 → Calls Tryd.prog 30 #[.agg g0, .agg g1] W fun e w' => e = .returned (.bool ro) ∧ Old W w')
    (cim : ¬ L0 < 0 → ¬ L1 < 0 → ∀ W lo0 hi0 g0 lo1 hi1 g1, X0 W lo0 hi0 g0 → X1 W lo1 hi1 g1 → Old w W → Calls Tryd.prog 32 #[.agg g0, .agg g1] W fun e w' => e = .returned (.bool ro) ∧ Old W w') :
    Calls Tryd.prog 6 #[.agg #[.int .i64 Np0, .slice ap0 lp0 cp0], .agg #[.bool bp1, .slice ap1 lp1 cp1]] w fun e w' => e = .returned (.bool true) ∧ Old w w' := by
  have HA : Hid (Old w ((w.alloc (.cells #[.int .i64 Np0, .slice ap0 lp0 cp0] 39)).alloc (.cells #[.bool bp1, .slice ap1 lp1 cp1] 48))) := by first | exact (((Old.refl w).alloc _).alloc _)
  have BA0 : Hid (StW ((w.alloc (.cells #[.int .i64 Np0, .slice ap0 lp0 cp0] 39)).alloc (.cells #[.bool bp1, .slice ap1 lp1 cp1] 48)) (w.heap.size) (.int .i64 Np0) (.slice ap0 lp0 cp0) 39) := StW.at1 w _ _ _ _ _ _
  have BA1 : Hid (StW ((w.alloc (.cells #[.int .i64 Np0, .slice ap0 lp0 cp0] 39)).alloc (.cells #[.bool bp1, .slice ap1 lp1 cp1] 48)) (w.heap.size + 1) (.bool bp1) (.slice ap1 lp1 cp1) 48) := StW.at2 w _ _ _ _ _ _
  by_cases hL0 : L0 < 0
  · have dL0 : decide (L0 < 0) = true := decide_eq_true hL0
    go_enter Tryd.func6, Tryd.ntmps6
    go_wp2_with fail
    refine (csz0  _ (HA.out)).mono ?_
    rintro e s0 ⟨rfl, g0⟩
    have HS0 : Hid (Old w s0) := Old.trans HA.out g0
    clear g0
    go_wp2_with fail
    go_ret
    exact ⟨rfl, HS0.out⟩
  have dL0 : decide (L0 < 0) = false := decide_eq_false hL0
  by_cases hL1 : L1 < 0
  · have dL1 : decide (L1 < 0) = true := decide_eq_true hL1
    go_enter Tryd.func6, Tryd.ntmps6
    go_wp2_with fail
    refine (csz0  _ (HA.out)).mono ?_
    rintro e s0 ⟨rfl, g0⟩
    have HS0 : Hid (Old w s0) := Old.trans HA.out g0
    have BS00 : Hid (StW s0 (w.heap.size) (.int .i64 Np0) (.slice ap0 lp0 cp0) 39) := BA0.out.old g0
    have BS01 : Hid (StW s0 (w.heap.size + 1) (.bool bp1) (.slice ap1 lp1 cp1) 48) := BA1.out.old g0
    have y0 := BS01.out.c0
    have y1 := BS01.out.c1
    clear g0
    go_wp2_with fail
    refine (csz1 hL0 _ (HS0.out)).mono ?_
    rintro e s1 ⟨rfl, g1⟩
    have HS1 : Hid (Old w s1) := Old.trans HS0.out g1
    clear g1
    go_wp2_with fail
    go_ret
    exact ⟨rfl, HS1.out⟩
  have dL1 : decide (L1 < 0) = false := decide_eq_false hL1
  have TO0 : Hid (∀ W, Old w W → Calls Tryd.prog 26 #[.agg #[.int .i64 Np0, .slice ap0 lp0 cp0]] W fun e w' => ∃ g, e = .returned (.agg g) ∧ Old W w' ∧ X0 w' W.heap.size w'.heap.size g) := cto0 hL0 hL1
  replace ceq0 := ceq0 hL0 hL1
  clear cto0
  have TO1 : Hid (∀ W, Old w W → Calls Tryd.prog 31 #[.agg #[.bool bp1, .slice ap1 lp1 cp1]] W fun e w' => ∃ g, e = .returned (.agg g) ∧ Old W w' ∧ X1 w' W.heap.size w'.heap.size g) := cto1 hL0 hL1
  replace ceq1 := ceq1 hL0 hL1
  clear cto1
  replace csp := csp hL0 hL1
  replace cim := cim hL0 hL1
  have dro : (ro != ro) = false := by simp
  go_enter Tryd.func6, Tryd.ntmps6
  go_wp2_with fail
  refine (csz0  _ (HA.out)).mono ?_
  rintro e s0 ⟨rfl, g0⟩
  have HS0 : Hid (Old w s0) := Old.trans HA.out g0
  have BS00 : Hid (StW s0 (w.heap.size) (.int .i64 Np0) (.slice ap0 lp0 cp0) 39) := BA0.out.old g0
  have BS01 : Hid (StW s0 (w.heap.size + 1) (.bool bp1) (.slice ap1 lp1 cp1) 48) := BA1.out.old g0
  have y0 := BS01.out.c0
  have y1 := BS01.out.c1
  clear g0
  go_wp2_with fail
  clear y0 y1
  refine (csz1 hL0 _ (HS0.out)).mono ?_
  rintro e s1 ⟨rfl, g1⟩
  have HS1 : Hid (Old w s1) := Old.trans HS0.out g1
  have BS10 : Hid (StW s1 (w.heap.size) (.int .i64 Np0) (.slice ap0 lp0 cp0) 39) := BS00.out.old g1
  have BS11 : Hid (StW s1 (w.heap.size + 1) (.bool bp1) (.slice ap1 lp1 cp1) 48) := BS01.out.old g1
  clear g1
  have HG_0 : Hid (Old w s1) := HS1.out
  have A0_0 : Hid (StW s1 (w.heap.size) (.int .i64 Np0) (.slice ap0 lp0 cp0) 39) := BS10.out
  have A1_0 : Hid (StW s1 (w.heap.size + 1) (.bool bp1) (.slice ap1 lp1 cp1) 48) := BS11.out
  have hsw : w.heap.size + 2 ≤ s1.heap.size := by have := A1_0.out.lt; omega
  clear csz0 BA0 csz1 BA1 HA HS0 HS1 BS00 BS01 BS10 BS11
  have zA00 := A0_0.out.c0
  have zA01 := A0_0.out.c1
  have zA10 := A1_0.out.c0
  have zA11 := A1_0.out.c1
  have HAS : Hid (∀ W', Old s1 W' → (W'.cell? ⟨w.heap.size, 0, none⟩ = some (.int .i64 Np0) ∧ W'.cell? ⟨w.heap.size, 1, none⟩ = some (.slice ap0 lp0 cp0) ∧ W'.cell? ⟨w.heap.size + 1, 0, none⟩ = some (.bool bp1) ∧ W'.cell? ⟨w.heap.size + 1, 1, none⟩ = some (.slice ap1 lp1 cp1))) := fun W' g => ⟨(A0_0.out.old g).c0, (A0_0.out.old g).c1, (A1_0.out.old g).c0, (A1_0.out.old g).c1⟩
  go_wp2_with fail
  go_region_held3 (fun W' => W'.cell? ⟨w.heap.size, 0, none⟩ = some (.int .i64 Np0) ∧ W'.cell? ⟨w.heap.size, 1, none⟩ = some (.slice ap0 lp0 cp0) ∧ W'.cell? ⟨w.heap.size + 1, 0, none⟩ = some (.bool bp1) ∧ W'.cell? ⟨w.heap.size + 1, 1, none⟩ = some (.slice ap1 lp1 cp1)) (first | with_reducible exact HAS.out _ GF.out | with_reducible exact HAS.out _ GT1.out | with_reducible exact HAS.out _ GT0.out | with_reducible exact HAS.out _ (Below.drew (Old.refl s1)) | with_reducible exact HAS.out _ (Old.refl s1)) (first | (go_at_call 26; refine (TO0.out _ (Old.trans HG_0.out (Below.drew (Old.refl s1)))).mono ?_; rintro e t0 ⟨y0, rfl, g0, x0⟩; obtain ⟨a0_, c0_, rfl⟩ := hX0 _ _ _ _ x0; have GT0 : Hid (Old s1 t0) := Old.trans (Below.drew (Old.refl s1)) g0; have XX00 : Hid (X0 t0 _ _ #[.int .i64 Np0, .slice a0_ lp0 c0_]) := x0; clear g0 x0) | (go_at_call 31; refine (TO1.out _ (Old.trans HG_0.out GT0.out)).mono ?_; rintro e t1 ⟨y1, rfl, g1, x1⟩; obtain ⟨a1_, c1_, rfl⟩ := hX1 _ _ _ _ x1; have GT1 : Hid (Old s1 t1) := Old.trans GT0.out g1; have XX10 : Hid (X0 t1 _ _ #[.int .i64 Np0, .slice a0_ lp0 c0_]) := fX0.old XX00.out g1 (Nat.le_refl _); have XX11 : Hid (X1 t1 _ _ #[.bool bp1, .slice a1_ lp1 c1_]) := x1; clear g1 x1) | (go_at_call 30; refine (csp _ _ _ _ _ _ _ XX10.out XX11.out).mono ?_; rintro e tf ⟨rfl, gf⟩; have GF : Hid (Old s1 tf) := Old.trans GT1.out gf; clear gf) | fail)
  clear zA00 zA01 zA10 zA11
  have HG_1 : Hid (Old w tf) := Old.trans HG_0.out (GF.out)
  have A0_1 : Hid (StW tf (w.heap.size) (.int .i64 Np0) (.slice ap0 lp0 cp0) 39) := A0_0.out.old (GF.out)
  have A1_1 : Hid (StW tf (w.heap.size + 1) (.bool bp1) (.slice ap1 lp1 cp1) 48) := A1_0.out.old (GF.out)
  clear HG_0 A0_0 A1_0
  have hstf := GF.out.size
  clear HAS GF GT0 GT1
  have zA00 := A0_1.out.c0
  have zA01 := A0_1.out.c1
  go_wp2_with fail
  refine (TO0.out _ (HG_1.out)).mono ?_
  rintro e x0 ⟨y_, rfl, g_, o_⟩
  obtain ⟨ax0, cx0, rfl⟩ := hX0 _ _ _ _ o_
  clear zA00 zA01
  have hsx0 : tf.heap.size ≤ x0.heap.size := by have := g_.size; first | exact this | (simp at this; omega)
  have HG_2 : Hid (Old w (x0.alloc (.cells #[.int .i64 Np0, .slice ax0 lp0 cx0] 42))) := Old.trans HG_1.out (Old.trans g_ ((Old.refl x0).alloc _))
  have A0_2 : Hid (StW (x0.alloc (.cells #[.int .i64 Np0, .slice ax0 lp0 cx0] 42)) (w.heap.size) (.int .i64 Np0) (.slice ap0 lp0 cp0) 39) := A0_1.out.old (Old.trans g_ ((Old.refl x0).alloc _))
  have A1_2 : Hid (StW (x0.alloc (.cells #[.int .i64 Np0, .slice ax0 lp0 cx0] 42)) (w.heap.size + 1) (.bool bp1) (.slice ap1 lp1 cp1) 48) := A1_1.out.old (Old.trans g_ ((Old.refl x0).alloc _))
  clear HG_1 A0_1 A1_1
  have Bx0_2 : Hid (StW (x0.alloc (.cells #[.int .i64 Np0, .slice ax0 lp0 cx0] 42)) (x0.heap.size) (.int .i64 Np0) (.slice ax0 lp0 cx0) 42) := StW.new x0 _ _ _
  have Rx0_2 : Hid (X0 (x0.alloc (.cells #[.int .i64 Np0, .slice ax0 lp0 cx0] 42)) (tf.heap.size) (x0.heap.size) #[.int .i64 Np0, .slice ax0 lp0 cx0]) := fX0.old (by first | exact o_ | (simp at o_; exact o_)) ((Old.refl x0).alloc _) (Nat.le_refl _)
  clear g_ o_
  have zA10 := A1_2.out.c0
  have zA11 := A1_2.out.c1
  go_wp2_with fail
  refine (TO1.out _ (HG_2.out)).mono ?_
  rintro e x1 ⟨y_, rfl, g_, o_⟩
  obtain ⟨ax1, cx1, rfl⟩ := hX1 _ _ _ _ o_
  clear zA10 zA11
  have hsx1 : x0.heap.size + 1 ≤ x1.heap.size := by have := g_.size; first | exact this | (simp at this; omega)
  have HG_3 : Hid (Old w (x1.alloc (.cells #[.bool bp1, .slice ax1 lp1 cx1] 51))) := Old.trans HG_2.out (Old.trans g_ ((Old.refl x1).alloc _))
  have A0_3 : Hid (StW (x1.alloc (.cells #[.bool bp1, .slice ax1 lp1 cx1] 51)) (w.heap.size) (.int .i64 Np0) (.slice ap0 lp0 cp0) 39) := A0_2.out.old (Old.trans g_ ((Old.refl x1).alloc _))
  have A1_3 : Hid (StW (x1.alloc (.cells #[.bool bp1, .slice ax1 lp1 cx1] 51)) (w.heap.size + 1) (.bool bp1) (.slice ap1 lp1 cp1) 48) := A1_2.out.old (Old.trans g_ ((Old.refl x1).alloc _))
  have Bx0_3 : Hid (StW (x1.alloc (.cells #[.bool bp1, .slice ax1 lp1 cx1] 51)) (x0.heap.size) (.int .i64 Np0) (.slice ax0 lp0 cx0) 42) := Bx0_2.out.old (Old.trans g_ ((Old.refl x1).alloc _))
  have Rx0_3 : Hid (X0 (x1.alloc (.cells #[.bool bp1, .slice ax1 lp1 cx1] 51)) (tf.heap.size) (x0.heap.size) #[.int .i64 Np0, .slice ax0 lp0 cx0]) := fX0.old Rx0_2.out (Old.trans g_ ((Old.refl x1).alloc _)) (by first | omega | (simp; done) | (simp; omega))
  clear HG_2 A0_2 A1_2 Bx0_2 Rx0_2
  have Bx1_3 : Hid (StW (x1.alloc (.cells #[.bool bp1, .slice ax1 lp1 cx1] 51)) (x1.heap.size) (.bool bp1) (.slice ax1 lp1 cx1) 51) := StW.new x1 _ _ _
  have Rx1_3 : Hid (X1 (x1.alloc (.cells #[.bool bp1, .slice ax1 lp1 cx1] 51)) (x0.heap.size + 1) (x1.heap.size) #[.bool bp1, .slice ax1 lp1 cx1]) := fX1.old (by first | exact o_ | (simp at o_; exact o_)) ((Old.refl x1).alloc _) (Nat.le_refl _)
  clear g_ o_
  have zBx00 := Bx0_3.out.c0
  have zBx01 := Bx0_3.out.c1
  have zBx10 := Bx1_3.out.c0
  have zBx11 := Bx1_3.out.c1
  go_wp2_with fail
  refine (cim _ _ _ _ _ _ _ Rx0_3.out Rx1_3.out (HG_3.out)).mono ?_
  rintro e p1 ⟨rfl, gp⟩
  have hsp1 : x1.heap.size + 1 ≤ p1.heap.size := by have := gp.size; simp at this; omega
  clear zBx00 zBx01 zBx10 zBx11
  have HG_4 : Hid (Old w p1) := Old.trans HG_3.out (gp)
  have A0_4 : Hid (StW p1 (w.heap.size) (.int .i64 Np0) (.slice ap0 lp0 cp0) 39) := A0_3.out.old (gp)
  have A1_4 : Hid (StW p1 (w.heap.size + 1) (.bool bp1) (.slice ap1 lp1 cp1) 48) := A1_3.out.old (gp)
  have Bx0_4 : Hid (StW p1 (x0.heap.size) (.int .i64 Np0) (.slice ax0 lp0 cx0) 42) := Bx0_3.out.old (gp)
  have Rx0_4 : Hid (X0 p1 (tf.heap.size) (x0.heap.size) #[.int .i64 Np0, .slice ax0 lp0 cx0]) := fX0.old Rx0_3.out (gp) (by first | omega | (simp; done) | (simp; omega))
  have Bx1_4 : Hid (StW p1 (x1.heap.size) (.bool bp1) (.slice ax1 lp1 cx1) 51) := Bx1_3.out.old (gp)
  have Rx1_4 : Hid (X1 p1 (x0.heap.size + 1) (x1.heap.size) #[.bool bp1, .slice ax1 lp1 cx1]) := fX1.old Rx1_3.out (gp) (by first | omega | (simp; done) | (simp; omega))
  clear HG_3 A0_3 A1_3 Bx0_3 Rx0_3 Bx1_3 Rx1_3
  clear gp
  have zBx00 := Bx0_4.out.c0
  have zBx01 := Bx0_4.out.c1
  have zA00 := A0_4.out.c0
  have zA01 := A0_4.out.c1
  have HAS : Hid (∀ W', Old p1 W' → (W'.cell? ⟨x0.heap.size, 0, none⟩ = some (.int .i64 Np0) ∧ W'.cell? ⟨x0.heap.size, 1, none⟩ = some (.slice ax0 lp0 cx0) ∧ W'.cell? ⟨w.heap.size, 0, none⟩ = some (.int .i64 Np0) ∧ W'.cell? ⟨w.heap.size, 1, none⟩ = some (.slice ap0 lp0 cp0))) := fun W' g => ⟨(Bx0_4.out.old g).c0, (Bx0_4.out.old g).c1, (A0_4.out.old g).c0, (A0_4.out.old g).c1⟩
  go_wp2_with fail
  go_region_held3 (fun W' => W'.cell? ⟨x0.heap.size, 0, none⟩ = some (.int .i64 Np0) ∧ W'.cell? ⟨x0.heap.size, 1, none⟩ = some (.slice ax0 lp0 cx0) ∧ W'.cell? ⟨w.heap.size, 0, none⟩ = some (.int .i64 Np0) ∧ W'.cell? ⟨w.heap.size, 1, none⟩ = some (.slice ap0 lp0 cp0)) (first | with_reducible exact HAS.out _ GE.out | with_reducible exact HAS.out _ GT.out | with_reducible exact HAS.out _ (Below.drew (Old.refl p1)) | with_reducible exact HAS.out _ (Old.refl p1)) (first
    | (go_at_call 26; refine (TO0.out _ (Below.drew HG_4.out)).mono ?_; rintro e wt ⟨y_, rfl, gt, ot⟩; obtain ⟨at_, ct_, rfl⟩ := hX0 _ _ _ _ ot; have GT : Hid (Old p1 wt) := Old.trans (Below.drew (Old.refl p1)) gt; have RT : Hid (X0 wt _ _ #[.int .i64 Np0, .slice at_ lp0 ct_]) := ot; clear gt ot)
    | (go_at_call 28; refine (ceq0 _ _ _ _ _ _ _ (fX0.old Rx0_4.out GT.out (by omega)) RT.out).mono ?_; rintro e v0 ⟨rfl, ge⟩; have GE : Hid (Old p1 v0) := Old.trans GT.out ge; clear ge)
    | fail)
  clear zBx00 zBx01 zA00 zA01
  have hsv0 := GE.out.size
  have HG_5 : Hid (Old w v0) := Old.trans HG_4.out (GE.out)
  have A0_5 : Hid (StW v0 (w.heap.size) (.int .i64 Np0) (.slice ap0 lp0 cp0) 39) := A0_4.out.old (GE.out)
  have A1_5 : Hid (StW v0 (w.heap.size + 1) (.bool bp1) (.slice ap1 lp1 cp1) 48) := A1_4.out.old (GE.out)
  have Bx0_5 : Hid (StW v0 (x0.heap.size) (.int .i64 Np0) (.slice ax0 lp0 cx0) 42) := Bx0_4.out.old (GE.out)
  have Rx0_5 : Hid (X0 v0 (tf.heap.size) (x0.heap.size) #[.int .i64 Np0, .slice ax0 lp0 cx0]) := fX0.old Rx0_4.out (GE.out) (by first | omega | (simp; done) | (simp; omega))
  have Bx1_5 : Hid (StW v0 (x1.heap.size) (.bool bp1) (.slice ax1 lp1 cx1) 51) := Bx1_4.out.old (GE.out)
  have Rx1_5 : Hid (X1 v0 (x0.heap.size + 1) (x1.heap.size) #[.bool bp1, .slice ax1 lp1 cx1]) := fX1.old Rx1_4.out (GE.out) (by first | omega | (simp; done) | (simp; omega))
  clear HG_4 A0_4 A1_4 Bx0_4 Rx0_4 Bx1_4 Rx1_4
  clear GE GT RT HAS
  have zBx10 := Bx1_5.out.c0
  have zBx11 := Bx1_5.out.c1
  have zA10 := A1_5.out.c0
  have zA11 := A1_5.out.c1
  have HAS : Hid (∀ W', Old v0 W' → (W'.cell? ⟨x1.heap.size, 0, none⟩ = some (.bool bp1) ∧ W'.cell? ⟨x1.heap.size, 1, none⟩ = some (.slice ax1 lp1 cx1) ∧ W'.cell? ⟨w.heap.size + 1, 0, none⟩ = some (.bool bp1) ∧ W'.cell? ⟨w.heap.size + 1, 1, none⟩ = some (.slice ap1 lp1 cp1))) := fun W' g => ⟨(Bx1_5.out.old g).c0, (Bx1_5.out.old g).c1, (A1_5.out.old g).c0, (A1_5.out.old g).c1⟩
  go_wp2_with fail
  go_region_held3 (fun W' => W'.cell? ⟨x1.heap.size, 0, none⟩ = some (.bool bp1) ∧ W'.cell? ⟨x1.heap.size, 1, none⟩ = some (.slice ax1 lp1 cx1) ∧ W'.cell? ⟨w.heap.size + 1, 0, none⟩ = some (.bool bp1) ∧ W'.cell? ⟨w.heap.size + 1, 1, none⟩ = some (.slice ap1 lp1 cp1)) (first | with_reducible exact HAS.out _ GE.out | with_reducible exact HAS.out _ GT.out | with_reducible exact HAS.out _ (Below.drew (Old.refl v0)) | with_reducible exact HAS.out _ (Old.refl v0)) (first
    | (go_at_call 31; refine (TO1.out _ (Below.drew HG_5.out)).mono ?_; rintro e wt ⟨y_, rfl, gt, ot⟩; obtain ⟨at_, ct_, rfl⟩ := hX1 _ _ _ _ ot; have GT : Hid (Old v0 wt) := Old.trans (Below.drew (Old.refl v0)) gt; have RT : Hid (X1 wt _ _ #[.bool bp1, .slice at_ lp1 ct_]) := ot; clear gt ot)
    | (go_at_call 33; refine (ceq1 _ _ _ _ _ _ _ (fX1.old Rx1_5.out GT.out (by omega)) RT.out).mono ?_; rintro e v1 ⟨rfl, ge⟩; have GE : Hid (Old v0 v1) := Old.trans GT.out ge; clear ge)
    | fail)
  clear zBx10 zBx11 zA10 zA11
  have hsv1 := GE.out.size
  have HG_6 : Hid (Old w v1) := Old.trans HG_5.out (GE.out)
  have A0_6 : Hid (StW v1 (w.heap.size) (.int .i64 Np0) (.slice ap0 lp0 cp0) 39) := A0_5.out.old (GE.out)
  have A1_6 : Hid (StW v1 (w.heap.size + 1) (.bool bp1) (.slice ap1 lp1 cp1) 48) := A1_5.out.old (GE.out)
  have Bx0_6 : Hid (StW v1 (x0.heap.size) (.int .i64 Np0) (.slice ax0 lp0 cx0) 42) := Bx0_5.out.old (GE.out)
  have Rx0_6 : Hid (X0 v1 (tf.heap.size) (x0.heap.size) #[.int .i64 Np0, .slice ax0 lp0 cx0]) := fX0.old Rx0_5.out (GE.out) (by first | omega | (simp; done) | (simp; omega))
  have Bx1_6 : Hid (StW v1 (x1.heap.size) (.bool bp1) (.slice ax1 lp1 cx1) 51) := Bx1_5.out.old (GE.out)
  have Rx1_6 : Hid (X1 v1 (x0.heap.size + 1) (x1.heap.size) #[.bool bp1, .slice ax1 lp1 cx1]) := fX1.old Rx1_5.out (GE.out) (by first | omega | (simp; done) | (simp; omega))
  clear HG_5 A0_5 A1_5 Bx0_5 Rx0_5 Bx1_5 Rx1_5
  clear GE GT RT HAS
  go_wp2_with fail
  go_ret
  exact ⟨rfl, HG_6.out⟩
end Go.Proofs.YtcbbljadjibfeaaDoor
