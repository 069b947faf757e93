/- Proved: several texts in one: what each proves is said ahead of it. -/
import Derived.Deep.RegionWith
import Derived.Deep.RegionHeld3
import Derived.Deep.DeepCutAuto
import Derived.Test.YtinldhoimnbkhaaDoorCards
import Derived.Test.YtinldhoimnbkhaaDoorTie
import Derived.Deep.DeepHandedRow
import Derived.Lib.LaidTab
import Derived.Stop.LaidErr
import Derived.Lib.SmallJoins
import Derived.Test.YtinldhoimnbkhaaDoorDb00
import Derived.Test.YtinldhoimnbkhaaDoorDb01
import Derived.Test.YtinldhoimnbkhaaDoorModel
import Derived.Test.YtinldhoimnbkhaaDoorLen
import Derived.Test.YtinldhoimnbkhaaDoorDiv
import Derived.Test.YtinldhoimnbkhaaDoorRem2
import Derived.Test.YtinldhoimnbkhaaDoorBoth
import Derived.Test.YtinldhoimnbkhaaDoorDb02
import Derived.Test.YtinldhoimnbkhaaDoorDb15
import Derived.Test.YtinldhoimnbkhaaDoorDb03
import Derived.Test.YtinldhoimnbkhaaDoorDb04
import Derived.Test.YtinldhoimnbkhaaDoorDb05
import Derived.Test.YtinldhoimnbkhaaDoorDb06
import Derived.Test.YtinldhoimnbkhaaDoorDb07
import Derived.Test.YtinldhoimnbkhaaDoorSzAdd
import Derived.Test.YtinldhoimnbkhaaDoorDb08
import Derived.Test.YtinldhoimnbkhaaDoorDb09
import Derived.Test.YtinldhoimnbkhaaDoorDb10
import Derived.Test.YtinldhoimnbkhaaDoorDb11
import Derived.Test.YtinldhoimnbkhaaDoorDb14
import Derived.Test.YtinldhoimnbkhaaDoorDb12
import Derived.Test.YtinldhoimnbkhaaDoorDb13
import Derived.Test.YtinldhoimnbkhaaDoorRegGoodCipherA
import Derived.Test.YtinldhoimnbkhaaDoorLawGoodCipher
import Derived.Test.YtinldhoimnbkhaaDoorBackS
import Derived.Test.YtinldhoimnbkhaaDoorDb18
import Derived.Test.YtinldhoimnbkhaaDoorRegS
import Derived.Test.YtinldhoimnbkhaaDoorMlr
import Derived.Test.YtinldhoimnbkhaaDoorRcr
import Derived.Test.YtinldhoimnbkhaaDoorRRs3
import Derived.Test.YtinldhoimnbkhaaDoorDb25
import Derived.Test.YtinldhoimnbkhaaDoorDb24
import Derived.Test.YtinldhoimnbkhaaDoorFrameP
import Derived.Test.YtinldhoimnbkhaaDoorFrameC
/- Proved: the walk of the statement FnExactGoodPlain, under what each function that it calls does. -/
namespace Go.Proofs.YtinldhoimnbkhaaDoor
open Go.ChangeShapes Go.WideShapes Go.ChangeAt Go.RowKit
set_option linter.unusedVariables false
set_option linter.unusedSimpArgs false
set_option maxRecDepth 100000 in
set_option maxHeartbeats 16000000 in
theorem law9_GoodPlain (w : World) (Np0 Tp0 Ep0 : Int) (lp0 : Nat) (ap0 : Option Addr) (cp0 : Nat) (lp1 : Nat) (ap1 : Option Addr) (cp1 : Nat) (br0 : Bool) (L0 : Int)
    (csz0 : ¬ (1048576 : Int) < (lp1 : Int) → ∀ W, Old w W → Calls Tryd.prog 29 #[.agg #[.int .i64 Np0, .int .i64 Tp0, .int .i64 Ep0, .slice ap0 lp0 cp0], .int .i64 1048576] W fun e w' => e = .returned (.int .i64 L0) ∧ Old W w')
    (X0 : World → Nat → Nat → Array Value → Prop) (fX0 : Far X0) (hX0 : ∀ W lo hi g, X0 W lo hi g → ∃ a c, g = #[.int .i64 Np0, .int .i64 Tp0, .int .i64 Ep0, .slice a lp0 c])
    (cto0 : ¬ (1048576 : Int) < (lp1 : Int) → ¬ L0 < 0 → ∀ W, Old w W → Calls Tryd.prog 31 #[.agg #[.int .i64 Np0, .int .i64 Tp0, .int .i64 Ep0, .slice ap0 lp0 cp0]] W fun e w' => ∃ g, e = .returned (.agg g) ∧ Old W w' ∧ X0 w' W.heap.size w'.heap.size g)
    (ceq0 : ¬ (1048576 : Int) < (lp1 : Int) → ¬ L0 < 0 → ∀ W lo hi g lo' hi' g', X0 W lo hi g → X0 W lo' hi' g' → Calls Tryd.prog 33 #[.agg g, .agg g'] W fun e w' => e = .returned (.bool true) ∧ Old W w')
    (X1 : World → Nat → Nat → Value → Prop) (fX1 : Far X1) (hX1 : ∀ W lo hi g, X1 W lo hi g → ∃ a c, g = (.slice a lp1 c))
    (cto1 : ¬ (1048576 : Int) < (lp1 : Int) → ¬ L0 < 0 → ∀ W, Old w W → Calls Tryd.prog 35 #[.slice ap1 lp1 cp1] W fun e w' => ∃ g, e = .returned (g) ∧ Old W w' ∧ X1 w' W.heap.size w'.heap.size g)
    (ceq1 : ¬ (1048576 : Int) < (lp1 : Int) → ¬ L0 < 0 → ∀ W lo hi g lo' hi' g', X1 W lo hi g → X1 W lo' hi' g' → Calls Tryd.prog 37 #[g, g'] W fun e w' => e = .returned (.bool true) ∧ Old W w')
    (csp : ¬ (1048576 : Int) < (lp1 : Int) → ¬ L0 < 0 → ∀ W lo0 hi0 g0 lo1 hi1 g1, X0 W lo0 hi0 g0 → X1 W lo1 hi1 g1 → Old w W → Calls Tryd.prog 43 #[.agg g0, g1] W fun e w' => e = .returned (.bool br0) ∧ Old W w')
    (cim : ¬ (1048576 : Int) < (lp1 : Int) → ¬ L0 < 0 → ∀ W lo0 hi0 g0 lo1 hi1 g1, X0 W lo0 hi0 g0 → X1 W lo1 hi1 g1 → Old w W → Calls Tryd.prog 44 #[.agg g0, g1] W fun e w' => e = .returned (.bool br0) ∧ Old W w') :
    Calls Tryd.prog 10 #[.agg #[.int .i64 Np0, .int .i64 Tp0, .int .i64 Ep0, .slice ap0 lp0 cp0], .slice ap1 lp1 cp1] w fun e w' => e = .returned (.bool true) ∧ Old w w' := by
  have HA : Hid (Old w (w.alloc (.cells #[.int .i64 Np0, .int .i64 Tp0, .int .i64 Ep0, .slice ap0 lp0 cp0] 44))) := ((Old.refl w).alloc _)
  have BA0 : Hid (Bk (w.alloc (.cells #[.int .i64 Np0, .int .i64 Tp0, .int .i64 Ep0, .slice ap0 lp0 cp0] 44)) (w.heap.size) #[.int .i64 Np0, .int .i64 Tp0, .int .i64 Ep0, .slice ap0 lp0 cp0] 44) := (Bk.new' w _ _ (by simp))
  by_cases hL1 : (1048576 : Int) < (lp1 : Int)
  · have dL1 : decide ((1048576 : Int) < (lp1 : Int)) = true := decide_eq_true hL1
    clear csz0 ceq0 cto0 ceq1 cto1 csp cim
    go_enter Tryd.func10, Tryd.ntmps10
    go_wp2_with fail
    go_ret
    exact ⟨rfl, HA.out⟩
  have dL1 : decide ((1048576 : Int) < (lp1 : Int)) = false := decide_eq_false hL1
  by_cases hL0 : L0 < 0
  · have dL0 : decide (L0 < 0) = true := decide_eq_true hL0
    go_enter Tryd.func10, Tryd.ntmps10
    go_wp2_with fail
    refine (csz0 hL1 _ (HA.out)).mono ?_
    rintro e s0 ⟨rfl, g0⟩
    have HS0 : Hid (Old w s0) := Old.trans HA.out g0
    clear g0
    go_wp2_with fail
    go_ret
    exact ⟨rfl, HS0.out⟩
  have dL0 : decide (L0 < 0) = false := decide_eq_false hL0
  have TO0 : Hid (∀ W, Old w W → Calls Tryd.prog 31 #[.agg #[.int .i64 Np0, .int .i64 Tp0, .int .i64 Ep0, .slice ap0 lp0 cp0]] W fun e w' => ∃ g, e = .returned (.agg g) ∧ Old W w' ∧ X0 w' W.heap.size w'.heap.size g) := cto0 hL1 hL0
  replace ceq0 := ceq0 hL1 hL0
  clear cto0
  have TO1 : Hid (∀ W, Old w W → Calls Tryd.prog 35 #[.slice ap1 lp1 cp1] W fun e w' => ∃ g, e = .returned (g) ∧ Old W w' ∧ X1 w' W.heap.size w'.heap.size g) := cto1 hL1 hL0
  replace ceq1 := ceq1 hL1 hL0
  clear cto1
  replace csp := csp hL1 hL0
  replace cim := cim hL1 hL0
  have dro0 : (br0 != br0) = false := by simp
  go_enter Tryd.func10, Tryd.ntmps10
  go_wp2_with fail
  refine (csz0 hL1 _ (HA.out)).mono ?_
  rintro e s0 ⟨rfl, g0⟩
  have HS0 : Hid (Old w s0) := Old.trans HA.out g0
  have BS0_0 : Hid (Bk s0 (w.heap.size) #[.int .i64 Np0, .int .i64 Tp0, .int .i64 Ep0, .slice ap0 lp0 cp0] 44) := BA0.out.old g0
  clear g0
  have HG_0 : Hid (Old w s0) := HS0.out
  have A0_0 : Hid (Bk s0 (w.heap.size) #[.int .i64 Np0, .int .i64 Tp0, .int .i64 Ep0, .slice ap0 lp0 cp0] 44) := BS0_0.out
  have hsw : w.heap.size + 1 ≤ s0.heap.size := by have := A0_0.out.lt; omega
  clear csz0 BA0 HA HS0 BS0_0
  have zA0_0 := A0_0.out.c (i := 0) rfl
  have zA0_1 := A0_0.out.c (i := 1) rfl
  have zA0_2 := A0_0.out.c (i := 2) rfl
  have zA0_3 := A0_0.out.c (i := 3) rfl
  go_wp2_with fail
  refine (TO0.out _ (HG_0.out)).mono ?_
  rintro e b0 ⟨y_, rfl, g_, o_⟩
  obtain ⟨ab0, cb0, rfl⟩ := hX0 _ _ _ _ o_
  clear zA0_0 zA0_1 zA0_2 zA0_3
  have hsb0 : s0.heap.size ≤ b0.heap.size := by have := g_.size; first | exact this | (simp at this; omega)
  have HG_1 : Hid (Old w b0) := Old.trans HG_0.out (g_)
  have A0_1 : Hid (Bk b0 (w.heap.size) #[.int .i64 Np0, .int .i64 Tp0, .int .i64 Ep0, .slice ap0 lp0 cp0] 44) := A0_0.out.old (g_)
  clear HG_0 A0_0
  have Rb0_1 : Hid (X0 b0 (s0.heap.size) (b0.heap.size) #[.int .i64 Np0, .int .i64 Tp0, .int .i64 Ep0, .slice ab0 lp0 cb0]) := (by first | exact o_ | (simp at o_; exact o_))
  clear g_ o_
  go_wp2_with fail
  refine (TO1.out _ (HG_1.out)).mono ?_
  rintro e b1 ⟨y_, rfl, g_, o_⟩
  obtain ⟨ab1, cb1, rfl⟩ := hX1 _ _ _ _ o_
  have hsb1 : b0.heap.size ≤ b1.heap.size := by have := g_.size; first | exact this | (simp at this; omega)
  have HG_2 : Hid (Old w b1) := Old.trans HG_1.out (g_)
  have A0_2 : Hid (Bk b1 (w.heap.size) #[.int .i64 Np0, .int .i64 Tp0, .int .i64 Ep0, .slice ap0 lp0 cp0] 44) := A0_1.out.old (g_)
  have Rb0_2 : Hid (X0 b1 (s0.heap.size) (b0.heap.size) #[.int .i64 Np0, .int .i64 Tp0, .int .i64 Ep0, .slice ab0 lp0 cb0]) := fX0.old Rb0_1.out (g_) (by first | omega | (simp; done) | (simp; omega))
  clear HG_1 A0_1 Rb0_1
  have Rb1_2 : Hid (X1 b1 (b0.heap.size) (b1.heap.size) (.slice ab1 lp1 cb1)) := (by first | exact o_ | (simp at o_; exact o_))
  clear g_ o_
  go_wp2_with fail
  refine (csp _ _ _ _ _ _ _ Rb0_2.out Rb1_2.out (HG_2.out)).mono ?_
  rintro e ts ⟨rfl, gp⟩
  have hsts : b1.heap.size ≤ ts.heap.size := by have := gp.size; first | exact this | (simp at this; omega)
  clear Rb0_2 Rb1_2
  have HG_3 : Hid (Old w ts) := Old.trans HG_2.out (Old.trans gp ((Old.refl ts)))
  have A0_3 : Hid (Bk ts (w.heap.size) #[.int .i64 Np0, .int .i64 Tp0, .int .i64 Ep0, .slice ap0 lp0 cp0] 44) := A0_2.out.old (Old.trans gp ((Old.refl ts)))
  clear HG_2 A0_2
  clear gp
  have zA0_0 := A0_3.out.c (i := 0) rfl
  have zA0_1 := A0_3.out.c (i := 1) rfl
  have zA0_2 := A0_3.out.c (i := 2) rfl
  have zA0_3 := A0_3.out.c (i := 3) rfl
  go_wp2_with fail
  refine (TO0.out _ (HG_3.out)).mono ?_
  rintro e x0 ⟨y_, rfl, g_, o_⟩
  obtain ⟨ax0, cx0, rfl⟩ := hX0 _ _ _ _ o_
  clear zA0_0 zA0_1 zA0_2 zA0_3
  have hsx0 : ts.heap.size ≤ x0.heap.size := by have := g_.size; first | exact this | (simp at this; omega)
  have HG_4 : Hid (Old w (x0.alloc (.cells #[.int .i64 Np0, .int .i64 Tp0, .int .i64 Ep0, .slice ax0 lp0 cx0] 47))) := Old.trans HG_3.out (Old.trans g_ ((Old.refl x0).alloc _))
  have A0_4 : Hid (Bk (x0.alloc (.cells #[.int .i64 Np0, .int .i64 Tp0, .int .i64 Ep0, .slice ax0 lp0 cx0] 47)) (w.heap.size) #[.int .i64 Np0, .int .i64 Tp0, .int .i64 Ep0, .slice ap0 lp0 cp0] 44) := A0_3.out.old (Old.trans g_ ((Old.refl x0).alloc _))
  clear HG_3 A0_3
  have Bx0_4 : Hid (Bk (x0.alloc (.cells #[.int .i64 Np0, .int .i64 Tp0, .int .i64 Ep0, .slice ax0 lp0 cx0] 47)) (x0.heap.size) #[.int .i64 Np0, .int .i64 Tp0, .int .i64 Ep0, .slice ax0 lp0 cx0] 47) := Bk.new' x0 _ _ rfl
  have Rx0_4 : Hid (X0 (x0.alloc (.cells #[.int .i64 Np0, .int .i64 Tp0, .int .i64 Ep0, .slice ax0 lp0 cx0] 47)) (ts.heap.size) (x0.heap.size) #[.int .i64 Np0, .int .i64 Tp0, .int .i64 Ep0, .slice ax0 lp0 cx0]) := fX0.old (by first | exact o_ | (simp at o_; exact o_)) ((Old.refl x0).alloc _) (Nat.le_refl _)
  clear g_ o_
  go_wp2_with fail
  refine (TO1.out _ (HG_4.out)).mono ?_
  rintro e x1 ⟨y_, rfl, g_, o_⟩
  obtain ⟨ax1, cx1, rfl⟩ := hX1 _ _ _ _ o_
  have hsx1 : x0.heap.size + 1 ≤ x1.heap.size := by have := g_.size; first | exact this | (simp at this; omega)
  have HG_5 : Hid (Old w x1) := Old.trans HG_4.out (g_)
  have A0_5 : Hid (Bk x1 (w.heap.size) #[.int .i64 Np0, .int .i64 Tp0, .int .i64 Ep0, .slice ap0 lp0 cp0] 44) := A0_4.out.old (g_)
  have Bx0_5 : Hid (Bk x1 (x0.heap.size) #[.int .i64 Np0, .int .i64 Tp0, .int .i64 Ep0, .slice ax0 lp0 cx0] 47) := Bx0_4.out.old (g_)
  have Rx0_5 : Hid (X0 x1 (ts.heap.size) (x0.heap.size) #[.int .i64 Np0, .int .i64 Tp0, .int .i64 Ep0, .slice ax0 lp0 cx0]) := fX0.old Rx0_4.out (g_) (by first | omega | (simp; done) | (simp; omega))
  clear HG_4 A0_4 Bx0_4 Rx0_4
  have Rx1_5 : Hid (X1 x1 (x0.heap.size + 1) (x1.heap.size) (.slice ax1 lp1 cx1)) := (by first | exact o_ | (simp at o_; exact o_))
  clear g_ o_
  have zBx0_0 := Bx0_5.out.c (i := 0) rfl
  have zBx0_1 := Bx0_5.out.c (i := 1) rfl
  have zBx0_2 := Bx0_5.out.c (i := 2) rfl
  have zBx0_3 := Bx0_5.out.c (i := 3) rfl
  go_wp2_with fail
  refine (cim _ _ _ _ _ _ _ Rx0_5.out Rx1_5.out (HG_5.out)).mono ?_
  rintro e p1 ⟨rfl, gp⟩
  have hsp1 : x1.heap.size ≤ p1.heap.size := by have := gp.size; first | exact this | (simp at this; omega)
  clear zBx0_0 zBx0_1 zBx0_2 zBx0_3
  have HG_6 : Hid (Old w p1) := Old.trans HG_5.out (gp)
  have A0_6 : Hid (Bk p1 (w.heap.size) #[.int .i64 Np0, .int .i64 Tp0, .int .i64 Ep0, .slice ap0 lp0 cp0] 44) := A0_5.out.old (gp)
  have Bx0_6 : Hid (Bk p1 (x0.heap.size) #[.int .i64 Np0, .int .i64 Tp0, .int .i64 Ep0, .slice ax0 lp0 cx0] 47) := Bx0_5.out.old (gp)
  have Rx0_6 : Hid (X0 p1 (ts.heap.size) (x0.heap.size) #[.int .i64 Np0, .int .i64 Tp0, .int .i64 Ep0, .slice ax0 lp0 cx0]) := fX0.old Rx0_5.out (gp) (by first | omega | (simp; done) | (simp; omega))
  have Rx1_6 : Hid (X1 p1 (x0.heap.size + 1) (x1.heap.size) (.slice ax1 lp1 cx1)) := fX1.old Rx1_5.out (gp) (by first | omega | (simp; done) | (simp; omega))
  clear HG_5 A0_5 Bx0_5 Rx0_5 Rx1_5
  clear gp
  have zBx0_0 := Bx0_6.out.c (i := 0) rfl
  have zBx0_1 := Bx0_6.out.c (i := 1) rfl
  have zBx0_2 := Bx0_6.out.c (i := 2) rfl
  have zBx0_3 := Bx0_6.out.c (i := 3) rfl
  have zA0_0 := A0_6.out.c (i := 0) rfl
  have zA0_1 := A0_6.out.c (i := 1) rfl
  have zA0_2 := A0_6.out.c (i := 2) rfl
  have zA0_3 := A0_6.out.c (i := 3) rfl
  have HAS : Hid (∀ W', Old p1 W' → (W'.cell? ⟨x0.heap.size, 0, none⟩ = some (.int .i64 Np0) ∧ W'.cell? ⟨x0.heap.size, 1, none⟩ = some (.int .i64 Tp0) ∧ W'.cell? ⟨x0.heap.size, 2, none⟩ = some (.int .i64 Ep0) ∧ W'.cell? ⟨x0.heap.size, 3, none⟩ = some (.slice ax0 lp0 cx0) ∧ W'.cell? ⟨w.heap.size, 0, none⟩ = some (.int .i64 Np0) ∧ W'.cell? ⟨w.heap.size, 1, none⟩ = some (.int .i64 Tp0) ∧ W'.cell? ⟨w.heap.size, 2, none⟩ = some (.int .i64 Ep0) ∧ W'.cell? ⟨w.heap.size, 3, none⟩ = some (.slice ap0 lp0 cp0))) := fun W' g => ⟨(Bx0_6.out.old g).c (i := 0) rfl, (Bx0_6.out.old g).c (i := 1) rfl, (Bx0_6.out.old g).c (i := 2) rfl, (Bx0_6.out.old g).c (i := 3) rfl, (A0_6.out.old g).c (i := 0) rfl, (A0_6.out.old g).c (i := 1) rfl, (A0_6.out.old g).c (i := 2) rfl, (A0_6.out.old g).c (i := 3) rfl⟩
  go_wp2_with fail
  go_region_held3 (fun W' => W'.cell? ⟨x0.heap.size, 0, none⟩ = some (.int .i64 Np0) ∧ W'.cell? ⟨x0.heap.size, 1, none⟩ = some (.int .i64 Tp0) ∧ W'.cell? ⟨x0.heap.size, 2, none⟩ = some (.int .i64 Ep0) ∧ W'.cell? ⟨x0.heap.size, 3, none⟩ = some (.slice ax0 lp0 cx0) ∧ W'.cell? ⟨w.heap.size, 0, none⟩ = some (.int .i64 Np0) ∧ W'.cell? ⟨w.heap.size, 1, none⟩ = some (.int .i64 Tp0) ∧ W'.cell? ⟨w.heap.size, 2, none⟩ = some (.int .i64 Ep0) ∧ W'.cell? ⟨w.heap.size, 3, none⟩ = some (.slice ap0 lp0 cp0)) (first | with_reducible exact HAS.out _ GE.out | with_reducible exact HAS.out _ GT.out | with_reducible exact HAS.out _ (Below.drew (Old.refl p1)) | with_reducible exact HAS.out _ (Old.refl p1)) (first
    | (go_at_call 31; refine (TO0.out _ (Below.drew HG_6.out)).mono ?_; rintro e wt ⟨y_, rfl, gt, ot⟩; obtain ⟨at_, ct_, rfl⟩ := hX0 _ _ _ _ ot; have GT : Hid (Old p1 wt) := Old.trans (Below.drew (Old.refl p1)) gt; have RT : Hid (X0 wt _ _ #[.int .i64 Np0, .int .i64 Tp0, .int .i64 Ep0, .slice at_ lp0 ct_]) := ot; clear gt ot)
    | (go_at_call 33; refine (ceq0 _ _ _ _ _ _ _ (fX0.old Rx0_6.out GT.out (by omega)) RT.out).mono ?_; rintro e v0 ⟨rfl, ge⟩; have GE : Hid (Old p1 v0) := Old.trans GT.out ge; clear ge)
    | fail)
  clear zBx0_0 zBx0_1 zBx0_2 zBx0_3 zA0_0 zA0_1 zA0_2 zA0_3
  have hsv0 := GE.out.size
  have HG_7 : Hid (Old w v0) := Old.trans HG_6.out (GE.out)
  have A0_7 : Hid (Bk v0 (w.heap.size) #[.int .i64 Np0, .int .i64 Tp0, .int .i64 Ep0, .slice ap0 lp0 cp0] 44) := A0_6.out.old (GE.out)
  have Bx0_7 : Hid (Bk v0 (x0.heap.size) #[.int .i64 Np0, .int .i64 Tp0, .int .i64 Ep0, .slice ax0 lp0 cx0] 47) := Bx0_6.out.old (GE.out)
  have Rx0_7 : Hid (X0 v0 (ts.heap.size) (x0.heap.size) #[.int .i64 Np0, .int .i64 Tp0, .int .i64 Ep0, .slice ax0 lp0 cx0]) := fX0.old Rx0_6.out (GE.out) (by first | omega | (simp; done) | (simp; omega))
  have Rx1_7 : Hid (X1 v0 (x0.heap.size + 1) (x1.heap.size) (.slice ax1 lp1 cx1)) := fX1.old Rx1_6.out (GE.out) (by first | omega | (simp; done) | (simp; omega))
  clear HG_6 A0_6 Bx0_6 Rx0_6 Rx1_6
  clear GE GT RT HAS
  go_wp2_with fail
  refine (TO1.out _ (HG_7.out)).mono ?_
  rintro e wt ⟨y_, rfl, gt, ot⟩
  obtain ⟨at_, ct_, rfl⟩ := hX1 _ _ _ _ ot
  have GT : Hid (Old v0 wt) := gt
  have RT : Hid (X1 wt _ _ (.slice at_ lp1 ct_)) := ot
  clear gt ot
  go_wp2_with fail
  refine (ceq1 _ _ _ _ _ _ _ (fX1.old Rx1_7.out GT.out (by omega)) RT.out).mono ?_
  rintro e v1 ⟨rfl, ge⟩
  have GE : Hid (Old v0 v1) := Old.trans GT.out ge
  clear ge
  have hsv1 := GE.out.size
  have HG_8 : Hid (Old w v1) := Old.trans HG_7.out (GE.out)
  have A0_8 : Hid (Bk v1 (w.heap.size) #[.int .i64 Np0, .int .i64 Tp0, .int .i64 Ep0, .slice ap0 lp0 cp0] 44) := A0_7.out.old (GE.out)
  have Bx0_8 : Hid (Bk v1 (x0.heap.size) #[.int .i64 Np0, .int .i64 Tp0, .int .i64 Ep0, .slice ax0 lp0 cx0] 47) := Bx0_7.out.old (GE.out)
  have Rx0_8 : Hid (X0 v1 (ts.heap.size) (x0.heap.size) #[.int .i64 Np0, .int .i64 Tp0, .int .i64 Ep0, .slice ax0 lp0 cx0]) := fX0.old Rx0_7.out (GE.out) (by first | omega | (simp; done) | (simp; omega))
  have Rx1_8 : Hid (X1 v1 (x0.heap.size + 1) (x1.heap.size) (.slice ax1 lp1 cx1)) := fX1.old Rx1_7.out (GE.out) (by first | omega | (simp; done) | (simp; omega))
  clear HG_7 A0_7 Bx0_7 Rx0_7 Rx1_7
  clear GE GT RT
  go_wp2_with fail
  go_ret
  exact ⟨rfl, HG_8.out⟩
end Go.Proofs.YtinldhoimnbkhaaDoor
/- Proved: rows of numbers as a law carries them: copies, comparisons, marks; no other function of the program. -/
namespace Go.Proofs.YtinldhoimnbkhaaDoor
open Go.ChangeShapes Go.WideShapes Go.ChangeAt Go.RowKit
set_option linter.unusedVariables false
set_option linter.unusedSimpArgs false
/-- a row's copy -/
def XI (xs : List Int) (W : World) (lo hi : Nat) (v : Value) : Prop := ∃ a c, v = .slice a xs.length c ∧ OwI xs W lo hi (.slice a xs.length c) ∧ xs.length ≤ c
theorem far_XI (xs : List Int) : Far (XI xs) := fun W W' lo hi v h hf hs => by
  obtain ⟨a, c, q, o, f⟩ := h
  exact ⟨a, c, q, far_OwI xs W W' lo hi _ o hf hs, f⟩
theorem shape_XI {xs : List Int} (W : World) (lo hi : Nat) (v : Value) (h : XI xs W lo hi v) : ∃ a c, v = .slice a xs.length c := by
  obtain ⟨a, c, q, o, f⟩ := h
  exact ⟨a, c, q⟩
theorem ki_to (xs : List Int) (v : Value) (W : World) (h : Row W v xs) (hl : xs.length ≤ 1048576) :
    Calls Tryd.prog 35 #[v] W fun e w' => ∃ g, e = .returned g ∧ Old W w' ∧ XI xs w' W.heap.size w'.heap.size g := by
  refine (toInts_any xs v W h hl).mono ?_
  rintro e w' ⟨rfl, g, o⟩
  exact ⟨_, rfl, g, _, _, rfl, OwI.of o, Nat.le_refl _⟩
theorem ki_eq (xs : List Int) (W : World) (lo hi : Nat) (g : Value) (lo' hi' : Nat) (g' : Value) (h : XI xs W lo hi g) (h' : XI xs W lo' hi' g') (hl : xs.length ≤ 1073741824) :
    Calls Tryd.prog 37 #[g, g'] W fun e w' => e = .returned (.bool true) ∧ Old W w' := by
  obtain ⟨a, c, rfl, o, f⟩ := h
  obtain ⟨a', c', rfl, o', f'⟩ := h'
  exact eqInts_yes xs _ _ W o.row o'.row hl
end Go.Proofs.YtinldhoimnbkhaaDoor
/- Proved: what the program tells of small polynomials (areWithin, isSecret, isPlain) and of secrets (GoodSecret). -/
namespace Go.Proofs.YtinldhoimnbkhaaDoor
open Go.ChangeShapes Go.WideShapes Go.ChangeAt Go.RowKit
set_option linter.unusedVariables false
set_option linter.unusedSimpArgs false
/-- each within lo .. hi, from k on -/
def wlB (lo hi : Int) (ss : List Int) (k : Nat) : Bool := decide (∀ i, i < ss.length → k ≤ i → lo ≤ ss.getD i 0 ∧ ss.getD i 0 ≤ hi)
theorem wlB_end {lo hi : Int} {ss : List Int} {k : Nat} (h : ss.length ≤ k) : wlB lo hi ss k = true := decide_eq_true (fun i h1 h2 => by omega)
theorem wlB_no {lo hi : Int} {ss : List Int} {k : Nat} (h : k < ss.length) (hk : ¬ (lo ≤ ss.getD k 0 ∧ ss.getD k 0 ≤ hi)) : wlB lo hi ss k = false :=
  decide_eq_false (fun hh => hk (hh k h (Nat.le_refl _)))
theorem wlB_yes {lo hi : Int} {ss : List Int} {k : Nat} (hk : lo ≤ ss.getD k 0 ∧ ss.getD k 0 ≤ hi) : wlB lo hi ss k = wlB lo hi ss (k + 1) := by
  unfold wlB
  congr 1
  apply propext
  constructor
  · intro h i h1 h2
    exact h i h1 (by omega)
  · intro h i h1 h2
    rcases Nat.lt_or_ge k i with h3 | h3
    · exact h i h1 (by omega)
    · obtain rfl : i = k := by omega
      exact hk
def wmB (n lo hi : Int) (ss : List Int) : Bool := decide ((ss.length : Int) = n) && wlB lo hi ss 0
theorem wmB_poly (n p : Int) (ss : List Int) : wmB n 0 (p - 1) ss = polyB p n ss := by
  unfold wmB polyB
  congr 1
  rw [Bool.eq_iff_iff]
  unfold wlB
  rw [decide_eq_true_iff, List.all_eq_true]
  constructor
  · intro h x hx
    obtain ⟨i, hi, rfl⟩ := List.getElem_of_mem hx
    have h1 := h i hi (Nat.zero_le _)
    rw [show ss.getD i 0 = ss[i] by simp [List.getD, hi]] at h1
    simp [resB]
    omega
  · intro h i hi _
    have h1 := h ss[i] (List.getElem_mem hi)
    rw [show ss.getD i 0 = ss[i] by simp [List.getD, hi]]
    simp [resB] at h1
    omega
set_option maxRecDepth 100000 in
set_option maxHeartbeats 2000000 in
theorem areWithin4 (n lo hi : Int) (ss : List Int) (v : Value) (w : World) (hv : Row w v ss) (hl : ss.length ≤ 9223372036854775807) :
    Calls Tryd.prog 104 #[v, .int .i64 n, .int .i64 lo, .int .i64 hi] w fun e w' => e = .returned (.bool (wmB n lo hi ss)) ∧ w' = w := by
  obtain ⟨a0, c0, ev⟩ := hv.slice
  subst ev
  have HV : Hid (Row w (.slice a0 ss.length c0) ss) := hv
  clear hv
  by_cases hn : (ss.length : Int) = n
  case neg =>
    have d0 : ((ss.length : Int) != n) = true := by simpa using hn
    have HE : Hid (wmB n lo hi ss = false) := by show _ = _; unfold wmB; rw [decide_eq_false hn]; rfl
    clear hn
    go_enter Tryd.func104, Tryd.ntmps104
    go_wp2_with fail
    go_ret
    exact ⟨ret_bb HE.out.symm, rfl⟩
  have d0 : ((ss.length : Int) != n) = false := by simpa using hn
  have HE : Hid (wmB n lo hi ss = wlB lo hi ss 0) := by show _ = _; unfold wmB; rw [decide_eq_true hn]; rfl
  generalize wmB n lo hi ss = R at *
  clear hn
  go_enter Tryd.func104, Tryd.ntmps104
  go_wp2_with fail
  go_loopw [17, 10] (fun i x W => ∃ k : Nat, k ≤ ss.length ∧ i = .int .i64 k ∧ Hid (R = wlB lo hi ss k) ∧ W = w) (fun i _ _ => ss.length - (intOf i).toNat)
  case atStart => exact ⟨0, by omega, rfl, HE.out, rfl⟩
  case round =>
    obtain ⟨k, hk, rfl, H1, hW⟩ := hrel
    subst hW
    by_cases hlt : k < ss.length
    · have d1 : decide ((k : Int) < (ss.length : Int)) = true := decide_eq_true (by omega)
      rcases HV.out with ⟨a, cap, e, e2⟩ | ⟨b, o, cap, e, hb2, h3, hc⟩
      · subst e2
        simp at hlt
      simp only [Value.slice.injEq, true_and] at e
      obtain ⟨rfl, rfl⟩ := e
      have c2 := hc k hlt
      by_cases ht : lo ≤ ss.getD k 0 ∧ ss.getD k 0 ≤ hi
      · have H2 : Hid (R = wlB lo hi ss (k + 1)) := H1.out.trans (wlB_yes ht)
        clear hc H1
        generalize ss.getD k 0 = y at *
        have d2 : decide (y < lo) = false := decide_eq_false (by omega)
        have d3 : decide (hi < y) = false := decide_eq_false (by omega)
        clear ht
        go_wp2_with fail
        exact ⟨⟨k + 1, by omega, by go_num, H2, by first | rfl | trivial⟩, by simp [intOf]; omega⟩
      · have H2 : Hid (R = false) := H1.out.trans (wlB_no hlt ht)
        clear hc H1
        generalize ss.getD k 0 = y at *
        by_cases h5 : y < lo
        · have d2 : decide (y < lo) = true := decide_eq_true h5
          clear ht
          go_wp2_with fail
          go_ret
          exact ⟨ret_bb H2.out.symm, rfl⟩
        · have d2 : decide (y < lo) = false := decide_eq_false h5
          have d3 : decide (hi < y) = true := decide_eq_true (by omega)
          clear ht
          go_wp2_with fail
          go_ret
          exact ⟨ret_bb H2.out.symm, rfl⟩
    · have d1 : decide ((k : Int) < (ss.length : Int)) = false := decide_eq_false (by omega)
      have H2 : Hid (R = true) := H1.out.trans (wlB_end (by omega))
      go_wp2_with fail
      go_ret
      exact ⟨ret_bb H2.out.symm, rfl⟩
theorem isPlain_any (N T E : Int) (x3 x4 x5 x6 : Value) (o3 : x3.oneCell' = true) (o4 : x4.oneCell' = true) (o5 : x5.oneCell' = true) (o6 : x6.oneCell' = true) (ss : List Int) (v : Value) (w : World) (hv : Row w v ss) (hl : ss.length ≤ 9223372036854775807) (hT : 1 ≤ T ∧ T ≤ 65536) (sh : ∃ a3 l3 c3 a4 l4 c4 b5 a6 l6 c6, x3 = .slice a3 l3 c3 ∧ x4 = .slice a4 l4 c4 ∧ x5 = .bool b5 ∧ x6 = .slice a6 l6 c6) :
    Calls Tryd.prog 80 #[.agg #[.int .i64 N, .int .i64 T, .int .i64 E, x3, x4, x5, x6], v] w fun e w' => e = .returned (.bool (polyB T N ss)) ∧ Old w w' := by
  have K := fun W (h : Row W v ss) => areWithin4 N 0 (T - 1) ss v W h hl
  rw [wmB_poly N T ss] at K
  have HV : Hid (Row w v ss) := hv
  obtain ⟨a0, c0, ev⟩ := hv.slice
  subst ev
  obtain ⟨a3, l3, c3, a4, l4, c4, b5, a6, l6, c6, rfl, rfl, rfl, rfl⟩ := sh
  have HA : Hid (Old w (w.alloc (.cells #[.int .i64 N, .int .i64 T, .int .i64 E, .slice a3 l3 c3, .slice a4 l4 c4, .bool b5, .slice a6 l6 c6] 103))) := (Old.refl w).alloc _
  have rT : IntKind.i64.wrap (T - 1) = T - 1 := by rw [IntKind.wrap_i64]; omega
  clear hv
  generalize polyB T N ss = r at *
  go_enter Tryd.func80, Tryd.ntmps80
  go_wp2_with fail
  refine (K _ (HV.out.old HA.out)).mono ?_
  rintro e w1 ⟨rfl, hw⟩
  subst hw
  go_wp2_with fail
  go_ret
  exact ⟨rfl, HA.out⟩
end Go.Proofs.YtinldhoimnbkhaaDoor
/- Proved: what model and program tell of plains (GoodPlain). -/
namespace Go.Proofs.YtinldhoimnbkhaaDoor
open Go.ChangeShapes Go.WideShapes Go.ChangeAt Go.RowKit
open M2
set_option linter.unusedVariables false
set_option linter.unusedSimpArgs false
theorem prB_T {N T E : Int} {xs : List Int} (h : prB N T E xs = true) : 2 ≤ T ∧ T ≤ 65536 := by
  unfold prB inQ at h
  simp only [Bool.and_eq_true, decide_eq_true_eq] at h
  omega
theorem l9Plain_any (N T E : Int) (a0 : Option Addr) (l0 c0 : Nat) (ss : List Int) (u : Value) (w : World) (hu : Row w u ss) (hs : ss.length ≤ 9223372036854775807) (hT : 2 ≤ T ∧ T ≤ 65536) :
    Calls Tryd.prog 78 #[.agg #[.int .i64 N, .int .i64 T, .int .i64 E, .slice a0 l0 c0], u] w fun e w' => e = .returned (.bool (polyB T N ss)) ∧ Old w w' := by
  have K := fun W (h : Row W u ss) => spec_poly T N 0 ss u W h hs (by omega)
  have HU : Hid (Row w u ss) := hu
  obtain ⟨a1, c1, eu⟩ := hu.slice
  subst eu
  have HA : Hid (Old w (w.alloc (.cells #[.int .i64 N, .int .i64 T, .int .i64 E, .slice a0 l0 c0] 47))) := (Old.refl w).alloc _
  clear hu
  generalize polyB T N ss = r at *
  go_enter Tryd.func78, Tryd.ntmps78
  go_wp2_with fail
  refine (K _ (HU.out.old HA.out)).mono ?_
  rintro e w1 ⟨rfl, g1⟩
  have HG1 : Hid (Old w w1) := Old.trans HA.out g1
  clear g1
  go_wp2_with fail
  go_ret
  exact ⟨rfl, HG1.out⟩
set_option maxRecDepth 100000 in
set_option maxHeartbeats 2000000 in
theorem spec_goodPlain (N T E : Int) (xs ss : List Int) (v u : Value) (w : World) (hv : Row w v xs) (hf : Fit v) (hu : Row w u ss) (hl : xs.length ≤ 9223372036854775807) (hs : ss.length ≤ 9223372036854775807) (hx : ∀ x ∈ xs, -9223372036854775808 ≤ x ∧ x ≤ 9223372036854775807) :
    Calls Tryd.prog 43 #[.agg #[.int .i64 N, .int .i64 T, .int .i64 E, v], u] w fun e w' => e = .returned (.bool (prB N T E xs && polyB T N ss)) ∧ Old w w' := by
  have hxv : Row w v xs := hv
  obtain ⟨a0, c0, rfl⟩ := hv.slice
  obtain ⟨a1, c1, eu⟩ := hu.slice
  subst eu
  have HA : Hid (Old w (w.alloc (.cells #[.int .i64 N, .int .i64 T, .int .i64 E, .slice a0 xs.length c0] 47))) := (Old.refl w).alloc _
  have BA : Hid (Bk (w.alloc (.cells #[.int .i64 N, .int .i64 T, .int .i64 E, .slice a0 xs.length c0] 47)) w.heap.size #[.int .i64 N, .int .i64 T, .int .i64 E, .slice a0 xs.length c0] 47) := Bk.new' w _ _ rfl
  have K1 : ∀ W, Old w W → Calls Tryd.prog 30 #[.agg #[.int .i64 N, .int .i64 T, .int .i64 E, .slice a0 xs.length c0]] W fun e w' => e = .returned (.bool (prB N T E xs)) ∧ Old W w' := fun W g => spec_goodParams N T E xs _ W (hv.old g) hf hl hx
  have K2 : prB N T E xs = true → ∀ W, Old w W → Calls Tryd.prog 78 #[.agg #[.int .i64 N, .int .i64 T, .int .i64 E, .slice a0 xs.length c0], .slice a1 ss.length c1] W fun e w' => e = .returned (.bool (polyB T N ss)) ∧ Old W w' := fun h W g => l9Plain_any N T E a0 xs.length c0 ss _ W (hu.old g) hs (prB_T h)
  clear hv hxv hf hu
  generalize prB N T E xs = s1 at *
  generalize polyB T N ss = s2 at *
  cases s1
  · clear K2
    go_enter Tryd.func43, Tryd.ntmps43
    go_wp2_with fail
    refine (K1 _ HA.out).mono ?_
    rintro e w1 ⟨rfl, g1⟩
    have HG1 : Hid (Old w w1) := Old.trans HA.out g1
    clear g1
    go_wp2_with fail
    go_ret
    exact ⟨rfl, HG1.out⟩
  · replace K2 := K2 rfl
    go_enter Tryd.func43, Tryd.ntmps43
    go_wp2_with fail
    refine (K1 _ HA.out).mono ?_
    rintro e w1 ⟨rfl, g1⟩
    have HG1 : Hid (Old w w1) := Old.trans HA.out g1
    have B1 : Hid (Bk w1 w.heap.size #[.int .i64 N, .int .i64 T, .int .i64 E, .slice a0 xs.length c0] 47) := BA.out.old g1
    clear g1
    have z0 := B1.out.c (i := 0) rfl
    have z1 := B1.out.c (i := 1) rfl
    have z2 := B1.out.c (i := 2) rfl
    have z3 := B1.out.c (i := 3) rfl
    go_wp2_with fail
    refine (K2 _ HG1.out).mono ?_
    rintro e w2 ⟨rfl, g2⟩
    have HG2 : Hid (Old w w2) := Old.trans HG1.out g2
    clear g2 z0 z1 z2 z3
    go_wp2_with fail
    go_ret
    exact ⟨by simp, HG2.out⟩
set_option maxRecDepth 100000 in
set_option maxHeartbeats 2000000 in
theorem impl_goodPlain (N T E : Int) (xs ss : List Int) (v u : Value) (w : World) (hP : PrsW w) (hT : TabW w) (hv : Row w v xs) (hf : Fit v) (hu : Row w u ss) (hl : xs.length ≤ 9223372036854775807) (hs : ss.length ≤ 9223372036854775807) :
    Calls Tryd.prog 44 #[.agg #[.int .i64 N, .int .i64 T, .int .i64 E, v], u] w fun e w' => e = .returned (.bool (prB N T E xs && polyB T N ss)) ∧ Old w w' := by
  obtain ⟨Rf, hRf⟩ := Rings_roots N xs
  have K1 := fun W (g : Old w W) => impl_reckonerOf N T E xs Rf v W (hP.old g) (hT.old g) (hv.old g) hf hl hRf
  obtain ⟨a0, c0, rfl⟩ := hv.slice
  obtain ⟨a1, c1, eu⟩ := hu.slice
  subst eu
  have HA : Hid (Old w (w.alloc (.cells #[.int .i64 N, .int .i64 T, .int .i64 E, .slice a0 xs.length c0] 47))) := (Old.refl w).alloc _
  have HU : Hid (Row w (.slice a1 ss.length c1) ss) := hu
  clear hv hf hu hP hT hRf
  go_enter Tryd.func44, Tryd.ntmps44
  go_wp2_with fail
  refine (K1 _ HA.out).mono ?_
  rintro e w1 ⟨g1, h⟩
  have HG1 : Hid (Old w w1) := Old.trans HA.out g1
  clear g1 K1
  rcases h with ⟨hB, rfl⟩ | ⟨hB, g, a, l, c, hg, rfl, hrg, _⟩
  · have HB : Hid (prB N T E xs = false) := hB
    have HG2 : Hid (Old w (w1.alloc (.cells rk0 103))) := HG1.out.alloc _
    clear hB
    go_wp2_with fail
    go_ret
    exact ⟨ret_bb (by rw [HB.out]; rfl), HG2.out⟩
  · have HB : Hid (prB N T E xs = true) := hB
    have hT2 := prB_T hB
    have K2 := fun W (h : Row W (.slice a1 ss.length c1) ss) => isPlain_any N T E (.slice a0 xs.length c0) (.slice (some ⟨g, 0, none⟩) xs.length xs.length) (.bool false) (.slice a l c) rfl rfl rfl rfl ss _ W h hs (by omega) ⟨_, _, _, _, _, _, _, _, _, _, rfl, rfl, rfl, rfl⟩
    have HG2 : Hid (Old w (w1.alloc (.cells #[.int .i64 N, .int .i64 T, .int .i64 E, .slice a0 xs.length c0, .slice (some ⟨g, 0, none⟩) xs.length xs.length, .bool false, .slice a l c] 103))) := HG1.out.alloc _
    clear hB hrg hg hT2
    obtain ⟨r, hr⟩ : ∃ r, polyB T N ss = r := ⟨_, rfl⟩
    have HR : Hid (polyB T N ss = r) := hr
    rw [hr] at K2
    clear hr
    go_wp2_with fail
    refine (K2 _ (HU.out.old HG2.out)).mono ?_
    rintro e w2 ⟨rfl, g2⟩
    have HG3 : Hid (Old w w2) := Old.trans HG2.out g2
    clear g2
    go_wp2_with fail
    go_ret
    exact ⟨ret_bb (by rw [HB.out, HR.out]; rfl), HG3.out⟩
end Go.Proofs.YtinldhoimnbkhaaDoor
/- Proved: the statement on GoodPlain at every argument, in a world in which the two tables are laid. -/
namespace Go.Proofs.YtinldhoimnbkhaaDoor
open Go.ChangeShapes Go.WideShapes Go.ChangeAt Go.RowKit
set_option linter.unusedVariables false
set_option linter.unusedSimpArgs false
theorem GoodPlain_any (N T E : Int) (xs ss : List Int) (v u : Value) (w : World) (hv : Row w v xs) (hl : xs.length ≤ 9223372036854775807) (hx : ∀ x ∈ xs, -9223372036854775808 ≤ x ∧ x ≤ 9223372036854775807) (hu : Row w u ss) (hs : ss.length ≤ 9223372036854775807) (hP : PrsW w) (hT : TabW w) :
    Calls Tryd.prog 10 #[.agg #[.int .i64 N, .int .i64 T, .int .i64 E, v], u] w fun e w' => e = .returned (.bool true) ∧ Old w w' := by
  obtain ⟨a0, c0, rfl⟩ := hv.slice
  obtain ⟨a1, c1, eu⟩ := hu.slice
  subst eu
  have bnd : ∀ {A : Prop}, ¬ (1048576 : Int) < (ss.length : Int) → ¬ leftN 1048576 xs.length < 0 → (xs.length ≤ 1048576 → ss.length ≤ 1048576 → A) → A := fun h0 h1 k => by
    obtain ⟨q1, q2, q3⟩ := leftN_ok h1 (by omega)
    exact k (by omega) (by omega)
  refine law9_GoodPlain w N T E xs.length a0 c0 ss.length a1 c1 (prB N T E xs && polyB T N ss) (leftN 1048576 xs.length)
    (fun _ W g => kp_sz N T E a0 xs.length c0 1048576 W hl (by omega) (by omega))
    (XP N T E xs) (far_XP N T E xs) shape_XP (fun h0 h1 W g => bnd h0 h1 fun h3 _ => kp_to N T E xs _ W (hv.old g) h3) (fun h0 h1 W lo hi g lo' hi' g' k k' => bnd h0 h1 fun h3 _ => kp_eq N T E xs W lo hi g lo' hi' g' k k' (by omega))
    (XI ss) (far_XI ss) shape_XI (fun h0 h1 W g => bnd h0 h1 fun _ h3 => ki_to ss _ W (hu.old g) h3) (fun h0 h1 W lo hi g lo' hi' g' k k' => bnd h0 h1 fun _ h3 => ki_eq ss W lo hi g lo' hi' g' k k' (by omega))
    (fun h0 h1 W lo hi g lo1 hi1 g1 k k1 _ => ?_) (fun h0 h1 W lo hi g lo1 hi1 g1 k k1 q => ?_)
  · obtain ⟨a, c, rfl, o, f⟩ := k
    obtain ⟨a', c', rfl, o', f'⟩ := k1
    exact spec_goodPlain N T E xs ss _ _ W o.row f o'.row hl hs hx
  · obtain ⟨a, c, rfl, o, f⟩ := k
    obtain ⟨a', c', rfl, o', f'⟩ := k1
    exact impl_goodPlain N T E xs ss _ _ W (hP.old q) (hT.old q) o.row f o'.row hl hs
end Go.Proofs.YtinldhoimnbkhaaDoor
/- Proved: the two tables that the program's text lays, read; a ring and a list of numbers that come in, opened; a world in which the tables are laid. -/
namespace Go.Proofs.YtinldhoimnbkhaaDoor
open Go.ChangeShapes Go.WideShapes Go.ChangeAt Go.RowKit Go.Joins
set_option linter.unusedVariables false
set_option linter.unusedSimpArgs false
set_option maxRecDepth 100000
theorem open_row {H : Type} {enc : TypeId × Value → H} {W : World} {base : Nat} {v : Value} {d : DataW H} {p : List MemPlace} (hok : Value.okWide Tryd.prog W .any base 22 v)
    (h : DataW.Trod enc Tryd.prog W 0 (fun _ => true) true 22 v d p) : ∃ xs, Row W v xs ∧ xs.length ≤ 9223372036854775807 ∧ ∀ n ∈ xs, (Lit.int .i64 n).wf = true := by
  obtain ⟨a0, len0, cap0, rfl⟩ := okWide_slice Tryd.underlying22 hok
  obtain ⟨fuel, hf⟩ := h
  rcases open_ints Tryd.underlying22 Tryd.underlying3 cellsIntT hf with ⟨hcs, _⟩ | ⟨x, l, c, zs, hcs, _, hl, hm, hz, _, hcell, hwz⟩
  · simp [Value.cells] at hcs
    obtain ⟨rfl, rfl, rfl⟩ := hcs
    exact ⟨[], Or.inl ⟨none, 0, rfl, rfl⟩, by simp, by simp⟩
  · simp [Value.cells] at hcs
    obtain ⟨rfl, rfl, rfl⟩ := hcs
    have hz' : zs.length = cap0 := by simpa using hz
    refine ⟨zs.take len0, row_of_ints hl hz' hcell, ?_, fun n hn => hwz n (List.mem_of_mem_take hn)⟩
    rw [List.length_take]
    have : cap0 ≤ 2 ^ 63 - 1 := hm
    omega
end Go.Proofs.YtinldhoimnbkhaaDoor
