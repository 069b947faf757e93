/- Proved: the walk of the statement FnExactGoodCipher, under what each function that it calls does. -/
import Derived.Test.YtakleianimcmdaaDoorG02
import Derived.Test.YtakleianimcmdaaDoorRegGoodCipherA
import Derived.Deep.RegionWith
import Derived.Deep.RegionHeld3
import Derived.Deep.DeepCutAuto
namespace Go.Proofs.YtakleianimcmdaaDoor
open Go.ChangeShapes Go.WideShapes Go.ChangeAt Go.RowKit
set_option linter.unusedVariables false
set_option linter.unusedSimpArgs false
set_option maxRecDepth 100000 in
set_option maxHeartbeats 16000000 in
theorem law9_GoodCipher (w : World) (Np0 Tp0 Ep0 : Int) (lp0 : Nat) (ap0 : Option Addr) (cp0 : Nat) (lp1 : Nat) (ap1 : Option Addr) (cp1 : Nat) (br0 : Bool) (L0 L1 : Int)
    (csz0 : ∀ W, Old w W → Calls Tryd.prog 5 #[.agg #[.int .i64 Np0, .int .i64 Tp0, .int .i64 Ep0, .slice ap0 lp0 cp0], .int .i64 1048576] W fun e w' => e = .returned (.int .i64 L0) ∧ Old W w')
    (csz1 : ¬ L0 < 0 → ∀ W, Old w W → Calls Tryd.prog 10 #[.agg #[.slice ap1 lp1 cp1], .int .i64 L0] W fun e w' => e = .returned (.int .i64 L1) ∧ Old W w')
    (X0 : World → Nat → Nat → Array Value → Prop) (fX0 : Far X0) (hX0 : ∀ W lo hi g, X0 W lo hi g → ∃ a c, g = #[.int .i64 Np0, .int .i64 Tp0, .int .i64 Ep0, .slice a lp0 c])
    (cto0 : ¬ L0 < 0 → ¬ L1 < 0 → ∀ W, Old w W → Calls Tryd.prog 7 #[.agg #[.int .i64 Np0, .int .i64 Tp0, .int .i64 Ep0, .slice ap0 lp0 cp0]] W fun e w' => ∃ g, e = .returned (.agg g) ∧ Old W w' ∧ X0 w' W.heap.size w'.heap.size g)
    (ceq0 : ¬ L0 < 0 → ¬ L1 < 0 → ∀ W lo hi g lo' hi' g', X0 W lo hi g → X0 W lo' hi' g' → Calls Tryd.prog 9 #[.agg g, .agg g'] W fun e w' => e = .returned (.bool true) ∧ Old W w')
    (X1 : World → Nat → Nat → Array Value → Prop) (fX1 : Far X1) (hX1 : ∀ W lo hi g, X1 W lo hi g → ∃ a c, g = #[.slice a lp1 c])
    (cto1 : ¬ L0 < 0 → ¬ L1 < 0 → ∀ W, Old w W → Calls Tryd.prog 12 #[.agg #[.slice ap1 lp1 cp1]] W fun e w' => ∃ g, e = .returned (.agg g) ∧ Old W w' ∧ X1 w' W.heap.size w'.heap.size g)
    (ceq1 : ¬ L0 < 0 → ¬ L1 < 0 → ∀ W lo hi g lo' hi' g', X1 W lo hi g → X1 W lo' hi' g' → Calls Tryd.prog 14 #[.agg g, .agg g'] W fun e w' => e = .returned (.bool true) ∧ Old W w')
    (csp : ¬ L0 < 0 → ¬ L1 < 0 → ∀ W lo0 hi0 g0 lo1 hi1 g1, X0 W lo0 hi0 g0 → X1 W lo1 hi1 g1 → Old w W → Calls Tryd.prog 11 #[.agg g0, .agg g1] W fun e w' => e = .returned (.bool br0) ∧ Old W w')
    (cim : ¬ L0 < 0 → ¬ L1 < 0 → ∀ W lo0 hi0 g0 lo1 hi1 g1, X0 W lo0 hi0 g0 → X1 W lo1 hi1 g1 → Old w W → Calls Tryd.prog 13 #[.agg g0, .agg g1] W fun e w' => e = .returned (.bool br0) ∧ Old W w') :
    Calls Tryd.prog 4 #[.agg #[.int .i64 Np0, .int .i64 Tp0, .int .i64 Ep0, .slice ap0 lp0 cp0], .agg #[.slice ap1 lp1 cp1]] w fun e w' => e = .returned (.bool true) ∧ Old w w' := by
  have HA : Hid (Old w ((w.alloc (.cells #[.int .i64 Np0, .int .i64 Tp0, .int .i64 Ep0, .slice ap0 lp0 cp0] 24)).alloc (.cells #[.slice ap1 lp1 cp1] 34))) := (((Old.refl w).alloc _).alloc _)
  have BA0 : Hid (Bk ((w.alloc (.cells #[.int .i64 Np0, .int .i64 Tp0, .int .i64 Ep0, .slice ap0 lp0 cp0] 24)).alloc (.cells #[.slice ap1 lp1 cp1] 34)) (w.heap.size) #[.int .i64 Np0, .int .i64 Tp0, .int .i64 Ep0, .slice ap0 lp0 cp0] 24) := ((Bk.new' w _ _ (by simp)).alloc _)
  have BA1 : Hid (Bk ((w.alloc (.cells #[.int .i64 Np0, .int .i64 Tp0, .int .i64 Ep0, .slice ap0 lp0 cp0] 24)).alloc (.cells #[.slice ap1 lp1 cp1] 34)) (w.heap.size + 1) #[.slice ap1 lp1 cp1] 34) := (Bk.new' (w.alloc (.cells #[.int .i64 Np0, .int .i64 Tp0, .int .i64 Ep0, .slice ap0 lp0 cp0] 24)) _ _ (by simp))
  by_cases hL0 : L0 < 0
  · have dL0 : decide (L0 < 0) = true := decide_eq_true hL0
    go_enter Tryd.func4, Tryd.ntmps4
    go_wp2_with fail
    refine (csz0  _ (HA.out)).mono ?_
    rintro e s0 ⟨rfl, g0⟩
    have HS0 : Hid (Old w s0) := Old.trans HA.out g0
    clear g0
    go_wp2_with fail
    go_ret
    exact ⟨rfl, HS0.out⟩
  have dL0 : decide (L0 < 0) = false := decide_eq_false hL0
  by_cases hL1 : L1 < 0
  · have dL1 : decide (L1 < 0) = true := decide_eq_true hL1
    go_enter Tryd.func4, Tryd.ntmps4
    go_wp2_with fail
    refine (csz0  _ (HA.out)).mono ?_
    rintro e s0 ⟨rfl, g0⟩
    have HS0 : Hid (Old w s0) := Old.trans HA.out g0
    have BS0_0 : Hid (Bk s0 (w.heap.size) #[.int .i64 Np0, .int .i64 Tp0, .int .i64 Ep0, .slice ap0 lp0 cp0] 24) := BA0.out.old g0
    have BS0_1 : Hid (Bk s0 (w.heap.size + 1) #[.slice ap1 lp1 cp1] 34) := BA1.out.old g0
    clear g0
    have y0 := BS0_1.out.c (i := 0) rfl
    go_wp2_with fail
    clear y0
    refine (csz1 hL0 _ (HS0.out)).mono ?_
    rintro e s1 ⟨rfl, g1⟩
    have HS1 : Hid (Old w s1) := Old.trans HS0.out g1
    clear g1
    go_wp2_with fail
    go_ret
    exact ⟨rfl, HS1.out⟩
  have dL1 : decide (L1 < 0) = false := decide_eq_false hL1
  have TO0 : Hid (∀ W, Old w W → Calls Tryd.prog 7 #[.agg #[.int .i64 Np0, .int .i64 Tp0, .int .i64 Ep0, .slice ap0 lp0 cp0]] W fun e w' => ∃ g, e = .returned (.agg g) ∧ Old W w' ∧ X0 w' W.heap.size w'.heap.size g) := cto0 hL0 hL1
  replace ceq0 := ceq0 hL0 hL1
  clear cto0
  have TO1 : Hid (∀ W, Old w W → Calls Tryd.prog 12 #[.agg #[.slice ap1 lp1 cp1]] W fun e w' => ∃ g, e = .returned (.agg g) ∧ Old W w' ∧ X1 w' W.heap.size w'.heap.size g) := cto1 hL0 hL1
  replace ceq1 := ceq1 hL0 hL1
  clear cto1
  replace csp := csp hL0 hL1
  replace cim := cim hL0 hL1
  have dro0 : (br0 != br0) = false := by simp
  go_enter Tryd.func4, Tryd.ntmps4
  go_wp2_with fail
  refine (csz0  _ (HA.out)).mono ?_
  rintro e s0 ⟨rfl, g0⟩
  have HS0 : Hid (Old w s0) := Old.trans HA.out g0
  have BS0_0 : Hid (Bk s0 (w.heap.size) #[.int .i64 Np0, .int .i64 Tp0, .int .i64 Ep0, .slice ap0 lp0 cp0] 24) := BA0.out.old g0
  have BS0_1 : Hid (Bk s0 (w.heap.size + 1) #[.slice ap1 lp1 cp1] 34) := BA1.out.old g0
  clear g0
  have y0 := BS0_1.out.c (i := 0) rfl
  go_wp2_with fail
  clear y0
  refine (csz1 hL0 _ (HS0.out)).mono ?_
  rintro e s1 ⟨rfl, g1⟩
  have HS1 : Hid (Old w s1) := Old.trans HS0.out g1
  have BS1_0 : Hid (Bk s1 (w.heap.size) #[.int .i64 Np0, .int .i64 Tp0, .int .i64 Ep0, .slice ap0 lp0 cp0] 24) := BS0_0.out.old g1
  have BS1_1 : Hid (Bk s1 (w.heap.size + 1) #[.slice ap1 lp1 cp1] 34) := BS0_1.out.old g1
  clear g1
  have HG_0 : Hid (Old w s1) := HS1.out
  have A0_0 : Hid (Bk s1 (w.heap.size) #[.int .i64 Np0, .int .i64 Tp0, .int .i64 Ep0, .slice ap0 lp0 cp0] 24) := BS1_0.out
  have A1_0 : Hid (Bk s1 (w.heap.size + 1) #[.slice ap1 lp1 cp1] 34) := BS1_1.out
  have hsw : w.heap.size + 2 ≤ s1.heap.size := by have := A1_0.out.lt; omega
  clear csz0 csz1 BA0 BA1 HA HS0 HS1 BS0_0 BS0_1 BS1_0 BS1_1
  have zA0_0 := A0_0.out.c (i := 0) rfl
  have zA0_1 := A0_0.out.c (i := 1) rfl
  have zA0_2 := A0_0.out.c (i := 2) rfl
  have zA0_3 := A0_0.out.c (i := 3) rfl
  have zA1_0 := A1_0.out.c (i := 0) rfl
  go_wp2_with fail
  refine reg9_GoodCipherA s1 _ _ _ _ _ _ _ (fun W v => ∃ lo hi g, v = .agg g ∧ X0 W lo hi g ∧ hi ≤ W.heap.size) (fun W W' v h g => by obtain ⟨lo, hi, y, rfl, h1, h2⟩ := h; exact ⟨lo, hi, _, rfl, fX0.old h1 g h2, Nat.le_trans h2 g.size⟩) (fun W h => (TO0.out W (Old.trans HG_0.out h)).mono (fun e w' h => by obtain ⟨g, rfl, h1, h2⟩ := h; exact ⟨_, rfl, h1, _, _, g, rfl, h2, Nat.le_refl _⟩)) A0_0.out (fun W v => ∃ lo hi g, v = .agg g ∧ X1 W lo hi g ∧ hi ≤ W.heap.size) (fun W W' v h g => by obtain ⟨lo, hi, y, rfl, h1, h2⟩ := h; exact ⟨lo, hi, _, rfl, fX1.old h1 g h2, Nat.le_trans h2 g.size⟩) (fun W h => (TO1.out W (Old.trans HG_0.out h)).mono (fun e w' h => by obtain ⟨g, rfl, h1, h2⟩ := h; exact ⟨_, rfl, h1, _, _, g, rfl, h2, Nat.le_refl _⟩)) A1_0.out (fun W lo hi g0 => True ∧ g0 = .bool br0) (fun W W' lo hi g0 h h1 h2 => ⟨trivial, h.2⟩) (fun W v0 v1 hO H0 H1 => by obtain ⟨lo0, hi0, y0, rfl, x0, q0⟩ := H0; obtain ⟨lo1, hi1, y1, rfl, x1, q1⟩ := H1; exact (csp W _ _ _ _ _ _ x0 x1 (Old.trans HG_0.out hO)).mono (fun e w' h => by obtain ⟨rfl, h1⟩ := h; exact ⟨_, rfl, h1, trivial, rfl⟩)) _ _ _ (by first | decide | simp) rfl rfl ?_
  intro  los his q0 u_0 u_1 u_2 u_3 u_4 ts gS loS_ hiS_ rS_ 
  obtain ⟨rS, rfl⟩ := rS_
  clear rS
  have h_s : s1.heap.size ≤ los ∧ his ≤ ts.heap.size := ⟨loS_, hiS_⟩
  obtain ⟨hlos, hhis⟩ := h_s
  clear loS_ hiS_
  simp only [putAll, Act.put]
  clear zA0_0 zA0_1 zA0_2 zA0_3 zA1_0
  have HG_1 : Hid (Old w ts) := Old.trans HG_0.out (gS)
  have A0_1 : Hid (Bk ts (w.heap.size) #[.int .i64 Np0, .int .i64 Tp0, .int .i64 Ep0, .slice ap0 lp0 cp0] 24) := A0_0.out.old (gS)
  have A1_1 : Hid (Bk ts (w.heap.size + 1) #[.slice ap1 lp1 cp1] 34) := A1_0.out.old (gS)
  clear HG_0 A0_0 A1_0
  have hsts := gS.size
  clear gS 
  have zA0_0 := A0_1.out.c (i := 0) rfl
  have zA0_1 := A0_1.out.c (i := 1) rfl
  have zA0_2 := A0_1.out.c (i := 2) rfl
  have zA0_3 := A0_1.out.c (i := 3) rfl
  go_wp2_with fail
  refine (TO0.out _ (HG_1.out)).mono ?_
  rintro e x0 ⟨y_, rfl, g_, o_⟩
  obtain ⟨ax0, cx0, rfl⟩ := hX0 _ _ _ _ o_
  clear zA0_0 zA0_1 zA0_2 zA0_3
  have hsx0 : ts.heap.size ≤ x0.heap.size := by have := g_.size; first | exact this | (simp at this; omega)
  have HG_2 : Hid (Old w (x0.alloc (.cells #[.int .i64 Np0, .int .i64 Tp0, .int .i64 Ep0, .slice ax0 lp0 cx0] 28))) := Old.trans HG_1.out (Old.trans g_ ((Old.refl x0).alloc _))
  have A0_2 : Hid (Bk (x0.alloc (.cells #[.int .i64 Np0, .int .i64 Tp0, .int .i64 Ep0, .slice ax0 lp0 cx0] 28)) (w.heap.size) #[.int .i64 Np0, .int .i64 Tp0, .int .i64 Ep0, .slice ap0 lp0 cp0] 24) := A0_1.out.old (Old.trans g_ ((Old.refl x0).alloc _))
  have A1_2 : Hid (Bk (x0.alloc (.cells #[.int .i64 Np0, .int .i64 Tp0, .int .i64 Ep0, .slice ax0 lp0 cx0] 28)) (w.heap.size + 1) #[.slice ap1 lp1 cp1] 34) := A1_1.out.old (Old.trans g_ ((Old.refl x0).alloc _))
  clear HG_1 A0_1 A1_1
  have Bx0_2 : Hid (Bk (x0.alloc (.cells #[.int .i64 Np0, .int .i64 Tp0, .int .i64 Ep0, .slice ax0 lp0 cx0] 28)) (x0.heap.size) #[.int .i64 Np0, .int .i64 Tp0, .int .i64 Ep0, .slice ax0 lp0 cx0] 28) := Bk.new' x0 _ _ rfl
  have Rx0_2 : Hid (X0 (x0.alloc (.cells #[.int .i64 Np0, .int .i64 Tp0, .int .i64 Ep0, .slice ax0 lp0 cx0] 28)) (ts.heap.size) (x0.heap.size) #[.int .i64 Np0, .int .i64 Tp0, .int .i64 Ep0, .slice ax0 lp0 cx0]) := fX0.old (by first | exact o_ | (simp at o_; exact o_)) ((Old.refl x0).alloc _) (Nat.le_refl _)
  clear g_ o_
  have zA1_0 := A1_2.out.c (i := 0) rfl
  go_wp2_with fail
  refine (TO1.out _ (HG_2.out)).mono ?_
  rintro e x1 ⟨y_, rfl, g_, o_⟩
  obtain ⟨ax1, cx1, rfl⟩ := hX1 _ _ _ _ o_
  clear zA1_0
  have hsx1 : x0.heap.size + 1 ≤ x1.heap.size := by have := g_.size; first | exact this | (simp at this; omega)
  have HG_3 : Hid (Old w (x1.alloc (.cells #[.slice ax1 lp1 cx1] 37))) := Old.trans HG_2.out (Old.trans g_ ((Old.refl x1).alloc _))
  have A0_3 : Hid (Bk (x1.alloc (.cells #[.slice ax1 lp1 cx1] 37)) (w.heap.size) #[.int .i64 Np0, .int .i64 Tp0, .int .i64 Ep0, .slice ap0 lp0 cp0] 24) := A0_2.out.old (Old.trans g_ ((Old.refl x1).alloc _))
  have A1_3 : Hid (Bk (x1.alloc (.cells #[.slice ax1 lp1 cx1] 37)) (w.heap.size + 1) #[.slice ap1 lp1 cp1] 34) := A1_2.out.old (Old.trans g_ ((Old.refl x1).alloc _))
  have Bx0_3 : Hid (Bk (x1.alloc (.cells #[.slice ax1 lp1 cx1] 37)) (x0.heap.size) #[.int .i64 Np0, .int .i64 Tp0, .int .i64 Ep0, .slice ax0 lp0 cx0] 28) := Bx0_2.out.old (Old.trans g_ ((Old.refl x1).alloc _))
  have Rx0_3 : Hid (X0 (x1.alloc (.cells #[.slice ax1 lp1 cx1] 37)) (ts.heap.size) (x0.heap.size) #[.int .i64 Np0, .int .i64 Tp0, .int .i64 Ep0, .slice ax0 lp0 cx0]) := fX0.old Rx0_2.out (Old.trans g_ ((Old.refl x1).alloc _)) (by first | omega | (simp; done) | (simp; omega))
  clear HG_2 A0_2 A1_2 Bx0_2 Rx0_2
  have Bx1_3 : Hid (Bk (x1.alloc (.cells #[.slice ax1 lp1 cx1] 37)) (x1.heap.size) #[.slice ax1 lp1 cx1] 37) := Bk.new' x1 _ _ rfl
  have Rx1_3 : Hid (X1 (x1.alloc (.cells #[.slice ax1 lp1 cx1] 37)) (x0.heap.size + 1) (x1.heap.size) #[.slice ax1 lp1 cx1]) := fX1.old (by first | exact o_ | (simp at o_; exact o_)) ((Old.refl x1).alloc _) (Nat.le_refl _)
  clear g_ o_
  have zBx0_0 := Bx0_3.out.c (i := 0) rfl
  have zBx0_1 := Bx0_3.out.c (i := 1) rfl
  have zBx0_2 := Bx0_3.out.c (i := 2) rfl
  have zBx0_3 := Bx0_3.out.c (i := 3) rfl
  have zBx1_0 := Bx1_3.out.c (i := 0) rfl
  go_wp2_with fail
  refine (cim _ _ _ _ _ _ _ Rx0_3.out Rx1_3.out (HG_3.out)).mono ?_
  rintro e p1 ⟨rfl, gp⟩
  have hsp1 : x1.heap.size + 1 ≤ p1.heap.size := by have := gp.size; first | exact this | (simp at this; omega)
  clear zBx0_0 zBx0_1 zBx0_2 zBx0_3 zBx1_0
  have HG_4 : Hid (Old w p1) := Old.trans HG_3.out (gp)
  have A0_4 : Hid (Bk p1 (w.heap.size) #[.int .i64 Np0, .int .i64 Tp0, .int .i64 Ep0, .slice ap0 lp0 cp0] 24) := A0_3.out.old (gp)
  have A1_4 : Hid (Bk p1 (w.heap.size + 1) #[.slice ap1 lp1 cp1] 34) := A1_3.out.old (gp)
  have Bx0_4 : Hid (Bk p1 (x0.heap.size) #[.int .i64 Np0, .int .i64 Tp0, .int .i64 Ep0, .slice ax0 lp0 cx0] 28) := Bx0_3.out.old (gp)
  have Rx0_4 : Hid (X0 p1 (ts.heap.size) (x0.heap.size) #[.int .i64 Np0, .int .i64 Tp0, .int .i64 Ep0, .slice ax0 lp0 cx0]) := fX0.old Rx0_3.out (gp) (by first | omega | (simp; done) | (simp; omega))
  have Bx1_4 : Hid (Bk p1 (x1.heap.size) #[.slice ax1 lp1 cx1] 37) := Bx1_3.out.old (gp)
  have Rx1_4 : Hid (X1 p1 (x0.heap.size + 1) (x1.heap.size) #[.slice ax1 lp1 cx1]) := fX1.old Rx1_3.out (gp) (by first | omega | (simp; done) | (simp; omega))
  clear HG_3 A0_3 A1_3 Bx0_3 Rx0_3 Bx1_3 Rx1_3
  clear gp
  have zBx0_0 := Bx0_4.out.c (i := 0) rfl
  have zBx0_1 := Bx0_4.out.c (i := 1) rfl
  have zBx0_2 := Bx0_4.out.c (i := 2) rfl
  have zBx0_3 := Bx0_4.out.c (i := 3) rfl
  have zA0_0 := A0_4.out.c (i := 0) rfl
  have zA0_1 := A0_4.out.c (i := 1) rfl
  have zA0_2 := A0_4.out.c (i := 2) rfl
  have zA0_3 := A0_4.out.c (i := 3) rfl
  have HAS : Hid (∀ W', Old p1 W' → (W'.cell? ⟨x0.heap.size, 0, none⟩ = some (.int .i64 Np0) ∧ W'.cell? ⟨x0.heap.size, 1, none⟩ = some (.int .i64 Tp0) ∧ W'.cell? ⟨x0.heap.size, 2, none⟩ = some (.int .i64 Ep0) ∧ W'.cell? ⟨x0.heap.size, 3, none⟩ = some (.slice ax0 lp0 cx0) ∧ W'.cell? ⟨w.heap.size, 0, none⟩ = some (.int .i64 Np0) ∧ W'.cell? ⟨w.heap.size, 1, none⟩ = some (.int .i64 Tp0) ∧ W'.cell? ⟨w.heap.size, 2, none⟩ = some (.int .i64 Ep0) ∧ W'.cell? ⟨w.heap.size, 3, none⟩ = some (.slice ap0 lp0 cp0))) := fun W' g => ⟨(Bx0_4.out.old g).c (i := 0) rfl, (Bx0_4.out.old g).c (i := 1) rfl, (Bx0_4.out.old g).c (i := 2) rfl, (Bx0_4.out.old g).c (i := 3) rfl, (A0_4.out.old g).c (i := 0) rfl, (A0_4.out.old g).c (i := 1) rfl, (A0_4.out.old g).c (i := 2) rfl, (A0_4.out.old g).c (i := 3) rfl⟩
  go_wp2_with fail
  go_region_held3 (fun W' => W'.cell? ⟨x0.heap.size, 0, none⟩ = some (.int .i64 Np0) ∧ W'.cell? ⟨x0.heap.size, 1, none⟩ = some (.int .i64 Tp0) ∧ W'.cell? ⟨x0.heap.size, 2, none⟩ = some (.int .i64 Ep0) ∧ W'.cell? ⟨x0.heap.size, 3, none⟩ = some (.slice ax0 lp0 cx0) ∧ W'.cell? ⟨w.heap.size, 0, none⟩ = some (.int .i64 Np0) ∧ W'.cell? ⟨w.heap.size, 1, none⟩ = some (.int .i64 Tp0) ∧ W'.cell? ⟨w.heap.size, 2, none⟩ = some (.int .i64 Ep0) ∧ W'.cell? ⟨w.heap.size, 3, none⟩ = some (.slice ap0 lp0 cp0)) (first | with_reducible exact HAS.out _ GE.out | with_reducible exact HAS.out _ GT.out | with_reducible exact HAS.out _ (Below.drew (Old.refl p1)) | with_reducible exact HAS.out _ (Old.refl p1)) (first
    | (go_at_call 7; refine (TO0.out _ (Below.drew HG_4.out)).mono ?_; rintro e wt ⟨y_, rfl, gt, ot⟩; obtain ⟨at_, ct_, rfl⟩ := hX0 _ _ _ _ ot; have GT : Hid (Old p1 wt) := Old.trans (Below.drew (Old.refl p1)) gt; have RT : Hid (X0 wt _ _ #[.int .i64 Np0, .int .i64 Tp0, .int .i64 Ep0, .slice at_ lp0 ct_]) := ot; clear gt ot)
    | (go_at_call 9; refine (ceq0 _ _ _ _ _ _ _ (fX0.old Rx0_4.out GT.out (by omega)) RT.out).mono ?_; rintro e v0 ⟨rfl, ge⟩; have GE : Hid (Old p1 v0) := Old.trans GT.out ge; clear ge)
    | fail)
  clear zBx0_0 zBx0_1 zBx0_2 zBx0_3 zA0_0 zA0_1 zA0_2 zA0_3
  have hsv0 := GE.out.size
  have HG_5 : Hid (Old w v0) := Old.trans HG_4.out (GE.out)
  have A0_5 : Hid (Bk v0 (w.heap.size) #[.int .i64 Np0, .int .i64 Tp0, .int .i64 Ep0, .slice ap0 lp0 cp0] 24) := A0_4.out.old (GE.out)
  have A1_5 : Hid (Bk v0 (w.heap.size + 1) #[.slice ap1 lp1 cp1] 34) := A1_4.out.old (GE.out)
  have Bx0_5 : Hid (Bk v0 (x0.heap.size) #[.int .i64 Np0, .int .i64 Tp0, .int .i64 Ep0, .slice ax0 lp0 cx0] 28) := Bx0_4.out.old (GE.out)
  have Rx0_5 : Hid (X0 v0 (ts.heap.size) (x0.heap.size) #[.int .i64 Np0, .int .i64 Tp0, .int .i64 Ep0, .slice ax0 lp0 cx0]) := fX0.old Rx0_4.out (GE.out) (by first | omega | (simp; done) | (simp; omega))
  have Bx1_5 : Hid (Bk v0 (x1.heap.size) #[.slice ax1 lp1 cx1] 37) := Bx1_4.out.old (GE.out)
  have Rx1_5 : Hid (X1 v0 (x0.heap.size + 1) (x1.heap.size) #[.slice ax1 lp1 cx1]) := fX1.old Rx1_4.out (GE.out) (by first | omega | (simp; done) | (simp; omega))
  clear HG_4 A0_4 A1_4 Bx0_4 Rx0_4 Bx1_4 Rx1_4
  clear GE GT RT HAS
  have zBx1_0 := Bx1_5.out.c (i := 0) rfl
  have zA1_0 := A1_5.out.c (i := 0) rfl
  have HAS : Hid (∀ W', Old v0 W' → (W'.cell? ⟨x1.heap.size, 0, none⟩ = some (.slice ax1 lp1 cx1) ∧ W'.cell? ⟨w.heap.size + 1, 0, none⟩ = some (.slice ap1 lp1 cp1))) := fun W' g => ⟨(Bx1_5.out.old g).c (i := 0) rfl, (A1_5.out.old g).c (i := 0) rfl⟩
  go_wp2_with fail
  go_region_held3 (fun W' => W'.cell? ⟨x1.heap.size, 0, none⟩ = some (.slice ax1 lp1 cx1) ∧ W'.cell? ⟨w.heap.size + 1, 0, none⟩ = some (.slice ap1 lp1 cp1)) (first | with_reducible exact HAS.out _ GE.out | with_reducible exact HAS.out _ GT.out | with_reducible exact HAS.out _ (Below.drew (Old.refl v0)) | with_reducible exact HAS.out _ (Old.refl v0)) (first
    | (go_at_call 12; refine (TO1.out _ (Below.drew HG_5.out)).mono ?_; rintro e wt ⟨y_, rfl, gt, ot⟩; obtain ⟨at_, ct_, rfl⟩ := hX1 _ _ _ _ ot; have GT : Hid (Old v0 wt) := Old.trans (Below.drew (Old.refl v0)) gt; have RT : Hid (X1 wt _ _ #[.slice at_ lp1 ct_]) := ot; clear gt ot)
    | (go_at_call 14; refine (ceq1 _ _ _ _ _ _ _ (fX1.old Rx1_5.out GT.out (by omega)) RT.out).mono ?_; rintro e v1 ⟨rfl, ge⟩; have GE : Hid (Old v0 v1) := Old.trans GT.out ge; clear ge)
    | fail)
  clear zBx1_0 zA1_0
  have hsv1 := GE.out.size
  have HG_6 : Hid (Old w v1) := Old.trans HG_5.out (GE.out)
  have A0_6 : Hid (Bk v1 (w.heap.size) #[.int .i64 Np0, .int .i64 Tp0, .int .i64 Ep0, .slice ap0 lp0 cp0] 24) := A0_5.out.old (GE.out)
  have A1_6 : Hid (Bk v1 (w.heap.size + 1) #[.slice ap1 lp1 cp1] 34) := A1_5.out.old (GE.out)
  have Bx0_6 : Hid (Bk v1 (x0.heap.size) #[.int .i64 Np0, .int .i64 Tp0, .int .i64 Ep0, .slice ax0 lp0 cx0] 28) := Bx0_5.out.old (GE.out)
  have Rx0_6 : Hid (X0 v1 (ts.heap.size) (x0.heap.size) #[.int .i64 Np0, .int .i64 Tp0, .int .i64 Ep0, .slice ax0 lp0 cx0]) := fX0.old Rx0_5.out (GE.out) (by first | omega | (simp; done) | (simp; omega))
  have Bx1_6 : Hid (Bk v1 (x1.heap.size) #[.slice ax1 lp1 cx1] 37) := Bx1_5.out.old (GE.out)
  have Rx1_6 : Hid (X1 v1 (x0.heap.size + 1) (x1.heap.size) #[.slice ax1 lp1 cx1]) := fX1.old Rx1_5.out (GE.out) (by first | omega | (simp; done) | (simp; omega))
  clear HG_5 A0_5 A1_5 Bx0_5 Rx0_5 Bx1_5 Rx1_5
  clear GE GT RT HAS
  go_wp2_with fail
  go_ret
  exact ⟨rfl, HG_6.out⟩
end Go.Proofs.YtakleianimcmdaaDoor
