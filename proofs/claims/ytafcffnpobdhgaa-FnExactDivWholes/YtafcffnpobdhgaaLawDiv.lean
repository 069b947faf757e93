/- Proved: the walk of the statement FnExactDivWholes, under what each function that it calls does. -/
import Derived.Test.YtafcffnpobdhgaaFar
import Derived.Test.YtafcffnpobdhgaaRegDivA
import Derived.Test.YtafcffnpobdhgaaRegDivB
import Derived.Test.YtafcffnpobdhgaaKC
import Derived.Deep.RegionWith
import Derived.Deep.RegionHeld3
import Derived.Deep.DeepCutAuto
namespace Go.Proofs.Ytafcffnpobdhgaa
open Go.ChangeShapes Go.WideShapes Go.ChangeAt Go.RowKit
set_option linter.unusedVariables false
set_option linter.unusedSimpArgs false
set_option maxRecDepth 100000 in
set_option maxHeartbeats 16000000 in
theorem law_div (w : World) (bp0 : Bool) (lp0 : Nat) (ap0 : Option Addr) (cp0 : Nat) (bp1 : Bool) (lp1 : Nat) (ap1 : Option Addr) (cp1 : Nat) (br0 : Bool) (lr0 : Nat) (br1 : Bool) (lr1 : Nat) (ro : Bool) (L0 L1 : Int)
    (csz0 : ∀ W, Old w W → Calls Try.prog 14 #[.agg #[.bool bp0, .slice ap0 lp0 cp0], .int .i64 1048576] W fun e w' => e = .returned (.int .i64 L0) ∧ Old W w')
    (csz1 : ¬ L0 < 0 → ∀ W, Old w W → Calls Try.prog 14 #[.agg #[.bool bp1, .slice ap1 lp1 cp1], .int .i64 L0] W fun e w' => e = .returned (.int .i64 L1) ∧ Old W w')
    (X0 : World → Nat → Nat → Array Value → Prop) (fX0 : Far X0) (hX0 : ∀ W lo hi g, X0 W lo hi g → ∃ a c, g = #[.bool bp0, .slice a lp0 c])
    (cto0 : ¬ L0 < 0 → ¬ L1 < 0 → ∀ W, Old w W → Calls Try.prog 16 #[.agg #[.bool bp0, .slice ap0 lp0 cp0]] W fun e w' => ∃ g, e = .returned (.agg g) ∧ Old W w' ∧ X0 w' W.heap.size w'.heap.size g)
    (ceq0 : ¬ L0 < 0 → ¬ L1 < 0 → ∀ W lo hi g lo' hi' g', X0 W lo hi g → X0 W lo' hi' g' → Calls Try.prog 18 #[.agg g, .agg g'] W fun e w' => e = .returned (.bool true) ∧ Old W w')
    (k0 : Int) (hk0 : 0 ≤ k0) (cmk0 : ¬ L0 < 0 → ¬ L1 < 0 → ∀ W lo hi g, X0 W lo hi g → Calls Try.prog 19 #[.agg g, .int .i64 1] W fun e w' => e = .returned (.int .i64 k0) ∧ Chg W w' lo hi)
    (X1 : World → Nat → Nat → Array Value → Prop) (fX1 : Far X1) (hX1 : ∀ W lo hi g, X1 W lo hi g → ∃ a c, g = #[.bool bp1, .slice a lp1 c])
    (cto1 : ¬ L0 < 0 → ¬ L1 < 0 → ∀ W, Old w W → Calls Try.prog 16 #[.agg #[.bool bp1, .slice ap1 lp1 cp1]] W fun e w' => ∃ g, e = .returned (.agg g) ∧ Old W w' ∧ X1 w' W.heap.size w'.heap.size g)
    (ceq1 : ¬ L0 < 0 → ¬ L1 < 0 → ∀ W lo hi g lo' hi' g', X1 W lo hi g → X1 W lo' hi' g' → Calls Try.prog 18 #[.agg g, .agg g'] W fun e w' => e = .returned (.bool true) ∧ Old W w')
    (k1 : Int) (hk1 : 0 ≤ k1) (cmk1 : ¬ L0 < 0 → ¬ L1 < 0 → ∀ W lo hi g, X1 W lo hi g → Calls Try.prog 19 #[.agg g, .int .i64 k0] W fun e w' => e = .returned (.int .i64 k1) ∧ Chg W w' lo hi)
    (SR : World → Nat → Nat → Array Value × Array Value → Prop) (fSR : Far SR) (hSR : ∀ W lo hi p, SR W lo hi p → ∃ a0 c0 a1 c1, p = (#[.bool br0, .slice a0 lr0 c0], #[.bool br1, .slice a1 lr1 c1]))
    (IR0 : World → Nat → Nat → Array Value × Array Value → Prop) (fIR0 : Far IR0) (hIR0 : ∀ W lo hi p, IR0 W lo hi p → ∃ a0 c0 a1 c1, p = (#[.bool br0, .slice a0 lr0 c0], #[.bool br1, .slice a1 lr1 c1]))
    (IR1 : World → Nat → Nat → Array Value × Array Value → Prop) (fIR1 : Far IR1) (hIR1 : ∀ W lo hi p, IR1 W lo hi p → ∃ a0 c0 a1 c1, p = (#[.bool br0, .slice a0 lr0 c0], #[.bool br1, .slice a1 lr1 c1]))
    (IR2 : World → Nat → Nat → Array Value × Array Value → Prop) (fIR2 : Far IR2) (hIR2 : ∀ W lo hi p, IR2 W lo hi p → ∃ a0 c0 a1 c1, p = (#[.bool br0, .slice a0 lr0 c0], #[.bool br1, .slice a1 lr1 c1]))
    (csp : ¬ L0 < 0 → ¬ L1 < 0 → ∀ W lo0 hi0 g0 lo1 hi1 g1, X0 W lo0 hi0 g0 → X1 W lo1 hi1 g1 → Calls Try.prog 15 #[.agg g0, .agg g1] W fun e w' => ∃ r0 r1, e = .returned (.tuple #[.agg r0, .agg r1, .bool ro]) ∧ Old W w' ∧ SR w' W.heap.size w'.heap.size (r0, r1))
    (cim : ¬ L0 < 0 → ¬ L1 < 0 → ∀ W lo0 hi0 g0 lo1 hi1 g1, X0 W lo0 hi0 g0 → X1 W lo1 hi1 g1 → Old w W → Calls Try.prog 17 #[.agg g0, .agg g1] W fun e w' => ∃ r0 r1, e = .returned (.tuple #[.agg r0, .agg r1, .bool ro]) ∧ Old W w' ∧ IR0 w' W.heap.size w'.heap.size (r0, r1))
    (cer0 : ¬ L0 < 0 → ¬ L1 < 0 → ∀ W lo hi p lo' hi' p', IR0 W lo hi p → SR W lo' hi' p' → Calls Try.prog 18 #[.agg p.1, .agg p'.1] W fun e w' => e = .returned (.bool true) ∧ Old W w')
    (m0 : Int) (hm0 : 0 ≤ m0) (cmr0 : ¬ L0 < 0 → ¬ L1 < 0 → ∀ W lo hi p, IR0 W lo hi p → Calls Try.prog 19 #[.agg p.1, .int .i64 1] W fun e w' => e = .returned (.int .i64 m0) ∧ Chg W w' lo hi ∧ IR1 w' lo hi p)
    (chr0 : ¬ L0 < 0 → ¬ L1 < 0 → ∀ W lo hi p, IR2 W lo hi p → Calls Try.prog 20 #[.agg p.1, .int .i64 1] W fun e w' => e = .returned (.int .i64 m0) ∧ Old W w')
    (cer1 : ¬ L0 < 0 → ¬ L1 < 0 → ∀ W lo hi p lo' hi' p', IR0 W lo hi p → SR W lo' hi' p' → Calls Try.prog 18 #[.agg p.2, .agg p'.2] W fun e w' => e = .returned (.bool true) ∧ Old W w')
    (m1 : Int) (hm1 : 0 ≤ m1) (cmr1 : ¬ L0 < 0 → ¬ L1 < 0 → ∀ W lo hi p, IR1 W lo hi p → Calls Try.prog 19 #[.agg p.2, .int .i64 m0] W fun e w' => e = .returned (.int .i64 m1) ∧ Chg W w' lo hi ∧ IR2 w' lo hi p)
    (chr1 : ¬ L0 < 0 → ¬ L1 < 0 → ∀ W lo hi p, IR2 W lo hi p → Calls Try.prog 20 #[.agg p.2, .int .i64 m0] W fun e w' => e = .returned (.int .i64 m1) ∧ Old W w') :
    Calls Try.prog 4 #[.agg #[.bool bp0, .slice ap0 lp0 cp0], .agg #[.bool bp1, .slice ap1 lp1 cp1]] w fun e w' => e = .returned (.bool true) ∧ Old w w' := by
  have HA : Hid (Old w ((w.alloc (.cells #[.bool bp0, .slice ap0 lp0 cp0] 33)).alloc (.cells #[.bool bp1, .slice ap1 lp1 cp1] 33))) := by first | exact (((Old.refl w).alloc _).alloc _)
  have BA0 : Hid (St ((w.alloc (.cells #[.bool bp0, .slice ap0 lp0 cp0] 33)).alloc (.cells #[.bool bp1, .slice ap1 lp1 cp1] 33)) (w.heap.size) (.bool bp0) (.slice ap0 lp0 cp0) 33) := St.at1 w _ _ _ _ _ _
  have BA1 : Hid (St ((w.alloc (.cells #[.bool bp0, .slice ap0 lp0 cp0] 33)).alloc (.cells #[.bool bp1, .slice ap1 lp1 cp1] 33)) (w.heap.size + 1) (.bool bp1) (.slice ap1 lp1 cp1) 33) := St.at2 w _ _ _ _ _ _
  by_cases hL0 : L0 < 0
  · have dL0 : decide (L0 < 0) = true := decide_eq_true hL0
    go_enter Try.func4, Try.ntmps4
    go_wp2_with fail
    refine (csz0  _ (HA.out)).mono ?_
    rintro e s0 ⟨rfl, g0⟩
    have HS0 : Hid (Old w s0) := Old.trans HA.out g0
    clear g0
    go_wp2_with fail
    go_ret
    exact ⟨rfl, HS0.out⟩
  have dL0 : decide (L0 < 0) = false := decide_eq_false hL0
  by_cases hL1 : L1 < 0
  · have dL1 : decide (L1 < 0) = true := decide_eq_true hL1
    go_enter Try.func4, Try.ntmps4
    go_wp2_with fail
    refine (csz0  _ (HA.out)).mono ?_
    rintro e s0 ⟨rfl, g0⟩
    have HS0 : Hid (Old w s0) := Old.trans HA.out g0
    have BS00 : Hid (St s0 (w.heap.size) (.bool bp0) (.slice ap0 lp0 cp0) 33) := BA0.out.old g0
    have BS01 : Hid (St s0 (w.heap.size + 1) (.bool bp1) (.slice ap1 lp1 cp1) 33) := BA1.out.old g0
    have y0 := BS01.out.c0
    have y1 := BS01.out.c1
    clear g0
    go_wp2_with fail
    refine (csz1 hL0 _ (HS0.out)).mono ?_
    rintro e s1 ⟨rfl, g1⟩
    have HS1 : Hid (Old w s1) := Old.trans HS0.out g1
    clear g1
    go_wp2_with fail
    go_ret
    exact ⟨rfl, HS1.out⟩
  have dL1 : decide (L1 < 0) = false := decide_eq_false hL1
  have TO0 : Hid (∀ W, Old w W → Calls Try.prog 16 #[.agg #[.bool bp0, .slice ap0 lp0 cp0]] W fun e w' => ∃ g, e = .returned (.agg g) ∧ Old W w' ∧ X0 w' W.heap.size w'.heap.size g) := cto0 hL0 hL1
  replace ceq0 := ceq0 hL0 hL1
  replace cmk0 := cmk0 hL0 hL1
  clear cto0
  have TO1 : Hid (∀ W, Old w W → Calls Try.prog 16 #[.agg #[.bool bp1, .slice ap1 lp1 cp1]] W fun e w' => ∃ g, e = .returned (.agg g) ∧ Old W w' ∧ X1 w' W.heap.size w'.heap.size g) := cto1 hL0 hL1
  replace ceq1 := ceq1 hL0 hL1
  replace cmk1 := cmk1 hL0 hL1
  clear cto1
  replace csp := csp hL0 hL1
  replace cim := cim hL0 hL1
  replace cer0 := cer0 hL0 hL1
  replace cmr0 := cmr0 hL0 hL1
  replace chr0 := chr0 hL0 hL1
  replace cer1 := cer1 hL0 hL1
  replace cmr1 := cmr1 hL0 hL1
  replace chr1 := chr1 hL0 hL1
  have dro : (ro != ro) = false := by simp
  go_enter Try.func4, Try.ntmps4
  go_wp2_with fail
  refine (csz0  _ (HA.out)).mono ?_
  rintro e s0 ⟨rfl, g0⟩
  have HS0 : Hid (Old w s0) := Old.trans HA.out g0
  have BS00 : Hid (St s0 (w.heap.size) (.bool bp0) (.slice ap0 lp0 cp0) 33) := BA0.out.old g0
  have BS01 : Hid (St s0 (w.heap.size + 1) (.bool bp1) (.slice ap1 lp1 cp1) 33) := BA1.out.old g0
  have y0 := BS01.out.c0
  have y1 := BS01.out.c1
  clear g0
  go_wp2_with fail
  clear y0 y1
  refine (csz1 hL0 _ (HS0.out)).mono ?_
  rintro e s1 ⟨rfl, g1⟩
  have HS1 : Hid (Old w s1) := Old.trans HS0.out g1
  have BS10 : Hid (St s1 (w.heap.size) (.bool bp0) (.slice ap0 lp0 cp0) 33) := BS00.out.old g1
  have BS11 : Hid (St s1 (w.heap.size + 1) (.bool bp1) (.slice ap1 lp1 cp1) 33) := BS01.out.old g1
  clear g1
  have HG_0 : Hid (Old w s1) := HS1.out
  have A0_0 : Hid (St s1 (w.heap.size) (.bool bp0) (.slice ap0 lp0 cp0) 33) := BS10.out
  have A1_0 : Hid (St s1 (w.heap.size + 1) (.bool bp1) (.slice ap1 lp1 cp1) 33) := BS11.out
  have hsw : w.heap.size + 2 ≤ s1.heap.size := by have := A1_0.out.lt; omega
  clear csz0 BA0 csz1 BA1 HA HS0 HS1 BS00 BS01 BS10 BS11
  have zA00 := A0_0.out.c0
  have zA01 := A0_0.out.c1
  have zA10 := A1_0.out.c0
  have zA11 := A1_0.out.c1
  go_wp2_with fail
  refine reg_div8 s1 _ _ _ _ _ _ (fun W v => ∃ lo hi g, v = .agg g ∧ X0 W lo hi g ∧ hi ≤ W.heap.size) (fun W W' v h g => by obtain ⟨lo, hi, y, rfl, h1, h2⟩ := h; exact ⟨lo, hi, y, rfl, fX0.old h1 g h2, Nat.le_trans h2 g.size⟩) (fun W h => (TO0.out W (Old.trans HG_0.out h)).mono (fun e w' h => by obtain ⟨g, rfl, h1, h2⟩ := h; exact ⟨_, rfl, h1, _, _, g, rfl, h2, Nat.le_refl _⟩)) A0_0.out (fun W v => ∃ lo hi g, v = .agg g ∧ X1 W lo hi g ∧ hi ≤ W.heap.size) (fun W W' v h g => by obtain ⟨lo, hi, y, rfl, h1, h2⟩ := h; exact ⟨lo, hi, y, rfl, fX1.old h1 g h2, Nat.le_trans h2 g.size⟩) (fun W h => (TO1.out W (Old.trans HG_0.out h)).mono (fun e w' h => by obtain ⟨g, rfl, h1, h2⟩ := h; exact ⟨_, rfl, h1, _, _, g, rfl, h2, Nat.le_refl _⟩)) A1_0.out (fun W lo hi g0 g1 g2 => SR W lo hi (g0, g1) ∧ g2 = .bool ro) (fun W W' lo hi g0 g1 g2 h h1 h2 => ⟨fSR _ _ _ _ _ h.1 h1 h2, h.2⟩) (fun W v0 v1 hO H0 H1 => by obtain ⟨lo0, hi0, y0, rfl, x0, q0⟩ := H0; obtain ⟨lo1, hi1, y1, rfl, x1, q1⟩ := H1; exact (csp W _ _ _ _ _ _ x0 x1).mono (fun e w' h => by obtain ⟨g0, g1, rfl, h1, h2⟩ := h; obtain ⟨a0_, c0_, a1_, c1_, hq⟩ := hSR _ _ _ _ h2; simp only [Prod.mk.injEq] at hq; obtain ⟨rfl, rfl⟩ := hq; exact ⟨_, _, _, rfl, h1, rfl, (by simp [Value.oneCell']), rfl, (by simp [Value.oneCell']), h2, rfl⟩)) _ _ _ (by first | decide | simp) rfl rfl ?_
  intro ks0 ks1 loS hiS q0 q1 q2 u_0 u_1 u_2 u_3 u_4 u_5 u_6 u_7 u_8 ts gS loS_ hiS_ rS_ bS0 hks0 hls0 hns0 bS1 hks1 hls1 hns1 hnes
  obtain ⟨rS, rfl⟩ := rS_
  obtain ⟨as0, cs0, as1, cs1, hq⟩ := hSR _ _ _ _ rS
  simp only [Prod.mk.injEq] at hq
  obtain ⟨rfl, rfl⟩ := hq
  have h_s : s1.heap.size ≤ loS ∧ hiS ≤ ts.heap.size := ⟨loS_, hiS_⟩
  obtain ⟨hlos, hhis⟩ := h_s
  clear loS_ hiS_
  simp only [putAll, Act.put]
  clear zA00 zA01 zA10 zA11
  have HG_1 : Hid (Old w ts) := Old.trans HG_0.out (gS)
  have A0_1 : Hid (St ts (w.heap.size) (.bool bp0) (.slice ap0 lp0 cp0) 33) := A0_0.out.old (gS)
  have A1_1 : Hid (St ts (w.heap.size + 1) (.bool bp1) (.slice ap1 lp1 cp1) 33) := A1_0.out.old (gS)
  clear HG_0 A0_0 A1_0
  have C0_1 : Hid (St ts (ks0) (.bool br0) (.slice as0 lr0 cs0) 25) := bS0
  have C1_1 : Hid (St ts (ks1) (.bool br1) (.slice as1 lr1 cs1) 25) := bS1
  have SS_1 : Hid (SR ts (loS) (hiS) (#[.bool br0, .slice as0 lr0 cs0], #[.bool br1, .slice as1 lr1 cs1])) := rS
  have hsts := gS.size
  clear gS rS bS0 bS1
  have zA00 := A0_1.out.c0
  have zA01 := A0_1.out.c1
  go_wp2_with fail
  refine (TO0.out _ (HG_1.out)).mono ?_
  rintro e x0 ⟨y_, rfl, g_, o_⟩
  obtain ⟨ax0, cx0, rfl⟩ := hX0 _ _ _ _ o_
  clear zA00 zA01
  have hsx0 : ts.heap.size ≤ x0.heap.size := by have := g_.size; first | exact this | (simp at this; omega)
  have HG_2 : Hid (Old w (x0.alloc (.cells #[.bool bp0, .slice ax0 lp0 cx0] 25))) := Old.trans HG_1.out (Old.trans g_ ((Old.refl x0).alloc _))
  have A0_2 : Hid (St (x0.alloc (.cells #[.bool bp0, .slice ax0 lp0 cx0] 25)) (w.heap.size) (.bool bp0) (.slice ap0 lp0 cp0) 33) := A0_1.out.old (Old.trans g_ ((Old.refl x0).alloc _))
  have A1_2 : Hid (St (x0.alloc (.cells #[.bool bp0, .slice ax0 lp0 cx0] 25)) (w.heap.size + 1) (.bool bp1) (.slice ap1 lp1 cp1) 33) := A1_1.out.old (Old.trans g_ ((Old.refl x0).alloc _))
  have C0_2 : Hid (St (x0.alloc (.cells #[.bool bp0, .slice ax0 lp0 cx0] 25)) (ks0) (.bool br0) (.slice as0 lr0 cs0) 25) := C0_1.out.old (Old.trans g_ ((Old.refl x0).alloc _))
  have C1_2 : Hid (St (x0.alloc (.cells #[.bool bp0, .slice ax0 lp0 cx0] 25)) (ks1) (.bool br1) (.slice as1 lr1 cs1) 25) := C1_1.out.old (Old.trans g_ ((Old.refl x0).alloc _))
  have SS_2 : Hid (SR (x0.alloc (.cells #[.bool bp0, .slice ax0 lp0 cx0] 25)) (loS) (hiS) (#[.bool br0, .slice as0 lr0 cs0], #[.bool br1, .slice as1 lr1 cs1])) := fSR.old SS_1.out (Old.trans g_ ((Old.refl x0).alloc _)) (by first | omega | (simp; done) | (simp; omega))
  clear HG_1 A0_1 A1_1 C0_1 C1_1 SS_1
  have Bx0_2 : Hid (St (x0.alloc (.cells #[.bool bp0, .slice ax0 lp0 cx0] 25)) (x0.heap.size) (.bool bp0) (.slice ax0 lp0 cx0) 25) := St.new x0 _ _ _
  have Rx0_2 : Hid (X0 (x0.alloc (.cells #[.bool bp0, .slice ax0 lp0 cx0] 25)) (ts.heap.size) (x0.heap.size) #[.bool bp0, .slice ax0 lp0 cx0]) := fX0.old (by first | exact o_ | (simp at o_; exact o_)) ((Old.refl x0).alloc _) (Nat.le_refl _)
  clear g_ o_
  have zA10 := A1_2.out.c0
  have zA11 := A1_2.out.c1
  go_wp2_with fail
  refine (TO1.out _ (HG_2.out)).mono ?_
  rintro e x1 ⟨y_, rfl, g_, o_⟩
  obtain ⟨ax1, cx1, rfl⟩ := hX1 _ _ _ _ o_
  clear zA10 zA11
  have hsx1 : x0.heap.size + 1 ≤ x1.heap.size := by have := g_.size; first | exact this | (simp at this; omega)
  have HG_3 : Hid (Old w (x1.alloc (.cells #[.bool bp1, .slice ax1 lp1 cx1] 25))) := Old.trans HG_2.out (Old.trans g_ ((Old.refl x1).alloc _))
  have A0_3 : Hid (St (x1.alloc (.cells #[.bool bp1, .slice ax1 lp1 cx1] 25)) (w.heap.size) (.bool bp0) (.slice ap0 lp0 cp0) 33) := A0_2.out.old (Old.trans g_ ((Old.refl x1).alloc _))
  have A1_3 : Hid (St (x1.alloc (.cells #[.bool bp1, .slice ax1 lp1 cx1] 25)) (w.heap.size + 1) (.bool bp1) (.slice ap1 lp1 cp1) 33) := A1_2.out.old (Old.trans g_ ((Old.refl x1).alloc _))
  have C0_3 : Hid (St (x1.alloc (.cells #[.bool bp1, .slice ax1 lp1 cx1] 25)) (ks0) (.bool br0) (.slice as0 lr0 cs0) 25) := C0_2.out.old (Old.trans g_ ((Old.refl x1).alloc _))
  have C1_3 : Hid (St (x1.alloc (.cells #[.bool bp1, .slice ax1 lp1 cx1] 25)) (ks1) (.bool br1) (.slice as1 lr1 cs1) 25) := C1_2.out.old (Old.trans g_ ((Old.refl x1).alloc _))
  have SS_3 : Hid (SR (x1.alloc (.cells #[.bool bp1, .slice ax1 lp1 cx1] 25)) (loS) (hiS) (#[.bool br0, .slice as0 lr0 cs0], #[.bool br1, .slice as1 lr1 cs1])) := fSR.old SS_2.out (Old.trans g_ ((Old.refl x1).alloc _)) (by first | omega | (simp; done) | (simp; omega))
  have Bx0_3 : Hid (St (x1.alloc (.cells #[.bool bp1, .slice ax1 lp1 cx1] 25)) (x0.heap.size) (.bool bp0) (.slice ax0 lp0 cx0) 25) := Bx0_2.out.old (Old.trans g_ ((Old.refl x1).alloc _))
  have Rx0_3 : Hid (X0 (x1.alloc (.cells #[.bool bp1, .slice ax1 lp1 cx1] 25)) (ts.heap.size) (x0.heap.size) #[.bool bp0, .slice ax0 lp0 cx0]) := fX0.old Rx0_2.out (Old.trans g_ ((Old.refl x1).alloc _)) (by first | omega | (simp; done) | (simp; omega))
  clear HG_2 A0_2 A1_2 C0_2 C1_2 SS_2 Bx0_2 Rx0_2
  have Bx1_3 : Hid (St (x1.alloc (.cells #[.bool bp1, .slice ax1 lp1 cx1] 25)) (x1.heap.size) (.bool bp1) (.slice ax1 lp1 cx1) 25) := St.new x1 _ _ _
  have Rx1_3 : Hid (X1 (x1.alloc (.cells #[.bool bp1, .slice ax1 lp1 cx1] 25)) (x0.heap.size + 1) (x1.heap.size) #[.bool bp1, .slice ax1 lp1 cx1]) := fX1.old (by first | exact o_ | (simp at o_; exact o_)) ((Old.refl x1).alloc _) (Nat.le_refl _)
  clear g_ o_
  have zBx00 := Bx0_3.out.c0
  have zBx01 := Bx0_3.out.c1
  have zBx10 := Bx1_3.out.c0
  have zBx11 := Bx1_3.out.c1
  go_wp2_with fail
  refine (cim _ _ _ _ _ _ _ Rx0_3.out Rx1_3.out (HG_3.out)).mono ?_
  rintro e p1 ⟨q0, q1, rfl, gp, rp⟩
  obtain ⟨ag0, cg0, ag1, cg1, hq⟩ := hIR0 _ _ _ _ rp
  have hsp1 : x1.heap.size + 1 ≤ p1.heap.size := by have := gp.size; simp at this; omega
  simp only [Prod.mk.injEq] at hq
  obtain ⟨rfl, rfl⟩ := hq
  clear zBx00 zBx01 zBx10 zBx11
  have HG_4 : Hid (Old w ((p1.alloc (.cells #[.bool br0, .slice ag0 lr0 cg0] 25)).alloc (.cells #[.bool br1, .slice ag1 lr1 cg1] 25))) := Old.trans HG_3.out (Old.trans gp ((((Old.refl p1).alloc _).alloc _)))
  have A0_4 : Hid (St ((p1.alloc (.cells #[.bool br0, .slice ag0 lr0 cg0] 25)).alloc (.cells #[.bool br1, .slice ag1 lr1 cg1] 25)) (w.heap.size) (.bool bp0) (.slice ap0 lp0 cp0) 33) := A0_3.out.old (Old.trans gp ((((Old.refl p1).alloc _).alloc _)))
  have A1_4 : Hid (St ((p1.alloc (.cells #[.bool br0, .slice ag0 lr0 cg0] 25)).alloc (.cells #[.bool br1, .slice ag1 lr1 cg1] 25)) (w.heap.size + 1) (.bool bp1) (.slice ap1 lp1 cp1) 33) := A1_3.out.old (Old.trans gp ((((Old.refl p1).alloc _).alloc _)))
  have C0_4 : Hid (St ((p1.alloc (.cells #[.bool br0, .slice ag0 lr0 cg0] 25)).alloc (.cells #[.bool br1, .slice ag1 lr1 cg1] 25)) (ks0) (.bool br0) (.slice as0 lr0 cs0) 25) := C0_3.out.old (Old.trans gp ((((Old.refl p1).alloc _).alloc _)))
  have C1_4 : Hid (St ((p1.alloc (.cells #[.bool br0, .slice ag0 lr0 cg0] 25)).alloc (.cells #[.bool br1, .slice ag1 lr1 cg1] 25)) (ks1) (.bool br1) (.slice as1 lr1 cs1) 25) := C1_3.out.old (Old.trans gp ((((Old.refl p1).alloc _).alloc _)))
  have SS_4 : Hid (SR ((p1.alloc (.cells #[.bool br0, .slice ag0 lr0 cg0] 25)).alloc (.cells #[.bool br1, .slice ag1 lr1 cg1] 25)) (loS) (hiS) (#[.bool br0, .slice as0 lr0 cs0], #[.bool br1, .slice as1 lr1 cs1])) := fSR.old SS_3.out (Old.trans gp ((((Old.refl p1).alloc _).alloc _))) (by first | omega | (simp; done) | (simp; omega))
  have Bx0_4 : Hid (St ((p1.alloc (.cells #[.bool br0, .slice ag0 lr0 cg0] 25)).alloc (.cells #[.bool br1, .slice ag1 lr1 cg1] 25)) (x0.heap.size) (.bool bp0) (.slice ax0 lp0 cx0) 25) := Bx0_3.out.old (Old.trans gp ((((Old.refl p1).alloc _).alloc _)))
  have Rx0_4 : Hid (X0 ((p1.alloc (.cells #[.bool br0, .slice ag0 lr0 cg0] 25)).alloc (.cells #[.bool br1, .slice ag1 lr1 cg1] 25)) (ts.heap.size) (x0.heap.size) #[.bool bp0, .slice ax0 lp0 cx0]) := fX0.old Rx0_3.out (Old.trans gp ((((Old.refl p1).alloc _).alloc _))) (by first | omega | (simp; done) | (simp; omega))
  have Bx1_4 : Hid (St ((p1.alloc (.cells #[.bool br0, .slice ag0 lr0 cg0] 25)).alloc (.cells #[.bool br1, .slice ag1 lr1 cg1] 25)) (x1.heap.size) (.bool bp1) (.slice ax1 lp1 cx1) 25) := Bx1_3.out.old (Old.trans gp ((((Old.refl p1).alloc _).alloc _)))
  have Rx1_4 : Hid (X1 ((p1.alloc (.cells #[.bool br0, .slice ag0 lr0 cg0] 25)).alloc (.cells #[.bool br1, .slice ag1 lr1 cg1] 25)) (x0.heap.size + 1) (x1.heap.size) #[.bool bp1, .slice ax1 lp1 cx1]) := fX1.old Rx1_3.out (Old.trans gp ((((Old.refl p1).alloc _).alloc _))) (by first | omega | (simp; done) | (simp; omega))
  clear HG_3 A0_3 A1_3 C0_3 C1_3 SS_3 Bx0_3 Rx0_3 Bx1_3 Rx1_3
  have Bg0_4 : Hid (St ((p1.alloc (.cells #[.bool br0, .slice ag0 lr0 cg0] 25)).alloc (.cells #[.bool br1, .slice ag1 lr1 cg1] 25)) (p1.heap.size) (.bool br0) (.slice ag0 lr0 cg0) 25) := St.at1 p1 _ _ _ _ _ _
  have Bg1_4 : Hid (St ((p1.alloc (.cells #[.bool br0, .slice ag0 lr0 cg0] 25)).alloc (.cells #[.bool br1, .slice ag1 lr1 cg1] 25)) (p1.heap.size + 1) (.bool br1) (.slice ag1 lr1 cg1) 25) := St.at2 p1 _ _ _ _ _ _
  have RG_4 : Hid (IR0 ((p1.alloc (.cells #[.bool br0, .slice ag0 lr0 cg0] 25)).alloc (.cells #[.bool br1, .slice ag1 lr1 cg1] 25)) (x1.heap.size + 1) (p1.heap.size) (#[.bool br0, .slice ag0 lr0 cg0], #[.bool br1, .slice ag1 lr1 cg1])) := fIR0.old (by first | exact rp | (simp at rp; exact rp)) ((((Old.refl p1).alloc _).alloc _)) (Nat.le_refl _)
  clear gp rp
  have zBg00 := Bg0_4.out.c0
  have zBg01 := Bg0_4.out.c1
  have zC00 := C0_4.out.c0
  have zC01 := C0_4.out.c1
  go_wp2_with fail
  refine (cer0 _ _ _ _ _ _ _ RG_4.out SS_4.out).mono ?_
  rintro e f0 ⟨rfl, g_⟩
  clear zBg00 zBg01 zC00 zC01
  have hsf0 : p1.heap.size + 2 ≤ f0.heap.size := by have := g_.size; first | omega | (simp at this; omega)
  have HG_5 : Hid (Old w f0) := Old.trans HG_4.out (g_)
  have A0_5 : Hid (St f0 (w.heap.size) (.bool bp0) (.slice ap0 lp0 cp0) 33) := A0_4.out.old (g_)
  have A1_5 : Hid (St f0 (w.heap.size + 1) (.bool bp1) (.slice ap1 lp1 cp1) 33) := A1_4.out.old (g_)
  have C0_5 : Hid (St f0 (ks0) (.bool br0) (.slice as0 lr0 cs0) 25) := C0_4.out.old (g_)
  have C1_5 : Hid (St f0 (ks1) (.bool br1) (.slice as1 lr1 cs1) 25) := C1_4.out.old (g_)
  have SS_5 : Hid (SR f0 (loS) (hiS) (#[.bool br0, .slice as0 lr0 cs0], #[.bool br1, .slice as1 lr1 cs1])) := fSR.old SS_4.out (g_) (by first | omega | (simp; done) | (simp; omega))
  have Bx0_5 : Hid (St f0 (x0.heap.size) (.bool bp0) (.slice ax0 lp0 cx0) 25) := Bx0_4.out.old (g_)
  have Rx0_5 : Hid (X0 f0 (ts.heap.size) (x0.heap.size) #[.bool bp0, .slice ax0 lp0 cx0]) := fX0.old Rx0_4.out (g_) (by first | omega | (simp; done) | (simp; omega))
  have Bx1_5 : Hid (St f0 (x1.heap.size) (.bool bp1) (.slice ax1 lp1 cx1) 25) := Bx1_4.out.old (g_)
  have Rx1_5 : Hid (X1 f0 (x0.heap.size + 1) (x1.heap.size) #[.bool bp1, .slice ax1 lp1 cx1]) := fX1.old Rx1_4.out (g_) (by first | omega | (simp; done) | (simp; omega))
  have Bg0_5 : Hid (St f0 (p1.heap.size) (.bool br0) (.slice ag0 lr0 cg0) 25) := Bg0_4.out.old (g_)
  have Bg1_5 : Hid (St f0 (p1.heap.size + 1) (.bool br1) (.slice ag1 lr1 cg1) 25) := Bg1_4.out.old (g_)
  have RG_5 : Hid (IR0 f0 (x1.heap.size + 1) (p1.heap.size) (#[.bool br0, .slice ag0 lr0 cg0], #[.bool br1, .slice ag1 lr1 cg1])) := fIR0.old RG_4.out (g_) (by first | omega | (simp; done) | (simp; omega))
  clear HG_4 A0_4 A1_4 C0_4 C1_4 SS_4 Bx0_4 Rx0_4 Bx1_4 Rx1_4 Bg0_4 Bg1_4 RG_4
  clear g_
  have zBg10 := Bg1_5.out.c0
  have zBg11 := Bg1_5.out.c1
  have zC10 := C1_5.out.c0
  have zC11 := C1_5.out.c1
  go_wp2_with fail
  refine (cer1 _ _ _ _ _ _ _ RG_5.out SS_5.out).mono ?_
  rintro e f1 ⟨rfl, g_⟩
  clear zBg10 zBg11 zC10 zC11
  have hsf1 : f0.heap.size ≤ f1.heap.size := by have := g_.size; first | omega | (simp at this; omega)
  have HG_6 : Hid (Old w f1) := Old.trans HG_5.out (g_)
  have A0_6 : Hid (St f1 (w.heap.size) (.bool bp0) (.slice ap0 lp0 cp0) 33) := A0_5.out.old (g_)
  have A1_6 : Hid (St f1 (w.heap.size + 1) (.bool bp1) (.slice ap1 lp1 cp1) 33) := A1_5.out.old (g_)
  have C0_6 : Hid (St f1 (ks0) (.bool br0) (.slice as0 lr0 cs0) 25) := C0_5.out.old (g_)
  have C1_6 : Hid (St f1 (ks1) (.bool br1) (.slice as1 lr1 cs1) 25) := C1_5.out.old (g_)
  have SS_6 : Hid (SR f1 (loS) (hiS) (#[.bool br0, .slice as0 lr0 cs0], #[.bool br1, .slice as1 lr1 cs1])) := fSR.old SS_5.out (g_) (by first | omega | (simp; done) | (simp; omega))
  have Bx0_6 : Hid (St f1 (x0.heap.size) (.bool bp0) (.slice ax0 lp0 cx0) 25) := Bx0_5.out.old (g_)
  have Rx0_6 : Hid (X0 f1 (ts.heap.size) (x0.heap.size) #[.bool bp0, .slice ax0 lp0 cx0]) := fX0.old Rx0_5.out (g_) (by first | omega | (simp; done) | (simp; omega))
  have Bx1_6 : Hid (St f1 (x1.heap.size) (.bool bp1) (.slice ax1 lp1 cx1) 25) := Bx1_5.out.old (g_)
  have Rx1_6 : Hid (X1 f1 (x0.heap.size + 1) (x1.heap.size) #[.bool bp1, .slice ax1 lp1 cx1]) := fX1.old Rx1_5.out (g_) (by first | omega | (simp; done) | (simp; omega))
  have Bg0_6 : Hid (St f1 (p1.heap.size) (.bool br0) (.slice ag0 lr0 cg0) 25) := Bg0_5.out.old (g_)
  have Bg1_6 : Hid (St f1 (p1.heap.size + 1) (.bool br1) (.slice ag1 lr1 cg1) 25) := Bg1_5.out.old (g_)
  have RG_6 : Hid (IR0 f1 (x1.heap.size + 1) (p1.heap.size) (#[.bool br0, .slice ag0 lr0 cg0], #[.bool br1, .slice ag1 lr1 cg1])) := fIR0.old RG_5.out (g_) (by first | omega | (simp; done) | (simp; omega))
  clear HG_5 A0_5 A1_5 C0_5 C1_5 SS_5 Bx0_5 Rx0_5 Bx1_5 Rx1_5 Bg0_5 Bg1_5 RG_5
  clear g_
  have zBx00 := Bx0_6.out.c0
  have zBx01 := Bx0_6.out.c1
  have zA00 := A0_6.out.c0
  have zA01 := A0_6.out.c1
  have HAS : Hid (∀ W', Old f1 W' → (W'.cell? ⟨x0.heap.size, 0, none⟩ = some (.bool bp0) ∧ W'.cell? ⟨x0.heap.size, 1, none⟩ = some (.slice ax0 lp0 cx0) ∧ W'.cell? ⟨w.heap.size, 0, none⟩ = some (.bool bp0) ∧ W'.cell? ⟨w.heap.size, 1, none⟩ = some (.slice ap0 lp0 cp0))) := fun W' g => ⟨(Bx0_6.out.old g).c0, (Bx0_6.out.old g).c1, (A0_6.out.old g).c0, (A0_6.out.old g).c1⟩
  go_wp2_with fail
  go_region_held3 (fun W' => W'.cell? ⟨x0.heap.size, 0, none⟩ = some (.bool bp0) ∧ W'.cell? ⟨x0.heap.size, 1, none⟩ = some (.slice ax0 lp0 cx0) ∧ W'.cell? ⟨w.heap.size, 0, none⟩ = some (.bool bp0) ∧ W'.cell? ⟨w.heap.size, 1, none⟩ = some (.slice ap0 lp0 cp0)) (first | with_reducible exact HAS.out _ GE.out | with_reducible exact HAS.out _ GT.out | with_reducible exact HAS.out _ (Below.drew (Old.refl f1)) | with_reducible exact HAS.out _ (Old.refl f1)) (first
    | (go_at_call 16; refine (TO0.out _ (Below.drew HG_6.out)).mono ?_; rintro e wt ⟨y_, rfl, gt, ot⟩; obtain ⟨at_, ct_, rfl⟩ := hX0 _ _ _ _ ot; have GT : Hid (Old f1 wt) := Old.trans (Below.drew (Old.refl f1)) gt; have RT : Hid (X0 wt _ _ #[.bool bp0, .slice at_ lp0 ct_]) := ot; clear gt ot)
    | (go_at_call 18; refine (ceq0 _ _ _ _ _ _ _ (fX0.old Rx0_6.out GT.out (by omega)) RT.out).mono ?_; rintro e v0 ⟨rfl, ge⟩; have GE : Hid (Old f1 v0) := Old.trans GT.out ge; clear ge)
    | fail)
  clear zBx00 zBx01 zA00 zA01
  have hsv0 := GE.out.size
  have HG_7 : Hid (Old w v0) := Old.trans HG_6.out (GE.out)
  have A0_7 : Hid (St v0 (w.heap.size) (.bool bp0) (.slice ap0 lp0 cp0) 33) := A0_6.out.old (GE.out)
  have A1_7 : Hid (St v0 (w.heap.size + 1) (.bool bp1) (.slice ap1 lp1 cp1) 33) := A1_6.out.old (GE.out)
  have C0_7 : Hid (St v0 (ks0) (.bool br0) (.slice as0 lr0 cs0) 25) := C0_6.out.old (GE.out)
  have C1_7 : Hid (St v0 (ks1) (.bool br1) (.slice as1 lr1 cs1) 25) := C1_6.out.old (GE.out)
  have SS_7 : Hid (SR v0 (loS) (hiS) (#[.bool br0, .slice as0 lr0 cs0], #[.bool br1, .slice as1 lr1 cs1])) := fSR.old SS_6.out (GE.out) (by first | omega | (simp; done) | (simp; omega))
  have Bx0_7 : Hid (St v0 (x0.heap.size) (.bool bp0) (.slice ax0 lp0 cx0) 25) := Bx0_6.out.old (GE.out)
  have Rx0_7 : Hid (X0 v0 (ts.heap.size) (x0.heap.size) #[.bool bp0, .slice ax0 lp0 cx0]) := fX0.old Rx0_6.out (GE.out) (by first | omega | (simp; done) | (simp; omega))
  have Bx1_7 : Hid (St v0 (x1.heap.size) (.bool bp1) (.slice ax1 lp1 cx1) 25) := Bx1_6.out.old (GE.out)
  have Rx1_7 : Hid (X1 v0 (x0.heap.size + 1) (x1.heap.size) #[.bool bp1, .slice ax1 lp1 cx1]) := fX1.old Rx1_6.out (GE.out) (by first | omega | (simp; done) | (simp; omega))
  have Bg0_7 : Hid (St v0 (p1.heap.size) (.bool br0) (.slice ag0 lr0 cg0) 25) := Bg0_6.out.old (GE.out)
  have Bg1_7 : Hid (St v0 (p1.heap.size + 1) (.bool br1) (.slice ag1 lr1 cg1) 25) := Bg1_6.out.old (GE.out)
  have RG_7 : Hid (IR0 v0 (x1.heap.size + 1) (p1.heap.size) (#[.bool br0, .slice ag0 lr0 cg0], #[.bool br1, .slice ag1 lr1 cg1])) := fIR0.old RG_6.out (GE.out) (by first | omega | (simp; done) | (simp; omega))
  clear HG_6 A0_6 A1_6 C0_6 C1_6 SS_6 Bx0_6 Rx0_6 Bx1_6 Rx1_6 Bg0_6 Bg1_6 RG_6
  clear GE GT RT HAS
  have zBx10 := Bx1_7.out.c0
  have zBx11 := Bx1_7.out.c1
  have zA10 := A1_7.out.c0
  have zA11 := A1_7.out.c1
  have HAS : Hid (∀ W', Old v0 W' → (W'.cell? ⟨x1.heap.size, 0, none⟩ = some (.bool bp1) ∧ W'.cell? ⟨x1.heap.size, 1, none⟩ = some (.slice ax1 lp1 cx1) ∧ W'.cell? ⟨w.heap.size + 1, 0, none⟩ = some (.bool bp1) ∧ W'.cell? ⟨w.heap.size + 1, 1, none⟩ = some (.slice ap1 lp1 cp1))) := fun W' g => ⟨(Bx1_7.out.old g).c0, (Bx1_7.out.old g).c1, (A1_7.out.old g).c0, (A1_7.out.old g).c1⟩
  go_wp2_with fail
  go_region_held3 (fun W' => W'.cell? ⟨x1.heap.size, 0, none⟩ = some (.bool bp1) ∧ W'.cell? ⟨x1.heap.size, 1, none⟩ = some (.slice ax1 lp1 cx1) ∧ W'.cell? ⟨w.heap.size + 1, 0, none⟩ = some (.bool bp1) ∧ W'.cell? ⟨w.heap.size + 1, 1, none⟩ = some (.slice ap1 lp1 cp1)) (first | with_reducible exact HAS.out _ GE.out | with_reducible exact HAS.out _ GT.out | with_reducible exact HAS.out _ (Below.drew (Old.refl v0)) | with_reducible exact HAS.out _ (Old.refl v0)) (first
    | (go_at_call 16; refine (TO1.out _ (Below.drew HG_7.out)).mono ?_; rintro e wt ⟨y_, rfl, gt, ot⟩; obtain ⟨at_, ct_, rfl⟩ := hX1 _ _ _ _ ot; have GT : Hid (Old v0 wt) := Old.trans (Below.drew (Old.refl v0)) gt; have RT : Hid (X1 wt _ _ #[.bool bp1, .slice at_ lp1 ct_]) := ot; clear gt ot)
    | (go_at_call 18; refine (ceq1 _ _ _ _ _ _ _ (fX1.old Rx1_7.out GT.out (by omega)) RT.out).mono ?_; rintro e v1 ⟨rfl, ge⟩; have GE : Hid (Old v0 v1) := Old.trans GT.out ge; clear ge)
    | fail)
  clear zBx10 zBx11 zA10 zA11
  have hsv1 := GE.out.size
  have HG_8 : Hid (Old w v1) := Old.trans HG_7.out (GE.out)
  have A0_8 : Hid (St v1 (w.heap.size) (.bool bp0) (.slice ap0 lp0 cp0) 33) := A0_7.out.old (GE.out)
  have A1_8 : Hid (St v1 (w.heap.size + 1) (.bool bp1) (.slice ap1 lp1 cp1) 33) := A1_7.out.old (GE.out)
  have C0_8 : Hid (St v1 (ks0) (.bool br0) (.slice as0 lr0 cs0) 25) := C0_7.out.old (GE.out)
  have C1_8 : Hid (St v1 (ks1) (.bool br1) (.slice as1 lr1 cs1) 25) := C1_7.out.old (GE.out)
  have SS_8 : Hid (SR v1 (loS) (hiS) (#[.bool br0, .slice as0 lr0 cs0], #[.bool br1, .slice as1 lr1 cs1])) := fSR.old SS_7.out (GE.out) (by first | omega | (simp; done) | (simp; omega))
  have Bx0_8 : Hid (St v1 (x0.heap.size) (.bool bp0) (.slice ax0 lp0 cx0) 25) := Bx0_7.out.old (GE.out)
  have Rx0_8 : Hid (X0 v1 (ts.heap.size) (x0.heap.size) #[.bool bp0, .slice ax0 lp0 cx0]) := fX0.old Rx0_7.out (GE.out) (by first | omega | (simp; done) | (simp; omega))
  have Bx1_8 : Hid (St v1 (x1.heap.size) (.bool bp1) (.slice ax1 lp1 cx1) 25) := Bx1_7.out.old (GE.out)
  have Rx1_8 : Hid (X1 v1 (x0.heap.size + 1) (x1.heap.size) #[.bool bp1, .slice ax1 lp1 cx1]) := fX1.old Rx1_7.out (GE.out) (by first | omega | (simp; done) | (simp; omega))
  have Bg0_8 : Hid (St v1 (p1.heap.size) (.bool br0) (.slice ag0 lr0 cg0) 25) := Bg0_7.out.old (GE.out)
  have Bg1_8 : Hid (St v1 (p1.heap.size + 1) (.bool br1) (.slice ag1 lr1 cg1) 25) := Bg1_7.out.old (GE.out)
  have RG_8 : Hid (IR0 v1 (x1.heap.size + 1) (p1.heap.size) (#[.bool br0, .slice ag0 lr0 cg0], #[.bool br1, .slice ag1 lr1 cg1])) := fIR0.old RG_7.out (GE.out) (by first | omega | (simp; done) | (simp; omega))
  clear HG_7 A0_7 A1_7 C0_7 C1_7 SS_7 Bx0_7 Rx0_7 Bx1_7 Rx1_7 Bg0_7 Bg1_7 RG_7
  clear GE GT RT HAS
  have zBx00 := Bx0_8.out.c0
  have zBx01 := Bx0_8.out.c1
  go_wp2_with fail
  refine (cmk0 _ _ _ _ Rx0_8.out).mono ?_
  rintro e y0 ⟨rfl, gm⟩
  clear zBx00 zBx01
  have hsy0 := gm.size
  have HG_9 : Hid (Old w y0) := Old.chg HG_8.out (gm) (by omega)
  have A0_9 : Hid (St y0 (w.heap.size) (.bool bp0) (.slice ap0 lp0 cp0) 33) := A0_8.out.chg (gm) (by omega)
  have A1_9 : Hid (St y0 (w.heap.size + 1) (.bool bp1) (.slice ap1 lp1 cp1) 33) := A1_8.out.chg (gm) (by omega)
  have C0_9 : Hid (St y0 (ks0) (.bool br0) (.slice as0 lr0 cs0) 25) := C0_8.out.chg (gm) (by omega)
  have C1_9 : Hid (St y0 (ks1) (.bool br1) (.slice as1 lr1 cs1) 25) := C1_8.out.chg (gm) (by omega)
  have SS_9 : Hid (SR y0 (loS) (hiS) (#[.bool br0, .slice as0 lr0 cs0], #[.bool br1, .slice as1 lr1 cs1])) := fSR.chg SS_8.out (gm) (by first | omega | (simp; done) | (simp; omega)) (by omega)
  have Bx0_9 : Hid (St y0 (x0.heap.size) (.bool bp0) (.slice ax0 lp0 cx0) 25) := Bx0_8.out.chg (gm) (by omega)
  have Bx1_9 : Hid (St y0 (x1.heap.size) (.bool bp1) (.slice ax1 lp1 cx1) 25) := Bx1_8.out.chg (gm) (by omega)
  have Rx1_9 : Hid (X1 y0 (x0.heap.size + 1) (x1.heap.size) #[.bool bp1, .slice ax1 lp1 cx1]) := fX1.chg Rx1_8.out (gm) (by first | omega | (simp; done) | (simp; omega)) (by omega)
  have Bg0_9 : Hid (St y0 (p1.heap.size) (.bool br0) (.slice ag0 lr0 cg0) 25) := Bg0_8.out.chg (gm) (by omega)
  have Bg1_9 : Hid (St y0 (p1.heap.size + 1) (.bool br1) (.slice ag1 lr1 cg1) 25) := Bg1_8.out.chg (gm) (by omega)
  have RG_9 : Hid (IR0 y0 (x1.heap.size + 1) (p1.heap.size) (#[.bool br0, .slice ag0 lr0 cg0], #[.bool br1, .slice ag1 lr1 cg1])) := fIR0.chg RG_8.out (gm) (by first | omega | (simp; done) | (simp; omega)) (by omega)
  clear HG_8 A0_8 A1_8 C0_8 C1_8 SS_8 Bx0_8 Rx0_8 Bx1_8 Rx1_8 Bg0_8 Bg1_8 RG_8
  clear gm
  have zBx10 := Bx1_9.out.c0
  have zBx11 := Bx1_9.out.c1
  go_wp2_with fail
  refine (cmk1 _ _ _ _ Rx1_9.out).mono ?_
  rintro e y1 ⟨rfl, gm⟩
  clear zBx10 zBx11
  have hsy1 := gm.size
  have HG_10 : Hid (Old w y1) := Old.chg HG_9.out (gm) (by omega)
  have A0_10 : Hid (St y1 (w.heap.size) (.bool bp0) (.slice ap0 lp0 cp0) 33) := A0_9.out.chg (gm) (by omega)
  have A1_10 : Hid (St y1 (w.heap.size + 1) (.bool bp1) (.slice ap1 lp1 cp1) 33) := A1_9.out.chg (gm) (by omega)
  have C0_10 : Hid (St y1 (ks0) (.bool br0) (.slice as0 lr0 cs0) 25) := C0_9.out.chg (gm) (by omega)
  have C1_10 : Hid (St y1 (ks1) (.bool br1) (.slice as1 lr1 cs1) 25) := C1_9.out.chg (gm) (by omega)
  have SS_10 : Hid (SR y1 (loS) (hiS) (#[.bool br0, .slice as0 lr0 cs0], #[.bool br1, .slice as1 lr1 cs1])) := fSR.chg SS_9.out (gm) (by first | omega | (simp; done) | (simp; omega)) (by omega)
  have Bx0_10 : Hid (St y1 (x0.heap.size) (.bool bp0) (.slice ax0 lp0 cx0) 25) := Bx0_9.out.chg (gm) (by omega)
  have Bx1_10 : Hid (St y1 (x1.heap.size) (.bool bp1) (.slice ax1 lp1 cx1) 25) := Bx1_9.out.chg (gm) (by omega)
  have Bg0_10 : Hid (St y1 (p1.heap.size) (.bool br0) (.slice ag0 lr0 cg0) 25) := Bg0_9.out.chg (gm) (by omega)
  have Bg1_10 : Hid (St y1 (p1.heap.size + 1) (.bool br1) (.slice ag1 lr1 cg1) 25) := Bg1_9.out.chg (gm) (by omega)
  have RG_10 : Hid (IR0 y1 (x1.heap.size + 1) (p1.heap.size) (#[.bool br0, .slice ag0 lr0 cg0], #[.bool br1, .slice ag1 lr1 cg1])) := fIR0.chg RG_9.out (gm) (by first | omega | (simp; done) | (simp; omega)) (by omega)
  clear HG_9 A0_9 A1_9 C0_9 C1_9 SS_9 Bx0_9 Bx1_9 Rx1_9 Bg0_9 Bg1_9 RG_9
  clear gm
  have dk : decide (k1 < 0) = false := decide_eq_false (by omega)
  have zBg00 := Bg0_10.out.c0
  have zBg01 := Bg0_10.out.c1
  have zC00 := C0_10.out.c0
  have zC01 := C0_10.out.c1
  go_wp2_with fail
  refine (cer0 _ _ _ _ _ _ _ RG_10.out SS_10.out).mono ?_
  rintro e h0 ⟨rfl, g_⟩
  clear zBg00 zBg01 zC00 zC01
  have hsh0 := g_.size
  have HG_11 : Hid (Old w h0) := Old.trans HG_10.out (g_)
  have A0_11 : Hid (St h0 (w.heap.size) (.bool bp0) (.slice ap0 lp0 cp0) 33) := A0_10.out.old (g_)
  have A1_11 : Hid (St h0 (w.heap.size + 1) (.bool bp1) (.slice ap1 lp1 cp1) 33) := A1_10.out.old (g_)
  have C0_11 : Hid (St h0 (ks0) (.bool br0) (.slice as0 lr0 cs0) 25) := C0_10.out.old (g_)
  have C1_11 : Hid (St h0 (ks1) (.bool br1) (.slice as1 lr1 cs1) 25) := C1_10.out.old (g_)
  have SS_11 : Hid (SR h0 (loS) (hiS) (#[.bool br0, .slice as0 lr0 cs0], #[.bool br1, .slice as1 lr1 cs1])) := fSR.old SS_10.out (g_) (by first | omega | (simp; done) | (simp; omega))
  have Bx0_11 : Hid (St h0 (x0.heap.size) (.bool bp0) (.slice ax0 lp0 cx0) 25) := Bx0_10.out.old (g_)
  have Bx1_11 : Hid (St h0 (x1.heap.size) (.bool bp1) (.slice ax1 lp1 cx1) 25) := Bx1_10.out.old (g_)
  have Bg0_11 : Hid (St h0 (p1.heap.size) (.bool br0) (.slice ag0 lr0 cg0) 25) := Bg0_10.out.old (g_)
  have Bg1_11 : Hid (St h0 (p1.heap.size + 1) (.bool br1) (.slice ag1 lr1 cg1) 25) := Bg1_10.out.old (g_)
  have RG_11 : Hid (IR0 h0 (x1.heap.size + 1) (p1.heap.size) (#[.bool br0, .slice ag0 lr0 cg0], #[.bool br1, .slice ag1 lr1 cg1])) := fIR0.old RG_10.out (g_) (by first | omega | (simp; done) | (simp; omega))
  clear HG_10 A0_10 A1_10 C0_10 C1_10 SS_10 Bx0_10 Bx1_10 Bg0_10 Bg1_10 RG_10
  clear g_
  have zBg10 := Bg1_11.out.c0
  have zBg11 := Bg1_11.out.c1
  have zC10 := C1_11.out.c0
  have zC11 := C1_11.out.c1
  go_wp2_with fail
  refine (cer1 _ _ _ _ _ _ _ RG_11.out SS_11.out).mono ?_
  rintro e h1 ⟨rfl, g_⟩
  clear zBg10 zBg11 zC10 zC11
  have hsh1 := g_.size
  have HG_12 : Hid (Old w h1) := Old.trans HG_11.out (g_)
  have A0_12 : Hid (St h1 (w.heap.size) (.bool bp0) (.slice ap0 lp0 cp0) 33) := A0_11.out.old (g_)
  have A1_12 : Hid (St h1 (w.heap.size + 1) (.bool bp1) (.slice ap1 lp1 cp1) 33) := A1_11.out.old (g_)
  have C0_12 : Hid (St h1 (ks0) (.bool br0) (.slice as0 lr0 cs0) 25) := C0_11.out.old (g_)
  have C1_12 : Hid (St h1 (ks1) (.bool br1) (.slice as1 lr1 cs1) 25) := C1_11.out.old (g_)
  have SS_12 : Hid (SR h1 (loS) (hiS) (#[.bool br0, .slice as0 lr0 cs0], #[.bool br1, .slice as1 lr1 cs1])) := fSR.old SS_11.out (g_) (by first | omega | (simp; done) | (simp; omega))
  have Bx0_12 : Hid (St h1 (x0.heap.size) (.bool bp0) (.slice ax0 lp0 cx0) 25) := Bx0_11.out.old (g_)
  have Bx1_12 : Hid (St h1 (x1.heap.size) (.bool bp1) (.slice ax1 lp1 cx1) 25) := Bx1_11.out.old (g_)
  have Bg0_12 : Hid (St h1 (p1.heap.size) (.bool br0) (.slice ag0 lr0 cg0) 25) := Bg0_11.out.old (g_)
  have Bg1_12 : Hid (St h1 (p1.heap.size + 1) (.bool br1) (.slice ag1 lr1 cg1) 25) := Bg1_11.out.old (g_)
  have RG_12 : Hid (IR0 h1 (x1.heap.size + 1) (p1.heap.size) (#[.bool br0, .slice ag0 lr0 cg0], #[.bool br1, .slice ag1 lr1 cg1])) := fIR0.old RG_11.out (g_) (by first | omega | (simp; done) | (simp; omega))
  clear HG_11 A0_11 A1_11 C0_11 C1_11 SS_11 Bx0_11 Bx1_11 Bg0_11 Bg1_11 RG_11
  clear g_
  have zBg00 := Bg0_12.out.c0
  have zBg01 := Bg0_12.out.c1
  go_wp2_with fail
  refine (cmr0 _ _ _ _ RG_12.out).mono ?_
  rintro e i0 ⟨rfl, gm, rm⟩
  clear zBg00 zBg01
  have hsi0 := gm.size
  have HG_13 : Hid (Old w i0) := Old.chg HG_12.out (gm) (by omega)
  have A0_13 : Hid (St i0 (w.heap.size) (.bool bp0) (.slice ap0 lp0 cp0) 33) := A0_12.out.chg (gm) (by omega)
  have A1_13 : Hid (St i0 (w.heap.size + 1) (.bool bp1) (.slice ap1 lp1 cp1) 33) := A1_12.out.chg (gm) (by omega)
  have C0_13 : Hid (St i0 (ks0) (.bool br0) (.slice as0 lr0 cs0) 25) := C0_12.out.chg (gm) (by omega)
  have C1_13 : Hid (St i0 (ks1) (.bool br1) (.slice as1 lr1 cs1) 25) := C1_12.out.chg (gm) (by omega)
  have SS_13 : Hid (SR i0 (loS) (hiS) (#[.bool br0, .slice as0 lr0 cs0], #[.bool br1, .slice as1 lr1 cs1])) := fSR.chg SS_12.out (gm) (by first | omega | (simp; done) | (simp; omega)) (by omega)
  have Bx0_13 : Hid (St i0 (x0.heap.size) (.bool bp0) (.slice ax0 lp0 cx0) 25) := Bx0_12.out.chg (gm) (by omega)
  have Bx1_13 : Hid (St i0 (x1.heap.size) (.bool bp1) (.slice ax1 lp1 cx1) 25) := Bx1_12.out.chg (gm) (by omega)
  have Bg0_13 : Hid (St i0 (p1.heap.size) (.bool br0) (.slice ag0 lr0 cg0) 25) := Bg0_12.out.chg (gm) (by omega)
  have Bg1_13 : Hid (St i0 (p1.heap.size + 1) (.bool br1) (.slice ag1 lr1 cg1) 25) := Bg1_12.out.chg (gm) (by omega)
  clear HG_12 A0_12 A1_12 C0_12 C1_12 SS_12 Bx0_12 Bx1_12 Bg0_12 Bg1_12 RG_12
  have RG_13 : Hid (IR1 i0 (x1.heap.size + 1) (p1.heap.size) (#[.bool br0, .slice ag0 lr0 cg0], #[.bool br1, .slice ag1 lr1 cg1])) := rm
  clear gm rm
  have zBg10 := Bg1_13.out.c0
  have zBg11 := Bg1_13.out.c1
  go_wp2_with fail
  refine (cmr1 _ _ _ _ RG_13.out).mono ?_
  rintro e i1 ⟨rfl, gm, rm⟩
  clear zBg10 zBg11
  have hsi1 := gm.size
  have HG_14 : Hid (Old w i1) := Old.chg HG_13.out (gm) (by omega)
  have A0_14 : Hid (St i1 (w.heap.size) (.bool bp0) (.slice ap0 lp0 cp0) 33) := A0_13.out.chg (gm) (by omega)
  have A1_14 : Hid (St i1 (w.heap.size + 1) (.bool bp1) (.slice ap1 lp1 cp1) 33) := A1_13.out.chg (gm) (by omega)
  have C0_14 : Hid (St i1 (ks0) (.bool br0) (.slice as0 lr0 cs0) 25) := C0_13.out.chg (gm) (by omega)
  have C1_14 : Hid (St i1 (ks1) (.bool br1) (.slice as1 lr1 cs1) 25) := C1_13.out.chg (gm) (by omega)
  have SS_14 : Hid (SR i1 (loS) (hiS) (#[.bool br0, .slice as0 lr0 cs0], #[.bool br1, .slice as1 lr1 cs1])) := fSR.chg SS_13.out (gm) (by first | omega | (simp; done) | (simp; omega)) (by omega)
  have Bx0_14 : Hid (St i1 (x0.heap.size) (.bool bp0) (.slice ax0 lp0 cx0) 25) := Bx0_13.out.chg (gm) (by omega)
  have Bx1_14 : Hid (St i1 (x1.heap.size) (.bool bp1) (.slice ax1 lp1 cx1) 25) := Bx1_13.out.chg (gm) (by omega)
  have Bg0_14 : Hid (St i1 (p1.heap.size) (.bool br0) (.slice ag0 lr0 cg0) 25) := Bg0_13.out.chg (gm) (by omega)
  have Bg1_14 : Hid (St i1 (p1.heap.size + 1) (.bool br1) (.slice ag1 lr1 cg1) 25) := Bg1_13.out.chg (gm) (by omega)
  clear HG_13 A0_13 A1_13 C0_13 C1_13 SS_13 Bx0_13 Bx1_13 Bg0_13 Bg1_13 RG_13
  have RG_14 : Hid (IR2 i1 (x1.heap.size + 1) (p1.heap.size) (#[.bool br0, .slice ag0 lr0 cg0], #[.bool br1, .slice ag1 lr1 cg1])) := rm
  clear gm rm
  have dm0 : decide (m0 < 0) = false := decide_eq_false (by omega)
  have dm1 : decide (m1 < 0) = false := decide_eq_false (by omega)
  have dmm : (m1 != m1) = false := by simp
  have zBg00 := Bg0_14.out.c0
  have zBg01 := Bg0_14.out.c1
  go_wp2_with fail
  refine (chr0 _ _ _ _ RG_14.out).mono ?_
  rintro e j0 ⟨rfl, g_⟩
  clear zBg00 zBg01
  have hsj0 := g_.size
  have HG_15 : Hid (Old w j0) := Old.trans HG_14.out (g_)
  have A0_15 : Hid (St j0 (w.heap.size) (.bool bp0) (.slice ap0 lp0 cp0) 33) := A0_14.out.old (g_)
  have A1_15 : Hid (St j0 (w.heap.size + 1) (.bool bp1) (.slice ap1 lp1 cp1) 33) := A1_14.out.old (g_)
  have C0_15 : Hid (St j0 (ks0) (.bool br0) (.slice as0 lr0 cs0) 25) := C0_14.out.old (g_)
  have C1_15 : Hid (St j0 (ks1) (.bool br1) (.slice as1 lr1 cs1) 25) := C1_14.out.old (g_)
  have SS_15 : Hid (SR j0 (loS) (hiS) (#[.bool br0, .slice as0 lr0 cs0], #[.bool br1, .slice as1 lr1 cs1])) := fSR.old SS_14.out (g_) (by first | omega | (simp; done) | (simp; omega))
  have Bx0_15 : Hid (St j0 (x0.heap.size) (.bool bp0) (.slice ax0 lp0 cx0) 25) := Bx0_14.out.old (g_)
  have Bx1_15 : Hid (St j0 (x1.heap.size) (.bool bp1) (.slice ax1 lp1 cx1) 25) := Bx1_14.out.old (g_)
  have Bg0_15 : Hid (St j0 (p1.heap.size) (.bool br0) (.slice ag0 lr0 cg0) 25) := Bg0_14.out.old (g_)
  have Bg1_15 : Hid (St j0 (p1.heap.size + 1) (.bool br1) (.slice ag1 lr1 cg1) 25) := Bg1_14.out.old (g_)
  have RG_15 : Hid (IR2 j0 (x1.heap.size + 1) (p1.heap.size) (#[.bool br0, .slice ag0 lr0 cg0], #[.bool br1, .slice ag1 lr1 cg1])) := fIR2.old RG_14.out (g_) (by first | omega | (simp; done) | (simp; omega))
  clear HG_14 A0_14 A1_14 C0_14 C1_14 SS_14 Bx0_14 Bx1_14 Bg0_14 Bg1_14 RG_14
  clear g_
  have zBg10 := Bg1_15.out.c0
  have zBg11 := Bg1_15.out.c1
  go_wp2_with fail
  refine (chr1 _ _ _ _ RG_15.out).mono ?_
  rintro e j1 ⟨rfl, g_⟩
  clear zBg10 zBg11
  have hsj1 := g_.size
  have HG_16 : Hid (Old w j1) := Old.trans HG_15.out (g_)
  have A0_16 : Hid (St j1 (w.heap.size) (.bool bp0) (.slice ap0 lp0 cp0) 33) := A0_15.out.old (g_)
  have A1_16 : Hid (St j1 (w.heap.size + 1) (.bool bp1) (.slice ap1 lp1 cp1) 33) := A1_15.out.old (g_)
  have C0_16 : Hid (St j1 (ks0) (.bool br0) (.slice as0 lr0 cs0) 25) := C0_15.out.old (g_)
  have C1_16 : Hid (St j1 (ks1) (.bool br1) (.slice as1 lr1 cs1) 25) := C1_15.out.old (g_)
  have SS_16 : Hid (SR j1 (loS) (hiS) (#[.bool br0, .slice as0 lr0 cs0], #[.bool br1, .slice as1 lr1 cs1])) := fSR.old SS_15.out (g_) (by first | omega | (simp; done) | (simp; omega))
  have Bx0_16 : Hid (St j1 (x0.heap.size) (.bool bp0) (.slice ax0 lp0 cx0) 25) := Bx0_15.out.old (g_)
  have Bx1_16 : Hid (St j1 (x1.heap.size) (.bool bp1) (.slice ax1 lp1 cx1) 25) := Bx1_15.out.old (g_)
  have Bg0_16 : Hid (St j1 (p1.heap.size) (.bool br0) (.slice ag0 lr0 cg0) 25) := Bg0_15.out.old (g_)
  have Bg1_16 : Hid (St j1 (p1.heap.size + 1) (.bool br1) (.slice ag1 lr1 cg1) 25) := Bg1_15.out.old (g_)
  have RG_16 : Hid (IR2 j1 (x1.heap.size + 1) (p1.heap.size) (#[.bool br0, .slice ag0 lr0 cg0], #[.bool br1, .slice ag1 lr1 cg1])) := fIR2.old RG_15.out (g_) (by first | omega | (simp; done) | (simp; omega))
  clear HG_15 A0_15 A1_15 C0_15 C1_15 SS_15 Bx0_15 Bx1_15 Bg0_15 Bg1_15 RG_15
  clear g_
  have zA00 := A0_16.out.c0
  have zA01 := A0_16.out.c1
  have zA10 := A1_16.out.c0
  have zA11 := A1_16.out.c1
  go_wp2_with fail
  refine reg_div35 j1 _ _ _ _ _ _ (fun W v => ∃ lo hi g, v = .agg g ∧ X0 W lo hi g ∧ hi ≤ W.heap.size) (fun W W' v h g => by obtain ⟨lo, hi, y, rfl, h1, h2⟩ := h; exact ⟨lo, hi, y, rfl, fX0.old h1 g h2, Nat.le_trans h2 g.size⟩) (fun W h => (TO0.out W (Old.trans HG_16.out h)).mono (fun e w' h => by obtain ⟨g, rfl, h1, h2⟩ := h; exact ⟨_, rfl, h1, _, _, g, rfl, h2, Nat.le_refl _⟩)) A0_16.out (fun W v => ∃ lo hi g, v = .agg g ∧ X1 W lo hi g ∧ hi ≤ W.heap.size) (fun W W' v h g => by obtain ⟨lo, hi, y, rfl, h1, h2⟩ := h; exact ⟨lo, hi, y, rfl, fX1.old h1 g h2, Nat.le_trans h2 g.size⟩) (fun W h => (TO1.out W (Old.trans HG_16.out h)).mono (fun e w' h => by obtain ⟨g, rfl, h1, h2⟩ := h; exact ⟨_, rfl, h1, _, _, g, rfl, h2, Nat.le_refl _⟩)) A1_16.out (fun W lo hi g0 g1 g2 => IR0 W lo hi (g0, g1) ∧ g2 = .bool ro) (fun W W' lo hi g0 g1 g2 h h1 h2 => ⟨fIR0 _ _ _ _ _ h.1 h1 h2, h.2⟩) (fun W v0 v1 hO H0 H1 => by obtain ⟨lo0, hi0, y0, rfl, x0, q0⟩ := H0; obtain ⟨lo1, hi1, y1, rfl, x1, q1⟩ := H1; exact (cim W _ _ _ _ _ _ x0 x1 (Old.trans HG_16.out hO)).mono (fun e w' h => by obtain ⟨g0, g1, rfl, h1, h2⟩ := h; obtain ⟨a0_, c0_, a1_, c1_, hq⟩ := hIR0 _ _ _ _ h2; simp only [Prod.mk.injEq] at hq; obtain ⟨rfl, rfl⟩ := hq; exact ⟨_, _, _, rfl, h1, rfl, (by simp [Value.oneCell']), rfl, (by simp [Value.oneCell']), h2, rfl⟩)) _ _ _ (by first | decide | simp) rfl rfl ?_
  intro kt0 kt1 loT hiT q0 q1 q2 u_0 u_1 u_2 u_3 u_4 u_5 u_6 u_7 u_8 ts2 gS loS_ hiS_ rS_ bS0 hkt0 hlt0 hnt0 bS1 hkt1 hlt1 hnt1 hnet
  obtain ⟨rS, rfl⟩ := rS_
  obtain ⟨at0, ct0, at1, ct1, hq⟩ := hIR0 _ _ _ _ rS
  simp only [Prod.mk.injEq] at hq
  obtain ⟨rfl, rfl⟩ := hq
  have h_t : j1.heap.size ≤ loT ∧ hiT ≤ ts2.heap.size := ⟨loS_, hiS_⟩
  obtain ⟨hlot, hhit⟩ := h_t
  clear loS_ hiS_
  simp only [putAll, Act.put]
  clear zA00 zA01 zA10 zA11
  have HG_17 : Hid (Old w ts2) := Old.trans HG_16.out (gS)
  have A0_17 : Hid (St ts2 (w.heap.size) (.bool bp0) (.slice ap0 lp0 cp0) 33) := A0_16.out.old (gS)
  have A1_17 : Hid (St ts2 (w.heap.size + 1) (.bool bp1) (.slice ap1 lp1 cp1) 33) := A1_16.out.old (gS)
  have C0_17 : Hid (St ts2 (ks0) (.bool br0) (.slice as0 lr0 cs0) 25) := C0_16.out.old (gS)
  have C1_17 : Hid (St ts2 (ks1) (.bool br1) (.slice as1 lr1 cs1) 25) := C1_16.out.old (gS)
  have SS_17 : Hid (SR ts2 (loS) (hiS) (#[.bool br0, .slice as0 lr0 cs0], #[.bool br1, .slice as1 lr1 cs1])) := fSR.old SS_16.out (gS) (by first | omega | (simp; done) | (simp; omega))
  have Bx0_17 : Hid (St ts2 (x0.heap.size) (.bool bp0) (.slice ax0 lp0 cx0) 25) := Bx0_16.out.old (gS)
  have Bx1_17 : Hid (St ts2 (x1.heap.size) (.bool bp1) (.slice ax1 lp1 cx1) 25) := Bx1_16.out.old (gS)
  have Bg0_17 : Hid (St ts2 (p1.heap.size) (.bool br0) (.slice ag0 lr0 cg0) 25) := Bg0_16.out.old (gS)
  have Bg1_17 : Hid (St ts2 (p1.heap.size + 1) (.bool br1) (.slice ag1 lr1 cg1) 25) := Bg1_16.out.old (gS)
  have RG_17 : Hid (IR2 ts2 (x1.heap.size + 1) (p1.heap.size) (#[.bool br0, .slice ag0 lr0 cg0], #[.bool br1, .slice ag1 lr1 cg1])) := fIR2.old RG_16.out (gS) (by first | omega | (simp; done) | (simp; omega))
  clear HG_16 A0_16 A1_16 C0_16 C1_16 SS_16 Bx0_16 Bx1_16 Bg0_16 Bg1_16 RG_16
  have D0_17 : Hid (St ts2 (kt0) (.bool br0) (.slice at0 lr0 ct0) 25) := bS0
  have D1_17 : Hid (St ts2 (kt1) (.bool br1) (.slice at1 lr1 ct1) 25) := bS1
  have HH_17 : Hid (IR0 ts2 (loT) (hiT) (#[.bool br0, .slice at0 lr0 ct0], #[.bool br1, .slice at1 lr1 ct1])) := rS
  have hsts2 := gS.size
  clear gS rS bS0 bS1
  have zD00 := D0_17.out.c0
  have zD01 := D0_17.out.c1
  have zC00 := C0_17.out.c0
  have zC01 := C0_17.out.c1
  go_wp2_with fail
  refine (cer0 _ _ _ _ _ _ _ HH_17.out SS_17.out).mono ?_
  rintro e o0 ⟨rfl, g_⟩
  clear zD00 zD01 zC00 zC01
  have hso0 := g_.size
  have HG_18 : Hid (Old w o0) := Old.trans HG_17.out (g_)
  have A0_18 : Hid (St o0 (w.heap.size) (.bool bp0) (.slice ap0 lp0 cp0) 33) := A0_17.out.old (g_)
  have A1_18 : Hid (St o0 (w.heap.size + 1) (.bool bp1) (.slice ap1 lp1 cp1) 33) := A1_17.out.old (g_)
  have C0_18 : Hid (St o0 (ks0) (.bool br0) (.slice as0 lr0 cs0) 25) := C0_17.out.old (g_)
  have C1_18 : Hid (St o0 (ks1) (.bool br1) (.slice as1 lr1 cs1) 25) := C1_17.out.old (g_)
  have SS_18 : Hid (SR o0 (loS) (hiS) (#[.bool br0, .slice as0 lr0 cs0], #[.bool br1, .slice as1 lr1 cs1])) := fSR.old SS_17.out (g_) (by first | omega | (simp; done) | (simp; omega))
  have Bx0_18 : Hid (St o0 (x0.heap.size) (.bool bp0) (.slice ax0 lp0 cx0) 25) := Bx0_17.out.old (g_)
  have Bx1_18 : Hid (St o0 (x1.heap.size) (.bool bp1) (.slice ax1 lp1 cx1) 25) := Bx1_17.out.old (g_)
  have Bg0_18 : Hid (St o0 (p1.heap.size) (.bool br0) (.slice ag0 lr0 cg0) 25) := Bg0_17.out.old (g_)
  have Bg1_18 : Hid (St o0 (p1.heap.size + 1) (.bool br1) (.slice ag1 lr1 cg1) 25) := Bg1_17.out.old (g_)
  have RG_18 : Hid (IR2 o0 (x1.heap.size + 1) (p1.heap.size) (#[.bool br0, .slice ag0 lr0 cg0], #[.bool br1, .slice ag1 lr1 cg1])) := fIR2.old RG_17.out (g_) (by first | omega | (simp; done) | (simp; omega))
  have D0_18 : Hid (St o0 (kt0) (.bool br0) (.slice at0 lr0 ct0) 25) := D0_17.out.old (g_)
  have D1_18 : Hid (St o0 (kt1) (.bool br1) (.slice at1 lr1 ct1) 25) := D1_17.out.old (g_)
  have HH_18 : Hid (IR0 o0 (loT) (hiT) (#[.bool br0, .slice at0 lr0 ct0], #[.bool br1, .slice at1 lr1 ct1])) := fIR0.old HH_17.out (g_) (by first | omega | (simp; done) | (simp; omega))
  clear HG_17 A0_17 A1_17 C0_17 C1_17 SS_17 Bx0_17 Bx1_17 Bg0_17 Bg1_17 RG_17 D0_17 D1_17 HH_17
  clear g_
  have zD10 := D1_18.out.c0
  have zD11 := D1_18.out.c1
  have zC10 := C1_18.out.c0
  have zC11 := C1_18.out.c1
  go_wp2_with fail
  refine (cer1 _ _ _ _ _ _ _ HH_18.out SS_18.out).mono ?_
  rintro e o1 ⟨rfl, g_⟩
  clear zD10 zD11 zC10 zC11
  have hso1 := g_.size
  have HG_19 : Hid (Old w o1) := Old.trans HG_18.out (g_)
  have A0_19 : Hid (St o1 (w.heap.size) (.bool bp0) (.slice ap0 lp0 cp0) 33) := A0_18.out.old (g_)
  have A1_19 : Hid (St o1 (w.heap.size + 1) (.bool bp1) (.slice ap1 lp1 cp1) 33) := A1_18.out.old (g_)
  have C0_19 : Hid (St o1 (ks0) (.bool br0) (.slice as0 lr0 cs0) 25) := C0_18.out.old (g_)
  have C1_19 : Hid (St o1 (ks1) (.bool br1) (.slice as1 lr1 cs1) 25) := C1_18.out.old (g_)
  have SS_19 : Hid (SR o1 (loS) (hiS) (#[.bool br0, .slice as0 lr0 cs0], #[.bool br1, .slice as1 lr1 cs1])) := fSR.old SS_18.out (g_) (by first | omega | (simp; done) | (simp; omega))
  have Bx0_19 : Hid (St o1 (x0.heap.size) (.bool bp0) (.slice ax0 lp0 cx0) 25) := Bx0_18.out.old (g_)
  have Bx1_19 : Hid (St o1 (x1.heap.size) (.bool bp1) (.slice ax1 lp1 cx1) 25) := Bx1_18.out.old (g_)
  have Bg0_19 : Hid (St o1 (p1.heap.size) (.bool br0) (.slice ag0 lr0 cg0) 25) := Bg0_18.out.old (g_)
  have Bg1_19 : Hid (St o1 (p1.heap.size + 1) (.bool br1) (.slice ag1 lr1 cg1) 25) := Bg1_18.out.old (g_)
  have RG_19 : Hid (IR2 o1 (x1.heap.size + 1) (p1.heap.size) (#[.bool br0, .slice ag0 lr0 cg0], #[.bool br1, .slice ag1 lr1 cg1])) := fIR2.old RG_18.out (g_) (by first | omega | (simp; done) | (simp; omega))
  have D0_19 : Hid (St o1 (kt0) (.bool br0) (.slice at0 lr0 ct0) 25) := D0_18.out.old (g_)
  have D1_19 : Hid (St o1 (kt1) (.bool br1) (.slice at1 lr1 ct1) 25) := D1_18.out.old (g_)
  have HH_19 : Hid (IR0 o1 (loT) (hiT) (#[.bool br0, .slice at0 lr0 ct0], #[.bool br1, .slice at1 lr1 ct1])) := fIR0.old HH_18.out (g_) (by first | omega | (simp; done) | (simp; omega))
  clear HG_18 A0_18 A1_18 C0_18 C1_18 SS_18 Bx0_18 Bx1_18 Bg0_18 Bg1_18 RG_18 D0_18 D1_18 HH_18
  clear g_
  have zBg00 := Bg0_19.out.c0
  have zBg01 := Bg0_19.out.c1
  go_wp2_with fail
  refine (chr0 _ _ _ _ RG_19.out).mono ?_
  rintro e n0 ⟨rfl, g_⟩
  clear zBg00 zBg01
  have hsn0 := g_.size
  have HG_20 : Hid (Old w n0) := Old.trans HG_19.out (g_)
  have A0_20 : Hid (St n0 (w.heap.size) (.bool bp0) (.slice ap0 lp0 cp0) 33) := A0_19.out.old (g_)
  have A1_20 : Hid (St n0 (w.heap.size + 1) (.bool bp1) (.slice ap1 lp1 cp1) 33) := A1_19.out.old (g_)
  have C0_20 : Hid (St n0 (ks0) (.bool br0) (.slice as0 lr0 cs0) 25) := C0_19.out.old (g_)
  have C1_20 : Hid (St n0 (ks1) (.bool br1) (.slice as1 lr1 cs1) 25) := C1_19.out.old (g_)
  have SS_20 : Hid (SR n0 (loS) (hiS) (#[.bool br0, .slice as0 lr0 cs0], #[.bool br1, .slice as1 lr1 cs1])) := fSR.old SS_19.out (g_) (by first | omega | (simp; done) | (simp; omega))
  have Bx0_20 : Hid (St n0 (x0.heap.size) (.bool bp0) (.slice ax0 lp0 cx0) 25) := Bx0_19.out.old (g_)
  have Bx1_20 : Hid (St n0 (x1.heap.size) (.bool bp1) (.slice ax1 lp1 cx1) 25) := Bx1_19.out.old (g_)
  have Bg0_20 : Hid (St n0 (p1.heap.size) (.bool br0) (.slice ag0 lr0 cg0) 25) := Bg0_19.out.old (g_)
  have Bg1_20 : Hid (St n0 (p1.heap.size + 1) (.bool br1) (.slice ag1 lr1 cg1) 25) := Bg1_19.out.old (g_)
  have RG_20 : Hid (IR2 n0 (x1.heap.size + 1) (p1.heap.size) (#[.bool br0, .slice ag0 lr0 cg0], #[.bool br1, .slice ag1 lr1 cg1])) := fIR2.old RG_19.out (g_) (by first | omega | (simp; done) | (simp; omega))
  have D0_20 : Hid (St n0 (kt0) (.bool br0) (.slice at0 lr0 ct0) 25) := D0_19.out.old (g_)
  have D1_20 : Hid (St n0 (kt1) (.bool br1) (.slice at1 lr1 ct1) 25) := D1_19.out.old (g_)
  have HH_20 : Hid (IR0 n0 (loT) (hiT) (#[.bool br0, .slice at0 lr0 ct0], #[.bool br1, .slice at1 lr1 ct1])) := fIR0.old HH_19.out (g_) (by first | omega | (simp; done) | (simp; omega))
  clear HG_19 A0_19 A1_19 C0_19 C1_19 SS_19 Bx0_19 Bx1_19 Bg0_19 Bg1_19 RG_19 D0_19 D1_19 HH_19
  clear g_
  have zBg10 := Bg1_20.out.c0
  have zBg11 := Bg1_20.out.c1
  go_wp2_with fail
  refine (chr1 _ _ _ _ RG_20.out).mono ?_
  rintro e n1 ⟨rfl, g_⟩
  clear zBg10 zBg11
  have hsn1 := g_.size
  have HG_21 : Hid (Old w n1) := Old.trans HG_20.out (g_)
  have A0_21 : Hid (St n1 (w.heap.size) (.bool bp0) (.slice ap0 lp0 cp0) 33) := A0_20.out.old (g_)
  have A1_21 : Hid (St n1 (w.heap.size + 1) (.bool bp1) (.slice ap1 lp1 cp1) 33) := A1_20.out.old (g_)
  have C0_21 : Hid (St n1 (ks0) (.bool br0) (.slice as0 lr0 cs0) 25) := C0_20.out.old (g_)
  have C1_21 : Hid (St n1 (ks1) (.bool br1) (.slice as1 lr1 cs1) 25) := C1_20.out.old (g_)
  have SS_21 : Hid (SR n1 (loS) (hiS) (#[.bool br0, .slice as0 lr0 cs0], #[.bool br1, .slice as1 lr1 cs1])) := fSR.old SS_20.out (g_) (by first | omega | (simp; done) | (simp; omega))
  have Bx0_21 : Hid (St n1 (x0.heap.size) (.bool bp0) (.slice ax0 lp0 cx0) 25) := Bx0_20.out.old (g_)
  have Bx1_21 : Hid (St n1 (x1.heap.size) (.bool bp1) (.slice ax1 lp1 cx1) 25) := Bx1_20.out.old (g_)
  have Bg0_21 : Hid (St n1 (p1.heap.size) (.bool br0) (.slice ag0 lr0 cg0) 25) := Bg0_20.out.old (g_)
  have Bg1_21 : Hid (St n1 (p1.heap.size + 1) (.bool br1) (.slice ag1 lr1 cg1) 25) := Bg1_20.out.old (g_)
  have RG_21 : Hid (IR2 n1 (x1.heap.size + 1) (p1.heap.size) (#[.bool br0, .slice ag0 lr0 cg0], #[.bool br1, .slice ag1 lr1 cg1])) := fIR2.old RG_20.out (g_) (by first | omega | (simp; done) | (simp; omega))
  have D0_21 : Hid (St n1 (kt0) (.bool br0) (.slice at0 lr0 ct0) 25) := D0_20.out.old (g_)
  have D1_21 : Hid (St n1 (kt1) (.bool br1) (.slice at1 lr1 ct1) 25) := D1_20.out.old (g_)
  have HH_21 : Hid (IR0 n1 (loT) (hiT) (#[.bool br0, .slice at0 lr0 ct0], #[.bool br1, .slice at1 lr1 ct1])) := fIR0.old HH_20.out (g_) (by first | omega | (simp; done) | (simp; omega))
  clear HG_20 A0_20 A1_20 C0_20 C1_20 SS_20 Bx0_20 Bx1_20 Bg0_20 Bg1_20 RG_20 D0_20 D1_20 HH_20
  clear g_
  go_wp2_with fail
  go_ret
  exact ⟨rfl, HG_21.out⟩
end Go.Proofs.Ytafcffnpobdhgaa
