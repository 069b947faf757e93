/- Proved: the walk of the statement FnExactGoodSpace, under what each function that it calls does. -/
import Derived.Test.YtcbbljadjibfeaaDoorFar
import Derived.Test.YtcbbljadjibfeaaDoorKSpace
import Derived.Deep.RegionWith
import Derived.Deep.RegionHeld3
import Derived.Deep.DeepCutAuto
namespace Go.Proofs.YtcbbljadjibfeaaDoor
open Go.ChangeShapes Go.WideShapes Go.ChangeAt Go.RowKit
set_option linter.unusedVariables false
set_option linter.unusedSimpArgs false
set_option maxRecDepth 100000 in
set_option maxHeartbeats 16000000 in
theorem law_gspace (w : World) (Np0 : Int) (lp0 : Nat) (ap0 : Option Addr) (cp0 : Nat)  (ro : Bool) (L0 : Int)
    (csz0 : ∀ W, Old w W → Calls Tryd.prog 24 #[.agg #[.int .i64 Np0, .slice ap0 lp0 cp0], .int .i64 1048576] W fun e w' => e = .returned (.int .i64 L0) ∧ Old W w')
    (X0 : World → Nat → Nat → Array Value → Prop) (fX0 : Far X0) (hX0 : ∀ W lo hi g, X0 W lo hi g → ∃ a c, g = #[.int .i64 Np0, .slice a lp0 c])
    (cto0 : ¬ L0 < 0 → ∀ W, Old w W → Calls Tryd.prog 26 #[.agg #[.int .i64 Np0, .slice ap0 lp0 cp0]] W fun e w' => ∃ g, e = .returned (.agg g) ∧ Old W w' ∧ X0 w' W.heap.size w'.heap.size g)
    (ceq0 : ¬ L0 < 0 → ∀ W lo hi g lo' hi' g', X0 W lo hi g → X0 W lo' hi' g' → Calls Tryd.prog 28 #[.agg g, .agg g'] W fun e w' => e = .returned (.bool true) ∧ Old W w')
    (csp : ¬ L0 < 0 → ∀ W lo0 hi0 g0, X0 W lo0 hi0 g0 → Calls Tryd.prog 25 #[.agg g0] W fun e w' => e = .returned (.bool ro) ∧ Old W w')
    (cim : ¬ L0 < 0 → ∀ W lo0 hi0 g0, X0 W lo0 hi0 g0 → Old w W → Calls Tryd.prog 27 #[.agg g0] W fun e w' => e = .returned (.bool ro) ∧ Old W w') :
    Calls Tryd.prog 5 #[.agg #[.int .i64 Np0, .slice ap0 lp0 cp0]] w fun e w' => e = .returned (.bool true) ∧ Old w w' := by
  have HA : Hid (Old w (w.alloc (.cells #[.int .i64 Np0, .slice ap0 lp0 cp0] 39))) := by first | exact ((Old.refl w).alloc _)
  have BA0 : Hid (StW (w.alloc (.cells #[.int .i64 Np0, .slice ap0 lp0 cp0] 39)) (w.heap.size) (.int .i64 Np0) (.slice ap0 lp0 cp0) 39) := StW.new w _ _ _
  by_cases hL0 : L0 < 0
  · have dL0 : decide (L0 < 0) = true := decide_eq_true hL0
    go_enter Tryd.func5, Tryd.ntmps5
    go_wp2_with fail
    refine (csz0  _ (HA.out)).mono ?_
    rintro e s0 ⟨rfl, g0⟩
    have HS0 : Hid (Old w s0) := Old.trans HA.out g0
    clear g0
    go_wp2_with fail
    go_ret
    exact ⟨rfl, HS0.out⟩
  have dL0 : decide (L0 < 0) = false := decide_eq_false hL0
  have TO0 : Hid (∀ W, Old w W → Calls Tryd.prog 26 #[.agg #[.int .i64 Np0, .slice ap0 lp0 cp0]] W fun e w' => ∃ g, e = .returned (.agg g) ∧ Old W w' ∧ X0 w' W.heap.size w'.heap.size g) := cto0 hL0
  replace ceq0 := ceq0 hL0
  clear cto0
  replace csp := csp hL0
  replace cim := cim hL0
  have dro : (ro != ro) = false := by simp
  go_enter Tryd.func5, Tryd.ntmps5
  go_wp2_with fail
  refine (csz0  _ (HA.out)).mono ?_
  rintro e s0 ⟨rfl, g0⟩
  have HS0 : Hid (Old w s0) := Old.trans HA.out g0
  have BS00 : Hid (StW s0 (w.heap.size) (.int .i64 Np0) (.slice ap0 lp0 cp0) 39) := BA0.out.old g0
  clear g0
  have HG_0 : Hid (Old w s0) := HS0.out
  have A0_0 : Hid (StW s0 (w.heap.size) (.int .i64 Np0) (.slice ap0 lp0 cp0) 39) := BS00.out
  have hsw : w.heap.size + 1 ≤ s0.heap.size := by have := A0_0.out.lt; omega
  clear csz0 BA0 HA HS0 BS00
  have zA00 := A0_0.out.c0
  have zA01 := A0_0.out.c1
  go_wp2_with fail
  refine (TO0.out _ (HG_0.out)).mono ?_
  rintro e t0 ⟨y0, rfl, g0, x0⟩
  obtain ⟨a_, c_, rfl⟩ := hX0 _ _ _ _ x0
  have G0 : Hid (Old s0 t0) := g0
  have XX0 : Hid (X0 t0 s0.heap.size t0.heap.size #[.int .i64 Np0, .slice a_ lp0 c_]) := x0
  clear g0 x0
  clear zA00 zA01
  go_wp2_with fail
  refine (csp _ _ _ _ XX0.out).mono ?_
  rintro e t1 ⟨rfl, g1⟩
  have G1 : Hid (Old s0 t1) := Old.trans G0.out g1
  clear g1
  have HG_1 : Hid (Old w t1) := Old.trans HG_0.out (G1.out)
  have A0_1 : Hid (StW t1 (w.heap.size) (.int .i64 Np0) (.slice ap0 lp0 cp0) 39) := A0_0.out.old (G1.out)
  clear HG_0 A0_0
  have hst1 := G1.out.size
  clear XX0 G0 G1
  have zA00 := A0_1.out.c0
  have zA01 := A0_1.out.c1
  go_wp2_with fail
  refine (TO0.out _ (HG_1.out)).mono ?_
  rintro e x0 ⟨y_, rfl, g_, o_⟩
  obtain ⟨ax0, cx0, rfl⟩ := hX0 _ _ _ _ o_
  clear zA00 zA01
  have hsx0 : t1.heap.size ≤ x0.heap.size := by have := g_.size; first | exact this | (simp at this; omega)
  have HG_2 : Hid (Old w (x0.alloc (.cells #[.int .i64 Np0, .slice ax0 lp0 cx0] 42))) := Old.trans HG_1.out (Old.trans g_ ((Old.refl x0).alloc _))
  have A0_2 : Hid (StW (x0.alloc (.cells #[.int .i64 Np0, .slice ax0 lp0 cx0] 42)) (w.heap.size) (.int .i64 Np0) (.slice ap0 lp0 cp0) 39) := A0_1.out.old (Old.trans g_ ((Old.refl x0).alloc _))
  clear HG_1 A0_1
  have Bx0_2 : Hid (StW (x0.alloc (.cells #[.int .i64 Np0, .slice ax0 lp0 cx0] 42)) (x0.heap.size) (.int .i64 Np0) (.slice ax0 lp0 cx0) 42) := StW.new x0 _ _ _
  have Rx0_2 : Hid (X0 (x0.alloc (.cells #[.int .i64 Np0, .slice ax0 lp0 cx0] 42)) (t1.heap.size) (x0.heap.size) #[.int .i64 Np0, .slice ax0 lp0 cx0]) := fX0.old (by first | exact o_ | (simp at o_; exact o_)) ((Old.refl x0).alloc _) (Nat.le_refl _)
  clear g_ o_
  have zBx00 := Bx0_2.out.c0
  have zBx01 := Bx0_2.out.c1
  go_wp2_with fail
  refine (cim _ _ _ _ Rx0_2.out (HG_2.out)).mono ?_
  rintro e p1 ⟨rfl, gp⟩
  have hsp1 : x0.heap.size + 1 ≤ p1.heap.size := by have := gp.size; simp at this; omega
  clear zBx00 zBx01
  have HG_3 : Hid (Old w p1) := Old.trans HG_2.out (gp)
  have A0_3 : Hid (StW p1 (w.heap.size) (.int .i64 Np0) (.slice ap0 lp0 cp0) 39) := A0_2.out.old (gp)
  have Bx0_3 : Hid (StW p1 (x0.heap.size) (.int .i64 Np0) (.slice ax0 lp0 cx0) 42) := Bx0_2.out.old (gp)
  have Rx0_3 : Hid (X0 p1 (t1.heap.size) (x0.heap.size) #[.int .i64 Np0, .slice ax0 lp0 cx0]) := fX0.old Rx0_2.out (gp) (by first | omega | (simp; done) | (simp; omega))
  clear HG_2 A0_2 Bx0_2 Rx0_2
  clear gp
  have zBx00 := Bx0_3.out.c0
  have zBx01 := Bx0_3.out.c1
  have zA00 := A0_3.out.c0
  have zA01 := A0_3.out.c1
  have HAS : Hid (∀ W', Old p1 W' → (W'.cell? ⟨x0.heap.size, 0, none⟩ = some (.int .i64 Np0) ∧ W'.cell? ⟨x0.heap.size, 1, none⟩ = some (.slice ax0 lp0 cx0) ∧ W'.cell? ⟨w.heap.size, 0, none⟩ = some (.int .i64 Np0) ∧ W'.cell? ⟨w.heap.size, 1, none⟩ = some (.slice ap0 lp0 cp0))) := fun W' g => ⟨(Bx0_3.out.old g).c0, (Bx0_3.out.old g).c1, (A0_3.out.old g).c0, (A0_3.out.old g).c1⟩
  go_wp2_with fail
  go_region_held3 (fun W' => W'.cell? ⟨x0.heap.size, 0, none⟩ = some (.int .i64 Np0) ∧ W'.cell? ⟨x0.heap.size, 1, none⟩ = some (.slice ax0 lp0 cx0) ∧ W'.cell? ⟨w.heap.size, 0, none⟩ = some (.int .i64 Np0) ∧ W'.cell? ⟨w.heap.size, 1, none⟩ = some (.slice ap0 lp0 cp0)) (first | with_reducible exact HAS.out _ GE.out | with_reducible exact HAS.out _ GT.out | with_reducible exact HAS.out _ (Below.drew (Old.refl p1)) | with_reducible exact HAS.out _ (Old.refl p1)) (first
    | (go_at_call 26; refine (TO0.out _ (Below.drew HG_3.out)).mono ?_; rintro e wt ⟨y_, rfl, gt, ot⟩; obtain ⟨at_, ct_, rfl⟩ := hX0 _ _ _ _ ot; have GT : Hid (Old p1 wt) := Old.trans (Below.drew (Old.refl p1)) gt; have RT : Hid (X0 wt _ _ #[.int .i64 Np0, .slice at_ lp0 ct_]) := ot; clear gt ot)
    | (go_at_call 28; refine (ceq0 _ _ _ _ _ _ _ (fX0.old Rx0_3.out GT.out (by omega)) RT.out).mono ?_; rintro e v0 ⟨rfl, ge⟩; have GE : Hid (Old p1 v0) := Old.trans GT.out ge; clear ge)
    | fail)
  clear zBx00 zBx01 zA00 zA01
  have hsv0 := GE.out.size
  have HG_4 : Hid (Old w v0) := Old.trans HG_3.out (GE.out)
  have A0_4 : Hid (StW v0 (w.heap.size) (.int .i64 Np0) (.slice ap0 lp0 cp0) 39) := A0_3.out.old (GE.out)
  have Bx0_4 : Hid (StW v0 (x0.heap.size) (.int .i64 Np0) (.slice ax0 lp0 cx0) 42) := Bx0_3.out.old (GE.out)
  have Rx0_4 : Hid (X0 v0 (t1.heap.size) (x0.heap.size) #[.int .i64 Np0, .slice ax0 lp0 cx0]) := fX0.old Rx0_3.out (GE.out) (by first | omega | (simp; done) | (simp; omega))
  clear HG_3 A0_3 Bx0_3 Rx0_3
  clear GE GT RT HAS
  go_wp2_with fail
  go_ret
  exact ⟨rfl, HG_4.out⟩
end Go.Proofs.YtcbbljadjibfeaaDoor
