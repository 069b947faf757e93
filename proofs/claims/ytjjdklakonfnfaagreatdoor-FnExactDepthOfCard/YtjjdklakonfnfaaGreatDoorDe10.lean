/- Proved: several texts in one: what each proves is said ahead of it. -/
import Derived.Test.YtjjdklakonfnfaaGreatDoorDe02
import Derived.Deep.RegionWith
import Derived.Deep.RegionHeld3
import Derived.Deep.DeepCutAuto
import Derived.Test.YtjjdklakonfnfaaGreatDoorDe06
import Derived.Test.YtjjdklakonfnfaaGreatDoorDe00
import Derived.Test.YtjjdklakonfnfaaGreatDoorDe08
/- Proved: the walk of the statement FnExactDepthOf, under what each function that it calls does. -/
namespace Go.Proofs.YtjjdklakonfnfaaGreatDoor
open Go.ChangeShapes Go.WideShapes Go.ChangeAt Go.RowKit
set_option linter.unusedVariables false
set_option linter.unusedSimpArgs false
set_option maxRecDepth 100000 in
set_option maxHeartbeats 16000000 in
theorem law9_DepthOf (w : World) (Np0 Tp0 Ep0 : Int) (lp0 : Nat) (ap0 : Option Addr) (cp0 : Nat) (Nr0 : Int) (br1 : Bool) (L0 : Int)
    (csz0 : ∀ W, Old w W → Calls Tryz.prog 4 #[.agg #[.int .i64 Np0, .int .i64 Tp0, .int .i64 Ep0, .slice ap0 lp0 cp0], .int .i64 1048576] W fun e w' => e = .returned (.int .i64 L0) ∧ Old W w')
    (X0 : World → Nat → Nat → Array Value → Prop) (fX0 : Far X0) (hX0 : ∀ W lo hi g, X0 W lo hi g → ∃ a c, g = #[.int .i64 Np0, .int .i64 Tp0, .int .i64 Ep0, .slice a lp0 c])
    (cto0 : ¬ L0 < 0 → ∀ W, Old w W → Calls Tryz.prog 6 #[.agg #[.int .i64 Np0, .int .i64 Tp0, .int .i64 Ep0, .slice ap0 lp0 cp0]] W fun e w' => ∃ g, e = .returned (.agg g) ∧ Old W w' ∧ X0 w' W.heap.size w'.heap.size g)
    (ceq0 : ¬ L0 < 0 → ∀ W lo hi g lo' hi' g', X0 W lo hi g → X0 W lo' hi' g' → Calls Tryz.prog 8 #[.agg g, .agg g'] W fun e w' => e = .returned (.bool true) ∧ Old W w')
    (csp : ¬ L0 < 0 → ∀ W lo0 hi0 g0, X0 W lo0 hi0 g0 → Old w W → Calls Tryz.prog 5 #[.agg g0] W fun e w' => e = .returned (.tuple #[.int .i64 Nr0, .bool br1]) ∧ Old W w')
    (cim : ¬ L0 < 0 → ∀ W lo0 hi0 g0, X0 W lo0 hi0 g0 → Old w W → Calls Tryz.prog 7 #[.agg g0] W fun e w' => e = .returned (.tuple #[.int .i64 Nr0, .bool br1]) ∧ Old W w') :
    Calls Tryz.prog 3 #[.agg #[.int .i64 Np0, .int .i64 Tp0, .int .i64 Ep0, .slice ap0 lp0 cp0]] w fun e w' => e = .returned (.bool true) ∧ Old w w' := by
  have HA : Hid (Old w (w.alloc (.cells #[.int .i64 Np0, .int .i64 Tp0, .int .i64 Ep0, .slice ap0 lp0 cp0] 24))) := ((Old.refl w).alloc _)
  have BA0 : Hid (Bk (w.alloc (.cells #[.int .i64 Np0, .int .i64 Tp0, .int .i64 Ep0, .slice ap0 lp0 cp0] 24)) (w.heap.size) #[.int .i64 Np0, .int .i64 Tp0, .int .i64 Ep0, .slice ap0 lp0 cp0] 24) := (Bk.new' w _ _ (by simp))
  by_cases hL0 : L0 < 0
  · have dL0 : decide (L0 < 0) = true := decide_eq_true hL0
    go_enter Tryz.func3, Tryz.ntmps3
    go_wp2_with fail
    refine (csz0  _ (HA.out)).mono ?_
    rintro e s0 ⟨rfl, g0⟩
    have HS0 : Hid (Old w s0) := Old.trans HA.out g0
    clear g0
    go_wp2_with fail
    go_ret
    exact ⟨rfl, HS0.out⟩
  have dL0 : decide (L0 < 0) = false := decide_eq_false hL0
  have TO0 : Hid (∀ W, Old w W → Calls Tryz.prog 6 #[.agg #[.int .i64 Np0, .int .i64 Tp0, .int .i64 Ep0, .slice ap0 lp0 cp0]] W fun e w' => ∃ g, e = .returned (.agg g) ∧ Old W w' ∧ X0 w' W.heap.size w'.heap.size g) := cto0 hL0
  replace ceq0 := ceq0 hL0
  clear cto0
  replace csp := csp hL0
  replace cim := cim hL0
  have dro0 : (Nr0 != Nr0) = false := by simp
  have dro1 : (br1 != br1) = false := by simp
  go_enter Tryz.func3, Tryz.ntmps3
  go_wp2_with fail
  refine (csz0  _ (HA.out)).mono ?_
  rintro e s0 ⟨rfl, g0⟩
  have HS0 : Hid (Old w s0) := Old.trans HA.out g0
  have BS0_0 : Hid (Bk s0 (w.heap.size) #[.int .i64 Np0, .int .i64 Tp0, .int .i64 Ep0, .slice ap0 lp0 cp0] 24) := BA0.out.old g0
  clear g0
  have HG_0 : Hid (Old w s0) := HS0.out
  have A0_0 : Hid (Bk s0 (w.heap.size) #[.int .i64 Np0, .int .i64 Tp0, .int .i64 Ep0, .slice ap0 lp0 cp0] 24) := BS0_0.out
  have hsw : w.heap.size + 1 ≤ s0.heap.size := by have := A0_0.out.lt; omega
  clear csz0 BA0 HA HS0 BS0_0
  have zA0_0 := A0_0.out.c (i := 0) rfl
  have zA0_1 := A0_0.out.c (i := 1) rfl
  have zA0_2 := A0_0.out.c (i := 2) rfl
  have zA0_3 := A0_0.out.c (i := 3) rfl
  go_wp2_with fail
  refine (TO0.out _ (HG_0.out)).mono ?_
  rintro e b0 ⟨y_, rfl, g_, o_⟩
  obtain ⟨ab0, cb0, rfl⟩ := hX0 _ _ _ _ o_
  clear zA0_0 zA0_1 zA0_2 zA0_3
  have hsb0 : s0.heap.size ≤ b0.heap.size := by have := g_.size; first | exact this | (simp at this; omega)
  have HG_1 : Hid (Old w b0) := Old.trans HG_0.out (g_)
  have A0_1 : Hid (Bk b0 (w.heap.size) #[.int .i64 Np0, .int .i64 Tp0, .int .i64 Ep0, .slice ap0 lp0 cp0] 24) := A0_0.out.old (g_)
  clear HG_0 A0_0
  have Rb0_1 : Hid (X0 b0 (s0.heap.size) (b0.heap.size) #[.int .i64 Np0, .int .i64 Tp0, .int .i64 Ep0, .slice ab0 lp0 cb0]) := (by first | exact o_ | (simp at o_; exact o_))
  clear g_ o_
  go_wp2_with fail
  refine (csp _ _ _ _ Rb0_1.out (HG_1.out)).mono ?_
  rintro e ts ⟨rfl, gp⟩
  have hsts : b0.heap.size ≤ ts.heap.size := by have := gp.size; first | exact this | (simp at this; omega)
  clear Rb0_1
  have HG_2 : Hid (Old w ts) := Old.trans HG_1.out (Old.trans gp ((Old.refl ts)))
  have A0_2 : Hid (Bk ts (w.heap.size) #[.int .i64 Np0, .int .i64 Tp0, .int .i64 Ep0, .slice ap0 lp0 cp0] 24) := A0_1.out.old (Old.trans gp ((Old.refl ts)))
  clear HG_1 A0_1
  clear gp
  have zA0_0 := A0_2.out.c (i := 0) rfl
  have zA0_1 := A0_2.out.c (i := 1) rfl
  have zA0_2 := A0_2.out.c (i := 2) rfl
  have zA0_3 := A0_2.out.c (i := 3) rfl
  go_wp2_with fail
  refine (TO0.out _ (HG_2.out)).mono ?_
  rintro e x0 ⟨y_, rfl, g_, o_⟩
  obtain ⟨ax0, cx0, rfl⟩ := hX0 _ _ _ _ o_
  clear zA0_0 zA0_1 zA0_2 zA0_3
  have hsx0 : ts.heap.size ≤ x0.heap.size := by have := g_.size; first | exact this | (simp at this; omega)
  have HG_3 : Hid (Old w (x0.alloc (.cells #[.int .i64 Np0, .int .i64 Tp0, .int .i64 Ep0, .slice ax0 lp0 cx0] 28))) := Old.trans HG_2.out (Old.trans g_ ((Old.refl x0).alloc _))
  have A0_3 : Hid (Bk (x0.alloc (.cells #[.int .i64 Np0, .int .i64 Tp0, .int .i64 Ep0, .slice ax0 lp0 cx0] 28)) (w.heap.size) #[.int .i64 Np0, .int .i64 Tp0, .int .i64 Ep0, .slice ap0 lp0 cp0] 24) := A0_2.out.old (Old.trans g_ ((Old.refl x0).alloc _))
  clear HG_2 A0_2
  have Bx0_3 : Hid (Bk (x0.alloc (.cells #[.int .i64 Np0, .int .i64 Tp0, .int .i64 Ep0, .slice ax0 lp0 cx0] 28)) (x0.heap.size) #[.int .i64 Np0, .int .i64 Tp0, .int .i64 Ep0, .slice ax0 lp0 cx0] 28) := Bk.new' x0 _ _ rfl
  have Rx0_3 : Hid (X0 (x0.alloc (.cells #[.int .i64 Np0, .int .i64 Tp0, .int .i64 Ep0, .slice ax0 lp0 cx0] 28)) (ts.heap.size) (x0.heap.size) #[.int .i64 Np0, .int .i64 Tp0, .int .i64 Ep0, .slice ax0 lp0 cx0]) := fX0.old (by first | exact o_ | (simp at o_; exact o_)) ((Old.refl x0).alloc _) (Nat.le_refl _)
  clear g_ o_
  have zBx0_0 := Bx0_3.out.c (i := 0) rfl
  have zBx0_1 := Bx0_3.out.c (i := 1) rfl
  have zBx0_2 := Bx0_3.out.c (i := 2) rfl
  have zBx0_3 := Bx0_3.out.c (i := 3) rfl
  go_wp2_with fail
  refine (cim _ _ _ _ Rx0_3.out (HG_3.out)).mono ?_
  rintro e p1 ⟨rfl, gp⟩
  have hsp1 : x0.heap.size + 1 ≤ p1.heap.size := by have := gp.size; first | exact this | (simp at this; omega)
  clear zBx0_0 zBx0_1 zBx0_2 zBx0_3
  have HG_4 : Hid (Old w p1) := Old.trans HG_3.out (gp)
  have A0_4 : Hid (Bk p1 (w.heap.size) #[.int .i64 Np0, .int .i64 Tp0, .int .i64 Ep0, .slice ap0 lp0 cp0] 24) := A0_3.out.old (gp)
  have Bx0_4 : Hid (Bk p1 (x0.heap.size) #[.int .i64 Np0, .int .i64 Tp0, .int .i64 Ep0, .slice ax0 lp0 cx0] 28) := Bx0_3.out.old (gp)
  have Rx0_4 : Hid (X0 p1 (ts.heap.size) (x0.heap.size) #[.int .i64 Np0, .int .i64 Tp0, .int .i64 Ep0, .slice ax0 lp0 cx0]) := fX0.old Rx0_3.out (gp) (by first | omega | (simp; done) | (simp; omega))
  clear HG_3 A0_3 Bx0_3 Rx0_3
  clear gp
  have zBx0_0 := Bx0_4.out.c (i := 0) rfl
  have zBx0_1 := Bx0_4.out.c (i := 1) rfl
  have zBx0_2 := Bx0_4.out.c (i := 2) rfl
  have zBx0_3 := Bx0_4.out.c (i := 3) rfl
  have zA0_0 := A0_4.out.c (i := 0) rfl
  have zA0_1 := A0_4.out.c (i := 1) rfl
  have zA0_2 := A0_4.out.c (i := 2) rfl
  have zA0_3 := A0_4.out.c (i := 3) rfl
  have HAS : Hid (∀ W', Old p1 W' → (W'.cell? ⟨x0.heap.size, 0, none⟩ = some (.int .i64 Np0) ∧ W'.cell? ⟨x0.heap.size, 1, none⟩ = some (.int .i64 Tp0) ∧ W'.cell? ⟨x0.heap.size, 2, none⟩ = some (.int .i64 Ep0) ∧ W'.cell? ⟨x0.heap.size, 3, none⟩ = some (.slice ax0 lp0 cx0) ∧ W'.cell? ⟨w.heap.size, 0, none⟩ = some (.int .i64 Np0) ∧ W'.cell? ⟨w.heap.size, 1, none⟩ = some (.int .i64 Tp0) ∧ W'.cell? ⟨w.heap.size, 2, none⟩ = some (.int .i64 Ep0) ∧ W'.cell? ⟨w.heap.size, 3, none⟩ = some (.slice ap0 lp0 cp0))) := fun W' g => ⟨(Bx0_4.out.old g).c (i := 0) rfl, (Bx0_4.out.old g).c (i := 1) rfl, (Bx0_4.out.old g).c (i := 2) rfl, (Bx0_4.out.old g).c (i := 3) rfl, (A0_4.out.old g).c (i := 0) rfl, (A0_4.out.old g).c (i := 1) rfl, (A0_4.out.old g).c (i := 2) rfl, (A0_4.out.old g).c (i := 3) rfl⟩
  go_wp2_with fail
  go_region_held3 (fun W' => W'.cell? ⟨x0.heap.size, 0, none⟩ = some (.int .i64 Np0) ∧ W'.cell? ⟨x0.heap.size, 1, none⟩ = some (.int .i64 Tp0) ∧ W'.cell? ⟨x0.heap.size, 2, none⟩ = some (.int .i64 Ep0) ∧ W'.cell? ⟨x0.heap.size, 3, none⟩ = some (.slice ax0 lp0 cx0) ∧ W'.cell? ⟨w.heap.size, 0, none⟩ = some (.int .i64 Np0) ∧ W'.cell? ⟨w.heap.size, 1, none⟩ = some (.int .i64 Tp0) ∧ W'.cell? ⟨w.heap.size, 2, none⟩ = some (.int .i64 Ep0) ∧ W'.cell? ⟨w.heap.size, 3, none⟩ = some (.slice ap0 lp0 cp0)) (first | with_reducible exact HAS.out _ GE.out | with_reducible exact HAS.out _ GT.out | with_reducible exact HAS.out _ (Below.drew (Old.refl p1)) | with_reducible exact HAS.out _ (Old.refl p1)) (first
    | (go_at_call 6; refine (TO0.out _ (Below.drew HG_4.out)).mono ?_; rintro e wt ⟨y_, rfl, gt, ot⟩; obtain ⟨at_, ct_, rfl⟩ := hX0 _ _ _ _ ot; have GT : Hid (Old p1 wt) := Old.trans (Below.drew (Old.refl p1)) gt; have RT : Hid (X0 wt _ _ #[.int .i64 Np0, .int .i64 Tp0, .int .i64 Ep0, .slice at_ lp0 ct_]) := ot; clear gt ot)
    | (go_at_call 8; refine (ceq0 _ _ _ _ _ _ _ (fX0.old Rx0_4.out GT.out (by omega)) RT.out).mono ?_; rintro e v0 ⟨rfl, ge⟩; have GE : Hid (Old p1 v0) := Old.trans GT.out ge; clear ge)
    | fail)
  clear zBx0_0 zBx0_1 zBx0_2 zBx0_3 zA0_0 zA0_1 zA0_2 zA0_3
  have hsv0 := GE.out.size
  have HG_5 : Hid (Old w v0) := Old.trans HG_4.out (GE.out)
  have A0_5 : Hid (Bk v0 (w.heap.size) #[.int .i64 Np0, .int .i64 Tp0, .int .i64 Ep0, .slice ap0 lp0 cp0] 24) := A0_4.out.old (GE.out)
  have Bx0_5 : Hid (Bk v0 (x0.heap.size) #[.int .i64 Np0, .int .i64 Tp0, .int .i64 Ep0, .slice ax0 lp0 cx0] 28) := Bx0_4.out.old (GE.out)
  have Rx0_5 : Hid (X0 v0 (ts.heap.size) (x0.heap.size) #[.int .i64 Np0, .int .i64 Tp0, .int .i64 Ep0, .slice ax0 lp0 cx0]) := fX0.old Rx0_4.out (GE.out) (by first | omega | (simp; done) | (simp; omega))
  clear HG_4 A0_4 Bx0_4 Rx0_4
  clear GE GT RT HAS
  go_wp2_with fail
  go_ret
  exact ⟨rfl, HG_5.out⟩
end Go.Proofs.YtjjdklakonfnfaaGreatDoor
/- Proved: the drawn region of AddWholes in which the sizes of both numbers are made, in whatever order. -/
namespace Go.Proofs.YtjjdklakonfnfaaGreatDoor
open Go.ChangeShapes Go.WideShapes Go.ChangeAt Go.RowKit
open M2
set_option linter.unusedVariables false
set_option linter.unusedSimpArgs false

theorem Old.drw {a b : World} (h : Old a b) : Old a b.drew := Below.drew h
theorem Sz.drw {w : World} {g : Nat} {ls : List Nat} {c : Nat} (h : Sz w g ls c) : Sz w.drew g ls c := ⟨h.blk, h.len⟩
theorem Sz.zero0 (w : World) : Sz (w.alloc (.cells Tryz.zeroCells49 49)) w.heap.size (ext []) 0 := Sz.zero w _ rfl
theorem Sz.zero1 (w : World) (o : Obj) : Sz ((w.alloc o).alloc (.cells Tryz.zeroCells49 49)) (w.heap.size + 1) (ext []) 0 := Sz.zero _ _ (by simp)
theorem run_loadCells_sz {W : World} {g : Nat} {A : Array Value} (h : W.heap[g]? = some (.cells A 49 (0, 0))) (hs : A.size = 81) : (loadCellsFrom ⟨g, 0, none⟩ 0 81 #[]).run Tryz.prog W = .ok A W := by
  have := run_loadCells_list (P := Tryz.prog) W ⟨g, 0, none⟩ A.toList (fun j v hv => by
    have hadd : (⟨g, 0, none⟩ : Addr).add j = ⟨g, j, none⟩ := by unfold Addr.add; split <;> simp_all
    rw [hadd, cell_of_row W g j A _ _ h]
    simpa using hv)
  simpa [loadCells, hs] using this
theorem run_storeCells_sz {W : World} {g n : Nat} {ls : List Nat} {c : Nat} (hs : Sz W g ls c) (hl : (szV n).size = 81) : (storeCells ⟨g, 0, none⟩ (szV n).toList 0).run Tryz.prog W = .ok () (W.setRow g (szV n)) := by
  have := run_storeVar_row (P := Tryz.prog) W g 49 49 (szA ls c) (szV n) hs.blk (by rw [hl]; exact infoSz) (by rw [szA_size hs.len, hl]) (szA_one _ _)
  cases hq : Tryz.prog.info? 49 with
  | none => have h2 := infoSz; rw [hq] at h2; cases h2
  | some i =>
    have h2 := infoSz
    rw [hq] at h2
    have h3 : i.size = 81 := by simpa using h2
    simpa [storeVar, Go.sizeOf, typeInfo, hq, Value.cells, hl, h3] using this
theorem upon_st {o : Oper} {a : Act} {K : Act → World → Prop} {Q : Exit → Act → World → Prop} {f : Unit → World → Result Next} {W : World} {g n : Nat} {ls : List Nat} {c : Nat} (hs : Sz W g ls c) (hl : (szV n).size = 81)
    (h : Oper.upon Tryz.prog o a K Q (f () (W.setRow g (szV n)))) : Oper.upon Tryz.prog o a K Q ((Sem.run Tryz.prog (storeCells ⟨g, 0, none⟩ (szV n).toList 0) W).andThen f) := by
  rw [run_storeCells_sz hs hl]
  exact h
end Go.Proofs.YtjjdklakonfnfaaGreatDoor
