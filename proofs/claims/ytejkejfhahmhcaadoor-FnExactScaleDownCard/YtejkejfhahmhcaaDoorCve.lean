/- Proved: the contract of the program's take, of the three rows of steps that there are. -/
import Derived.Test.YtejkejfhahmhcaaDoorCvc
namespace Go.Proofs.YtejkejfhahmhcaaDoor
open Go.ChangeShapes Go.WideShapes Go.ChangeAt Go.RowKit
open M2
set_option linter.unusedVariables false
set_option linter.unusedSimpArgs false
/-- the steps that lie at block gs -/
def StL (W : World) (gs : Nat) : Prop := gs < W.heap.size ∧ W.cell? ⟨gs, 0, none⟩ = some (.func (.func 50) #[] #[]) ∧ W.cell? ⟨gs, 1, none⟩ = some (.func (.func 69) #[] #[])
theorem StL.old {W W' : World} {gs : Nat} (h : StL W gs) (g : Old W W') : StL W' gs :=
  ⟨Nat.lt_of_lt_of_le h.1 g.size, (g.cell (p := ⟨gs, 0, none⟩) h.1).trans h.2.1, (g.cell (p := ⟨gs, 1, none⟩) h.1).trans h.2.2⟩
set_option maxRecDepth 100000 in
set_option maxHeartbeats 4000000 in
theorem takeL_any (m gs : Nat) (x0 x1 x2 : Nat) (vf vs : Value) (fa sa : Option Addr) (fn fc sn sc : Nat) (ef : vf = .slice fa fn fc) (es : vs = .slice sa sn sc) (o d : Int) (w : World) (hg : StL w gs)
    (h0 : ∀ W, Old w W → Calls Tryd.prog 50 #[.agg #[vf, vs, .int .i64 o, .int .i64 d], .int .i64 x0, .int .i64 m] W fun e w' => e = .returned (.int .i64 x1) ∧ Old W w')
    (h1 : ∀ W, Old w W → Calls Tryd.prog 69 #[.agg #[vf, vs, .int .i64 o, .int .i64 d], .int .i64 x1, .int .i64 m] W fun e w' => e = .returned (.int .i64 x2) ∧ Old W w') :
    Calls Tryd.prog 71 #[.agg #[(.slice fa fn fc), (.slice sa sn sc), .int .i64 o, .int .i64 d, .slice (some ⟨gs, 0, none⟩) 2 2], .int .i64 x0, .int .i64 m] w fun e w' => e = .returned (.int .i64 x2) ∧ Old w w' := by
  subst ef es
  obtain ⟨hgl, g0, g1⟩ := hg
  have C0 : Hid (∀ W, Old w W → Calls Tryd.prog 50 #[.agg #[.slice fa fn fc, .slice sa sn sc, .int .i64 o, .int .i64 d], .int .i64 x0, .int .i64 m] W fun e w' => e = .returned (.int .i64 x1) ∧ Old W w') := h0
  have G0 : Hid (w.cell? ⟨gs, 0, none⟩ = some (.func (.func 50) #[] #[])) := g0
  have C1 : Hid (∀ W, Old w W → Calls Tryd.prog 69 #[.agg #[.slice fa fn fc, .slice sa sn sc, .int .i64 o, .int .i64 d], .int .i64 x1, .int .i64 m] W fun e w' => e = .returned (.int .i64 x2) ∧ Old W w') := h1
  have G1 : Hid (w.cell? ⟨gs, 1, none⟩ = some (.func (.func 69) #[] #[])) := g1
  have HA : Hid (Old w (w.alloc (.cells #[.slice fa fn fc, .slice sa sn sc, .int .i64 o, .int .i64 d, .slice (some ⟨gs, 0, none⟩) 2 2] 85))) := (Old.refl w).alloc _
  have HB : Hid (∀ W, Old (w.alloc (.cells #[.slice fa fn fc, .slice sa sn sc, .int .i64 o, .int .i64 d, .slice (some ⟨gs, 0, none⟩) 2 2] 85)) W → W.cell? ⟨w.heap.size, 0, none⟩ = some (.slice fa fn fc) ∧ W.cell? ⟨w.heap.size, 1, none⟩ = some (.slice sa sn sc) ∧ W.cell? ⟨w.heap.size, 2, none⟩ = some (.int .i64 o) ∧ W.cell? ⟨w.heap.size, 3, none⟩ = some (.int .i64 d) ∧ W.cell? ⟨w.heap.size, 4, none⟩ = some (.slice (some ⟨gs, 0, none⟩) 2 2)) := fun W q =>
    ⟨(q.cell (p := ⟨w.heap.size, 0, none⟩) (by simp)).trans (cell_at _ _ _ _ _ rfl), (q.cell (p := ⟨w.heap.size, 1, none⟩) (by simp)).trans (cell_at _ _ _ _ _ rfl), (q.cell (p := ⟨w.heap.size, 2, none⟩) (by simp)).trans (cell_at _ _ _ _ _ rfl), (q.cell (p := ⟨w.heap.size, 3, none⟩) (by simp)).trans (cell_at _ _ _ _ _ rfl), (q.cell (p := ⟨w.heap.size, 4, none⟩) (by simp)).trans (cell_at _ _ _ _ _ rfl)⟩
  clear h0 g0 h1 g1
  go_enter Tryd.func71, Tryd.ntmps71
  go_wp2_with fail
  generalize (w.alloc (.cells #[.slice fa fn fc, .slice sa sn sc, .int .i64 o, .int .i64 d, .slice (some ⟨gs, 0, none⟩) 2 2] 85)) = w0 at *
  go_loopw [1, 12] (fun x i W => ∃ k : Nat, k ≤ 2 ∧ i = .int .i64 k ∧ (k = 0 → x = .int .i64 x0) ∧ (k = 1 → x = .int .i64 x1) ∧ (k = 2 → x = .int .i64 x2) ∧ Hid (Old w0 W)) (fun _ i _ => 2 - (intOf i).toNat)
  case atStart => exact ⟨0, by omega, rfl, fun _ => rfl, fun h => by omega, fun h => by omega, Old.refl _⟩
  case round =>
    obtain ⟨k, hk, rfl, e0, e1, e2, HG⟩ := hrel
    have HG1 : Hid (Old w wr) := Old.trans HA.out HG.out
    obtain ⟨z0, z1, z2, z3, z4⟩ := HB.out wr HG.out
    rcases (show k = 0 ∨ k = 1 ∨ k = 2 by omega) with rfl | rfl | rfl
    · have ex := e0 rfl
      subst ex
      have c1 : wr.cell? ⟨gs, 0, none⟩ = some (.func (.func 50) #[] #[]) := (HG1.out.cell (p := ⟨gs, 0, none⟩) hgl).trans G0.out
      clear e0 e1 e2
      go_wp2_with fail
      refine (C0.out _ HG1.out).mono ?_
      rintro e w1 ⟨rfl, g1⟩
      have HG2 : Hid (Old w0 w1) := Old.trans HG.out g1
      clear g1
      go_wp2_with fail
      exact ⟨⟨1, by omega, rfl, fun h => by omega, fun _ => rfl, fun h => by omega, HG2⟩, by simp [intOf]⟩
    · have ex := e1 rfl
      subst ex
      have c1 : wr.cell? ⟨gs, 1, none⟩ = some (.func (.func 69) #[] #[]) := (HG1.out.cell (p := ⟨gs, 1, none⟩) hgl).trans G1.out
      clear e0 e1 e2
      go_wp2_with fail
      refine (C1.out _ HG1.out).mono ?_
      rintro e w1 ⟨rfl, g1⟩
      have HG2 : Hid (Old w0 w1) := Old.trans HG.out g1
      clear g1
      go_wp2_with fail
      exact ⟨⟨2, by omega, rfl, fun h => by omega, fun h => by omega, fun _ => rfl, HG2⟩, by simp [intOf]⟩
    · have ex := e2 rfl
      subst ex
      clear e0 e1 e2
      go_wp2_with fail
      go_ret
      exact ⟨rfl, HG1.out⟩
/-- the steps that lie at block gs -/
def StP (W : World) (gs : Nat) : Prop := gs < W.heap.size ∧ W.cell? ⟨gs, 0, none⟩ = some (.func (.func 50) #[] #[]) ∧ W.cell? ⟨gs, 1, none⟩ = some (.func (.func 68) #[] #[])
theorem StP.old {W W' : World} {gs : Nat} (h : StP W gs) (g : Old W W') : StP W' gs :=
  ⟨Nat.lt_of_lt_of_le h.1 g.size, (g.cell (p := ⟨gs, 0, none⟩) h.1).trans h.2.1, (g.cell (p := ⟨gs, 1, none⟩) h.1).trans h.2.2⟩
set_option maxRecDepth 100000 in
set_option maxHeartbeats 4000000 in
theorem takeP_any (m gs : Nat) (x0 x1 x2 : Nat) (vf vs : Value) (fa sa : Option Addr) (fn fc sn sc : Nat) (ef : vf = .slice fa fn fc) (es : vs = .slice sa sn sc) (o d : Int) (w : World) (hg : StP w gs)
    (h0 : ∀ W, Old w W → Calls Tryd.prog 50 #[.agg #[vf, vs, .int .i64 o, .int .i64 d], .int .i64 x0, .int .i64 m] W fun e w' => e = .returned (.int .i64 x1) ∧ Old W w')
    (h1 : ∀ W, Old w W → Calls Tryd.prog 68 #[.agg #[vf, vs, .int .i64 o, .int .i64 d], .int .i64 x1, .int .i64 m] W fun e w' => e = .returned (.int .i64 x2) ∧ Old W w') :
    Calls Tryd.prog 71 #[.agg #[(.slice fa fn fc), (.slice sa sn sc), .int .i64 o, .int .i64 d, .slice (some ⟨gs, 0, none⟩) 2 2], .int .i64 x0, .int .i64 m] w fun e w' => e = .returned (.int .i64 x2) ∧ Old w w' := by
  subst ef es
  obtain ⟨hgl, g0, g1⟩ := hg
  have C0 : Hid (∀ W, Old w W → Calls Tryd.prog 50 #[.agg #[.slice fa fn fc, .slice sa sn sc, .int .i64 o, .int .i64 d], .int .i64 x0, .int .i64 m] W fun e w' => e = .returned (.int .i64 x1) ∧ Old W w') := h0
  have G0 : Hid (w.cell? ⟨gs, 0, none⟩ = some (.func (.func 50) #[] #[])) := g0
  have C1 : Hid (∀ W, Old w W → Calls Tryd.prog 68 #[.agg #[.slice fa fn fc, .slice sa sn sc, .int .i64 o, .int .i64 d], .int .i64 x1, .int .i64 m] W fun e w' => e = .returned (.int .i64 x2) ∧ Old W w') := h1
  have G1 : Hid (w.cell? ⟨gs, 1, none⟩ = some (.func (.func 68) #[] #[])) := g1
  have HA : Hid (Old w (w.alloc (.cells #[.slice fa fn fc, .slice sa sn sc, .int .i64 o, .int .i64 d, .slice (some ⟨gs, 0, none⟩) 2 2] 85))) := (Old.refl w).alloc _
  have HB : Hid (∀ W, Old (w.alloc (.cells #[.slice fa fn fc, .slice sa sn sc, .int .i64 o, .int .i64 d, .slice (some ⟨gs, 0, none⟩) 2 2] 85)) W → W.cell? ⟨w.heap.size, 0, none⟩ = some (.slice fa fn fc) ∧ W.cell? ⟨w.heap.size, 1, none⟩ = some (.slice sa sn sc) ∧ W.cell? ⟨w.heap.size, 2, none⟩ = some (.int .i64 o) ∧ W.cell? ⟨w.heap.size, 3, none⟩ = some (.int .i64 d) ∧ W.cell? ⟨w.heap.size, 4, none⟩ = some (.slice (some ⟨gs, 0, none⟩) 2 2)) := fun W q =>
    ⟨(q.cell (p := ⟨w.heap.size, 0, none⟩) (by simp)).trans (cell_at _ _ _ _ _ rfl), (q.cell (p := ⟨w.heap.size, 1, none⟩) (by simp)).trans (cell_at _ _ _ _ _ rfl), (q.cell (p := ⟨w.heap.size, 2, none⟩) (by simp)).trans (cell_at _ _ _ _ _ rfl), (q.cell (p := ⟨w.heap.size, 3, none⟩) (by simp)).trans (cell_at _ _ _ _ _ rfl), (q.cell (p := ⟨w.heap.size, 4, none⟩) (by simp)).trans (cell_at _ _ _ _ _ rfl)⟩
  clear h0 g0 h1 g1
  go_enter Tryd.func71, Tryd.ntmps71
  go_wp2_with fail
  generalize (w.alloc (.cells #[.slice fa fn fc, .slice sa sn sc, .int .i64 o, .int .i64 d, .slice (some ⟨gs, 0, none⟩) 2 2] 85)) = w0 at *
  go_loopw [1, 12] (fun x i W => ∃ k : Nat, k ≤ 2 ∧ i = .int .i64 k ∧ (k = 0 → x = .int .i64 x0) ∧ (k = 1 → x = .int .i64 x1) ∧ (k = 2 → x = .int .i64 x2) ∧ Hid (Old w0 W)) (fun _ i _ => 2 - (intOf i).toNat)
  case atStart => exact ⟨0, by omega, rfl, fun _ => rfl, fun h => by omega, fun h => by omega, Old.refl _⟩
  case round =>
    obtain ⟨k, hk, rfl, e0, e1, e2, HG⟩ := hrel
    have HG1 : Hid (Old w wr) := Old.trans HA.out HG.out
    obtain ⟨z0, z1, z2, z3, z4⟩ := HB.out wr HG.out
    rcases (show k = 0 ∨ k = 1 ∨ k = 2 by omega) with rfl | rfl | rfl
    · have ex := e0 rfl
      subst ex
      have c1 : wr.cell? ⟨gs, 0, none⟩ = some (.func (.func 50) #[] #[]) := (HG1.out.cell (p := ⟨gs, 0, none⟩) hgl).trans G0.out
      clear e0 e1 e2
      go_wp2_with fail
      refine (C0.out _ HG1.out).mono ?_
      rintro e w1 ⟨rfl, g1⟩
      have HG2 : Hid (Old w0 w1) := Old.trans HG.out g1
      clear g1
      go_wp2_with fail
      exact ⟨⟨1, by omega, rfl, fun h => by omega, fun _ => rfl, fun h => by omega, HG2⟩, by simp [intOf]⟩
    · have ex := e1 rfl
      subst ex
      have c1 : wr.cell? ⟨gs, 1, none⟩ = some (.func (.func 68) #[] #[]) := (HG1.out.cell (p := ⟨gs, 1, none⟩) hgl).trans G1.out
      clear e0 e1 e2
      go_wp2_with fail
      refine (C1.out _ HG1.out).mono ?_
      rintro e w1 ⟨rfl, g1⟩
      have HG2 : Hid (Old w0 w1) := Old.trans HG.out g1
      clear g1
      go_wp2_with fail
      exact ⟨⟨2, by omega, rfl, fun h => by omega, fun h => by omega, fun _ => rfl, HG2⟩, by simp [intOf]⟩
    · have ex := e2 rfl
      subst ex
      clear e0 e1 e2
      go_wp2_with fail
      go_ret
      exact ⟨rfl, HG1.out⟩
/-- the steps that lie at block gs -/
def StD (W : World) (gs : Nat) : Prop := gs < W.heap.size ∧ W.cell? ⟨gs, 0, none⟩ = some (.func (.func 50) #[] #[]) ∧ W.cell? ⟨gs, 1, none⟩ = some (.func (.func 68) #[] #[]) ∧ W.cell? ⟨gs, 2, none⟩ = some (.func (.func 77) #[] #[])
theorem StD.old {W W' : World} {gs : Nat} (h : StD W gs) (g : Old W W') : StD W' gs :=
  ⟨Nat.lt_of_lt_of_le h.1 g.size, (g.cell (p := ⟨gs, 0, none⟩) h.1).trans h.2.1, (g.cell (p := ⟨gs, 1, none⟩) h.1).trans h.2.2.1, (g.cell (p := ⟨gs, 2, none⟩) h.1).trans h.2.2.2⟩
set_option maxRecDepth 100000 in
set_option maxHeartbeats 4000000 in
theorem takeD_any (m gs : Nat) (x0 x1 x2 x3 : Nat) (vf vs : Value) (fa sa : Option Addr) (fn fc sn sc : Nat) (ef : vf = .slice fa fn fc) (es : vs = .slice sa sn sc) (o d : Int) (w : World) (hg : StD w gs)
    (h0 : ∀ W, Old w W → Calls Tryd.prog 50 #[.agg #[vf, vs, .int .i64 o, .int .i64 d], .int .i64 x0, .int .i64 m] W fun e w' => e = .returned (.int .i64 x1) ∧ Old W w')
    (h1 : ∀ W, Old w W → Calls Tryd.prog 68 #[.agg #[vf, vs, .int .i64 o, .int .i64 d], .int .i64 x1, .int .i64 m] W fun e w' => e = .returned (.int .i64 x2) ∧ Old W w')
    (h2 : ∀ W, Old w W → Calls Tryd.prog 77 #[.agg #[vf, vs, .int .i64 o, .int .i64 d], .int .i64 x2, .int .i64 m] W fun e w' => e = .returned (.int .i64 x3) ∧ Old W w') :
    Calls Tryd.prog 71 #[.agg #[(.slice fa fn fc), (.slice sa sn sc), .int .i64 o, .int .i64 d, .slice (some ⟨gs, 0, none⟩) 3 3], .int .i64 x0, .int .i64 m] w fun e w' => e = .returned (.int .i64 x3) ∧ Old w w' := by
  subst ef es
  obtain ⟨hgl, g0, g1, g2⟩ := hg
  have C0 : Hid (∀ W, Old w W → Calls Tryd.prog 50 #[.agg #[.slice fa fn fc, .slice sa sn sc, .int .i64 o, .int .i64 d], .int .i64 x0, .int .i64 m] W fun e w' => e = .returned (.int .i64 x1) ∧ Old W w') := h0
  have G0 : Hid (w.cell? ⟨gs, 0, none⟩ = some (.func (.func 50) #[] #[])) := g0
  have C1 : Hid (∀ W, Old w W → Calls Tryd.prog 68 #[.agg #[.slice fa fn fc, .slice sa sn sc, .int .i64 o, .int .i64 d], .int .i64 x1, .int .i64 m] W fun e w' => e = .returned (.int .i64 x2) ∧ Old W w') := h1
  have G1 : Hid (w.cell? ⟨gs, 1, none⟩ = some (.func (.func 68) #[] #[])) := g1
  have C2 : Hid (∀ W, Old w W → Calls Tryd.prog 77 #[.agg #[.slice fa fn fc, .slice sa sn sc, .int .i64 o, .int .i64 d], .int .i64 x2, .int .i64 m] W fun e w' => e = .returned (.int .i64 x3) ∧ Old W w') := h2
  have G2 : Hid (w.cell? ⟨gs, 2, none⟩ = some (.func (.func 77) #[] #[])) := g2
  have HA : Hid (Old w (w.alloc (.cells #[.slice fa fn fc, .slice sa sn sc, .int .i64 o, .int .i64 d, .slice (some ⟨gs, 0, none⟩) 3 3] 85))) := (Old.refl w).alloc _
  have HB : Hid (∀ W, Old (w.alloc (.cells #[.slice fa fn fc, .slice sa sn sc, .int .i64 o, .int .i64 d, .slice (some ⟨gs, 0, none⟩) 3 3] 85)) W → W.cell? ⟨w.heap.size, 0, none⟩ = some (.slice fa fn fc) ∧ W.cell? ⟨w.heap.size, 1, none⟩ = some (.slice sa sn sc) ∧ W.cell? ⟨w.heap.size, 2, none⟩ = some (.int .i64 o) ∧ W.cell? ⟨w.heap.size, 3, none⟩ = some (.int .i64 d) ∧ W.cell? ⟨w.heap.size, 4, none⟩ = some (.slice (some ⟨gs, 0, none⟩) 3 3)) := fun W q =>
    ⟨(q.cell (p := ⟨w.heap.size, 0, none⟩) (by simp)).trans (cell_at _ _ _ _ _ rfl), (q.cell (p := ⟨w.heap.size, 1, none⟩) (by simp)).trans (cell_at _ _ _ _ _ rfl), (q.cell (p := ⟨w.heap.size, 2, none⟩) (by simp)).trans (cell_at _ _ _ _ _ rfl), (q.cell (p := ⟨w.heap.size, 3, none⟩) (by simp)).trans (cell_at _ _ _ _ _ rfl), (q.cell (p := ⟨w.heap.size, 4, none⟩) (by simp)).trans (cell_at _ _ _ _ _ rfl)⟩
  clear h0 g0 h1 g1 h2 g2
  go_enter Tryd.func71, Tryd.ntmps71
  go_wp2_with fail
  generalize (w.alloc (.cells #[.slice fa fn fc, .slice sa sn sc, .int .i64 o, .int .i64 d, .slice (some ⟨gs, 0, none⟩) 3 3] 85)) = w0 at *
  go_loopw [1, 12] (fun x i W => ∃ k : Nat, k ≤ 3 ∧ i = .int .i64 k ∧ (k = 0 → x = .int .i64 x0) ∧ (k = 1 → x = .int .i64 x1) ∧ (k = 2 → x = .int .i64 x2) ∧ (k = 3 → x = .int .i64 x3) ∧ Hid (Old w0 W)) (fun _ i _ => 3 - (intOf i).toNat)
  case atStart => exact ⟨0, by omega, rfl, fun _ => rfl, fun h => by omega, fun h => by omega, fun h => by omega, Old.refl _⟩
  case round =>
    obtain ⟨k, hk, rfl, e0, e1, e2, e3, HG⟩ := hrel
    have HG1 : Hid (Old w wr) := Old.trans HA.out HG.out
    obtain ⟨z0, z1, z2, z3, z4⟩ := HB.out wr HG.out
    rcases (show k = 0 ∨ k = 1 ∨ k = 2 ∨ k = 3 by omega) with rfl | rfl | rfl | rfl
    · have ex := e0 rfl
      subst ex
      have c1 : wr.cell? ⟨gs, 0, none⟩ = some (.func (.func 50) #[] #[]) := (HG1.out.cell (p := ⟨gs, 0, none⟩) hgl).trans G0.out
      clear e0 e1 e2 e3
      go_wp2_with fail
      refine (C0.out _ HG1.out).mono ?_
      rintro e w1 ⟨rfl, g1⟩
      have HG2 : Hid (Old w0 w1) := Old.trans HG.out g1
      clear g1
      go_wp2_with fail
      exact ⟨⟨1, by omega, rfl, fun h => by omega, fun _ => rfl, fun h => by omega, fun h => by omega, HG2⟩, by simp [intOf]⟩
    · have ex := e1 rfl
      subst ex
      have c1 : wr.cell? ⟨gs, 1, none⟩ = some (.func (.func 68) #[] #[]) := (HG1.out.cell (p := ⟨gs, 1, none⟩) hgl).trans G1.out
      clear e0 e1 e2 e3
      go_wp2_with fail
      refine (C1.out _ HG1.out).mono ?_
      rintro e w1 ⟨rfl, g1⟩
      have HG2 : Hid (Old w0 w1) := Old.trans HG.out g1
      clear g1
      go_wp2_with fail
      exact ⟨⟨2, by omega, rfl, fun h => by omega, fun h => by omega, fun _ => rfl, fun h => by omega, HG2⟩, by simp [intOf]⟩
    · have ex := e2 rfl
      subst ex
      have c1 : wr.cell? ⟨gs, 2, none⟩ = some (.func (.func 77) #[] #[]) := (HG1.out.cell (p := ⟨gs, 2, none⟩) hgl).trans G2.out
      clear e0 e1 e2 e3
      go_wp2_with fail
      refine (C2.out _ HG1.out).mono ?_
      rintro e w1 ⟨rfl, g1⟩
      have HG2 : Hid (Old w0 w1) := Old.trans HG.out g1
      clear g1
      go_wp2_with fail
      exact ⟨⟨3, by omega, rfl, fun h => by omega, fun h => by omega, fun h => by omega, fun _ => rfl, HG2⟩, by simp [intOf]⟩
    · have ex := e3 rfl
      subst ex
      clear e0 e1 e2 e3
      go_wp2_with fail
      go_ret
      exact ⟨rfl, HG1.out⟩
end Go.Proofs.YtejkejfhahmhcaaDoor
