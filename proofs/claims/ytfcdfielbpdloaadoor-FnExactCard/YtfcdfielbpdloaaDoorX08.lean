/- Proved: several texts in one: what each proves is said ahead of it. -/
import Derived.Test.YtfcdfielbpdloaaDoorX07
import Derived.KernelRfl
/- Proved: the two drawn regions of the model's product in a ring: a number is added to one place, or taken away. -/
namespace Go.Proofs.YtfcdfielbpdloaaDoor
open Go.ChangeShapes Go.WideShapes Go.ChangeAt Go.RowKit
set_option linter.unusedVariables false
set_option linter.unusedSimpArgs false
def regionAtmul (n : Nat) : Code → Option Code
  | .region i ops b => if i = n then some (.region i ops b) else none
  | .seq a b => match regionAtmul n a with
    | some c => some c
    | none => regionAtmul n b
  | .block _ c => regionAtmul n c
  | .loop c => regionAtmul n c
  | .cond _ a b => match regionAtmul n a with
    | some c => some c
    | none => regionAtmul n b
  | _ => none
end Go.Proofs.YtfcdfielbpdloaaDoor
/- Proved: a drawn region of the draw for an exact conversion. -/
namespace Go.Proofs.YtfcdfielbpdloaaDoor
open Go.ChangeShapes Go.WideShapes Go.ChangeAt Go.RowKit
set_option linter.unusedVariables false
set_option linter.unusedSimpArgs false
theorem op_valEx {P : Program} {a : Act} {W W' : World} {K : Act → World → Prop} {Q : Exit → Act → World → Prop} {o : Oper} (ρ : Operand → Value) (hρ : a.eval = ρ) (v : Value) (hr : (execOp ρ o).run P W = .ok (.value v) W') (hK : K (a.put o.dst v) W') : o.wp P a W K Q := by
  unfold Oper.wp
  rw [hρ, hr]
  exact hK
def slotEx (i : Nat) : Nat := [50, 51, 52, 53, 54, 55, 56, 57].getD i 0
theorem slotEx_lt : ∀ i, i < 8 → slotEx i < 70 := by decide
theorem slotEx_inj : ∀ i, i < 8 → ∀ j, j < 8 → slotEx i = slotEx j → i = j := by decide
theorem slotEx_no7 : ∀ i, i < 8 → slotEx i ≠ 7 := by decide
theorem slotEx_no8 : ∀ i, i < 8 → slotEx i ≠ 8 := by decide
theorem slotEx_no9 : ∀ i, i < 8 → slotEx i ≠ 9 := by decide
def Fv (base : Nat) (ya yb : Int) (W : World) (x : Value) : Prop := ∃ p, x = .slice (some ⟨p, 0, none⟩) 5 5 ∧ base ≤ p ∧ W.heap[p]? = some (.cells #[.int .i64 2, .int .i64 4, .int .i64 15, .int .i64 ya, .int .i64 yb] 3 (0, 0))
theorem Fv.old {base : Nat} {ya yb : Int} {W W' : World} {x : Value} (h : Fv base ya yb W x) (q : Old W W') : Fv base ya yb W' x := by
  obtain ⟨p, e, hb, hh⟩ := h
  exact ⟨p, e, hb, (q.block p (Array.getElem?_eq_some_iff.1 hh).1).trans hh⟩
def qEx (c ga oa lx ca : Nat) (ya : Int) (gb ob ly cb : Nat) (yb : Int) (base : Nat) (i : Nat) (W : World) (x : Value) : Prop :=
  match i with
  | 0 => x = .pointer (some ⟨c, 0, none⟩)
  | 1 => x = .slice (some ⟨ga, oa, none⟩) lx ca
  | 2 => x = .pointer (some ⟨ga, oa, none⟩)
  | 3 => x = .int .i64 ya
  | 4 => x = .slice (some ⟨gb, ob, none⟩) ly cb
  | 5 => x = .pointer (some ⟨gb, ob, none⟩)
  | 6 => x = .int .i64 yb
  | 7 => Fv base ya yb W x
  | _ => True
theorem qEx_old (c ga oa lx ca : Nat) (ya : Int) (gb ob ly cb : Nat) (yb : Int) (base : Nat) (i : Nat) (W W' : World) (x : Value) (h : qEx c ga oa lx ca ya gb ob ly cb yb base i W x) (qo : Old W W') : qEx c ga oa lx ca ya gb ob ly cb yb base i W' x := by
  unfold qEx at h ⊢
  split at h
  case h_8 => exact h.old qo
  all_goals first | exact h | trivial
set_option maxRecDepth 100000 in
set_option maxHeartbeats 8000000 in
theorem reg_Ex (w0 : World) (c ga oa lx ca : Nat) (ya : Int) (gb ob ly cb : Nat) (yb : Int) (PY : Int → Prop) (PW : World → Prop)
    (ka : w0.cell? ⟨ga, oa, none⟩ = some (.int .i64 ya)) (kb : w0.cell? ⟨gb, ob, none⟩ = some (.int .i64 yb)) (hx0 : (0 : Int) < (lx : Int)) (hy0 : (0 : Int) < (ly : Int))
    (KA : ∀ W v, Old w0 W → Fv w0.heap.size ya yb W v → Calls Tryd.prog 15 #[.pointer (some ⟨c, 0, none⟩), v] W fun e w' => ∃ y, e = .returned (.int .i64 y) ∧ PY y ∧ PW w')
    (Q : Exit → Act → World → Prop) (b0 : Act) (hsz : b0.tmps.size = 70) (ha7 : b0.eval (.tmp 7) = .pointer (some ⟨c, 0, none⟩)) (ha8 : b0.eval (.tmp 8) = .slice (some ⟨ga, oa, none⟩) lx ca) (ha9 : b0.eval (.tmp 9) = .slice (some ⟨gb, ob, none⟩) ly cb)
    (HK : Hid (∀ (us : Nat → Value) (W : World) (y : Int), PY y → PW W → Q .normal (((putAll b0 ((List.range 8).map fun i => (slotEx i, us i))).put (some 58) (.int .i64 y)).put (some 10) (.int .i64 y)) W)) :
    Code.wp Tryd.prog ((Tryd.f4.body.bind (regionAtmul 11)).getD .skip) Q b0 w0 := by
  conv => arg 2; whnf
  have pa : ∀ W, Old w0 W → W.cell? ⟨ga, oa, none⟩ = some (.int .i64 ya) := fun W g => (g.cell (p := ⟨ga, oa, none⟩) (block_lt_of_cell ka)).trans ka
  have pb : ∀ W, Old w0 W → W.cell? ⟨gb, ob, none⟩ = some (.int .i64 yb) := fun W g => (g.cell (p := ⟨gb, ob, none⟩) (block_lt_of_cell kb)).trans kb
  refine wp_region_tail 8 (by decide) (by kernel_rfl) (by kernel_rfl) (by kernel_rfl) (by kernel_rfl) (by kernel_rfl) slotEx (fun i hi => by rw [hsz]; exact slotEx_lt i hi) (fun i j hi hj => slotEx_inj i hi j hj) (qEx c ga oa lx ca ya gb ob ly cb yb w0.heap.size) (qEx_old c ga oa lx ca ya gb ob ly cb yb w0.heap.size) ?_ ?_
  · refine ⟨?_, ?_, ?_, ?_, ?_, ?_, ?_, ?_, trivial⟩
    · intro a W g hF hd
      refine op_move ?_
      exact ⟨_, rfl, Old.refl _, (hF.same 7 slotEx_no7).trans ha7⟩
    · intro a W g hF hd
      refine op_move ?_
      exact ⟨_, rfl, Old.refl _, (hF.same 8 slotEx_no8).trans ha8⟩
    · intro a W g hF hd
      have h1 : a.eval (.tmp 51) = .slice (some ⟨ga, oa, none⟩) lx ca := hd ⟨1, .data⟩ (by simp) rfl
      have c0 : a.eval (.const (.int .i64 0)) = .int .i64 0 := rfl
      obtain ⟨ρ, hρ⟩ : ∃ ρ, a.eval = ρ := ⟨_, rfl⟩
      rw [hρ] at h1 c0
      refine op_val ρ hρ (.pointer (some ⟨ga, oa, none⟩)) ?_ ⟨_, rfl, Old.refl _, rfl⟩
      clear g hF hd hρ HK KA ha7 ha8 ha9 pa pb
      go_simp
      all_goals (try (intro hz; omega))
    · intro a W g hF hd
      have h2 : a.eval (.tmp 52) = .pointer (some ⟨ga, oa, none⟩) := hd ⟨2, .data⟩ (by simp) rfl
      have kk := pa W g
      obtain ⟨ρ, hρ⟩ : ∃ ρ, a.eval = ρ := ⟨_, rfl⟩
      rw [hρ] at h2
      refine op_val ρ hρ (.int .i64 ya) ?_ ⟨_, rfl, Old.refl _, rfl⟩
      clear g hF hd hρ HK KA ha7 ha8 ha9 pa pb
      go_simp
      all_goals (try (intro hz; omega))
    · intro a W g hF hd
      refine op_move ?_
      exact ⟨_, rfl, Old.refl _, (hF.same 9 slotEx_no9).trans ha9⟩
    · intro a W g hF hd
      have h4 : a.eval (.tmp 54) = .slice (some ⟨gb, ob, none⟩) ly cb := hd ⟨4, .data⟩ (by simp) rfl
      have c0 : a.eval (.const (.int .i64 0)) = .int .i64 0 := rfl
      obtain ⟨ρ, hρ⟩ : ∃ ρ, a.eval = ρ := ⟨_, rfl⟩
      rw [hρ] at h4 c0
      refine op_val ρ hρ (.pointer (some ⟨gb, ob, none⟩)) ?_ ⟨_, rfl, Old.refl _, rfl⟩
      clear g hF hd hρ HK KA ha7 ha8 ha9 pa pb
      go_simp
      all_goals (try (intro hz; omega))
    · intro a W g hF hd
      have h5 : a.eval (.tmp 55) = .pointer (some ⟨gb, ob, none⟩) := hd ⟨5, .data⟩ (by simp) rfl
      have kk := pb W g
      obtain ⟨ρ, hρ⟩ : ∃ ρ, a.eval = ρ := ⟨_, rfl⟩
      rw [hρ] at h5
      refine op_val ρ hρ (.int .i64 yb) ?_ ⟨_, rfl, Old.refl _, rfl⟩
      clear g hF hd hρ HK KA ha7 ha8 ha9 pa pb
      go_simp
      all_goals (try (intro hz; omega))
    · intro a W g hF hd
      have h3 : a.eval (.tmp 53) = .int .i64 ya := hd ⟨3, .data⟩ (by simp) rfl
      have h6 : a.eval (.tmp 56) = .int .i64 yb := hd ⟨6, .data⟩ (by simp) rfl
      have c2 : a.eval (.const (.int .i64 2)) = .int .i64 2 := rfl
      have c4 : a.eval (.const (.int .i64 4)) = .int .i64 4 := rfl
      have c15 : a.eval (.const (.int .i64 15)) = .int .i64 15 := rfl
      obtain ⟨ρ, hρ⟩ : ∃ ρ, a.eval = ρ := ⟨_, rfl⟩
      rw [hρ] at h3 h6 c2 c4 c15
      refine op_valEx (W' := W.alloc (.cells #[.int .i64 2, .int .i64 4, .int .i64 15, .int .i64 ya, .int .i64 yb] 3)) ρ hρ (.slice (some ⟨W.heap.size, 0, none⟩) 5 5) ?_ ⟨_, rfl, (Old.refl W).alloc _, ⟨W.heap.size, rfl, g.size, by unfold World.alloc; simp⟩⟩
      clear g hF hd hρ HK KA ha7 ha8 ha9 pa pb
      go_simp
  · intro a W g hF hq
    have h0 : a.eval (.tmp 50) = .pointer (some ⟨c, 0, none⟩) := hq 0 (by decide)
    have hput := fram_put (show Fram 8 slotEx b0 a from hF) (fun i j hi hj => slotEx_inj i hi j hj)
    refine op_call_ret (R := fun v w' => ∃ y, v = .int .i64 y ∧ PY y ∧ PW w') Tryd.call15 (vs := #[.pointer (some ⟨c, 0, none⟩), a.eval (.tmp 57)]) (by simp [h0]) ((KA W _ g (hq 7 (by decide))).mono fun e w' h => by obtain ⟨y, e1, h1, h2⟩ := h; exact ⟨_, e1, y, rfl, h1, h2⟩) ?_
    rintro x w' ⟨y, rfl, hy, hw⟩
    show tailWp _ _ _ _ _
    refine op_assign ?_
    show tailWp _ _ _ _ _
    have hk := HK.out (fun i => a.eval (.tmp (slotEx i))) w' y hy hw
    rw [← hput] at hk
    have he : (a.put (some 58) (.int .i64 y)).eval (.tmp 58) = .int .i64 y := by
      have hs : a.tmps.size = 70 := by rw [hF.size, hsz]
      simp [Act.put, Act.eval, hs]
    rw [he]
    exact hk
end Go.Proofs.YtfcdfielbpdloaaDoor
