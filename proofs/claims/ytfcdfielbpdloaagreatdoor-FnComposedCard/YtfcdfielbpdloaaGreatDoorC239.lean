/- Proved: several texts in one: what each proves is said ahead of it. -/
import Derived.Test.YtfcdfielbpdloaaGreatDoorC238
import Derived.KernelRfl
/- Proved: the two drawn regions of the model's product in a ring: a number is added to one place, or taken away. -/
namespace Go.Proofs.YtfcdfielbpdloaaGreatDoor
open Go.ChangeShapes Go.WideShapes Go.ChangeAt Go.RowKit
set_option linter.unusedVariables false
set_option linter.unusedSimpArgs false
def regionAtmul (n : Nat) : Code → Option Code
  | .region i ops b => if i = n then some (.region i ops b) else none
  | .seq a b => match regionAtmul n a with
    | some c => some c
    | none => regionAtmul n b
  | .block _ c => regionAtmul n c
  | .loop c => regionAtmul n c
  | .cond _ a b => match regionAtmul n a with
    | some c => some c
    | none => regionAtmul n b
  | _ => none
end Go.Proofs.YtfcdfielbpdloaaGreatDoor
/- Proved: drawn regions of the statement FnComposed. -/
namespace Go.Proofs.YtfcdfielbpdloaaGreatDoor
open Go.ChangeShapes Go.WideShapes Go.ChangeAt Go.RowKit
set_option linter.unusedVariables false
set_option linter.unusedSimpArgs false
def slotCb (i : Nat) : Nat := [121, 122, 123, 124, 125, 126].getD i 0
theorem slotCb_lt : ∀ i, i < 6 → slotCb i < 139 := by decide
theorem slotCb_inj : ∀ i, i < 6 → ∀ j, j < 6 → slotCb i = slotCb j → i = j := by decide
theorem slotCb_no17 : ∀ i, i < 6 → slotCb i ≠ 17 := by decide
theorem slotCb_no23 : ∀ i, i < 6 → slotCb i ≠ 23 := by decide
def qCb (n : Bool) (na : Option Addr) (nl nc bn : Nat) (qa : Option Addr) (ql qc bq : Nat) (xa ya : Int)  (i : Nat) (W : World) (x : Value) : Prop :=
  match i with
  | 0 => x = .agg #[.bool n, .slice na nl nc]
  | 1 => x = .int .i64 xa
  | 2 => x = .agg #[.bool false, .slice qa ql qc]
  | 3 => x = .int .i64 ya
  | 4 => x = .int .i64 (ya - 1)
  | 5 => x = .bool (decide (ya - 1 ≤ xa))
  | _ => True
theorem qCb_old (n : Bool) (na : Option Addr) (nl nc bn : Nat) (qa : Option Addr) (ql qc bq : Nat) (xa ya : Int)   (i : Nat) (W W' : World) (x : Value) (h : qCb n na nl nc bn qa ql qc bq xa ya  i W x) (qo : Old W W') : qCb n na nl nc bn qa ql qc bq xa ya  i W' x := by
  unfold qCb at h ⊢
  split at h
  all_goals first | exact h | trivial
set_option maxRecDepth 100000 in
set_option maxHeartbeats 8000000 in
theorem reg_Cb (w0 : World) (n : Bool) (na : Option Addr) (nl nc bn : Nat) (qa : Option Addr) (ql qc bq : Nat) (xa ya : Int)     (b_bn : w0.heap[bn]? = some (.cells #[.bool n, .slice na nl nc] 27 (0, 0))) (b_bq : w0.heap[bq]? = some (.cells #[.bool false, .slice qa ql qc] 27 (0, 0))) 
    (hb : (0 ≤ xa ∧ xa ≤ 100000) ∧ (0 ≤ ya ∧ ya ≤ 100000))
    (KX : ∀ W, Old w0 W → Calls Tryz.prog 14 #[.agg #[.bool n, .slice na nl nc]] W fun e w' => e = .returned (.int .i64 xa) ∧ Old W w')
    (KY : ∀ W, Old w0 W → Calls Tryz.prog 14 #[.agg #[.bool false, .slice qa ql qc]] W fun e w' => e = .returned (.int .i64 ya) ∧ Old W w')
    (Q : Exit → Act → World → Prop) (b0 : Act) (hsz : b0.tmps.size = 139) (ha17 : b0.eval (.tmp 17) = .pointer (some ⟨bn, 0, none⟩)) (ha23 : b0.eval (.tmp 23) = .pointer (some ⟨bq, 0, none⟩))
    (HK : Hid (∀ (us : Nat → Value) (W : World) , Old w0 W → us 5 = .bool (decide (ya - 1 ≤ xa)) → Q .normal (putAll b0 ((List.range 6).map fun i => (slotCb i, us i))) W)) :
    Code.wp Tryz.prog ((Tryz.f3.body.bind (regionAtmul 22)).getD .skip) Q b0 w0 := by
  conv => arg 2; whnf
  have px_bn : ∀ W, Old w0 W → W.heap[bn]? = some (.cells #[.bool n, .slice na nl nc] 27 (0, 0)) := fun W g => (g.block bn (lt_of_some b_bn)).trans b_bn
  have px_bq : ∀ W, Old w0 W → W.heap[bq]? = some (.cells #[.bool false, .slice qa ql qc] 27 (0, 0)) := fun W g => (g.block bq (lt_of_some b_bq)).trans b_bq
  refine wp_region_old (by kernel_rfl) (by kernel_rfl) (by kernel_rfl) slotCb (fun i hi => by rw [hsz]; exact slotCb_lt i hi) (fun i j hi hj => slotCb_inj i hi j hj) (qCb n na nl nc bn qa ql qc bq xa ya  ) (qCb_old n na nl nc bn qa ql qc bq xa ya  ) ?_ ?_
  · refine ⟨?_, ?_, ?_, ?_, ?_, ?_, trivial⟩
    · intro a W g hF hd
      have e17 := (hF.same 17 slotCb_no17).trans ha17
      refine op_load (k := bn) e17 (px_bn W g) Tryz.underlying27 rfl (by kernel_rfl) ?_
      exact ⟨_, rfl, Old.refl _, rfl⟩
    · intro a W g hF hd
      have h0 : a.eval (.tmp 121) = .agg #[.bool n, .slice na nl nc] := hd ⟨0, .data⟩ (by simp) rfl
      refine op_call_ret (R := fun v w' => v = .int .i64 xa ∧ Old W w') Tryz.call14 (vs := #[.agg #[.bool n, .slice na nl nc]]) (by simp [h0]) ((KX W g).mono fun e w' h => ⟨_, h.1, rfl, h.2⟩) ?_
      rintro x w' ⟨rfl, g'⟩
      exact ⟨_, rfl, g', rfl⟩
    · intro a W g hF hd
      have e23 := (hF.same 23 slotCb_no23).trans ha23
      refine op_load (k := bq) e23 (px_bq W g) Tryz.underlying27 rfl (by kernel_rfl) ?_
      exact ⟨_, rfl, Old.refl _, rfl⟩
    · intro a W g hF hd
      have h2 : a.eval (.tmp 123) = .agg #[.bool false, .slice qa ql qc] := hd ⟨2, .data⟩ (by simp) rfl
      refine op_call_ret (R := fun v w' => v = .int .i64 ya ∧ Old W w') Tryz.call14 (vs := #[.agg #[.bool false, .slice qa ql qc]]) (by simp [h2]) ((KY W g).mono fun e w' h => ⟨_, h.1, rfl, h.2⟩) ?_
      rintro x w' ⟨rfl, g'⟩
      exact ⟨_, rfl, g', rfl⟩
    · intro a W g hF hd
      have h3 : a.eval (.tmp 124) = .int .i64 ya := hd ⟨3, .data⟩ (by simp) rfl
      have c1 : a.eval (.const (.int .i64 1)) = .int .i64 1 := rfl
      obtain ⟨ρ, hρ⟩ : ∃ ρ, a.eval = ρ := ⟨_, rfl⟩
      rw [hρ] at h3 c1
      refine op_val ρ hρ (.int .i64 (ya - 1)) ?_ ⟨_, rfl, Old.refl _, rfl⟩
      clear g hF hd hρ HK KX KY ha17 ha23 px_bn b_bn px_bq b_bq  
      go_simp
      all_goals (first | (rw [IntKind.wrap_i64]; omega) | (rw [IntKind.wrap_u64]; omega) | omega)
    · intro a W g hF hd
      have h1 : a.eval (.tmp 122) = .int .i64 xa := hd ⟨1, .data⟩ (by simp) rfl
      have h4 : a.eval (.tmp 125) = .int .i64 (ya - 1) := hd ⟨4, .data⟩ (by simp) rfl
      obtain ⟨ρ, hρ⟩ : ∃ ρ, a.eval = ρ := ⟨_, rfl⟩
      rw [hρ] at h1 h4
      refine op_val ρ hρ (.bool (decide (ya - 1 ≤ xa))) ?_ ⟨_, rfl, Old.refl _, rfl⟩
      clear g hF hd hρ HK KX KY ha17 ha23 px_bn b_bn px_bq b_bq  
      go_simp
      all_goals (first | (rw [IntKind.wrap_i64]; omega) | (rw [IntKind.wrap_u64]; omega) | omega)
  · intro a W g hF hq
    have hput := fram_put (show Fram 6 slotCb b0 a from hF) (fun i j hi hj => slotCb_inj i hi j hj)
    have hk := HK.out (fun i => a.eval (.tmp (slotCb i))) W g  (hq 5 (by decide))
    rw [← hput] at hk
    exact hk
end Go.Proofs.YtfcdfielbpdloaaGreatDoor
