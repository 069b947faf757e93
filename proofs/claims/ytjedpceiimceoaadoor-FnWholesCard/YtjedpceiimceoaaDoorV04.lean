/- Proved: several texts in one: what each proves is said ahead of it. -/
import Derived.Test.YtjedpceiimceoaaDoorV03
import Derived.KernelRfl
import Derived.Test.YtjedpceiimceoaaDoorV02
import Derived.Laws.IdiomStrings
/- Proved: the two drawn regions of the model's product in a ring: a number is added to one place, or taken away. -/
namespace Go.Proofs.YtjedpceiimceoaaDoor
open Go.ChangeShapes Go.WideShapes Go.ChangeAt Go.RowKit
set_option linter.unusedVariables false
set_option linter.unusedSimpArgs false
def regionAtmul (n : Nat) : Code → Option Code
  | .region i ops b => if i = n then some (.region i ops b) else none
  | .seq a b => match regionAtmul n a with
    | some c => some c
    | none => regionAtmul n b
  | .block _ c => regionAtmul n c
  | .loop c => regionAtmul n c
  | .cond _ a b => match regionAtmul n a with
    | some c => some c
    | none => regionAtmul n b
  | _ => none
end Go.Proofs.YtjedpceiimceoaaDoor
/- Proved: drawn regions of the model's l1Num. -/
namespace Go.Proofs.YtjedpceiimceoaaDoor
open Go.ChangeShapes Go.WideShapes Go.ChangeAt Go.RowKit
set_option linter.unusedVariables false
set_option linter.unusedSimpArgs false
theorem op_valSR {P : Program} {a : Act} {W W' : World} {K : Act → World → Prop} {Q : Exit → Act → World → Prop} {o : Oper} (ρ : Operand → Value) (hρ : a.eval = ρ) (v : Value) (hr : (execOp ρ o).run P W = .ok (.value v) W') (hK : K (a.put o.dst v) W') : o.wp P a W K Q := by
  unfold Oper.wp
  rw [hρ, hr]
  exact hK
def slotNu (i : Nat) : Nat := [18, 19, 20, 21, 22, 23, 24, 25, 26, 27, 2].getD i 0
theorem slotNu_lt : ∀ i, i < 11 → slotNu i < 28 := by decide
theorem slotNu_inj : ∀ i, i < 11 → ∀ j, j < 11 → slotNu i = slotNu j → i = j := by decide
theorem slotNu_no0 : ∀ i, i < 11 → slotNu i ≠ 0 := by decide
def qNu (n : Int) (S20 S26 S27 : ByteArray) (PS : World → Value → Prop) (i : Nat) (W : World) (x : Value) : Prop :=
  match i with
  | 0 => x = .int .i64 n
  | 1 => x = .int .i64 (n / 10)
  | 2 => x = .string S20
  | 3 => x = .int .i64 n
  | 4 => x = .int .i64 (n % 10)
  | 5 => x = .int .i64 (48 + n % 10)
  | 6 => x = .int .u8 (48 + n % 10)
  | 7 => PS W x
  | 8 => x = .string S26
  | 9 => x = .string S27
  | 10 => x = .string S27
  | _ => True
theorem qNu_old (n : Int) (S20 S26 S27 : ByteArray) (PS : World → Value → Prop) (hM_PS : ∀ W W' v, PS W v → Old W W' → PS W' v) (i : Nat) (W W' : World) (x : Value) (h : qNu n S20 S26 S27 PS i W x) (qo : Old W W') : qNu n S20 S26 S27 PS i W' x := by
  unfold qNu at h ⊢
  split at h
  case h_8 => exact hM_PS _ _ _ h qo
  all_goals first | exact h | trivial
set_option maxRecDepth 100000 in
set_option maxHeartbeats 8000000 in
theorem reg_Nu (w0 : World) (n : Int) (S20 S26 S27 : ByteArray) (PS : World → Value → Prop) (hM_PS : ∀ W W' v, PS W v → Old W W' → PS W' v)    
    (hn : 0 ≤ n ∧ n ≤ 9223372036854775807) (hap : S20 ++ S26 = S27) (hq10 : IntKind.i64.wrap (n.tdiv 10) = n / 10) (ht : n.tmod 10 = n % 10) (h8 : IntKind.u8.wrap (48 + n % 10) = 48 + n % 10) (hs2 : (S20.size : Int) + (S26.size : Int) ≤ 9223372036854775807) (hB_PS : ∀ W : World, PS (W.alloc (.cells #[.int .u8 (48 + n % 10)] 5)) (.slice (some ⟨W.heap.size, 0, none⟩) 1 1)) (hCV : ∀ W x, PS W x → (convert 22 9 x).run Tryd.prog W = .ok (.string S26) W)
    (KN : ∀ W, Old w0 W → Calls Tryd.prog 40 #[.int .i64 (n / 10)] W fun e w' => e = .returned (.string S20) ∧ Old W w')
    (Q : Exit → Act → World → Prop) (b0 : Act) (hsz : b0.tmps.size = 28) (ha0 : b0.eval (.tmp 0) = .int .i64 n)
    (HK : Hid (∀ (us : Nat → Value) (W : World) , Old w0 W → us 10 = .string S27 → Q .normal (putAll b0 ((List.range 11).map fun i => (slotNu i, us i))) W)) :
    Code.wp Tryd.prog ((Tryd.f40.body.bind (regionAtmul 7)).getD .skip) Q b0 w0 := by
  conv => arg 2; whnf
  refine wp_region_old (by kernel_rfl) (by kernel_rfl) (by kernel_rfl) slotNu (fun i hi => by rw [hsz]; exact slotNu_lt i hi) (fun i j hi hj => slotNu_inj i hi j hj) (qNu n S20 S26 S27 PS ) (qNu_old n S20 S26 S27 PS hM_PS) ?_ ?_
  · refine ⟨?_, ?_, ?_, ?_, ?_, ?_, ?_, ?_, ?_, ?_, ?_, trivial⟩
    · intro a W g hF hd
      have e0 := (hF.same 0 slotNu_no0).trans ha0
      refine op_move ?_
      exact ⟨_, rfl, Old.refl _, e0⟩
    · intro a W g hF hd
      have h0 : a.eval (.tmp 18) = .int .i64 n := hd ⟨0, .data⟩ (by simp) rfl
      have c1 : a.eval (.const (.int .i64 10)) = .int .i64 10 := rfl
      obtain ⟨ρ, hρ⟩ : ∃ ρ, a.eval = ρ := ⟨_, rfl⟩
      rw [hρ] at h0 c1
      refine op_val ρ hρ (.int .i64 (n / 10)) ?_ ⟨_, rfl, Old.refl _, rfl⟩
      clear g hF hd hρ HK KN ha0   
      go_simp
      all_goals (first | (rw [IntKind.wrap_i64]; omega) | (rw [IntKind.wrap_u64]; omega) | omega)
    · intro a W g hF hd
      have h1 : a.eval (.tmp 19) = .int .i64 (n / 10) := hd ⟨1, .data⟩ (by simp) rfl
      refine op_call_ret (R := fun v w' => v = .string S20 ∧ Old W w') Tryd.call40 (vs := #[.int .i64 (n / 10)]) (by simp [h1]) ((KN W g).mono fun e w' h => ⟨_, h.1, rfl, h.2⟩) ?_
      rintro x w' ⟨rfl, g'⟩
      exact ⟨_, rfl, g', rfl⟩
    · intro a W g hF hd
      have e0 := (hF.same 0 slotNu_no0).trans ha0
      refine op_move ?_
      exact ⟨_, rfl, Old.refl _, e0⟩
    · intro a W g hF hd
      have h3 : a.eval (.tmp 21) = .int .i64 n := hd ⟨3, .data⟩ (by simp) rfl
      have c1 : a.eval (.const (.int .i64 10)) = .int .i64 10 := rfl
      obtain ⟨ρ, hρ⟩ : ∃ ρ, a.eval = ρ := ⟨_, rfl⟩
      rw [hρ] at h3 c1
      refine op_val ρ hρ (.int .i64 (n % 10)) ?_ ⟨_, rfl, Old.refl _, rfl⟩
      clear g hF hd hρ HK KN ha0   
      go_simp
      all_goals (first | (rw [IntKind.wrap_i64]; omega) | (rw [IntKind.wrap_u64]; omega) | omega)
    · intro a W g hF hd
      have c0 : a.eval (.const (.int .i64 48)) = .int .i64 48 := rfl
      have h4 : a.eval (.tmp 22) = .int .i64 (n % 10) := hd ⟨4, .data⟩ (by simp) rfl
      obtain ⟨ρ, hρ⟩ : ∃ ρ, a.eval = ρ := ⟨_, rfl⟩
      rw [hρ] at c0 h4
      refine op_val ρ hρ (.int .i64 (48 + n % 10)) ?_ ⟨_, rfl, Old.refl _, rfl⟩
      clear g hF hd hρ HK KN ha0   
      go_simp
      all_goals (first | (rw [IntKind.wrap_i64]; omega) | (rw [IntKind.wrap_u64]; omega) | omega)
    · intro a W g hF hd
      have h5 : a.eval (.tmp 23) = .int .i64 (48 + n % 10) := hd ⟨5, .data⟩ (by simp) rfl
      obtain ⟨ρ, hρ⟩ : ∃ ρ, a.eval = ρ := ⟨_, rfl⟩
      rw [hρ] at h5
      refine op_val ρ hρ (.int .u8 (48 + n % 10)) ?_ ⟨_, rfl, Old.refl _, rfl⟩
      clear g hF hd hρ HK KN ha0   
      go_simp
      all_goals (first | (rw [IntKind.wrap_i64]; omega) | (rw [IntKind.wrap_u64]; omega) | omega)
    · intro a W g hF hd
      have h6 : a.eval (.tmp 24) = .int .u8 (48 + n % 10) := hd ⟨6, .data⟩ (by simp) rfl
      obtain ⟨ρ, hρ⟩ : ∃ ρ, a.eval = ρ := ⟨_, rfl⟩
      rw [hρ] at h6
      refine op_valSR (W' := W.alloc (.cells #[.int .u8 (48 + n % 10)] 5)) ρ hρ (.slice (some ⟨W.heap.size, 0, none⟩) 1 1) ?_ ⟨_, rfl, (Old.refl W).alloc _, hB_PS W⟩
      clear g hF hd hρ HK KN ha0   
      go_simp
    · intro a W g hF hd
      have p7 : PS W (a.eval (.tmp 25)) := hd ⟨7, .data⟩ (by simp) rfl
      obtain ⟨ρ, hρ⟩ : ∃ ρ, a.eval = ρ := ⟨_, rfl⟩
      rw [hρ] at p7
      have kc := hCV W _ p7
      refine op_val ρ hρ (.string S26) ?_ ⟨_, rfl, Old.refl _, rfl⟩
      clear g hF hd hρ HK KN ha0   
      go_simp
    · intro a W g hF hd
      have h2 : a.eval (.tmp 20) = .string S20 := hd ⟨2, .data⟩ (by simp) rfl
      have h8 : a.eval (.tmp 26) = .string S26 := hd ⟨8, .data⟩ (by simp) rfl
      obtain ⟨ρ, hρ⟩ : ∃ ρ, a.eval = ρ := ⟨_, rfl⟩
      rw [hρ] at h2 h8
      refine op_val ρ hρ (.string S27) ?_ ⟨_, rfl, Old.refl _, rfl⟩
      clear g hF hd hρ HK KN ha0   
      go_simp
      all_goals (first | (rw [IntKind.wrap_i64]; omega) | (rw [IntKind.wrap_u64]; omega) | omega)
    · intro a W g hF hd
      refine op_assign ?_
      exact ⟨_, rfl, Old.refl _, hd ⟨9, .data⟩ (by simp) rfl⟩
  · intro a W g hF hq
    have hput := fram_put (show Fram 11 slotNu b0 a from hF) (fun i j hi hj => slotNu_inj i hi j hj)
    have hk := HK.out (fun i => a.eval (.tmp (slotNu i))) W g  (hq 10 (by decide))
    rw [← hput] at hk
    exact hk
end Go.Proofs.YtjedpceiimceoaaDoor
