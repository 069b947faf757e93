/- Proved: several texts in one: what each proves is said ahead of it. -/
import Derived.Test.YtimmcijoebmaiaaS04
import Derived.Test.YtimmcijoebmaiaaMlr
import Derived.Test.YtimmcijoebmaiaaS06
import Derived.KernelRfl
import Derived.Test.YtimmcijoebmaiaaS07
/- Proved: drawn regions of the model's ReadWhole. -/
namespace Go.Proofs.Ytimmcijoebmaiaa
open Go.ChangeShapes Go.WideShapes Go.ChangeAt Go.RowKit
set_option linter.unusedVariables false
set_option linter.unusedSimpArgs false
theorem op_valSR {P : Program} {a : Act} {W W' : World} {K : Act → World → Prop} {Q : Exit → Act → World → Prop} {o : Oper} (ρ : Operand → Value) (hρ : a.eval = ρ) (v : Value) (hr : (execOp ρ o).run P W = .ok (.value v) W') (hK : K (a.put o.dst v) W') : o.wp P a W K Q := by
  unfold Oper.wp
  rw [hρ, hr]
  exact hK
def slotRs (i : Nat) : Nat := [59, 60, 61, 62, 63, 64, 65, 66, 67, 68].getD i 0
theorem slotRs_lt : ∀ i, i < 10 → slotRs i < 75 := by decide
theorem slotRs_inj : ∀ i, i < 10 → ∀ j, j < 10 → slotRs i = slotRs j → i = j := by decide
theorem slotRs_no5 : ∀ i, i < 10 → slotRs i ≠ 5 := by decide
theorem slotRs_no6 : ∀ i, i < 10 → slotRs i ≠ 6 := by decide
theorem slotRs_no7 : ∀ i, i < 10 → slotRs i ≠ 7 := by decide
def qRs (DD : ByteArray) (k b m : Int) (nv : Value) (PT : World → Value → Prop) (PM : World → Value → Prop) (PO : World → Value → Prop) (PS : World → Value → Prop) (i : Nat) (W : World) (x : Value) : Prop :=
  match i with
  | 0 => x = nv
  | 1 => PT W x
  | 2 => PM W x
  | 3 => x = .string DD
  | 4 => x = .int .i64 k
  | 5 => x = .int .u8 b
  | 6 => x = .int .u8 m
  | 7 => x = .int .i64 m
  | 8 => PO W x
  | 9 => PS W x
  | _ => True
theorem qRs_old (DD : ByteArray) (k b m : Int) (nv : Value) (PT : World → Value → Prop) (PM : World → Value → Prop) (PO : World → Value → Prop) (PS : World → Value → Prop) (hM_PT : ∀ W W' v, PT W v → Old W W' → PT W' v) (hM_PM : ∀ W W' v, PM W v → Old W W' → PM W' v) (hM_PO : ∀ W W' v, PO W v → Old W W' → PO W' v) (hM_PS : ∀ W W' v, PS W v → Old W W' → PS W' v) (i : Nat) (W W' : World) (x : Value) (h : qRs DD k b m nv PT PM PO PS i W x) (qo : Old W W') : qRs DD k b m nv PT PM PO PS i W' x := by
  unfold qRs at h ⊢
  split at h
  case h_2 => exact hM_PT _ _ _ h qo
  case h_3 => exact hM_PM _ _ _ h qo
  case h_9 => exact hM_PO _ _ _ h qo
  case h_10 => exact hM_PS _ _ _ h qo
  all_goals first | exact h | trivial
set_option maxRecDepth 100000 in
set_option maxHeartbeats 8000000 in
theorem reg_Rs (w0 : World) (DD : ByteArray) (k b m : Int) (nv : Value) (PT : World → Value → Prop) (PM : World → Value → Prop) (PO : World → Value → Prop) (PS : World → Value → Prop) (hM_PT : ∀ W W' v, PT W v → Old W W' → PT W' v) (hM_PM : ∀ W W' v, PM W v → Old W W' → PM W' v) (hM_PO : ∀ W W' v, PO W v → Old W W' → PO W' v) (hM_PS : ∀ W W' v, PS W v → Old W W' → PS W' v)    
    (hB_PT : ∀ W : World, PT (W.alloc (.cells #[.int .i64 10] 3)) (.slice (some ⟨W.heap.size, 0, none⟩) 1 1)) (hix : ∀ W, (Instr.index 9 (.string DD) (.int .i64 k)).run Try.prog W = .ok (.int .u8 b) W) (h8 : IntKind.u8.wrap (b - 48) = m) (hm : 0 ≤ m ∧ m ≤ 9)
    (KM : ∀ W, Old w0 W → ∀ (u1 : Value), PT W u1 → Calls Try.prog 35 #[nv, u1] W fun e w' => ∃ v, e = .returned v ∧ Old W w' ∧ PM w' v)
    (KO : ∀ W, Old w0 W → Calls Try.prog 36 #[.int .i64 m] W fun e w' => ∃ v, e = .returned v ∧ Old W w' ∧ PO w' v)
    (KS : ∀ W, Old w0 W → ∀ (u2 : Value) (u8 : Value), PM W u2 → PO W u8 → Calls Try.prog 34 #[u2, u8] W fun e w' => ∃ v, e = .returned v ∧ Old W w' ∧ PS w' v)
    (Q : Exit → Act → World → Prop) (b0 : Act) (hsz : b0.tmps.size = 75) (ha5 : b0.eval (.tmp 5) = .string DD) (ha6 : b0.eval (.tmp 6) = nv) (ha7 : b0.eval (.tmp 7) = .int .i64 k)
    (HK : Hid (∀ (us : Nat → Value) (W : World) , Old w0 W → PS W (us 9) → Q .normal ((putAll b0 ((List.range 10).map fun i => (slotRs i, us i))).put (some 6) (us 9)) W)) :
    Code.wp Try.prog ((Try.f12.body.bind (regionAtmul 13)).getD .skip) Q b0 w0 := by
  conv => arg 2; whnf
  refine wp_region_tailG 10 (by decide) (by kernel_rfl) (by kernel_rfl) (by kernel_rfl) (by kernel_rfl) (by kernel_rfl) slotRs (fun i hi => by rw [hsz]; exact slotRs_lt i hi) (fun i j hi hj => slotRs_inj i hi j hj) (qRs DD k b m nv PT PM PO PS ) (qRs_old DD k b m nv PT PM PO PS hM_PT hM_PM hM_PO hM_PS) [] (fun i W v hi hq => by cases hi) ?_ ?_
  · refine ⟨?_, ?_, ?_, ?_, ?_, ?_, ?_, ?_, ?_, ?_, trivial⟩
    · intro a W g hF hd
      refine ⟨fun _ => ?_, fun h => by rw [wanted_none rfl] at h; cases h⟩
      have e6 := (hF.same 6 slotRs_no6).trans ha6
      refine op_move ?_
      exact ⟨_, rfl, Old.refl _, e6, (fun h => absurd h (by decide))⟩
    · intro a W g hF hd
      refine ⟨fun _ => ?_, fun h => by rw [wanted_none rfl] at h; cases h⟩
      have c0 : a.eval (.const (.int .i64 10)) = .int .i64 10 := rfl
      obtain ⟨ρ, hρ⟩ : ∃ ρ, a.eval = ρ := ⟨_, rfl⟩
      rw [hρ] at c0
      refine op_valSR (W' := W.alloc (.cells #[.int .i64 10] 3)) ρ hρ (.slice (some ⟨W.heap.size, 0, none⟩) 1 1) ?_ ⟨_, rfl, (Old.refl W).alloc _, hB_PT W, (fun h => absurd h (by decide))⟩
      clear g hF hd hρ HK KM KO KS ha5 ha6 ha7   
      go_simp
    · intro a W g hF hd
      refine ⟨fun _ => ?_, fun h => by rw [wanted_none rfl] at h; cases h⟩
      have h0 : a.eval (.tmp 59) = nv := hd ⟨0, .data⟩ (by simp) rfl
      have p1 : PT W (a.eval (.tmp 60)) := hd ⟨1, .data⟩ (by simp) rfl
      refine op_call_ret (R := fun v w' => Old W w' ∧ PM w' v) Try.call35 (vs := #[nv, a.eval (.tmp 60)]) (by simp [h0]) (KM W g _ p1) ?_
      rintro x w' ⟨g', hp⟩
      exact ⟨_, rfl, g', hp, (fun h => absurd h (by decide))⟩
    · intro a W g hF hd
      refine ⟨fun _ => ?_, fun h => by rw [wanted_none rfl] at h; cases h⟩
      have e5 := (hF.same 5 slotRs_no5).trans ha5
      refine op_move ?_
      exact ⟨_, rfl, Old.refl _, e5, (fun h => absurd h (by decide))⟩
    · intro a W g hF hd
      refine ⟨fun _ => ?_, fun h => by rw [wanted_none rfl] at h; cases h⟩
      have e7 := (hF.same 7 slotRs_no7).trans ha7
      refine op_move ?_
      exact ⟨_, rfl, Old.refl _, e7, (fun h => absurd h (by decide))⟩
    · intro a W g hF hd
      refine ⟨fun _ => ?_, fun h => by rw [wanted_none rfl] at h; cases h⟩
      have h3 : a.eval (.tmp 62) = .string DD := hd ⟨3, .data⟩ (by simp) rfl
      have h4 : a.eval (.tmp 63) = .int .i64 k := hd ⟨4, .data⟩ (by simp) rfl
      have kx := hix W
      obtain ⟨ρ, hρ⟩ : ∃ ρ, a.eval = ρ := ⟨_, rfl⟩
      rw [hρ] at h3 h4
      refine op_val ρ hρ (.int .u8 b) ?_ ⟨_, rfl, Old.refl _, rfl, (fun h => absurd h (by decide))⟩
      clear g hF hd hρ HK KM KO KS ha5 ha6 ha7   
      go_simp
      all_goals (first | (rw [IntKind.wrap_i64]; omega) | (rw [IntKind.wrap_u64]; omega) | omega)
    · intro a W g hF hd
      refine ⟨fun _ => ?_, fun h => by rw [wanted_none rfl] at h; cases h⟩
      have h5 : a.eval (.tmp 64) = .int .u8 b := hd ⟨5, .data⟩ (by simp) rfl
      have c1 : a.eval (.const (.int .u8 48)) = .int .u8 48 := rfl
      obtain ⟨ρ, hρ⟩ : ∃ ρ, a.eval = ρ := ⟨_, rfl⟩
      rw [hρ] at h5 c1
      refine op_val ρ hρ (.int .u8 m) ?_ ⟨_, rfl, Old.refl _, rfl, (fun h => absurd h (by decide))⟩
      clear g hF hd hρ HK KM KO KS ha5 ha6 ha7   
      go_simp
      all_goals (first | (rw [IntKind.wrap_i64]; omega) | (rw [IntKind.wrap_u64]; omega) | omega)
    · intro a W g hF hd
      refine ⟨fun _ => ?_, fun h => by rw [wanted_none rfl] at h; cases h⟩
      have h6 : a.eval (.tmp 65) = .int .u8 m := hd ⟨6, .data⟩ (by simp) rfl
      obtain ⟨ρ, hρ⟩ : ∃ ρ, a.eval = ρ := ⟨_, rfl⟩
      rw [hρ] at h6
      refine op_val ρ hρ (.int .i64 m) ?_ ⟨_, rfl, Old.refl _, rfl, (fun h => absurd h (by decide))⟩
      clear g hF hd hρ HK KM KO KS ha5 ha6 ha7   
      go_simp
      all_goals (first | (rw [IntKind.wrap_i64]; omega) | (rw [IntKind.wrap_u64]; omega) | omega)
    · intro a W g hF hd
      refine ⟨fun _ => ?_, fun h => by rw [wanted_none rfl] at h; cases h⟩
      have h7 : a.eval (.tmp 66) = .int .i64 m := hd ⟨7, .data⟩ (by simp) rfl
      refine op_call_ret (R := fun v w' => Old W w' ∧ PO w' v) Try.call36 (vs := #[.int .i64 m]) (by simp [h7]) (KO W g) ?_
      rintro x w' ⟨g', hp⟩
      exact ⟨_, rfl, g', hp, (fun h => absurd h (by decide))⟩
    · intro a W g hF hd
      refine ⟨fun _ => ?_, fun h => by rw [wanted_none rfl] at h; cases h⟩
      have p2 : PM W (a.eval (.tmp 61)) := hd ⟨2, .data⟩ (by simp) rfl
      have p8 : PO W (a.eval (.tmp 67)) := hd ⟨8, .data⟩ (by simp) rfl
      refine op_call_ret (R := fun v w' => Old W w' ∧ PS w' v) Try.call34 (vs := #[a.eval (.tmp 61), a.eval (.tmp 67)]) (by simp) (KS W g _ _ p2 p8) ?_
      rintro x w' ⟨g', hp⟩
      exact ⟨_, rfl, g', hp, (fun h => absurd h (by decide))⟩
  · intro a W g hF hq hne
    have hput := fram_put (show Fram 10 slotRs b0 a from hF) (fun i j hi hj => slotRs_inj i hi j hj)
    have hk := HK.out (fun i => a.eval (.tmp (slotRs i))) W g  (hq 9 (by decide))
    rw [← hput] at hk
    refine op_assign ?_
    show tailWp _ _ _ _ _
    exact hk
end Go.Proofs.Ytimmcijoebmaiaa
/- Proved: drawn regions of the program's ReadWhole. -/
namespace Go.Proofs.Ytimmcijoebmaiaa
open Go.ChangeShapes Go.WideShapes Go.ChangeAt Go.RowKit
set_option linter.unusedVariables false
set_option linter.unusedSimpArgs false
def slotRw (i : Nat) : Nat := [29, 30, 31, 32, 33, 34, 35].getD i 0
theorem slotRw_lt : ∀ i, i < 7 → slotRw i < 44 := by decide
theorem slotRw_inj : ∀ i, i < 7 → ∀ j, j < 7 → slotRw i = slotRw j → i = j := by decide
theorem slotRw_no4 : ∀ i, i < 7 → slotRw i ≠ 4 := by decide
theorem slotRw_no6 : ∀ i, i < 7 → slotRw i ≠ 6 := by decide
theorem slotRw_no7 : ∀ i, i < 7 → slotRw i ≠ 7 := by decide
def qRw (DD : ByteArray) (k b m : Int) (sb : Nat) (S0 S1 : Array Value)  (i : Nat) (W : World) (x : Value) : Prop :=
  match i with
  | 0 => x = .agg S0
  | 1 => x = .string DD
  | 2 => x = .int .i64 k
  | 3 => x = .int .u8 b
  | 4 => x = .int .u8 m
  | 5 => x = .int .i64 m
  | 6 => x = .agg S1
  | _ => True
theorem qRw_old (DD : ByteArray) (k b m : Int) (sb : Nat) (S0 S1 : Array Value)   (i : Nat) (W W' : World) (x : Value) (h : qRw DD k b m sb S0 S1  i W x) (qo : Old W W') : qRw DD k b m sb S0 S1  i W' x := by
  unfold qRw at h ⊢
  split at h
  all_goals first | exact h | trivial
set_option maxRecDepth 100000 in
set_option maxHeartbeats 8000000 in
theorem reg_Rw (w0 : World) (DD : ByteArray) (k b m : Int) (sb : Nat) (S0 S1 : Array Value)     (b_sb : w0.heap[sb]? = some (.cells S0 45 (0, 0))) (hS_sb : S0.size = 81) (hZ_S1 : (S1).size = 81 ∧ (S1).all (·.oneCell') = true)
    (hix : ∀ W, (Instr.index 9 (.string DD) (.int .i64 k)).run Try.prog W = .ok (.int .u8 b) W) (h8 : IntKind.u8.wrap (b - 48) = m) (hm : 0 ≤ m ∧ m ≤ 9)
    (KX : ∀ W, Old w0 W → Calls Try.prog 20 #[.agg S0, .int .i64 10, .int .i64 m] W fun e w' => e = .returned (.agg S1) ∧ Old W w')
    (Q : Exit → Act → World → Prop) (b0 : Act) (hsz : b0.tmps.size = 44) (ha4 : b0.eval (.tmp 4) = .string DD) (ha6 : b0.eval (.tmp 6) = .pointer (some ⟨sb, 0, none⟩)) (ha7 : b0.eval (.tmp 7) = .int .i64 k)
    (HK : Hid (∀ (us : Nat → Value) (W : World) , Old w0 W → Q .normal (putAll b0 ((List.range 7).map fun i => (slotRw i, us i))) (W.setRow sb S1))) :
    Code.wp Try.prog ((Try.f13.body.bind (regionAtmul 8)).getD .skip) Q b0 w0 := by
  conv => arg 2; whnf
  have px_sb : ∀ W, Old w0 W → W.heap[sb]? = some (.cells S0 45 (0, 0)) := fun W g => (g.block sb (lt_of_some b_sb)).trans b_sb
  refine wp_region_tailG 7 (by decide) (by kernel_rfl) (by kernel_rfl) (by kernel_rfl) (by kernel_rfl) (by kernel_rfl) slotRw (fun i hi => by rw [hsz]; exact slotRw_lt i hi) (fun i j hi hj => slotRw_inj i hi j hj) (qRw DD k b m sb S0 S1  ) (qRw_old DD k b m sb S0 S1  ) [] (fun i W v hi hq => by cases hi) ?_ ?_
  · refine ⟨?_, ?_, ?_, ?_, ?_, ?_, ?_, trivial⟩
    · intro a W g hF hd
      refine ⟨fun _ => ?_, fun h => by rw [wanted_none rfl] at h; cases h⟩
      have e6 := (hF.same 6 slotRw_no6).trans ha6
      refine op_load (k := sb) e6 (px_sb W g) Try.underlying45 rfl (by rw [hS_sb]; exact infoSz) ?_
      exact ⟨_, rfl, Old.refl _, rfl, (fun h => absurd h (by decide))⟩
    · intro a W g hF hd
      refine ⟨fun _ => ?_, fun h => by rw [wanted_none rfl] at h; cases h⟩
      have e4 := (hF.same 4 slotRw_no4).trans ha4
      refine op_move ?_
      exact ⟨_, rfl, Old.refl _, e4, (fun h => absurd h (by decide))⟩
    · intro a W g hF hd
      refine ⟨fun _ => ?_, fun h => by rw [wanted_none rfl] at h; cases h⟩
      have e7 := (hF.same 7 slotRw_no7).trans ha7
      refine op_move ?_
      exact ⟨_, rfl, Old.refl _, e7, (fun h => absurd h (by decide))⟩
    · intro a W g hF hd
      refine ⟨fun _ => ?_, fun h => by rw [wanted_none rfl] at h; cases h⟩
      have h1 : a.eval (.tmp 30) = .string DD := hd ⟨1, .data⟩ (by simp) rfl
      have h2 : a.eval (.tmp 31) = .int .i64 k := hd ⟨2, .data⟩ (by simp) rfl
      have kx := hix W
      obtain ⟨ρ, hρ⟩ : ∃ ρ, a.eval = ρ := ⟨_, rfl⟩
      rw [hρ] at h1 h2
      refine op_val ρ hρ (.int .u8 b) ?_ ⟨_, rfl, Old.refl _, rfl, (fun h => absurd h (by decide))⟩
      clear g hF hd hρ HK KX ha4 ha6 ha7 px_sb b_sb  
      go_simp
      all_goals (first | (rw [IntKind.wrap_i64]; omega) | (rw [IntKind.wrap_u64]; omega) | omega)
    · intro a W g hF hd
      refine ⟨fun _ => ?_, fun h => by rw [wanted_none rfl] at h; cases h⟩
      have h3 : a.eval (.tmp 32) = .int .u8 b := hd ⟨3, .data⟩ (by simp) rfl
      have c1 : a.eval (.const (.int .u8 48)) = .int .u8 48 := rfl
      obtain ⟨ρ, hρ⟩ : ∃ ρ, a.eval = ρ := ⟨_, rfl⟩
      rw [hρ] at h3 c1
      refine op_val ρ hρ (.int .u8 m) ?_ ⟨_, rfl, Old.refl _, rfl, (fun h => absurd h (by decide))⟩
      clear g hF hd hρ HK KX ha4 ha6 ha7 px_sb b_sb  
      go_simp
      all_goals (first | (rw [IntKind.wrap_i64]; omega) | (rw [IntKind.wrap_u64]; omega) | omega)
    · intro a W g hF hd
      refine ⟨fun _ => ?_, fun h => by rw [wanted_none rfl] at h; cases h⟩
      have h4 : a.eval (.tmp 33) = .int .u8 m := hd ⟨4, .data⟩ (by simp) rfl
      obtain ⟨ρ, hρ⟩ : ∃ ρ, a.eval = ρ := ⟨_, rfl⟩
      rw [hρ] at h4
      refine op_val ρ hρ (.int .i64 m) ?_ ⟨_, rfl, Old.refl _, rfl, (fun h => absurd h (by decide))⟩
      clear g hF hd hρ HK KX ha4 ha6 ha7 px_sb b_sb  
      go_simp
      all_goals (first | (rw [IntKind.wrap_i64]; omega) | (rw [IntKind.wrap_u64]; omega) | omega)
    · intro a W g hF hd
      refine ⟨fun _ => ?_, fun h => by rw [wanted_none rfl] at h; cases h⟩
      have h0 : a.eval (.tmp 29) = .agg S0 := hd ⟨0, .data⟩ (by simp) rfl
      have c1 : a.eval (.const (.int .i64 10)) = .int .i64 10 := rfl
      have h5 : a.eval (.tmp 34) = .int .i64 m := hd ⟨5, .data⟩ (by simp) rfl
      refine op_call_ret (R := fun v w' => v = .agg S1 ∧ Old W w') Try.call20 (vs := #[.agg S0, .int .i64 10, .int .i64 m]) (by simp [h0, c1, h5]) ((KX W g).mono fun e w' h => ⟨_, h.1, rfl, h.2⟩) ?_
      rintro x w' ⟨rfl, g'⟩
      exact ⟨_, rfl, g', rfl, (fun h => absurd h (by decide))⟩
  · intro a W g hF hq hne
    have hput := fram_put (show Fram 7 slotRw b0 a from hF) (fun i j hi hj => slotRw_inj i hi j hj)
    have hk := HK.out (fun i => a.eval (.tmp (slotRw i))) W g  
    rw [← hput] at hk
    refine op_store (k := sb) ((hF.same 6 slotRw_no6).trans ha6) (show a.eval (.tmp 35) = .agg S1 from hq 6 (by decide)) (px_sb W g) (by rw [hZ_S1.1]; exact infoSz) (by rw [hZ_S1.1]; exact hS_sb) hZ_S1.2 ?_
    show tailWp _ _ _ _ _
    exact hk
end Go.Proofs.Ytimmcijoebmaiaa
