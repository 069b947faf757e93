/- Proved: several texts in one: what each proves is said ahead of it. -/
import Derived.Test.YtpcpahgflkjnaaaGreatDoorB05
import Derived.Test.YtpcpahgflkjnaaaGreatDoorMlr
import Derived.Test.YtpcpahgflkjnaaaGreatDoorB07
import Derived.KernelRfl
import Derived.Test.YtpcpahgflkjnaaaGreatDoorB08
/- Proved: drawn regions of the program's bounds. -/
namespace Go.Proofs.YtpcpahgflkjnaaaGreatDoor
open Go.ChangeShapes Go.WideShapes Go.ChangeAt Go.RowKit
set_option linter.unusedVariables false
set_option linter.unusedSimpArgs false
def slotTp (i : Nat) : Nat := [5, 6, 7, 8, 9, 10, 11, 12, 13, 14, 15, 16].getD i 0
theorem slotTp_lt : ∀ i, i < 12 → slotTp i < 17 := by decide
theorem slotTp_inj : ∀ i, i < 12 → ∀ j, j < 12 → slotTp i = slotTp j → i = j := by decide
theorem slotTp_no2 : ∀ i, i < 12 → slotTp i ≠ 2 := by decide
theorem slotTp_no3 : ∀ i, i < 12 → slotTp i ≠ 3 := by decide
theorem slotTp_no4 : ∀ i, i < 12 → slotTp i ≠ 4 := by decide
def qTp (N T E : Int) (a3 : Option Addr) (l3 c3 : Nat) (a4 : Option Addr) (l4 c4 : Nat) (a6 : Option Addr) (l6 c6 bx : Nat) (rb sb : Nat) (S0 S1 SR Z : Array Value)  (i : Nat) (W : World) (x : Value) : Prop :=
  match i with
  | 0 => x = .agg #[.int .i64 N, .int .i64 T, .int .i64 E, .slice a3 l3 c3, .slice a4 l4 c4, .bool false, .slice a6 l6 c6]
  | 1 => x = .agg S0
  | 2 => x = .pointer (some ⟨bx, 0, none⟩)
  | 3 => x = .pointer (some ⟨bx, 0, none⟩)
  | 4 => x = .int .i64 N
  | 5 => x = .pointer (some ⟨bx, 0, none⟩)
  | 6 => x = .pointer (some ⟨bx, 1, none⟩)
  | 7 => x = .int .i64 T
  | 8 => x = .int .i64 (T / 2)
  | 9 => x = .int .i64 (N * (T / 2))
  | 10 => x = .agg S1
  | 11 => x = .agg SR
  | _ => True
theorem qTp_old (N T E : Int) (a3 : Option Addr) (l3 c3 : Nat) (a4 : Option Addr) (l4 c4 : Nat) (a6 : Option Addr) (l6 c6 bx : Nat) (rb sb : Nat) (S0 S1 SR Z : Array Value)   (i : Nat) (W W' : World) (x : Value) (h : qTp N T E a3 l3 c3 a4 l4 c4 a6 l6 c6 bx rb sb S0 S1 SR Z  i W x) (qo : Old W W') : qTp N T E a3 l3 c3 a4 l4 c4 a6 l6 c6 bx rb sb S0 S1 SR Z  i W' x := by
  unfold qTp at h ⊢
  split at h
  all_goals first | exact h | trivial
set_option maxRecDepth 100000 in
set_option maxHeartbeats 8000000 in
theorem reg_Tp (w0 : World) (N T E : Int) (a3 : Option Addr) (l3 c3 : Nat) (a4 : Option Addr) (l4 c4 : Nat) (a6 : Option Addr) (l6 c6 bx : Nat) (rb sb : Nat) (S0 S1 SR Z : Array Value)     (b_bx : w0.heap[bx]? = some (.cells #[.int .i64 N, .int .i64 T, .int .i64 E, .slice a3 l3 c3, .slice a4 l4 c4, .bool false, .slice a6 l6 c6] 87 (0, 0))) (b_rb : w0.heap[rb]? = some (.cells Z 113 (0, 0))) (hS_rb : Z.size = 81) (b_sb : w0.heap[sb]? = some (.cells S0 113 (0, 0))) (hS_sb : S0.size = 81) (hZ_SR : (SR).size = 81 ∧ (SR).all (·.oneCell') = true)
    (hT : 2 ≤ T ∧ T ≤ 65536) (hq : T.tdiv 2 = T / 2) (hX : 0 ≤ N * (T / 2) ∧ N * (T / 2) ≤ 524288)
    (KX : ∀ W, Old w0 W → Calls Tryz.prog 148 #[.agg S0, .int .i64 (N * (T / 2)), .int .i64 0] W fun e w' => e = .returned (.agg S1) ∧ Old W w')
    (KC : ∀ W, Old w0 W → Calls Tryz.prog 147 #[.agg #[.int .i64 N, .int .i64 T, .int .i64 E, .slice a3 l3 c3, .slice a4 l4 c4, .bool false, .slice a6 l6 c6], .agg S1] W fun e w' => e = .returned (.agg SR) ∧ Old W w')
    (Q : Exit → Act → World → Prop) (b0 : Act) (hsz : b0.tmps.size = 17) (ha2 : b0.eval (.tmp 2) = .pointer (some ⟨bx, 0, none⟩)) (ha3 : b0.eval (.tmp 3) = .pointer (some ⟨sb, 0, none⟩)) (ha4 : b0.eval (.tmp 4) = .pointer (some ⟨rb, 0, none⟩))
    (HK : Hid (∀ (us : Nat → Value) (W : World) , Old w0 W → Q .normal (putAll b0 ((List.range 12).map fun i => (slotTp i, us i))) (W.setRow rb SR))) :
    Code.wp Tryz.prog ((Tryz.f91.body.bind (regionAtmul 1)).getD .skip) Q b0 w0 := by
  conv => arg 2; whnf
  have px_bx : ∀ W, Old w0 W → W.heap[bx]? = some (.cells #[.int .i64 N, .int .i64 T, .int .i64 E, .slice a3 l3 c3, .slice a4 l4 c4, .bool false, .slice a6 l6 c6] 87 (0, 0)) := fun W g => (g.block bx (lt_of_some b_bx)).trans b_bx
  have px_rb : ∀ W, Old w0 W → W.heap[rb]? = some (.cells Z 113 (0, 0)) := fun W g => (g.block rb (lt_of_some b_rb)).trans b_rb
  have px_sb : ∀ W, Old w0 W → W.heap[sb]? = some (.cells S0 113 (0, 0)) := fun W g => (g.block sb (lt_of_some b_sb)).trans b_sb
  have pc_bx_0 : ∀ W, Old w0 W → W.cell? ⟨bx, 0, none⟩ = some (.int .i64 N) := fun W g => cell_of_row W bx 0 _ _ (0, 0) (px_bx W g)
  have pc_bx_1 : ∀ W, Old w0 W → W.cell? ⟨bx, 1, none⟩ = some (.int .i64 T) := fun W g => cell_of_row W bx 1 _ _ (0, 0) (px_bx W g)
  refine wp_region_tailG 12 (by decide) (by kernel_rfl) (by kernel_rfl) (by kernel_rfl) (by kernel_rfl) (by kernel_rfl) slotTp (fun i hi => by rw [hsz]; exact slotTp_lt i hi) (fun i j hi hj => slotTp_inj i hi j hj) (qTp N T E a3 l3 c3 a4 l4 c4 a6 l6 c6 bx rb sb S0 S1 SR Z  ) (qTp_old N T E a3 l3 c3 a4 l4 c4 a6 l6 c6 bx rb sb S0 S1 SR Z  ) [] (fun i W v hi hq => by cases hi) ?_ ?_
  · refine ⟨?_, ?_, ?_, ?_, ?_, ?_, ?_, ?_, ?_, ?_, ?_, ?_, trivial⟩
    · intro a W g hF hd
      refine ⟨fun _ => ?_, fun h => by rw [wanted_none rfl] at h; cases h⟩
      have e2 := (hF.same 2 slotTp_no2).trans ha2
      refine op_load (k := bx) e2 (px_bx W g) Tryz.underlying87 rfl (by kernel_rfl) ?_
      exact ⟨_, rfl, Old.refl _, rfl, (fun h => absurd h (by decide))⟩
    · intro a W g hF hd
      refine ⟨fun _ => ?_, fun h => by rw [wanted_none rfl] at h; cases h⟩
      have e3 := (hF.same 3 slotTp_no3).trans ha3
      refine op_load (k := sb) e3 (px_sb W g) Tryz.underlying113 rfl (by rw [hS_sb]; exact infoSz) ?_
      exact ⟨_, rfl, Old.refl _, rfl, (fun h => absurd h (by decide))⟩
    · intro a W g hF hd
      refine ⟨fun _ => ?_, fun h => by rw [wanted_none rfl] at h; cases h⟩
      have e2 := (hF.same 2 slotTp_no2).trans ha2
      obtain ⟨ρ, hρ⟩ : ∃ ρ, a.eval = ρ := ⟨_, rfl⟩
      rw [hρ] at e2
      refine op_val ρ hρ (.pointer (some ⟨bx, 0, none⟩)) ?_ ⟨_, rfl, Old.refl _, rfl, (fun h => absurd h (by decide))⟩
      clear g hF hd hρ HK KX KC ha2 ha3 ha4 px_bx b_bx px_rb b_rb px_sb b_sb pc_bx_0 pc_bx_1 
      go_simp
      all_goals (first | (rw [IntKind.wrap_i64]; omega) | (rw [IntKind.wrap_u64]; omega) | omega)
    · intro a W g hF hd
      refine ⟨fun _ => ?_, fun h => by rw [wanted_none rfl] at h; cases h⟩
      have h2 : a.eval (.tmp 7) = .pointer (some ⟨bx, 0, none⟩) := hd ⟨2, .data⟩ (by simp) rfl
      obtain ⟨ρ, hρ⟩ : ∃ ρ, a.eval = ρ := ⟨_, rfl⟩
      rw [hρ] at h2
      refine op_val ρ hρ (.pointer (some ⟨bx, 0, none⟩)) ?_ ⟨_, rfl, Old.refl _, rfl, (fun h => absurd h (by decide))⟩
      clear g hF hd hρ HK KX KC ha2 ha3 ha4 px_bx b_bx px_rb b_rb px_sb b_sb pc_bx_0 pc_bx_1 
      go_simp
      all_goals (first | (rw [IntKind.wrap_i64]; omega) | (rw [IntKind.wrap_u64]; omega) | omega)
    · intro a W g hF hd
      refine ⟨fun _ => ?_, fun h => by rw [wanted_none rfl] at h; cases h⟩
      have h3 : a.eval (.tmp 8) = .pointer (some ⟨bx, 0, none⟩) := hd ⟨3, .data⟩ (by simp) rfl
      have kk0 := pc_bx_0 W g
      obtain ⟨ρ, hρ⟩ : ∃ ρ, a.eval = ρ := ⟨_, rfl⟩
      rw [hρ] at h3
      refine op_val ρ hρ (.int .i64 N) ?_ ⟨_, rfl, Old.refl _, rfl, (fun h => absurd h (by decide))⟩
      clear g hF hd hρ HK KX KC ha2 ha3 ha4 px_bx b_bx px_rb b_rb px_sb b_sb pc_bx_0 pc_bx_1 
      go_simp
      all_goals (first | (rw [IntKind.wrap_i64]; omega) | (rw [IntKind.wrap_u64]; omega) | omega)
    · intro a W g hF hd
      refine ⟨fun _ => ?_, fun h => by rw [wanted_none rfl] at h; cases h⟩
      have e2 := (hF.same 2 slotTp_no2).trans ha2
      obtain ⟨ρ, hρ⟩ : ∃ ρ, a.eval = ρ := ⟨_, rfl⟩
      rw [hρ] at e2
      refine op_val ρ hρ (.pointer (some ⟨bx, 0, none⟩)) ?_ ⟨_, rfl, Old.refl _, rfl, (fun h => absurd h (by decide))⟩
      clear g hF hd hρ HK KX KC ha2 ha3 ha4 px_bx b_bx px_rb b_rb px_sb b_sb pc_bx_0 pc_bx_1 
      go_simp
      all_goals (first | (rw [IntKind.wrap_i64]; omega) | (rw [IntKind.wrap_u64]; omega) | omega)
    · intro a W g hF hd
      refine ⟨fun _ => ?_, fun h => by rw [wanted_none rfl] at h; cases h⟩
      have h5 : a.eval (.tmp 10) = .pointer (some ⟨bx, 0, none⟩) := hd ⟨5, .data⟩ (by simp) rfl
      obtain ⟨ρ, hρ⟩ : ∃ ρ, a.eval = ρ := ⟨_, rfl⟩
      rw [hρ] at h5
      refine op_val ρ hρ (.pointer (some ⟨bx, 1, none⟩)) ?_ ⟨_, rfl, Old.refl _, rfl, (fun h => absurd h (by decide))⟩
      clear g hF hd hρ HK KX KC ha2 ha3 ha4 px_bx b_bx px_rb b_rb px_sb b_sb pc_bx_0 pc_bx_1 
      go_simp
      all_goals (first | (rw [IntKind.wrap_i64]; omega) | (rw [IntKind.wrap_u64]; omega) | omega)
    · intro a W g hF hd
      refine ⟨fun _ => ?_, fun h => by rw [wanted_none rfl] at h; cases h⟩
      have h6 : a.eval (.tmp 11) = .pointer (some ⟨bx, 1, none⟩) := hd ⟨6, .data⟩ (by simp) rfl
      have kk0 := pc_bx_1 W g
      obtain ⟨ρ, hρ⟩ : ∃ ρ, a.eval = ρ := ⟨_, rfl⟩
      rw [hρ] at h6
      refine op_val ρ hρ (.int .i64 T) ?_ ⟨_, rfl, Old.refl _, rfl, (fun h => absurd h (by decide))⟩
      clear g hF hd hρ HK KX KC ha2 ha3 ha4 px_bx b_bx px_rb b_rb px_sb b_sb pc_bx_0 pc_bx_1 
      go_simp
      all_goals (first | (rw [IntKind.wrap_i64]; omega) | (rw [IntKind.wrap_u64]; omega) | omega)
    · intro a W g hF hd
      refine ⟨fun _ => ?_, fun h => by rw [wanted_none rfl] at h; cases h⟩
      have h7 : a.eval (.tmp 12) = .int .i64 T := hd ⟨7, .data⟩ (by simp) rfl
      have c1 : a.eval (.const (.int .i64 2)) = .int .i64 2 := rfl
      obtain ⟨ρ, hρ⟩ : ∃ ρ, a.eval = ρ := ⟨_, rfl⟩
      rw [hρ] at h7 c1
      refine op_val ρ hρ (.int .i64 (T / 2)) ?_ ⟨_, rfl, Old.refl _, rfl, (fun h => absurd h (by decide))⟩
      clear g hF hd hρ HK KX KC ha2 ha3 ha4 px_bx b_bx px_rb b_rb px_sb b_sb pc_bx_0 pc_bx_1 
      go_simp
      all_goals (first | (rw [IntKind.wrap_i64]; omega) | (rw [IntKind.wrap_u64]; omega) | omega)
    · intro a W g hF hd
      refine ⟨fun _ => ?_, fun h => by rw [wanted_none rfl] at h; cases h⟩
      have h4 : a.eval (.tmp 9) = .int .i64 N := hd ⟨4, .data⟩ (by simp) rfl
      have h8 : a.eval (.tmp 13) = .int .i64 (T / 2) := hd ⟨8, .data⟩ (by simp) rfl
      obtain ⟨ρ, hρ⟩ : ∃ ρ, a.eval = ρ := ⟨_, rfl⟩
      rw [hρ] at h4 h8
      refine op_val ρ hρ (.int .i64 (N * (T / 2))) ?_ ⟨_, rfl, Old.refl _, rfl, (fun h => absurd h (by decide))⟩
      clear g hF hd hρ HK KX KC ha2 ha3 ha4 px_bx b_bx px_rb b_rb px_sb b_sb pc_bx_0 pc_bx_1 
      go_simp
      all_goals (first | (rw [IntKind.wrap_i64]; omega) | (rw [IntKind.wrap_u64]; omega) | omega)
    · intro a W g hF hd
      refine ⟨fun _ => ?_, fun h => by rw [wanted_none rfl] at h; cases h⟩
      have h1 : a.eval (.tmp 6) = .agg S0 := hd ⟨1, .data⟩ (by simp) rfl
      have h9 : a.eval (.tmp 14) = .int .i64 (N * (T / 2)) := hd ⟨9, .data⟩ (by simp) rfl
      have c2 : a.eval (.const (.int .i64 0)) = .int .i64 0 := rfl
      refine op_call_ret (R := fun v w' => v = .agg S1 ∧ Old W w') Tryz.call148 (vs := #[.agg S0, .int .i64 (N * (T / 2)), .int .i64 0]) (by simp [h1, h9, c2]) ((KX W g).mono fun e w' h => ⟨_, h.1, rfl, h.2⟩) ?_
      rintro x w' ⟨rfl, g'⟩
      exact ⟨_, rfl, g', rfl, (fun h => absurd h (by decide))⟩
    · intro a W g hF hd
      refine ⟨fun _ => ?_, fun h => by rw [wanted_none rfl] at h; cases h⟩
      have h0 : a.eval (.tmp 5) = .agg #[.int .i64 N, .int .i64 T, .int .i64 E, .slice a3 l3 c3, .slice a4 l4 c4, .bool false, .slice a6 l6 c6] := hd ⟨0, .data⟩ (by simp) rfl
      have h10 : a.eval (.tmp 15) = .agg S1 := hd ⟨10, .data⟩ (by simp) rfl
      refine op_call_ret (R := fun v w' => v = .agg SR ∧ Old W w') Tryz.call147 (vs := #[.agg #[.int .i64 N, .int .i64 T, .int .i64 E, .slice a3 l3 c3, .slice a4 l4 c4, .bool false, .slice a6 l6 c6], .agg S1]) (by simp [h0, h10]) ((KC W g).mono fun e w' h => ⟨_, h.1, rfl, h.2⟩) ?_
      rintro x w' ⟨rfl, g'⟩
      exact ⟨_, rfl, g', rfl, (fun h => absurd h (by decide))⟩
  · intro a W g hF hq hne
    have hput := fram_put (show Fram 12 slotTp b0 a from hF) (fun i j hi hj => slotTp_inj i hi j hj)
    have hk := HK.out (fun i => a.eval (.tmp (slotTp i))) W g  
    rw [← hput] at hk
    refine op_store (k := rb) ((hF.same 4 slotTp_no4).trans ha4) (show a.eval (.tmp 16) = .agg SR from hq 11 (by decide)) (px_rb W g) (by rw [hZ_SR.1]; exact infoSz) (by rw [hZ_SR.1]; exact hS_rb) hZ_SR.2 ?_
    show tailWp _ _ _ _ _
    exact hk
end Go.Proofs.YtpcpahgflkjnaaaGreatDoor
/- Proved: drawn regions of the model's bounds. -/
namespace Go.Proofs.YtpcpahgflkjnaaaGreatDoor
open Go.ChangeShapes Go.WideShapes Go.ChangeAt Go.RowKit
set_option linter.unusedVariables false
set_option linter.unusedSimpArgs false
def slotMg (i : Nat) : Nat := [11, 12, 13, 14, 15, 16, 17, 18, 19, 20, 21, 22, 23, 24].getD i 0
theorem slotMg_lt : ∀ i, i < 14 → slotMg i < 25 := by decide
theorem slotMg_inj : ∀ i, i < 14 → ∀ j, j < 14 → slotMg i = slotMg j → i = j := by decide
theorem slotMg_no2 : ∀ i, i < 14 → slotMg i ≠ 2 := by decide
theorem slotMg_no3 : ∀ i, i < 14 → slotMg i ≠ 3 := by decide
theorem slotMg_no4 : ∀ i, i < 14 → slotMg i ≠ 4 := by decide
def qMg (N T E : Int) (a0 : Option Addr) (l0 c0 pb : Nat) (wb : Nat) (nb : Bool) (a1 : Option Addr) (l1 c1 : Nat) (rb : Nat) (PO : World → Value → Prop) (PS : World → Value → Prop) (PW : World → Value → Prop) (PA : World → Value → Prop) (i : Nat) (W : World) (x : Value) : Prop :=
  match i with
  | 0 => x = .agg #[.int .i64 N, .int .i64 T, .int .i64 E, .slice a0 l0 c0]
  | 1 => x = .pointer (some ⟨wb, 1, none⟩)
  | 2 => x = .slice a1 l1 c1
  | 3 => x = .pointer (some ⟨pb, 0, none⟩)
  | 4 => x = .int .i64 N
  | 5 => x = .pointer (some ⟨pb, 1, none⟩)
  | 6 => x = .int .i64 T
  | 7 => x = .int .i64 (T / 2)
  | 8 => x = .int .i64 (N * (T / 2))
  | 9 => PO W x
  | 10 => PS W x
  | 11 => PW W x
  | 12 => PA W x
  | 13 => x = .bool true
  | _ => True
theorem qMg_old (N T E : Int) (a0 : Option Addr) (l0 c0 pb : Nat) (wb : Nat) (nb : Bool) (a1 : Option Addr) (l1 c1 : Nat) (rb : Nat) (PO : World → Value → Prop) (PS : World → Value → Prop) (PW : World → Value → Prop) (PA : World → Value → Prop) (hM_PO : ∀ W W' v, PO W v → Old W W' → PO W' v) (hM_PS : ∀ W W' v, PS W v → Old W W' → PS W' v) (hM_PW : ∀ W W' v, PW W v → Old W W' → PW W' v) (hM_PA : ∀ W W' v, PA W v → Old W W' → PA W' v) (i : Nat) (W W' : World) (x : Value) (h : qMg N T E a0 l0 c0 pb wb nb a1 l1 c1 rb PO PS PW PA i W x) (qo : Old W W') : qMg N T E a0 l0 c0 pb wb nb a1 l1 c1 rb PO PS PW PA i W' x := by
  unfold qMg at h ⊢
  split at h
  case h_10 => exact hM_PO _ _ _ h qo
  case h_11 => exact hM_PS _ _ _ h qo
  case h_12 => exact hM_PW _ _ _ h qo
  case h_13 => exact hM_PA _ _ _ h qo
  all_goals first | exact h | trivial
set_option maxRecDepth 100000 in
set_option maxHeartbeats 8000000 in
theorem reg_Mg (w0 : World) (N T E : Int) (a0 : Option Addr) (l0 c0 pb : Nat) (wb : Nat) (nb : Bool) (a1 : Option Addr) (l1 c1 : Nat) (rb : Nat) (PO : World → Value → Prop) (PS : World → Value → Prop) (PW : World → Value → Prop) (PA : World → Value → Prop) (hM_PO : ∀ W W' v, PO W v → Old W W' → PO W' v) (hM_PS : ∀ W W' v, PS W v → Old W W' → PS W' v) (hM_PW : ∀ W W' v, PW W v → Old W W' → PW W' v) (hM_PA : ∀ W W' v, PA W v → Old W W' → PA W' v) (hT_PW : ∀ W x, PW W x → ∃ v1 v2, x = .tuple #[v1, v2] ∧ PA W v1 ∧ v2 = .bool true) (hA_PA : ∀ W x, PA W x → ∃ cs, x = .agg cs ∧ cs.size = 2 ∧ cs.all (·.oneCell') = true) (b_pb : w0.heap[pb]? = some (.cells #[.int .i64 N, .int .i64 T, .int .i64 E, .slice a0 l0 c0] 34 (0, 0))) (b_rb : w0.heap[rb]? = some (.cells #[.bool false, .slice none 0 0] 31 (0, 0))) (b_wb : w0.heap[wb]? = some (.cells #[.bool nb, .slice a1 l1 c1] 31 (0, 0))) 
    (hT : 2 ≤ T ∧ T ≤ 65536) (hq : T.tdiv 2 = T / 2) (hX : 0 ≤ N * (T / 2) ∧ N * (T / 2) ≤ 524288)
    (KO : ∀ W, Old w0 W → Calls Tryz.prog 86 #[.int .i64 (N * (T / 2))] W fun e w' => ∃ v, e = .returned v ∧ Old W w' ∧ PO w' v)
    (KM : ∀ W, Old w0 W → ∀ (u9 : Value), PO W u9 → Calls Tryz.prog 90 #[.slice a1 l1 c1, u9] W fun e w' => ∃ v, e = .returned v ∧ Old W w' ∧ PS w' v)
    (KW : ∀ W, Old w0 W → ∀ (u10 : Value), PS W u10 → Calls Tryz.prog 81 #[.agg #[.int .i64 N, .int .i64 T, .int .i64 E, .slice a0 l0 c0], u10] W fun e w' => ∃ v, e = .returned v ∧ Old W w' ∧ PW w' v)
    (Q : Exit → Act → World → Prop) (b0 : Act) (hsz : b0.tmps.size = 25) (ha2 : b0.eval (.tmp 2) = .pointer (some ⟨pb, 0, none⟩)) (ha3 : b0.eval (.tmp 3) = .pointer (some ⟨wb, 0, none⟩)) (ha4 : b0.eval (.tmp 4) = .pointer (some ⟨rb, 0, none⟩))
    (HK : Hid (∀ (us : Nat → Value) (W : World) (cs : Array Value) , Old w0 W → PA W (.agg cs) → Q .normal ((putAll b0 ((List.range 14).map fun i => (slotMg i, us i))).put (some 5) (.bool true)) (W.setRow rb cs))) :
    Code.wp Tryz.prog ((Tryz.f37.body.bind (regionAtmul 3)).getD .skip) Q b0 w0 := by
  conv => arg 2; whnf
  have px_pb : ∀ W, Old w0 W → W.heap[pb]? = some (.cells #[.int .i64 N, .int .i64 T, .int .i64 E, .slice a0 l0 c0] 34 (0, 0)) := fun W g => (g.block pb (lt_of_some b_pb)).trans b_pb
  have px_rb : ∀ W, Old w0 W → W.heap[rb]? = some (.cells #[.bool false, .slice none 0 0] 31 (0, 0)) := fun W g => (g.block rb (lt_of_some b_rb)).trans b_rb
  have px_wb : ∀ W, Old w0 W → W.heap[wb]? = some (.cells #[.bool nb, .slice a1 l1 c1] 31 (0, 0)) := fun W g => (g.block wb (lt_of_some b_wb)).trans b_wb
  have pc_wb_1 : ∀ W, Old w0 W → W.cell? ⟨wb, 1, none⟩ = some (.slice a1 l1 c1) := fun W g => cell_of_row W wb 1 _ _ (0, 0) (px_wb W g)
  have pc_pb_0 : ∀ W, Old w0 W → W.cell? ⟨pb, 0, none⟩ = some (.int .i64 N) := fun W g => cell_of_row W pb 0 _ _ (0, 0) (px_pb W g)
  have pc_pb_1 : ∀ W, Old w0 W → W.cell? ⟨pb, 1, none⟩ = some (.int .i64 T) := fun W g => cell_of_row W pb 1 _ _ (0, 0) (px_pb W g)
  refine wp_region_tailG 14 (by decide) (by kernel_rfl) (by kernel_rfl) (by kernel_rfl) (by kernel_rfl) (by kernel_rfl) slotMg (fun i hi => by rw [hsz]; exact slotMg_lt i hi) (fun i j hi hj => slotMg_inj i hi j hj) (qMg N T E a0 l0 c0 pb wb nb a1 l1 c1 rb PO PS PW PA ) (qMg_old N T E a0 l0 c0 pb wb nb a1 l1 c1 rb PO PS PW PA hM_PO hM_PS hM_PW hM_PA) [] (fun i W v hi hq => by cases hi) ?_ ?_
  · refine ⟨?_, ?_, ?_, ?_, ?_, ?_, ?_, ?_, ?_, ?_, ?_, ?_, ?_, ?_, trivial⟩
    · intro a W g hF hd
      refine ⟨fun _ => ?_, fun h => by rw [wanted_none rfl] at h; cases h⟩
      have e2 := (hF.same 2 slotMg_no2).trans ha2
      refine op_load (k := pb) e2 (px_pb W g) Tryz.underlying34 rfl (by kernel_rfl) ?_
      exact ⟨_, rfl, Old.refl _, rfl, (fun h => absurd h (by decide))⟩
    · intro a W g hF hd
      refine ⟨fun _ => ?_, fun h => by rw [wanted_none rfl] at h; cases h⟩
      have e3 := (hF.same 3 slotMg_no3).trans ha3
      obtain ⟨ρ, hρ⟩ : ∃ ρ, a.eval = ρ := ⟨_, rfl⟩
      rw [hρ] at e3
      refine op_val ρ hρ (.pointer (some ⟨wb, 1, none⟩)) ?_ ⟨_, rfl, Old.refl _, rfl, (fun h => absurd h (by decide))⟩
      clear g hF hd hρ HK KO KM KW ha2 ha3 ha4 px_pb b_pb px_rb b_rb px_wb b_wb pc_wb_1 pc_pb_0 pc_pb_1 
      go_simp
      all_goals (first | (rw [IntKind.wrap_i64]; omega) | (rw [IntKind.wrap_u64]; omega) | omega)
    · intro a W g hF hd
      refine ⟨fun _ => ?_, fun h => by rw [wanted_none rfl] at h; cases h⟩
      have h1 : a.eval (.tmp 12) = .pointer (some ⟨wb, 1, none⟩) := hd ⟨1, .data⟩ (by simp) rfl
      have kk0 := pc_wb_1 W g
      obtain ⟨ρ, hρ⟩ : ∃ ρ, a.eval = ρ := ⟨_, rfl⟩
      rw [hρ] at h1
      refine op_val ρ hρ (.slice a1 l1 c1) ?_ ⟨_, rfl, Old.refl _, rfl, (fun h => absurd h (by decide))⟩
      clear g hF hd hρ HK KO KM KW ha2 ha3 ha4 px_pb b_pb px_rb b_rb px_wb b_wb pc_wb_1 pc_pb_0 pc_pb_1 
      go_simp
      all_goals (first | (rw [IntKind.wrap_i64]; omega) | (rw [IntKind.wrap_u64]; omega) | omega)
    · intro a W g hF hd
      refine ⟨fun _ => ?_, fun h => by rw [wanted_none rfl] at h; cases h⟩
      have e2 := (hF.same 2 slotMg_no2).trans ha2
      obtain ⟨ρ, hρ⟩ : ∃ ρ, a.eval = ρ := ⟨_, rfl⟩
      rw [hρ] at e2
      refine op_val ρ hρ (.pointer (some ⟨pb, 0, none⟩)) ?_ ⟨_, rfl, Old.refl _, rfl, (fun h => absurd h (by decide))⟩
      clear g hF hd hρ HK KO KM KW ha2 ha3 ha4 px_pb b_pb px_rb b_rb px_wb b_wb pc_wb_1 pc_pb_0 pc_pb_1 
      go_simp
      all_goals (first | (rw [IntKind.wrap_i64]; omega) | (rw [IntKind.wrap_u64]; omega) | omega)
    · intro a W g hF hd
      refine ⟨fun _ => ?_, fun h => by rw [wanted_none rfl] at h; cases h⟩
      have h3 : a.eval (.tmp 14) = .pointer (some ⟨pb, 0, none⟩) := hd ⟨3, .data⟩ (by simp) rfl
      have kk0 := pc_pb_0 W g
      obtain ⟨ρ, hρ⟩ : ∃ ρ, a.eval = ρ := ⟨_, rfl⟩
      rw [hρ] at h3
      refine op_val ρ hρ (.int .i64 N) ?_ ⟨_, rfl, Old.refl _, rfl, (fun h => absurd h (by decide))⟩
      clear g hF hd hρ HK KO KM KW ha2 ha3 ha4 px_pb b_pb px_rb b_rb px_wb b_wb pc_wb_1 pc_pb_0 pc_pb_1 
      go_simp
      all_goals (first | (rw [IntKind.wrap_i64]; omega) | (rw [IntKind.wrap_u64]; omega) | omega)
    · intro a W g hF hd
      refine ⟨fun _ => ?_, fun h => by rw [wanted_none rfl] at h; cases h⟩
      have e2 := (hF.same 2 slotMg_no2).trans ha2
      obtain ⟨ρ, hρ⟩ : ∃ ρ, a.eval = ρ := ⟨_, rfl⟩
      rw [hρ] at e2
      refine op_val ρ hρ (.pointer (some ⟨pb, 1, none⟩)) ?_ ⟨_, rfl, Old.refl _, rfl, (fun h => absurd h (by decide))⟩
      clear g hF hd hρ HK KO KM KW ha2 ha3 ha4 px_pb b_pb px_rb b_rb px_wb b_wb pc_wb_1 pc_pb_0 pc_pb_1 
      go_simp
      all_goals (first | (rw [IntKind.wrap_i64]; omega) | (rw [IntKind.wrap_u64]; omega) | omega)
    · intro a W g hF hd
      refine ⟨fun _ => ?_, fun h => by rw [wanted_none rfl] at h; cases h⟩
      have h5 : a.eval (.tmp 16) = .pointer (some ⟨pb, 1, none⟩) := hd ⟨5, .data⟩ (by simp) rfl
      have kk0 := pc_pb_1 W g
      obtain ⟨ρ, hρ⟩ : ∃ ρ, a.eval = ρ := ⟨_, rfl⟩
      rw [hρ] at h5
      refine op_val ρ hρ (.int .i64 T) ?_ ⟨_, rfl, Old.refl _, rfl, (fun h => absurd h (by decide))⟩
      clear g hF hd hρ HK KO KM KW ha2 ha3 ha4 px_pb b_pb px_rb b_rb px_wb b_wb pc_wb_1 pc_pb_0 pc_pb_1 
      go_simp
      all_goals (first | (rw [IntKind.wrap_i64]; omega) | (rw [IntKind.wrap_u64]; omega) | omega)
    · intro a W g hF hd
      refine ⟨fun _ => ?_, fun h => by rw [wanted_none rfl] at h; cases h⟩
      have h6 : a.eval (.tmp 17) = .int .i64 T := hd ⟨6, .data⟩ (by simp) rfl
      have c1 : a.eval (.const (.int .i64 2)) = .int .i64 2 := rfl
      obtain ⟨ρ, hρ⟩ : ∃ ρ, a.eval = ρ := ⟨_, rfl⟩
      rw [hρ] at h6 c1
      refine op_val ρ hρ (.int .i64 (T / 2)) ?_ ⟨_, rfl, Old.refl _, rfl, (fun h => absurd h (by decide))⟩
      clear g hF hd hρ HK KO KM KW ha2 ha3 ha4 px_pb b_pb px_rb b_rb px_wb b_wb pc_wb_1 pc_pb_0 pc_pb_1 
      go_simp
      all_goals (first | (rw [IntKind.wrap_i64]; omega) | (rw [IntKind.wrap_u64]; omega) | omega)
    · intro a W g hF hd
      refine ⟨fun _ => ?_, fun h => by rw [wanted_none rfl] at h; cases h⟩
      have h4 : a.eval (.tmp 15) = .int .i64 N := hd ⟨4, .data⟩ (by simp) rfl
      have h7 : a.eval (.tmp 18) = .int .i64 (T / 2) := hd ⟨7, .data⟩ (by simp) rfl
      obtain ⟨ρ, hρ⟩ : ∃ ρ, a.eval = ρ := ⟨_, rfl⟩
      rw [hρ] at h4 h7
      refine op_val ρ hρ (.int .i64 (N * (T / 2))) ?_ ⟨_, rfl, Old.refl _, rfl, (fun h => absurd h (by decide))⟩
      clear g hF hd hρ HK KO KM KW ha2 ha3 ha4 px_pb b_pb px_rb b_rb px_wb b_wb pc_wb_1 pc_pb_0 pc_pb_1 
      go_simp
      all_goals (first | (rw [IntKind.wrap_i64]; omega) | (rw [IntKind.wrap_u64]; omega) | omega)
    · intro a W g hF hd
      refine ⟨fun _ => ?_, fun h => by rw [wanted_none rfl] at h; cases h⟩
      have h8 : a.eval (.tmp 19) = .int .i64 (N * (T / 2)) := hd ⟨8, .data⟩ (by simp) rfl
      refine op_call_ret (R := fun v w' => Old W w' ∧ PO w' v) Tryz.call86 (vs := #[.int .i64 (N * (T / 2))]) (by simp [h8]) (KO W g) ?_
      rintro x w' ⟨g', hp⟩
      exact ⟨_, rfl, g', hp, (fun h => absurd h (by decide))⟩
    · intro a W g hF hd
      refine ⟨fun _ => ?_, fun h => by rw [wanted_none rfl] at h; cases h⟩
      have h2 : a.eval (.tmp 13) = .slice a1 l1 c1 := hd ⟨2, .data⟩ (by simp) rfl
      have p9 : PO W (a.eval (.tmp 20)) := hd ⟨9, .data⟩ (by simp) rfl
      refine op_call_ret (R := fun v w' => Old W w' ∧ PS w' v) Tryz.call90 (vs := #[.slice a1 l1 c1, a.eval (.tmp 20)]) (by simp [h2]) (KM W g _ p9) ?_
      rintro x w' ⟨g', hp⟩
      exact ⟨_, rfl, g', hp, (fun h => absurd h (by decide))⟩
    · intro a W g hF hd
      refine ⟨fun _ => ?_, fun h => by rw [wanted_none rfl] at h; cases h⟩
      have h0 : a.eval (.tmp 11) = .agg #[.int .i64 N, .int .i64 T, .int .i64 E, .slice a0 l0 c0] := hd ⟨0, .data⟩ (by simp) rfl
      have p10 : PS W (a.eval (.tmp 21)) := hd ⟨10, .data⟩ (by simp) rfl
      refine op_call_ret (R := fun v w' => Old W w' ∧ PW w' v) Tryz.call81 (vs := #[.agg #[.int .i64 N, .int .i64 T, .int .i64 E, .slice a0 l0 c0], a.eval (.tmp 21)]) (by simp [h0]) (KW W g _ p10) ?_
      rintro x w' ⟨g', hp⟩
      exact ⟨_, rfl, g', hp, (fun h => absurd h (by decide))⟩
    · intro a W g hF hd
      refine ⟨fun _ => ?_, fun h => by rw [wanted_none rfl] at h; cases h⟩
      obtain ⟨v1, v2, ht, p1, p2⟩ := hT_PW W _ (hd ⟨11, .data⟩ (by simp) rfl)
      exact op_extract ht rfl ⟨_, rfl, Old.refl _, p1, (fun h => absurd h (by decide))⟩
    · intro a W g hF hd
      refine ⟨fun _ => ?_, fun h => by rw [wanted_none rfl] at h; cases h⟩
      obtain ⟨v1, v2, ht, p1, p2⟩ := hT_PW W _ (hd ⟨11, .data⟩ (by simp) rfl)
      exact op_extract ht rfl ⟨_, rfl, Old.refl _, p2, (fun h => absurd h (by decide))⟩
  · intro a W g hF hq hne
    have hput := fram_put (show Fram 14 slotMg b0 a from hF) (fun i j hi hj => slotMg_inj i hi j hj)
    obtain ⟨cs, ecs, hcs1, hcs2⟩ := hA_PA W _ (hq 12 (by decide))
    have hpc := hq 12 (by decide)
    rw [show a.eval (.tmp (slotMg 12)) = .agg cs from ecs] at hpc
    have hk := HK.out (fun i => a.eval (.tmp (slotMg i))) W cs g hpc 
    rw [← hput] at hk
    refine op_store (k := rb) ((hF.same 4 slotMg_no4).trans ha4) ecs (px_rb W g) (by rw [hcs1]; kernel_rfl) (by rw [hcs1]; rfl) hcs2 ?_
    show tailWp _ _ _ _ _
    refine op_assign ?_
    show tailWp _ _ _ _ _
    show tailWp _ _ _ (Act.put a (some 5) (a.eval (.tmp 24))) _
    rw [show a.eval (.tmp 24) = .bool true from hq 13 (by decide)]
    exact hk
end Go.Proofs.YtpcpahgflkjnaaaGreatDoor
