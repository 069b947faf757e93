/- Proved: several texts in one: what each proves is said ahead of it. -/
import Derived.Test.YtpcpahgflkjnaaaGreatDoorB05
import Derived.Test.YtpcpahgflkjnaaaGreatDoorMlr
import Derived.Test.YtpcpahgflkjnaaaGreatDoorB07
import Derived.KernelRfl
import Derived.Test.YtpcpahgflkjnaaaGreatDoorB08
/- Proved: drawn regions of the program's bounds. -/
namespace Go.Proofs.YtpcpahgflkjnaaaGreatDoor
open Go.ChangeShapes Go.WideShapes Go.ChangeAt Go.RowKit
set_option linter.unusedVariables false
set_option linter.unusedSimpArgs false
def slotPp (i : Nat) : Nat := [5, 6, 7, 8, 9].getD i 0
theorem slotPp_lt : ∀ i, i < 5 → slotPp i < 10 := by decide
theorem slotPp_inj : ∀ i, i < 5 → ∀ j, j < 5 → slotPp i = slotPp j → i = j := by decide
theorem slotPp_no2 : ∀ i, i < 5 → slotPp i ≠ 2 := by decide
theorem slotPp_no3 : ∀ i, i < 5 → slotPp i ≠ 3 := by decide
theorem slotPp_no4 : ∀ i, i < 5 → slotPp i ≠ 4 := by decide
def qPp (N T E : Int) (a3 : Option Addr) (l3 c3 : Nat) (a4 : Option Addr) (l4 c4 : Nat) (a6 : Option Addr) (l6 c6 bx : Nat) (rb sb : Nat) (S0 SR Z : Array Value) (m : Int)  (i : Nat) (W : World) (x : Value) : Prop :=
  match i with
  | 0 => x = .agg #[.int .i64 N, .int .i64 T, .int .i64 E, .slice a3 l3 c3, .slice a4 l4 c4, .bool false, .slice a6 l6 c6]
  | 1 => x = .agg S0
  | 2 => x = .agg #[.int .i64 N, .int .i64 T, .int .i64 E, .slice a3 l3 c3, .slice a4 l4 c4, .bool false, .slice a6 l6 c6]
  | 3 => x = .int .i64 m
  | 4 => x = .agg SR
  | _ => True
theorem qPp_old (N T E : Int) (a3 : Option Addr) (l3 c3 : Nat) (a4 : Option Addr) (l4 c4 : Nat) (a6 : Option Addr) (l6 c6 bx : Nat) (rb sb : Nat) (S0 SR Z : Array Value) (m : Int)   (i : Nat) (W W' : World) (x : Value) (h : qPp N T E a3 l3 c3 a4 l4 c4 a6 l6 c6 bx rb sb S0 SR Z m  i W x) (qo : Old W W') : qPp N T E a3 l3 c3 a4 l4 c4 a6 l6 c6 bx rb sb S0 SR Z m  i W' x := by
  unfold qPp at h ⊢
  split at h
  all_goals first | exact h | trivial
set_option maxRecDepth 100000 in
set_option maxHeartbeats 8000000 in
theorem reg_Pp (w0 : World) (N T E : Int) (a3 : Option Addr) (l3 c3 : Nat) (a4 : Option Addr) (l4 c4 : Nat) (a6 : Option Addr) (l6 c6 bx : Nat) (rb sb : Nat) (S0 SR Z : Array Value) (m : Int)     (b_bx : w0.heap[bx]? = some (.cells #[.int .i64 N, .int .i64 T, .int .i64 E, .slice a3 l3 c3, .slice a4 l4 c4, .bool false, .slice a6 l6 c6] 87 (0, 0))) (b_rb : w0.heap[rb]? = some (.cells Z 113 (0, 0))) (hS_rb : Z.size = 81) (b_sb : w0.heap[sb]? = some (.cells S0 113 (0, 0))) (hS_sb : S0.size = 81) (hZ_SR : (SR).size = 81 ∧ (SR).all (·.oneCell') = true)
    
    (KP : ∀ W, Old w0 W → Calls Tryz.prog 143 #[.agg #[.int .i64 N, .int .i64 T, .int .i64 E, .slice a3 l3 c3, .slice a4 l4 c4, .bool false, .slice a6 l6 c6]] W fun e w' => e = .returned (.int .i64 m) ∧ Old W w')
    (KR : ∀ W, Old w0 W → Calls Tryz.prog 142 #[.agg #[.int .i64 N, .int .i64 T, .int .i64 E, .slice a3 l3 c3, .slice a4 l4 c4, .bool false, .slice a6 l6 c6], .agg S0, .int .i64 m] W fun e w' => e = .returned (.agg SR) ∧ Old W w')
    (Q : Exit → Act → World → Prop) (b0 : Act) (hsz : b0.tmps.size = 10) (ha2 : b0.eval (.tmp 2) = .pointer (some ⟨bx, 0, none⟩)) (ha3 : b0.eval (.tmp 3) = .pointer (some ⟨sb, 0, none⟩)) (ha4 : b0.eval (.tmp 4) = .pointer (some ⟨rb, 0, none⟩))
    (HK : Hid (∀ (us : Nat → Value) (W : World) , Old w0 W → Q .normal (putAll b0 ((List.range 5).map fun i => (slotPp i, us i))) (W.setRow rb SR))) :
    Code.wp Tryz.prog ((Tryz.f89.body.bind (regionAtmul 1)).getD .skip) Q b0 w0 := by
  conv => arg 2; whnf
  have px_bx : ∀ W, Old w0 W → W.heap[bx]? = some (.cells #[.int .i64 N, .int .i64 T, .int .i64 E, .slice a3 l3 c3, .slice a4 l4 c4, .bool false, .slice a6 l6 c6] 87 (0, 0)) := fun W g => (g.block bx (lt_of_some b_bx)).trans b_bx
  have px_rb : ∀ W, Old w0 W → W.heap[rb]? = some (.cells Z 113 (0, 0)) := fun W g => (g.block rb (lt_of_some b_rb)).trans b_rb
  have px_sb : ∀ W, Old w0 W → W.heap[sb]? = some (.cells S0 113 (0, 0)) := fun W g => (g.block sb (lt_of_some b_sb)).trans b_sb
  refine wp_region_tailG 5 (by decide) (by kernel_rfl) (by kernel_rfl) (by kernel_rfl) (by kernel_rfl) (by kernel_rfl) slotPp (fun i hi => by rw [hsz]; exact slotPp_lt i hi) (fun i j hi hj => slotPp_inj i hi j hj) (qPp N T E a3 l3 c3 a4 l4 c4 a6 l6 c6 bx rb sb S0 SR Z m  ) (qPp_old N T E a3 l3 c3 a4 l4 c4 a6 l6 c6 bx rb sb S0 SR Z m  ) [] (fun i W v hi hq => by cases hi) ?_ ?_
  · refine ⟨?_, ?_, ?_, ?_, ?_, trivial⟩
    · intro a W g hF hd
      refine ⟨fun _ => ?_, fun h => by rw [wanted_none rfl] at h; cases h⟩
      have e2 := (hF.same 2 slotPp_no2).trans ha2
      refine op_load (k := bx) e2 (px_bx W g) Tryz.underlying87 rfl (by kernel_rfl) ?_
      exact ⟨_, rfl, Old.refl _, rfl, (fun h => absurd h (by decide))⟩
    · intro a W g hF hd
      refine ⟨fun _ => ?_, fun h => by rw [wanted_none rfl] at h; cases h⟩
      have e3 := (hF.same 3 slotPp_no3).trans ha3
      refine op_load (k := sb) e3 (px_sb W g) Tryz.underlying113 rfl (by rw [hS_sb]; exact infoSz) ?_
      exact ⟨_, rfl, Old.refl _, rfl, (fun h => absurd h (by decide))⟩
    · intro a W g hF hd
      refine ⟨fun _ => ?_, fun h => by rw [wanted_none rfl] at h; cases h⟩
      have e2 := (hF.same 2 slotPp_no2).trans ha2
      refine op_load (k := bx) e2 (px_bx W g) Tryz.underlying87 rfl (by kernel_rfl) ?_
      exact ⟨_, rfl, Old.refl _, rfl, (fun h => absurd h (by decide))⟩
    · intro a W g hF hd
      refine ⟨fun _ => ?_, fun h => by rw [wanted_none rfl] at h; cases h⟩
      have h2 : a.eval (.tmp 7) = .agg #[.int .i64 N, .int .i64 T, .int .i64 E, .slice a3 l3 c3, .slice a4 l4 c4, .bool false, .slice a6 l6 c6] := hd ⟨2, .data⟩ (by simp) rfl
      refine op_call_ret (R := fun v w' => v = .int .i64 m ∧ Old W w') Tryz.call143 (vs := #[.agg #[.int .i64 N, .int .i64 T, .int .i64 E, .slice a3 l3 c3, .slice a4 l4 c4, .bool false, .slice a6 l6 c6]]) (by simp [h2]) ((KP W g).mono fun e w' h => ⟨_, h.1, rfl, h.2⟩) ?_
      rintro x w' ⟨rfl, g'⟩
      exact ⟨_, rfl, g', rfl, (fun h => absurd h (by decide))⟩
    · intro a W g hF hd
      refine ⟨fun _ => ?_, fun h => by rw [wanted_none rfl] at h; cases h⟩
      have h0 : a.eval (.tmp 5) = .agg #[.int .i64 N, .int .i64 T, .int .i64 E, .slice a3 l3 c3, .slice a4 l4 c4, .bool false, .slice a6 l6 c6] := hd ⟨0, .data⟩ (by simp) rfl
      have h1 : a.eval (.tmp 6) = .agg S0 := hd ⟨1, .data⟩ (by simp) rfl
      have h3 : a.eval (.tmp 8) = .int .i64 m := hd ⟨3, .data⟩ (by simp) rfl
      refine op_call_ret (R := fun v w' => v = .agg SR ∧ Old W w') Tryz.call142 (vs := #[.agg #[.int .i64 N, .int .i64 T, .int .i64 E, .slice a3 l3 c3, .slice a4 l4 c4, .bool false, .slice a6 l6 c6], .agg S0, .int .i64 m]) (by simp [h0, h1, h3]) ((KR W g).mono fun e w' h => ⟨_, h.1, rfl, h.2⟩) ?_
      rintro x w' ⟨rfl, g'⟩
      exact ⟨_, rfl, g', rfl, (fun h => absurd h (by decide))⟩
  · intro a W g hF hq hne
    have hput := fram_put (show Fram 5 slotPp b0 a from hF) (fun i j hi hj => slotPp_inj i hi j hj)
    have hk := HK.out (fun i => a.eval (.tmp (slotPp i))) W g  
    rw [← hput] at hk
    refine op_store (k := rb) ((hF.same 4 slotPp_no4).trans ha4) (show a.eval (.tmp 9) = .agg SR from hq 4 (by decide)) (px_rb W g) (by rw [hZ_SR.1]; exact infoSz) (by rw [hZ_SR.1]; exact hS_rb) hZ_SR.2 ?_
    show tailWp _ _ _ _ _
    exact hk
end Go.Proofs.YtpcpahgflkjnaaaGreatDoor
/- Proved: drawn regions of the model's bounds. -/
namespace Go.Proofs.YtpcpahgflkjnaaaGreatDoor
open Go.ChangeShapes Go.WideShapes Go.ChangeAt Go.RowKit
set_option linter.unusedVariables false
set_option linter.unusedSimpArgs false
def slotMf (i : Nat) : Nat := [11, 12, 13, 14, 15, 16, 17, 18, 19, 20, 21, 22, 23, 24].getD i 0
theorem slotMf_lt : ∀ i, i < 14 → slotMf i < 25 := by decide
theorem slotMf_inj : ∀ i, i < 14 → ∀ j, j < 14 → slotMf i = slotMf j → i = j := by decide
theorem slotMf_no2 : ∀ i, i < 14 → slotMf i ≠ 2 := by decide
theorem slotMf_no3 : ∀ i, i < 14 → slotMf i ≠ 3 := by decide
theorem slotMf_no4 : ∀ i, i < 14 → slotMf i ≠ 4 := by decide
def qMf (N T E : Int) (a0 : Option Addr) (l0 c0 pb : Nat) (wb : Nat) (nb : Bool) (a1 : Option Addr) (l1 c1 : Nat) (rb : Nat) (r : Int) (PO : World → Value → Prop) (PS : World → Value → Prop) (PW : World → Value → Prop) (PA : World → Value → Prop) (i : Nat) (W : World) (x : Value) : Prop :=
  match i with
  | 0 => x = .agg #[.int .i64 N, .int .i64 T, .int .i64 E, .slice a0 l0 c0]
  | 1 => x = .pointer (some ⟨wb, 1, none⟩)
  | 2 => x = .slice a1 l1 c1
  | 3 => x = .agg #[.int .i64 N, .int .i64 T, .int .i64 E, .slice a0 l0 c0]
  | 4 => x = .int .i64 r
  | 5 => x = .pointer (some ⟨pb, 1, none⟩)
  | 6 => x = .int .i64 T
  | 7 => x = .int .i64 (T - 1)
  | 8 => x = .int .i64 (r * (T - 1))
  | 9 => PO W x
  | 10 => PS W x
  | 11 => PW W x
  | 12 => PA W x
  | 13 => x = .bool true
  | _ => True
theorem qMf_old (N T E : Int) (a0 : Option Addr) (l0 c0 pb : Nat) (wb : Nat) (nb : Bool) (a1 : Option Addr) (l1 c1 : Nat) (rb : Nat) (r : Int) (PO : World → Value → Prop) (PS : World → Value → Prop) (PW : World → Value → Prop) (PA : World → Value → Prop) (hM_PO : ∀ W W' v, PO W v → Old W W' → PO W' v) (hM_PS : ∀ W W' v, PS W v → Old W W' → PS W' v) (hM_PW : ∀ W W' v, PW W v → Old W W' → PW W' v) (hM_PA : ∀ W W' v, PA W v → Old W W' → PA W' v) (i : Nat) (W W' : World) (x : Value) (h : qMf N T E a0 l0 c0 pb wb nb a1 l1 c1 rb r PO PS PW PA i W x) (qo : Old W W') : qMf N T E a0 l0 c0 pb wb nb a1 l1 c1 rb r PO PS PW PA i W' x := by
  unfold qMf at h ⊢
  split at h
  case h_10 => exact hM_PO _ _ _ h qo
  case h_11 => exact hM_PS _ _ _ h qo
  case h_12 => exact hM_PW _ _ _ h qo
  case h_13 => exact hM_PA _ _ _ h qo
  all_goals first | exact h | trivial
set_option maxRecDepth 100000 in
set_option maxHeartbeats 8000000 in
theorem reg_Mf (w0 : World) (N T E : Int) (a0 : Option Addr) (l0 c0 pb : Nat) (wb : Nat) (nb : Bool) (a1 : Option Addr) (l1 c1 : Nat) (rb : Nat) (r : Int) (PO : World → Value → Prop) (PS : World → Value → Prop) (PW : World → Value → Prop) (PA : World → Value → Prop) (hM_PO : ∀ W W' v, PO W v → Old W W' → PO W' v) (hM_PS : ∀ W W' v, PS W v → Old W W' → PS W' v) (hM_PW : ∀ W W' v, PW W v → Old W W' → PW W' v) (hM_PA : ∀ W W' v, PA W v → Old W W' → PA W' v) (hT_PW : ∀ W x, PW W x → ∃ v1 v2, x = .tuple #[v1, v2] ∧ PA W v1 ∧ v2 = .bool true) (hA_PA : ∀ W x, PA W x → ∃ cs, x = .agg cs ∧ cs.size = 2 ∧ cs.all (·.oneCell') = true) (b_pb : w0.heap[pb]? = some (.cells #[.int .i64 N, .int .i64 T, .int .i64 E, .slice a0 l0 c0] 34 (0, 0))) (b_rb : w0.heap[rb]? = some (.cells #[.bool false, .slice none 0 0] 31 (0, 0))) (b_wb : w0.heap[wb]? = some (.cells #[.bool nb, .slice a1 l1 c1] 31 (0, 0))) 
    (hT : 2 ≤ T ∧ T ≤ 65536) (hm : 0 ≤ r * (T - 1) ∧ r * (T - 1) ≤ 4611686018427387904)
    (KR : ∀ W, Old w0 W → Calls Tryz.prog 87 #[.agg #[.int .i64 N, .int .i64 T, .int .i64 E, .slice a0 l0 c0]] W fun e w' => e = .returned (.int .i64 r) ∧ Old W w')
    (KO : ∀ W, Old w0 W → Calls Tryz.prog 86 #[.int .i64 (r * (T - 1))] W fun e w' => ∃ v, e = .returned v ∧ Old W w' ∧ PO w' v)
    (KA : ∀ W, Old w0 W → ∀ (u9 : Value), PO W u9 → Calls Tryz.prog 85 #[.slice a1 l1 c1, u9] W fun e w' => ∃ v, e = .returned v ∧ Old W w' ∧ PS w' v)
    (KW : ∀ W, Old w0 W → ∀ (u10 : Value), PS W u10 → Calls Tryz.prog 81 #[.agg #[.int .i64 N, .int .i64 T, .int .i64 E, .slice a0 l0 c0], u10] W fun e w' => ∃ v, e = .returned v ∧ Old W w' ∧ PW w' v)
    (Q : Exit → Act → World → Prop) (b0 : Act) (hsz : b0.tmps.size = 25) (ha2 : b0.eval (.tmp 2) = .pointer (some ⟨pb, 0, none⟩)) (ha3 : b0.eval (.tmp 3) = .pointer (some ⟨wb, 0, none⟩)) (ha4 : b0.eval (.tmp 4) = .pointer (some ⟨rb, 0, none⟩))
    (HK : Hid (∀ (us : Nat → Value) (W : World) (cs : Array Value) , Old w0 W → PA W (.agg cs) → Q .normal ((putAll b0 ((List.range 14).map fun i => (slotMf i, us i))).put (some 5) (.bool true)) (W.setRow rb cs))) :
    Code.wp Tryz.prog ((Tryz.f34.body.bind (regionAtmul 3)).getD .skip) Q b0 w0 := by
  conv => arg 2; whnf
  have px_pb : ∀ W, Old w0 W → W.heap[pb]? = some (.cells #[.int .i64 N, .int .i64 T, .int .i64 E, .slice a0 l0 c0] 34 (0, 0)) := fun W g => (g.block pb (lt_of_some b_pb)).trans b_pb
  have px_rb : ∀ W, Old w0 W → W.heap[rb]? = some (.cells #[.bool false, .slice none 0 0] 31 (0, 0)) := fun W g => (g.block rb (lt_of_some b_rb)).trans b_rb
  have px_wb : ∀ W, Old w0 W → W.heap[wb]? = some (.cells #[.bool nb, .slice a1 l1 c1] 31 (0, 0)) := fun W g => (g.block wb (lt_of_some b_wb)).trans b_wb
  have pc_wb_1 : ∀ W, Old w0 W → W.cell? ⟨wb, 1, none⟩ = some (.slice a1 l1 c1) := fun W g => cell_of_row W wb 1 _ _ (0, 0) (px_wb W g)
  have pc_pb_1 : ∀ W, Old w0 W → W.cell? ⟨pb, 1, none⟩ = some (.int .i64 T) := fun W g => cell_of_row W pb 1 _ _ (0, 0) (px_pb W g)
  refine wp_region_tailG 14 (by decide) (by kernel_rfl) (by kernel_rfl) (by kernel_rfl) (by kernel_rfl) (by kernel_rfl) slotMf (fun i hi => by rw [hsz]; exact slotMf_lt i hi) (fun i j hi hj => slotMf_inj i hi j hj) (qMf N T E a0 l0 c0 pb wb nb a1 l1 c1 rb r PO PS PW PA ) (qMf_old N T E a0 l0 c0 pb wb nb a1 l1 c1 rb r PO PS PW PA hM_PO hM_PS hM_PW hM_PA) [] (fun i W v hi hq => by cases hi) ?_ ?_
  · refine ⟨?_, ?_, ?_, ?_, ?_, ?_, ?_, ?_, ?_, ?_, ?_, ?_, ?_, ?_, trivial⟩
    · intro a W g hF hd
      refine ⟨fun _ => ?_, fun h => by rw [wanted_none rfl] at h; cases h⟩
      have e2 := (hF.same 2 slotMf_no2).trans ha2
      refine op_load (k := pb) e2 (px_pb W g) Tryz.underlying34 rfl (by kernel_rfl) ?_
      exact ⟨_, rfl, Old.refl _, rfl, (fun h => absurd h (by decide))⟩
    · intro a W g hF hd
      refine ⟨fun _ => ?_, fun h => by rw [wanted_none rfl] at h; cases h⟩
      have e3 := (hF.same 3 slotMf_no3).trans ha3
      obtain ⟨ρ, hρ⟩ : ∃ ρ, a.eval = ρ := ⟨_, rfl⟩
      rw [hρ] at e3
      refine op_val ρ hρ (.pointer (some ⟨wb, 1, none⟩)) ?_ ⟨_, rfl, Old.refl _, rfl, (fun h => absurd h (by decide))⟩
      clear g hF hd hρ HK KR KO KA KW ha2 ha3 ha4 px_pb b_pb px_rb b_rb px_wb b_wb pc_wb_1 pc_pb_1 
      go_simp
      all_goals (first | (rw [IntKind.wrap_i64]; omega) | (rw [IntKind.wrap_u64]; omega) | omega)
    · intro a W g hF hd
      refine ⟨fun _ => ?_, fun h => by rw [wanted_none rfl] at h; cases h⟩
      have h1 : a.eval (.tmp 12) = .pointer (some ⟨wb, 1, none⟩) := hd ⟨1, .data⟩ (by simp) rfl
      have kk0 := pc_wb_1 W g
      obtain ⟨ρ, hρ⟩ : ∃ ρ, a.eval = ρ := ⟨_, rfl⟩
      rw [hρ] at h1
      refine op_val ρ hρ (.slice a1 l1 c1) ?_ ⟨_, rfl, Old.refl _, rfl, (fun h => absurd h (by decide))⟩
      clear g hF hd hρ HK KR KO KA KW ha2 ha3 ha4 px_pb b_pb px_rb b_rb px_wb b_wb pc_wb_1 pc_pb_1 
      go_simp
      all_goals (first | (rw [IntKind.wrap_i64]; omega) | (rw [IntKind.wrap_u64]; omega) | omega)
    · intro a W g hF hd
      refine ⟨fun _ => ?_, fun h => by rw [wanted_none rfl] at h; cases h⟩
      have e2 := (hF.same 2 slotMf_no2).trans ha2
      refine op_load (k := pb) e2 (px_pb W g) Tryz.underlying34 rfl (by kernel_rfl) ?_
      exact ⟨_, rfl, Old.refl _, rfl, (fun h => absurd h (by decide))⟩
    · intro a W g hF hd
      refine ⟨fun _ => ?_, fun h => by rw [wanted_none rfl] at h; cases h⟩
      have h3 : a.eval (.tmp 14) = .agg #[.int .i64 N, .int .i64 T, .int .i64 E, .slice a0 l0 c0] := hd ⟨3, .data⟩ (by simp) rfl
      refine op_call_ret (R := fun v w' => v = .int .i64 r ∧ Old W w') Tryz.call87 (vs := #[.agg #[.int .i64 N, .int .i64 T, .int .i64 E, .slice a0 l0 c0]]) (by simp [h3]) ((KR W g).mono fun e w' h => ⟨_, h.1, rfl, h.2⟩) ?_
      rintro x w' ⟨rfl, g'⟩
      exact ⟨_, rfl, g', rfl, (fun h => absurd h (by decide))⟩
    · intro a W g hF hd
      refine ⟨fun _ => ?_, fun h => by rw [wanted_none rfl] at h; cases h⟩
      have e2 := (hF.same 2 slotMf_no2).trans ha2
      obtain ⟨ρ, hρ⟩ : ∃ ρ, a.eval = ρ := ⟨_, rfl⟩
      rw [hρ] at e2
      refine op_val ρ hρ (.pointer (some ⟨pb, 1, none⟩)) ?_ ⟨_, rfl, Old.refl _, rfl, (fun h => absurd h (by decide))⟩
      clear g hF hd hρ HK KR KO KA KW ha2 ha3 ha4 px_pb b_pb px_rb b_rb px_wb b_wb pc_wb_1 pc_pb_1 
      go_simp
      all_goals (first | (rw [IntKind.wrap_i64]; omega) | (rw [IntKind.wrap_u64]; omega) | omega)
    · intro a W g hF hd
      refine ⟨fun _ => ?_, fun h => by rw [wanted_none rfl] at h; cases h⟩
      have h5 : a.eval (.tmp 16) = .pointer (some ⟨pb, 1, none⟩) := hd ⟨5, .data⟩ (by simp) rfl
      have kk0 := pc_pb_1 W g
      obtain ⟨ρ, hρ⟩ : ∃ ρ, a.eval = ρ := ⟨_, rfl⟩
      rw [hρ] at h5
      refine op_val ρ hρ (.int .i64 T) ?_ ⟨_, rfl, Old.refl _, rfl, (fun h => absurd h (by decide))⟩
      clear g hF hd hρ HK KR KO KA KW ha2 ha3 ha4 px_pb b_pb px_rb b_rb px_wb b_wb pc_wb_1 pc_pb_1 
      go_simp
      all_goals (first | (rw [IntKind.wrap_i64]; omega) | (rw [IntKind.wrap_u64]; omega) | omega)
    · intro a W g hF hd
      refine ⟨fun _ => ?_, fun h => by rw [wanted_none rfl] at h; cases h⟩
      have h6 : a.eval (.tmp 17) = .int .i64 T := hd ⟨6, .data⟩ (by simp) rfl
      have c1 : a.eval (.const (.int .i64 1)) = .int .i64 1 := rfl
      obtain ⟨ρ, hρ⟩ : ∃ ρ, a.eval = ρ := ⟨_, rfl⟩
      rw [hρ] at h6 c1
      refine op_val ρ hρ (.int .i64 (T - 1)) ?_ ⟨_, rfl, Old.refl _, rfl, (fun h => absurd h (by decide))⟩
      clear g hF hd hρ HK KR KO KA KW ha2 ha3 ha4 px_pb b_pb px_rb b_rb px_wb b_wb pc_wb_1 pc_pb_1 
      go_simp
      all_goals (first | (rw [IntKind.wrap_i64]; omega) | (rw [IntKind.wrap_u64]; omega) | omega)
    · intro a W g hF hd
      refine ⟨fun _ => ?_, fun h => by rw [wanted_none rfl] at h; cases h⟩
      have h4 : a.eval (.tmp 15) = .int .i64 r := hd ⟨4, .data⟩ (by simp) rfl
      have h7 : a.eval (.tmp 18) = .int .i64 (T - 1) := hd ⟨7, .data⟩ (by simp) rfl
      obtain ⟨ρ, hρ⟩ : ∃ ρ, a.eval = ρ := ⟨_, rfl⟩
      rw [hρ] at h4 h7
      refine op_val ρ hρ (.int .i64 (r * (T - 1))) ?_ ⟨_, rfl, Old.refl _, rfl, (fun h => absurd h (by decide))⟩
      clear g hF hd hρ HK KR KO KA KW ha2 ha3 ha4 px_pb b_pb px_rb b_rb px_wb b_wb pc_wb_1 pc_pb_1 
      go_simp
      all_goals (first | (rw [IntKind.wrap_i64]; omega) | (rw [IntKind.wrap_u64]; omega) | omega)
    · intro a W g hF hd
      refine ⟨fun _ => ?_, fun h => by rw [wanted_none rfl] at h; cases h⟩
      have h8 : a.eval (.tmp 19) = .int .i64 (r * (T - 1)) := hd ⟨8, .data⟩ (by simp) rfl
      refine op_call_ret (R := fun v w' => Old W w' ∧ PO w' v) Tryz.call86 (vs := #[.int .i64 (r * (T - 1))]) (by simp [h8]) (KO W g) ?_
      rintro x w' ⟨g', hp⟩
      exact ⟨_, rfl, g', hp, (fun h => absurd h (by decide))⟩
    · intro a W g hF hd
      refine ⟨fun _ => ?_, fun h => by rw [wanted_none rfl] at h; cases h⟩
      have h2 : a.eval (.tmp 13) = .slice a1 l1 c1 := hd ⟨2, .data⟩ (by simp) rfl
      have p9 : PO W (a.eval (.tmp 20)) := hd ⟨9, .data⟩ (by simp) rfl
      refine op_call_ret (R := fun v w' => Old W w' ∧ PS w' v) Tryz.call85 (vs := #[.slice a1 l1 c1, a.eval (.tmp 20)]) (by simp [h2]) (KA W g _ p9) ?_
      rintro x w' ⟨g', hp⟩
      exact ⟨_, rfl, g', hp, (fun h => absurd h (by decide))⟩
    · intro a W g hF hd
      refine ⟨fun _ => ?_, fun h => by rw [wanted_none rfl] at h; cases h⟩
      have h0 : a.eval (.tmp 11) = .agg #[.int .i64 N, .int .i64 T, .int .i64 E, .slice a0 l0 c0] := hd ⟨0, .data⟩ (by simp) rfl
      have p10 : PS W (a.eval (.tmp 21)) := hd ⟨10, .data⟩ (by simp) rfl
      refine op_call_ret (R := fun v w' => Old W w' ∧ PW w' v) Tryz.call81 (vs := #[.agg #[.int .i64 N, .int .i64 T, .int .i64 E, .slice a0 l0 c0], a.eval (.tmp 21)]) (by simp [h0]) (KW W g _ p10) ?_
      rintro x w' ⟨g', hp⟩
      exact ⟨_, rfl, g', hp, (fun h => absurd h (by decide))⟩
    · intro a W g hF hd
      refine ⟨fun _ => ?_, fun h => by rw [wanted_none rfl] at h; cases h⟩
      obtain ⟨v1, v2, ht, p1, p2⟩ := hT_PW W _ (hd ⟨11, .data⟩ (by simp) rfl)
      exact op_extract ht rfl ⟨_, rfl, Old.refl _, p1, (fun h => absurd h (by decide))⟩
    · intro a W g hF hd
      refine ⟨fun _ => ?_, fun h => by rw [wanted_none rfl] at h; cases h⟩
      obtain ⟨v1, v2, ht, p1, p2⟩ := hT_PW W _ (hd ⟨11, .data⟩ (by simp) rfl)
      exact op_extract ht rfl ⟨_, rfl, Old.refl _, p2, (fun h => absurd h (by decide))⟩
  · intro a W g hF hq hne
    have hput := fram_put (show Fram 14 slotMf b0 a from hF) (fun i j hi hj => slotMf_inj i hi j hj)
    obtain ⟨cs, ecs, hcs1, hcs2⟩ := hA_PA W _ (hq 12 (by decide))
    have hpc := hq 12 (by decide)
    rw [show a.eval (.tmp (slotMf 12)) = .agg cs from ecs] at hpc
    have hk := HK.out (fun i => a.eval (.tmp (slotMf i))) W cs g hpc 
    rw [← hput] at hk
    refine op_store (k := rb) ((hF.same 4 slotMf_no4).trans ha4) ecs (px_rb W g) (by rw [hcs1]; kernel_rfl) (by rw [hcs1]; rfl) hcs2 ?_
    show tailWp _ _ _ _ _
    refine op_assign ?_
    show tailWp _ _ _ _ _
    show tailWp _ _ _ (Act.put a (some 5) (a.eval (.tmp 24))) _
    rw [show a.eval (.tmp 24) = .bool true from hq 13 (by decide)]
    exact hk
end Go.Proofs.YtpcpahgflkjnaaaGreatDoor
