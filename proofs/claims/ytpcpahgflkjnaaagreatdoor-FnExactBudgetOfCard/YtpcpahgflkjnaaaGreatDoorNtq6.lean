/- Proved: drawn regions of the model's BudgetOf and DepthOf, and of the program's BudgetOf. -/
import Derived.Test.YtpcpahgflkjnaaaGreatDoorB05
import Derived.Test.YtpcpahgflkjnaaaGreatDoorMlr
import Derived.Test.YtpcpahgflkjnaaaGreatDoorB07
import Derived.KernelRfl
namespace Go.Proofs.YtpcpahgflkjnaaaGreatDoor
open Go.ChangeShapes Go.WideShapes Go.ChangeAt Go.RowKit
set_option linter.unusedVariables false
set_option linter.unusedSimpArgs false
def slotMk (i : Nat) : Nat := [11, 12, 13, 14, 15, 16, 17, 6].getD i 0
theorem slotMk_lt : ∀ i, i < 8 → slotMk i < 21 := by decide
theorem slotMk_inj : ∀ i, i < 8 → ∀ j, j < 8 → slotMk i = slotMk j → i = j := by decide
theorem slotMk_no2 : ∀ i, i < 8 → slotMk i ≠ 2 := by decide
theorem slotMk_no3 : ∀ i, i < 8 → slotMk i ≠ 3 := by decide
def qMk (N T E : Int) (a0 : Option Addr) (l0 c0 pb : Nat) (wb : Nat) (nb : Bool) (a1 : Option Addr) (l1 c1 : Nat) (xa ya : Int) (PL : World → Value → Prop) (i : Nat) (W : World) (x : Value) : Prop :=
  match i with
  | 0 => x = .agg #[.int .i64 N, .int .i64 T, .int .i64 E, .slice a0 l0 c0]
  | 1 => PL W x
  | 2 => x = .int .i64 xa
  | 3 => x = .pointer (some ⟨wb, 1, none⟩)
  | 4 => x = .slice a1 l1 c1
  | 5 => x = .int .i64 ya
  | 6 => x = .int .i64 (xa - ya)
  | 7 => x = .int .i64 (xa - ya)
  | _ => True
theorem qMk_old (N T E : Int) (a0 : Option Addr) (l0 c0 pb : Nat) (wb : Nat) (nb : Bool) (a1 : Option Addr) (l1 c1 : Nat) (xa ya : Int) (PL : World → Value → Prop) (hM_PL : ∀ W W' v, PL W v → Old W W' → PL W' v) (i : Nat) (W W' : World) (x : Value) (h : qMk N T E a0 l0 c0 pb wb nb a1 l1 c1 xa ya PL i W x) (qo : Old W W') : qMk N T E a0 l0 c0 pb wb nb a1 l1 c1 xa ya PL i W' x := by
  unfold qMk at h ⊢
  split at h
  case h_2 => exact hM_PL _ _ _ h qo
  all_goals first | exact h | trivial
set_option maxRecDepth 100000 in
set_option maxHeartbeats 8000000 in
theorem reg_Mk (w0 : World) (N T E : Int) (a0 : Option Addr) (l0 c0 pb : Nat) (wb : Nat) (nb : Bool) (a1 : Option Addr) (l1 c1 : Nat) (xa ya : Int) (PL : World → Value → Prop) (hM_PL : ∀ W W' v, PL W v → Old W W' → PL W' v)   (b_pb : w0.heap[pb]? = some (.cells #[.int .i64 N, .int .i64 T, .int .i64 E, .slice a0 l0 c0] 34 (0, 0))) (b_wb : w0.heap[wb]? = some (.cells #[.bool nb, .slice a1 l1 c1] 31 (0, 0))) 
    (hx : 0 ≤ xa ∧ xa ≤ 1048576) (hy : 0 ≤ ya ∧ ya ≤ 1048576)
    (KL : ∀ W, Old w0 W → Calls Tryz.prog 78 #[.agg #[.int .i64 N, .int .i64 T, .int .i64 E, .slice a0 l0 c0]] W fun e w' => ∃ v, e = .returned v ∧ Old W w' ∧ PL w' v)
    (KX : ∀ W, Old w0 W → ∀ (u1 : Value), PL W u1 → Calls Tryz.prog 97 #[u1] W fun e w' => e = .returned (.int .i64 xa) ∧ Old W w')
    (KY : ∀ W, Old w0 W → Calls Tryz.prog 97 #[.slice a1 l1 c1] W fun e w' => e = .returned (.int .i64 ya) ∧ Old W w')
    (Q : Exit → Act → World → Prop) (b0 : Act) (hsz : b0.tmps.size = 21) (ha2 : b0.eval (.tmp 2) = .pointer (some ⟨pb, 0, none⟩)) (ha3 : b0.eval (.tmp 3) = .pointer (some ⟨wb, 0, none⟩))
    (HK : Hid (∀ (us : Nat → Value) (W : World) , Old w0 W → us 7 = .int .i64 (xa - ya) → Q .normal (putAll b0 ((List.range 8).map fun i => (slotMk i, us i))) W)) :
    Code.wp Tryz.prog ((Tryz.f43.body.bind (regionAtmul 3)).getD .skip) Q b0 w0 := by
  conv => arg 2; whnf
  have px_pb : ∀ W, Old w0 W → W.heap[pb]? = some (.cells #[.int .i64 N, .int .i64 T, .int .i64 E, .slice a0 l0 c0] 34 (0, 0)) := fun W g => (g.block pb (lt_of_some b_pb)).trans b_pb
  have px_wb : ∀ W, Old w0 W → W.heap[wb]? = some (.cells #[.bool nb, .slice a1 l1 c1] 31 (0, 0)) := fun W g => (g.block wb (lt_of_some b_wb)).trans b_wb
  have pc_wb_1 : ∀ W, Old w0 W → W.cell? ⟨wb, 1, none⟩ = some (.slice a1 l1 c1) := fun W g => cell_of_row W wb 1 _ _ (0, 0) (px_wb W g)
  refine wp_region_old (by kernel_rfl) (by kernel_rfl) (by kernel_rfl) slotMk (fun i hi => by rw [hsz]; exact slotMk_lt i hi) (fun i j hi hj => slotMk_inj i hi j hj) (qMk N T E a0 l0 c0 pb wb nb a1 l1 c1 xa ya PL ) (qMk_old N T E a0 l0 c0 pb wb nb a1 l1 c1 xa ya PL hM_PL) ?_ ?_
  · refine ⟨?_, ?_, ?_, ?_, ?_, ?_, ?_, ?_, trivial⟩
    · intro a W g hF hd
      have e2 := (hF.same 2 slotMk_no2).trans ha2
      refine op_load (k := pb) e2 (px_pb W g) Tryz.underlying34 rfl (by kernel_rfl) ?_
      exact ⟨_, rfl, Old.refl _, rfl⟩
    · intro a W g hF hd
      have h0 : a.eval (.tmp 11) = .agg #[.int .i64 N, .int .i64 T, .int .i64 E, .slice a0 l0 c0] := hd ⟨0, .data⟩ (by simp) rfl
      refine op_call_ret (R := fun v w' => Old W w' ∧ PL w' v) Tryz.call78 (vs := #[.agg #[.int .i64 N, .int .i64 T, .int .i64 E, .slice a0 l0 c0]]) (by simp [h0]) (KL W g) ?_
      rintro x w' ⟨g', hp⟩
      exact ⟨_, rfl, g', hp⟩
    · intro a W g hF hd
      have p1 : PL W (a.eval (.tmp 12)) := hd ⟨1, .data⟩ (by simp) rfl
      refine op_call_ret (R := fun v w' => v = .int .i64 xa ∧ Old W w') Tryz.call97 (vs := #[a.eval (.tmp 12)]) (by simp) ((KX W g _ p1).mono fun e w' h => ⟨_, h.1, rfl, h.2⟩) ?_
      rintro x w' ⟨rfl, g'⟩
      exact ⟨_, rfl, g', rfl⟩
    · intro a W g hF hd
      have e3 := (hF.same 3 slotMk_no3).trans ha3
      obtain ⟨ρ, hρ⟩ : ∃ ρ, a.eval = ρ := ⟨_, rfl⟩
      rw [hρ] at e3
      refine op_val ρ hρ (.pointer (some ⟨wb, 1, none⟩)) ?_ ⟨_, rfl, Old.refl _, rfl⟩
      clear g hF hd hρ HK KL KX KY ha2 ha3 px_pb b_pb px_wb b_wb pc_wb_1 
      go_simp
      all_goals (first | (rw [IntKind.wrap_i64]; omega) | (rw [IntKind.wrap_u64]; omega) | omega)
    · intro a W g hF hd
      have h3 : a.eval (.tmp 14) = .pointer (some ⟨wb, 1, none⟩) := hd ⟨3, .data⟩ (by simp) rfl
      have kk0 := pc_wb_1 W g
      obtain ⟨ρ, hρ⟩ : ∃ ρ, a.eval = ρ := ⟨_, rfl⟩
      rw [hρ] at h3
      refine op_val ρ hρ (.slice a1 l1 c1) ?_ ⟨_, rfl, Old.refl _, rfl⟩
      clear g hF hd hρ HK KL KX KY ha2 ha3 px_pb b_pb px_wb b_wb pc_wb_1 
      go_simp
      all_goals (first | (rw [IntKind.wrap_i64]; omega) | (rw [IntKind.wrap_u64]; omega) | omega)
    · intro a W g hF hd
      have h4 : a.eval (.tmp 15) = .slice a1 l1 c1 := hd ⟨4, .data⟩ (by simp) rfl
      refine op_call_ret (R := fun v w' => v = .int .i64 ya ∧ Old W w') Tryz.call97 (vs := #[.slice a1 l1 c1]) (by simp [h4]) ((KY W g).mono fun e w' h => ⟨_, h.1, rfl, h.2⟩) ?_
      rintro x w' ⟨rfl, g'⟩
      exact ⟨_, rfl, g', rfl⟩
    · intro a W g hF hd
      have h2 : a.eval (.tmp 13) = .int .i64 xa := hd ⟨2, .data⟩ (by simp) rfl
      have h5 : a.eval (.tmp 16) = .int .i64 ya := hd ⟨5, .data⟩ (by simp) rfl
      obtain ⟨ρ, hρ⟩ : ∃ ρ, a.eval = ρ := ⟨_, rfl⟩
      rw [hρ] at h2 h5
      refine op_val ρ hρ (.int .i64 (xa - ya)) ?_ ⟨_, rfl, Old.refl _, rfl⟩
      clear g hF hd hρ HK KL KX KY ha2 ha3 px_pb b_pb px_wb b_wb pc_wb_1 
      go_simp
      all_goals (first | (rw [IntKind.wrap_i64]; omega) | (rw [IntKind.wrap_u64]; omega) | omega)
    · intro a W g hF hd
      refine op_assign ?_
      exact ⟨_, rfl, Old.refl _, hd ⟨6, .data⟩ (by simp) rfl⟩
  · intro a W g hF hq
    have hput := fram_put (show Fram 8 slotMk b0 a from hF) (fun i j hi hj => slotMk_inj i hi j hj)
    have hk := HK.out (fun i => a.eval (.tmp (slotMk i))) W g  (hq 7 (by decide))
    rw [← hput] at hk
    exact hk
def slotBo (i : Nat) : Nat := [27, 28, 29, 30, 31, 32, 33, 34, 4, 5].getD i 0
theorem slotBo_lt : ∀ i, i < 10 → slotBo i < 35 := by decide
theorem slotBo_inj : ∀ i, i < 10 → ∀ j, j < 10 → slotBo i = slotBo j → i = j := by decide
theorem slotBo_no3 : ∀ i, i < 10 → slotBo i ≠ 3 := by decide
theorem slotBo_no6 : ∀ i, i < 10 → slotBo i ≠ 6 := by decide
def qBo (N T E : Int) (a3 : Option Addr) (l3 c3 : Nat) (a4 : Option Addr) (l4 c4 : Nat) (a6 : Option Addr) (l6 c6 bx : Nat) (wb : Nat) (nb : Bool) (a1 : Option Addr) (l1 c1 : Nat) (SL : Array Value) (xa ya : Int) (PW : World → Value → Prop) (i : Nat) (W : World) (x : Value) : Prop :=
  match i with
  | 0 => x = .agg #[.int .i64 N, .int .i64 T, .int .i64 E, .slice a3 l3 c3, .slice a4 l4 c4, .bool false, .slice a6 l6 c6]
  | 1 => x = .agg SL
  | 2 => PW W x
  | 3 => x = .int .i64 xa
  | 4 => x = .agg #[.bool nb, .slice a1 l1 c1]
  | 5 => x = .int .i64 ya
  | 6 => x = .int .i64 (xa - ya)
  | 7 => x = .int .i64 (if 0 < xa - ya then xa - ya else 0)
  | 8 => x = .int .i64 (if 0 < xa - ya then xa - ya else 0)
  | 9 => x = .bool true
  | _ => True
theorem qBo_old (N T E : Int) (a3 : Option Addr) (l3 c3 : Nat) (a4 : Option Addr) (l4 c4 : Nat) (a6 : Option Addr) (l6 c6 bx : Nat) (wb : Nat) (nb : Bool) (a1 : Option Addr) (l1 c1 : Nat) (SL : Array Value) (xa ya : Int) (PW : World → Value → Prop) (hM_PW : ∀ W W' v, PW W v → Old W W' → PW W' v) (i : Nat) (W W' : World) (x : Value) (h : qBo N T E a3 l3 c3 a4 l4 c4 a6 l6 c6 bx wb nb a1 l1 c1 SL xa ya PW i W x) (qo : Old W W') : qBo N T E a3 l3 c3 a4 l4 c4 a6 l6 c6 bx wb nb a1 l1 c1 SL xa ya PW i W' x := by
  unfold qBo at h ⊢
  split at h
  case h_3 => exact hM_PW _ _ _ h qo
  all_goals first | exact h | trivial
set_option maxRecDepth 100000 in
set_option maxHeartbeats 8000000 in
theorem reg_Bo (w0 : World) (N T E : Int) (a3 : Option Addr) (l3 c3 : Nat) (a4 : Option Addr) (l4 c4 : Nat) (a6 : Option Addr) (l6 c6 bx : Nat) (wb : Nat) (nb : Bool) (a1 : Option Addr) (l1 c1 : Nat) (SL : Array Value) (xa ya : Int) (PW : World → Value → Prop) (hM_PW : ∀ W W' v, PW W v → Old W W' → PW W' v)   (b_bx : w0.heap[bx]? = some (.cells #[.int .i64 N, .int .i64 T, .int .i64 E, .slice a3 l3 c3, .slice a4 l4 c4, .bool false, .slice a6 l6 c6] 87 (0, 0))) (b_wb : w0.heap[wb]? = some (.cells #[.bool nb, .slice a1 l1 c1] 31 (0, 0))) 
    (hx : 0 ≤ xa ∧ xa ≤ 1048576) (hy : 0 ≤ ya ∧ ya ≤ 1048576)
    (KL : ∀ W, Old w0 W → Calls Tryz.prog 80 #[.agg #[.int .i64 N, .int .i64 T, .int .i64 E, .slice a3 l3 c3, .slice a4 l4 c4, .bool false, .slice a6 l6 c6]] W fun e w' => e = .returned (.agg SL) ∧ Old W w')
    (KW : ∀ W, Old w0 W → Calls Tryz.prog 79 #[.bool false, .agg SL] W fun e w' => ∃ v, e = .returned v ∧ Old W w' ∧ PW w' v)
    (KX : ∀ W, Old w0 W → ∀ (u2 : Value), PW W u2 → Calls Tryz.prog 98 #[u2] W fun e w' => e = .returned (.int .i64 xa) ∧ Old W w')
    (KY : ∀ W, Old w0 W → Calls Tryz.prog 98 #[.agg #[.bool nb, .slice a1 l1 c1]] W fun e w' => e = .returned (.int .i64 ya) ∧ Old W w')
    (Q : Exit → Act → World → Prop) (b0 : Act) (hsz : b0.tmps.size = 35) (ha3 : b0.eval (.tmp 3) = .pointer (some ⟨wb, 0, none⟩)) (ha6 : b0.eval (.tmp 6) = .pointer (some ⟨bx, 0, none⟩))
    (HK : Hid (∀ (us : Nat → Value) (W : World) , Old w0 W → us 8 = .int .i64 (if 0 < xa - ya then xa - ya else 0) → us 9 = .bool true → Q .normal (putAll b0 ((List.range 10).map fun i => (slotBo i, us i))) W)) :
    Code.wp Tryz.prog ((Tryz.f44.body.bind (regionAtmul 5)).getD .skip) Q b0 w0 := by
  conv => arg 2; whnf
  have px_bx : ∀ W, Old w0 W → W.heap[bx]? = some (.cells #[.int .i64 N, .int .i64 T, .int .i64 E, .slice a3 l3 c3, .slice a4 l4 c4, .bool false, .slice a6 l6 c6] 87 (0, 0)) := fun W g => (g.block bx (lt_of_some b_bx)).trans b_bx
  have px_wb : ∀ W, Old w0 W → W.heap[wb]? = some (.cells #[.bool nb, .slice a1 l1 c1] 31 (0, 0)) := fun W g => (g.block wb (lt_of_some b_wb)).trans b_wb
  refine wp_region_old (by kernel_rfl) (by kernel_rfl) (by kernel_rfl) slotBo (fun i hi => by rw [hsz]; exact slotBo_lt i hi) (fun i j hi hj => slotBo_inj i hi j hj) (qBo N T E a3 l3 c3 a4 l4 c4 a6 l6 c6 bx wb nb a1 l1 c1 SL xa ya PW ) (qBo_old N T E a3 l3 c3 a4 l4 c4 a6 l6 c6 bx wb nb a1 l1 c1 SL xa ya PW hM_PW) ?_ ?_
  · refine ⟨?_, ?_, ?_, ?_, ?_, ?_, ?_, ?_, ?_, ?_, trivial⟩
    · intro a W g hF hd
      have e6 := (hF.same 6 slotBo_no6).trans ha6
      refine op_load (k := bx) e6 (px_bx W g) Tryz.underlying87 rfl (by kernel_rfl) ?_
      exact ⟨_, rfl, Old.refl _, rfl⟩
    · intro a W g hF hd
      have h0 : a.eval (.tmp 27) = .agg #[.int .i64 N, .int .i64 T, .int .i64 E, .slice a3 l3 c3, .slice a4 l4 c4, .bool false, .slice a6 l6 c6] := hd ⟨0, .data⟩ (by simp) rfl
      refine op_call_ret (R := fun v w' => v = .agg SL ∧ Old W w') Tryz.call80 (vs := #[.agg #[.int .i64 N, .int .i64 T, .int .i64 E, .slice a3 l3 c3, .slice a4 l4 c4, .bool false, .slice a6 l6 c6]]) (by simp [h0]) ((KL W g).mono fun e w' h => ⟨_, h.1, rfl, h.2⟩) ?_
      rintro x w' ⟨rfl, g'⟩
      exact ⟨_, rfl, g', rfl⟩
    · intro a W g hF hd
      have c0 : a.eval (.const (.bool false)) = .bool false := rfl
      have h1 : a.eval (.tmp 28) = .agg SL := hd ⟨1, .data⟩ (by simp) rfl
      refine op_call_ret (R := fun v w' => Old W w' ∧ PW w' v) Tryz.call79 (vs := #[.bool false, .agg SL]) (by simp [c0, h1]) (KW W g) ?_
      rintro x w' ⟨g', hp⟩
      exact ⟨_, rfl, g', hp⟩
    · intro a W g hF hd
      have p2 : PW W (a.eval (.tmp 29)) := hd ⟨2, .data⟩ (by simp) rfl
      refine op_call_ret (R := fun v w' => v = .int .i64 xa ∧ Old W w') Tryz.call98 (vs := #[a.eval (.tmp 29)]) (by simp) ((KX W g _ p2).mono fun e w' h => ⟨_, h.1, rfl, h.2⟩) ?_
      rintro x w' ⟨rfl, g'⟩
      exact ⟨_, rfl, g', rfl⟩
    · intro a W g hF hd
      have e3 := (hF.same 3 slotBo_no3).trans ha3
      refine op_load (k := wb) e3 (px_wb W g) Tryz.underlying31 rfl (by kernel_rfl) ?_
      exact ⟨_, rfl, Old.refl _, rfl⟩
    · intro a W g hF hd
      have h4 : a.eval (.tmp 31) = .agg #[.bool nb, .slice a1 l1 c1] := hd ⟨4, .data⟩ (by simp) rfl
      refine op_call_ret (R := fun v w' => v = .int .i64 ya ∧ Old W w') Tryz.call98 (vs := #[.agg #[.bool nb, .slice a1 l1 c1]]) (by simp [h4]) ((KY W g).mono fun e w' h => ⟨_, h.1, rfl, h.2⟩) ?_
      rintro x w' ⟨rfl, g'⟩
      exact ⟨_, rfl, g', rfl⟩
    · intro a W g hF hd
      have h3 : a.eval (.tmp 30) = .int .i64 xa := hd ⟨3, .data⟩ (by simp) rfl
      have h5 : a.eval (.tmp 32) = .int .i64 ya := hd ⟨5, .data⟩ (by simp) rfl
      obtain ⟨ρ, hρ⟩ : ∃ ρ, a.eval = ρ := ⟨_, rfl⟩
      rw [hρ] at h3 h5
      refine op_val ρ hρ (.int .i64 (xa - ya)) ?_ ⟨_, rfl, Old.refl _, rfl⟩
      clear g hF hd hρ HK KL KW KX KY ha3 ha6 px_bx b_bx px_wb b_wb  
      go_simp
      all_goals (first | (rw [IntKind.wrap_i64]; omega) | (rw [IntKind.wrap_u64]; omega) | omega)
    · intro a W g hF hd
      have c0 : a.eval (.const (.int .i64 0)) = .int .i64 0 := rfl
      have h6 : a.eval (.tmp 33) = .int .i64 (xa - ya) := hd ⟨6, .data⟩ (by simp) rfl
      obtain ⟨ρ, hρ⟩ : ∃ ρ, a.eval = ρ := ⟨_, rfl⟩
      rw [hρ] at c0 h6
      refine op_val ρ hρ (.int .i64 (if 0 < xa - ya then xa - ya else 0)) ?_ ⟨_, rfl, Old.refl _, rfl⟩
      clear g hF hd hρ HK KL KW KX KY ha3 ha6 px_bx b_bx px_wb b_wb  
      go_simp
      all_goals (first | (rw [IntKind.wrap_i64]; omega) | (rw [IntKind.wrap_u64]; omega) | omega)
    · intro a W g hF hd
      refine op_assign ?_
      exact ⟨_, rfl, Old.refl _, hd ⟨7, .data⟩ (by simp) rfl⟩
    · intro a W g hF hd
      have c0 : a.eval (.const (.bool true)) = .bool true := rfl
      refine op_assign ?_
      exact ⟨_, rfl, Old.refl _, c0⟩
  · intro a W g hF hq
    have hput := fram_put (show Fram 10 slotBo b0 a from hF) (fun i j hi hj => slotBo_inj i hi j hj)
    have hk := HK.out (fun i => a.eval (.tmp (slotBo i))) W g  (hq 8 (by decide)) (hq 9 (by decide))
    rw [← hput] at hk
    exact hk
end Go.Proofs.YtpcpahgflkjnaaaGreatDoor
