/- Proved: several texts in one: what each proves is said ahead of it. -/
import Derived.Test.YtejhpljichmmpaaGreatDoorGx01
import Derived.KernelRfl
import Derived.Test.YtejhpljichmmpaaGreatDoorGx03
/- Proved: the two drawn regions of the model's product in a ring: a number is added to one place, or taken away. -/
namespace Go.Proofs.YtejhpljichmmpaaGreatDoor
open Go.ChangeShapes Go.WideShapes Go.ChangeAt Go.RowKit
set_option linter.unusedVariables false
set_option linter.unusedSimpArgs false
def regionAtmul (n : Nat) : Code → Option Code
  | .region i ops b => if i = n then some (.region i ops b) else none
  | .seq a b => match regionAtmul n a with
    | some c => some c
    | none => regionAtmul n b
  | .block _ c => regionAtmul n c
  | .loop c => regionAtmul n c
  | .cond _ a b => match regionAtmul n a with
    | some c => some c
    | none => regionAtmul n b
  | _ => none
end Go.Proofs.YtejhpljichmmpaaGreatDoor
/- Proved: drawn regions of the program's bounds. -/
namespace Go.Proofs.YtejhpljichmmpaaGreatDoor
open Go.ChangeShapes Go.WideShapes Go.ChangeAt Go.RowKit
set_option linter.unusedVariables false
set_option linter.unusedSimpArgs false
theorem op_guard {P : Program} {d : Option Tmp} {op : Op} {ty : TypeId} {pos : String} {af : Array Edge} {gd : Option (Nat × Bool)} {a : Act} {W : World} {K : Act → World → Prop} {Q : Exit → Act → World → Prop} (h : Oper.wp P ⟨d, op, ty, pos, af, none⟩ a W K Q) : Oper.wp P ⟨d, op, ty, pos, af, gd⟩ a W K Q := h
end Go.Proofs.YtejhpljichmmpaaGreatDoor
/- Proved: drawn regions of the law on GoodBox. -/
namespace Go.Proofs.YtejhpljichmmpaaGreatDoor
open Go.ChangeShapes Go.WideShapes Go.ChangeAt Go.RowKit
set_option linter.unusedVariables false
set_option linter.unusedSimpArgs false
def slotGbl (i : Nat) : Nat := [22, 23, 24, 25, 26].getD i 0
theorem slotGbl_lt : ∀ i, i < 5 → slotGbl i < 27 := by decide
theorem slotGbl_inj : ∀ i, i < 5 → ∀ j, j < 5 → slotGbl i = slotGbl j → i = j := by decide
theorem slotGbl_no1 : ∀ i, i < 5 → slotGbl i ≠ 1 := by decide
theorem slotGbl_no5 : ∀ i, i < 5 → slotGbl i ≠ 5 := by decide
def qGbl (xb yb : Nat) (jak jan jat jae : Int) (ja0 : Option Addr) (jal0 jac0 : Nat) (ja1 : Option Addr) (jal1 jac1 : Nat) (ja2 : Option Addr) (jal2 jac2 : Nat) (jab : Bool) (ja3 : Option Addr) (jal3 jac3 : Nat) (ja4 : Option Addr) (jal4 jac4 : Nat) (jbk jbn jbt jbe : Int) (jb0 : Option Addr) (jbl0 jbc0 : Nat) (jb1 : Option Addr) (jbl1 jbc1 : Nat) (jb2 : Option Addr) (jbl2 jbc2 : Nat) (jbb : Bool) (jb3 : Option Addr) (jbl3 jbc3 : Nat) (jb4 : Option Addr) (jbl4 jbc4 : Nat) (PX : World → Value → Prop) (i : Nat) (W : World) (x : Value) : Prop :=
  match i with
  | 0 => x = .agg #[.int .i64 jak, .int .i64 jan, .int .i64 jat, .int .i64 jae, .slice ja0 jal0 jac0, .slice ja1 jal1 jac1, .slice ja2 jal2 jac2, .bool jab, .slice ja3 jal3 jac3, .slice ja4 jal4 jac4]
  | 1 => x = .agg #[.int .i64 jbk, .int .i64 jbn, .int .i64 jbt, .int .i64 jbe, .slice jb0 jbl0 jbc0, .slice jb1 jbl1 jbc1, .slice jb2 jbl2 jbc2, .bool jbb, .slice jb3 jbl3 jbc3, .slice jb4 jbl4 jbc4]
  | 2 => PX W x
  | 3 => x = .bool true
  | 4 => x = .bool false
  | _ => True
theorem qGbl_old (xb yb : Nat) (jak jan jat jae : Int) (ja0 : Option Addr) (jal0 jac0 : Nat) (ja1 : Option Addr) (jal1 jac1 : Nat) (ja2 : Option Addr) (jal2 jac2 : Nat) (jab : Bool) (ja3 : Option Addr) (jal3 jac3 : Nat) (ja4 : Option Addr) (jal4 jac4 : Nat) (jbk jbn jbt jbe : Int) (jb0 : Option Addr) (jbl0 jbc0 : Nat) (jb1 : Option Addr) (jbl1 jbc1 : Nat) (jb2 : Option Addr) (jbl2 jbc2 : Nat) (jbb : Bool) (jb3 : Option Addr) (jbl3 jbc3 : Nat) (jb4 : Option Addr) (jbl4 jbc4 : Nat) (PX : World → Value → Prop) (hM_PX : ∀ W W' v, PX W v → Old W W' → PX W' v) (i : Nat) (W W' : World) (x : Value) (h : qGbl xb yb jak jan jat jae ja0 jal0 jac0 ja1 jal1 jac1 ja2 jal2 jac2 jab ja3 jal3 jac3 ja4 jal4 jac4 jbk jbn jbt jbe jb0 jbl0 jbc0 jb1 jbl1 jbc1 jb2 jbl2 jbc2 jbb jb3 jbl3 jbc3 jb4 jbl4 jbc4 PX i W x) (qo : Old W W') : qGbl xb yb jak jan jat jae ja0 jal0 jac0 ja1 jal1 jac1 ja2 jal2 jac2 jab ja3 jal3 jac3 ja4 jal4 jac4 jbk jbn jbt jbe jb0 jbl0 jbc0 jb1 jbl1 jbc1 jb2 jbl2 jbc2 jbb jb3 jbl3 jbc3 jb4 jbl4 jbc4 PX i W' x := by
  unfold qGbl at h ⊢
  split at h
  case h_3 => exact hM_PX _ _ _ h qo
  all_goals first | exact h | trivial
set_option maxRecDepth 100000 in
set_option maxHeartbeats 8000000 in
theorem reg_Gbl (w0 : World) (xb yb : Nat) (jak jan jat jae : Int) (ja0 : Option Addr) (jal0 jac0 : Nat) (ja1 : Option Addr) (jal1 jac1 : Nat) (ja2 : Option Addr) (jal2 jac2 : Nat) (jab : Bool) (ja3 : Option Addr) (jal3 jac3 : Nat) (ja4 : Option Addr) (jal4 jac4 : Nat) (jbk jbn jbt jbe : Int) (jb0 : Option Addr) (jbl0 jbc0 : Nat) (jb1 : Option Addr) (jbl1 jbc1 : Nat) (jb2 : Option Addr) (jbl2 jbc2 : Nat) (jbb : Bool) (jb3 : Option Addr) (jbl3 jbc3 : Nat) (jb4 : Option Addr) (jbl4 jbc4 : Nat) (PX : World → Value → Prop) (hM_PX : ∀ W W' v, PX W v → Old W W' → PX W' v)   (b_xb : w0.heap[xb]? = some (.cells #[.int .i64 jak, .int .i64 jan, .int .i64 jat, .int .i64 jae, .slice ja0 jal0 jac0, .slice ja1 jal1 jac1, .slice ja2 jal2 jac2, .bool jab, .slice ja3 jal3 jac3, .slice ja4 jal4 jac4] 59 (0, 0))) (b_yb : w0.heap[yb]? = some (.cells #[.int .i64 jbk, .int .i64 jbn, .int .i64 jbt, .int .i64 jbe, .slice jb0 jbl0 jbc0, .slice jb1 jbl1 jbc1, .slice jb2 jbl2 jbc2, .bool jbb, .slice jb3 jbl3 jbc3, .slice jb4 jbl4 jbc4] 54 (0, 0))) 
    
    (K1 : ∀ W, Old w0 W → Calls Tryz.prog 28 #[.agg #[.int .i64 jbk, .int .i64 jbn, .int .i64 jbt, .int .i64 jbe, .slice jb0 jbl0 jbc0, .slice jb1 jbl1 jbc1, .slice jb2 jbl2 jbc2, .bool jbb, .slice jb3 jbl3 jbc3, .slice jb4 jbl4 jbc4]] W fun e w' => ∃ v, e = .returned v ∧ Old W w' ∧ PX w' v)
    (K2 : ∀ W, Old w0 W → ∀ (u2 : Value), PX W u2 → Calls Tryz.prog 30 #[.agg #[.int .i64 jak, .int .i64 jan, .int .i64 jat, .int .i64 jae, .slice ja0 jal0 jac0, .slice ja1 jal1 jac1, .slice ja2 jal2 jac2, .bool jab, .slice ja3 jal3 jac3, .slice ja4 jal4 jac4], u2] W fun e w' => e = .returned (.bool true) ∧ Old W w')
    (Q : Exit → Act → World → Prop) (b0 : Act) (hsz : b0.tmps.size = 27) (ha1 : b0.eval (.tmp 1) = .pointer (some ⟨yb, 0, none⟩)) (ha5 : b0.eval (.tmp 5) = .pointer (some ⟨xb, 0, none⟩))
    (HK : Hid (∀ (us : Nat → Value) (W : World) , Old w0 W → us 4 = .bool false → Q .normal (putAll b0 ((List.range 5).map fun i => (slotGbl i, us i))) W)) :
    Code.wp Tryz.prog ((Tryz.f5.body.bind (regionAtmul 10)).getD .skip) Q b0 w0 := by
  conv => arg 2; whnf
  have px_xb : ∀ W, Old w0 W → W.heap[xb]? = some (.cells #[.int .i64 jak, .int .i64 jan, .int .i64 jat, .int .i64 jae, .slice ja0 jal0 jac0, .slice ja1 jal1 jac1, .slice ja2 jal2 jac2, .bool jab, .slice ja3 jal3 jac3, .slice ja4 jal4 jac4] 59 (0, 0)) := fun W g => (g.block xb (lt_of_some b_xb)).trans b_xb
  have px_yb : ∀ W, Old w0 W → W.heap[yb]? = some (.cells #[.int .i64 jbk, .int .i64 jbn, .int .i64 jbt, .int .i64 jbe, .slice jb0 jbl0 jbc0, .slice jb1 jbl1 jbc1, .slice jb2 jbl2 jbc2, .bool jbb, .slice jb3 jbl3 jbc3, .slice jb4 jbl4 jbc4] 54 (0, 0)) := fun W g => (g.block yb (lt_of_some b_yb)).trans b_yb
  refine wp_region_old (by kernel_rfl) (by kernel_rfl) (by kernel_rfl) slotGbl (fun i hi => by rw [hsz]; exact slotGbl_lt i hi) (fun i j hi hj => slotGbl_inj i hi j hj) (qGbl xb yb jak jan jat jae ja0 jal0 jac0 ja1 jal1 jac1 ja2 jal2 jac2 jab ja3 jal3 jac3 ja4 jal4 jac4 jbk jbn jbt jbe jb0 jbl0 jbc0 jb1 jbl1 jbc1 jb2 jbl2 jbc2 jbb jb3 jbl3 jbc3 jb4 jbl4 jbc4 PX ) (qGbl_old xb yb jak jan jat jae ja0 jal0 jac0 ja1 jal1 jac1 ja2 jal2 jac2 jab ja3 jal3 jac3 ja4 jal4 jac4 jbk jbn jbt jbe jb0 jbl0 jbc0 jb1 jbl1 jbc1 jb2 jbl2 jbc2 jbb jb3 jbl3 jbc3 jb4 jbl4 jbc4 PX hM_PX) ?_ ?_
  · refine ⟨?_, ?_, ?_, ?_, ?_, trivial⟩
    · intro a W g hF hd
      have e5 := (hF.same 5 slotGbl_no5).trans ha5
      refine op_load (k := xb) e5 (px_xb W g) Tryz.underlying59 rfl (by kernel_rfl) ?_
      exact ⟨_, rfl, Old.refl _, rfl⟩
    · intro a W g hF hd
      have e1 := (hF.same 1 slotGbl_no1).trans ha1
      refine op_load (k := yb) e1 (px_yb W g) Tryz.underlying54 rfl (by kernel_rfl) ?_
      exact ⟨_, rfl, Old.refl _, rfl⟩
    · intro a W g hF hd
      have h1 : a.eval (.tmp 23) = .agg #[.int .i64 jbk, .int .i64 jbn, .int .i64 jbt, .int .i64 jbe, .slice jb0 jbl0 jbc0, .slice jb1 jbl1 jbc1, .slice jb2 jbl2 jbc2, .bool jbb, .slice jb3 jbl3 jbc3, .slice jb4 jbl4 jbc4] := hd ⟨1, .data⟩ (by simp) rfl
      refine op_call_ret (R := fun v w' => Old W w' ∧ PX w' v) Tryz.call28 (vs := #[.agg #[.int .i64 jbk, .int .i64 jbn, .int .i64 jbt, .int .i64 jbe, .slice jb0 jbl0 jbc0, .slice jb1 jbl1 jbc1, .slice jb2 jbl2 jbc2, .bool jbb, .slice jb3 jbl3 jbc3, .slice jb4 jbl4 jbc4]]) (by simp [h1]) (K1 W g) ?_
      rintro x w' ⟨g', hp⟩
      exact ⟨_, rfl, g', hp⟩
    · intro a W g hF hd
      have h0 : a.eval (.tmp 22) = .agg #[.int .i64 jak, .int .i64 jan, .int .i64 jat, .int .i64 jae, .slice ja0 jal0 jac0, .slice ja1 jal1 jac1, .slice ja2 jal2 jac2, .bool jab, .slice ja3 jal3 jac3, .slice ja4 jal4 jac4] := hd ⟨0, .data⟩ (by simp) rfl
      have p2 : PX W (a.eval (.tmp 24)) := hd ⟨2, .data⟩ (by simp) rfl
      refine op_call_ret (R := fun v w' => v = .bool true ∧ Old W w') Tryz.call30 (vs := #[.agg #[.int .i64 jak, .int .i64 jan, .int .i64 jat, .int .i64 jae, .slice ja0 jal0 jac0, .slice ja1 jal1 jac1, .slice ja2 jal2 jac2, .bool jab, .slice ja3 jal3 jac3, .slice ja4 jal4 jac4], a.eval (.tmp 24)]) (by simp [h0]) ((K2 W g _ p2).mono fun e w' h => ⟨_, h.1, rfl, h.2⟩) ?_
      rintro x w' ⟨rfl, g'⟩
      exact ⟨_, rfl, g', rfl⟩
    · intro a W g hF hd
      have h3 : a.eval (.tmp 25) = .bool true := hd ⟨3, .data⟩ (by simp) rfl
      obtain ⟨ρ, hρ⟩ : ∃ ρ, a.eval = ρ := ⟨_, rfl⟩
      rw [hρ] at h3
      refine op_val ρ hρ (.bool false) ?_ ⟨_, rfl, Old.refl _, rfl⟩
      clear g hF hd hρ HK K1 K2 ha1 ha5 px_xb b_xb px_yb b_yb  
      go_simp
      all_goals (first | (rw [IntKind.wrap_i64]; omega) | (rw [IntKind.wrap_u64]; omega) | omega)
  · intro a W g hF hq
    have hput := fram_put (show Fram 5 slotGbl b0 a from hF) (fun i j hi hj => slotGbl_inj i hi j hj)
    have hk := HK.out (fun i => a.eval (.tmp (slotGbl i))) W g  (hq 4 (by decide))
    rw [← hput] at hk
    exact hk
end Go.Proofs.YtejhpljichmmpaaGreatDoor
/- Proved: drawn regions of a box's Cipher and Bound. -/
namespace Go.Proofs.YtejhpljichmmpaaGreatDoor
open Go.ChangeShapes Go.WideShapes Go.ChangeAt Go.RowKit
set_option linter.unusedVariables false
set_option linter.unusedSimpArgs false
def slotLca (i : Nat) : Nat := [24, 25, 26, 27, 28, 29, 30, 31, 32, 33, 34, 35, 36, 37, 38, 39, 40, 41, 42, 43, 44, 45, 46, 47, 48, 49].getD i 0
theorem slotLca_lt : ∀ i, i < 26 → slotLca i < 50 := by decide
theorem slotLca_inj : ∀ i, i < 26 → ∀ j, j < 26 → slotLca i = slotLca j → i = j := by decide
theorem slotLca_no1 : ∀ i, i < 26 → slotLca i ≠ 1 := by decide
def qLca (bx : Nat) (kd N T E : Int) (a0 : Option Addr) (l0 c0 : Nat) (a1 : Option Addr) (l1 c1 : Nat) (a2 : Option Addr) (l2 c2 : Nat) (sg : Bool) (a3 : Option Addr) (l3 c3 : Nat) (a4 : Option Addr) (l4 c4 : Nat)  (i : Nat) (W : World) (x : Value) : Prop :=
  match i with
  | 0 => x = .pointer (some ⟨bx, 1, none⟩)
  | 1 => x = .agg #[.int .i64 N, .int .i64 T, .int .i64 E, .slice a0 l0 c0]
  | 2 => x = .pointer (some ⟨bx, 6, none⟩)
  | 3 => x = .agg #[.slice a2 l2 c2]
  | 4 => x = .bool false
  | 5 => x = .bool false
  | 6 => True
  | 7 => True
  | 8 => True
  | 9 => x = .bool false
  | 10 => x = .bool false
  | 11 => True
  | 12 => True
  | 13 => True
  | 14 => True
  | 15 => x = .bool false
  | 16 => x = .bool false
  | 17 => True
  | 18 => True
  | 19 => True
  | 20 => True
  | 21 => True
  | 22 => True
  | 23 => True
  | 24 => True
  | 25 => x = .bool false
  | _ => True
theorem qLca_old (bx : Nat) (kd N T E : Int) (a0 : Option Addr) (l0 c0 : Nat) (a1 : Option Addr) (l1 c1 : Nat) (a2 : Option Addr) (l2 c2 : Nat) (sg : Bool) (a3 : Option Addr) (l3 c3 : Nat) (a4 : Option Addr) (l4 c4 : Nat)   (i : Nat) (W W' : World) (x : Value) (h : qLca bx kd N T E a0 l0 c0 a1 l1 c1 a2 l2 c2 sg a3 l3 c3 a4 l4 c4  i W x) (qo : Old W W') : qLca bx kd N T E a0 l0 c0 a1 l1 c1 a2 l2 c2 sg a3 l3 c3 a4 l4 c4  i W' x := by
  unfold qLca at h ⊢
  split at h
  all_goals first | exact h | trivial
set_option maxRecDepth 100000 in
set_option maxHeartbeats 8000000 in
theorem reg_Lca (w0 : World) (bx : Nat) (kd N T E : Int) (a0 : Option Addr) (l0 c0 : Nat) (a1 : Option Addr) (l1 c1 : Nat) (a2 : Option Addr) (l2 c2 : Nat) (sg : Bool) (a3 : Option Addr) (l3 c3 : Nat) (a4 : Option Addr) (l4 c4 : Nat)     (b_bx : w0.heap[bx]? = some (.cells #[.int .i64 kd, .int .i64 N, .int .i64 T, .int .i64 E, .slice a0 l0 c0, .slice a1 l1 c1, .slice a2 l2 c2, .bool sg, .slice a3 l3 c3, .slice a4 l4 c4] 59 (0, 0))) 
    
    (K1 : ∀ W, Old w0 W → Calls Tryz.prog 43 #[.agg #[.int .i64 N, .int .i64 T, .int .i64 E, .slice a0 l0 c0], .agg #[.slice a2 l2 c2]] W fun e w' => e = .returned (.bool false) ∧ Old W w')
    (Q : Exit → Act → World → Prop) (b0 : Act) (hsz : b0.tmps.size = 50) (ha1 : b0.eval (.tmp 1) = .pointer (some ⟨bx, 0, none⟩))
    (HK : Hid (∀ (us : Nat → Value) (W : World) , Old w0 W → Q .normal ((putAll b0 ((List.range 26).map fun i => (slotLca i, us i))).put (some 2) (.bool false)) W)) :
    Code.wp Tryz.prog ((Tryz.f75.body.bind (regionAtmul 3)).getD .skip) Q b0 w0 := by
  conv => arg 2; whnf
  have px_bx : ∀ W, Old w0 W → W.heap[bx]? = some (.cells #[.int .i64 kd, .int .i64 N, .int .i64 T, .int .i64 E, .slice a0 l0 c0, .slice a1 l1 c1, .slice a2 l2 c2, .bool sg, .slice a3 l3 c3, .slice a4 l4 c4] 59 (0, 0)) := fun W g => (g.block bx (lt_of_some b_bx)).trans b_bx
  have pc_bx_1 : ∀ W, Old w0 W → W.cell? ⟨bx, 1, none⟩ = some (.int .i64 N) := fun W g => cell_of_row W bx 1 _ _ (0, 0) (px_bx W g)
  have pc_bx_2 : ∀ W, Old w0 W → W.cell? ⟨bx, 2, none⟩ = some (.int .i64 T) := fun W g => cell_of_row W bx 2 _ _ (0, 0) (px_bx W g)
  have pc_bx_3 : ∀ W, Old w0 W → W.cell? ⟨bx, 3, none⟩ = some (.int .i64 E) := fun W g => cell_of_row W bx 3 _ _ (0, 0) (px_bx W g)
  have pc_bx_4 : ∀ W, Old w0 W → W.cell? ⟨bx, 4, none⟩ = some (.slice a0 l0 c0) := fun W g => cell_of_row W bx 4 _ _ (0, 0) (px_bx W g)
  have pc_bx_6 : ∀ W, Old w0 W → W.cell? ⟨bx, 6, none⟩ = some (.slice a2 l2 c2) := fun W g => cell_of_row W bx 6 _ _ (0, 0) (px_bx W g)
  refine wp_region_tailG 26 (by decide) (by kernel_rfl) (by kernel_rfl) (by kernel_rfl) (by kernel_rfl) (by kernel_rfl) slotLca (fun i hi => by rw [hsz]; exact slotLca_lt i hi) (fun i j hi hj => slotLca_inj i hi j hj) (qLca bx kd N T E a0 l0 c0 a1 l1 c1 a2 l2 c2 sg a3 l3 c3 a4 l4 c4  ) (qLca_old bx kd N T E a0 l0 c0 a1 l1 c1 a2 l2 c2 sg a3 l3 c3 a4 l4 c4  ) [] (fun i W v hi hq => by cases hi) ?_ ?_
  · refine ⟨?_, ?_, ?_, ?_, ?_, ?_, ?_, ?_, ?_, ?_, ?_, ?_, ?_, ?_, ?_, ?_, ?_, ?_, ?_, ?_, ?_, ?_, ?_, ?_, ?_, ?_, trivial⟩
    · intro a W g hF hd
      refine ⟨fun _ => ?_, fun h => by rw [wanted_none rfl] at h; cases h⟩
      have e1 := (hF.same 1 slotLca_no1).trans ha1
      obtain ⟨ρ, hρ⟩ : ∃ ρ, a.eval = ρ := ⟨_, rfl⟩
      rw [hρ] at e1
      refine op_val ρ hρ (.pointer (some ⟨bx, 1, none⟩)) ?_ ⟨_, rfl, Old.refl _, rfl, (fun h => absurd h (by decide))⟩
      clear g hF hd hρ HK K1 ha1 px_bx b_bx pc_bx_1 pc_bx_2 pc_bx_3 pc_bx_4 pc_bx_6 
      go_simp
      all_goals (first | (rw [IntKind.wrap_i64]; omega) | (rw [IntKind.wrap_u64]; omega) | omega)
    · intro a W g hF hd
      refine ⟨fun _ => ?_, fun h => by rw [wanted_none rfl] at h; cases h⟩
      have h0 : a.eval (.tmp 24) = .pointer (some ⟨bx, 1, none⟩) := hd ⟨0, .data⟩ (by simp) rfl
      have kk0 := pc_bx_1 W g
      have kk1 := pc_bx_2 W g
      have kk2 := pc_bx_3 W g
      have kk3 := pc_bx_4 W g
      obtain ⟨ρ, hρ⟩ : ∃ ρ, a.eval = ρ := ⟨_, rfl⟩
      rw [hρ] at h0
      refine op_val ρ hρ (.agg #[.int .i64 N, .int .i64 T, .int .i64 E, .slice a0 l0 c0]) ?_ ⟨_, rfl, Old.refl _, rfl, (fun h => absurd h (by decide))⟩
      clear g hF hd hρ HK K1 ha1 px_bx b_bx pc_bx_1 pc_bx_2 pc_bx_3 pc_bx_4 pc_bx_6 
      go_simp
      all_goals (first | (rw [IntKind.wrap_i64]; omega) | (rw [IntKind.wrap_u64]; omega) | omega)
    · intro a W g hF hd
      refine ⟨fun _ => ?_, fun h => by rw [wanted_none rfl] at h; cases h⟩
      have e1 := (hF.same 1 slotLca_no1).trans ha1
      obtain ⟨ρ, hρ⟩ : ∃ ρ, a.eval = ρ := ⟨_, rfl⟩
      rw [hρ] at e1
      refine op_val ρ hρ (.pointer (some ⟨bx, 6, none⟩)) ?_ ⟨_, rfl, Old.refl _, rfl, (fun h => absurd h (by decide))⟩
      clear g hF hd hρ HK K1 ha1 px_bx b_bx pc_bx_1 pc_bx_2 pc_bx_3 pc_bx_4 pc_bx_6 
      go_simp
      all_goals (first | (rw [IntKind.wrap_i64]; omega) | (rw [IntKind.wrap_u64]; omega) | omega)
    · intro a W g hF hd
      refine ⟨fun _ => ?_, fun h => by rw [wanted_none rfl] at h; cases h⟩
      have h2 : a.eval (.tmp 26) = .pointer (some ⟨bx, 6, none⟩) := hd ⟨2, .data⟩ (by simp) rfl
      have kk0 := pc_bx_6 W g
      obtain ⟨ρ, hρ⟩ : ∃ ρ, a.eval = ρ := ⟨_, rfl⟩
      rw [hρ] at h2
      refine op_val ρ hρ (.agg #[.slice a2 l2 c2]) ?_ ⟨_, rfl, Old.refl _, rfl, (fun h => absurd h (by decide))⟩
      clear g hF hd hρ HK K1 ha1 px_bx b_bx pc_bx_1 pc_bx_2 pc_bx_3 pc_bx_4 pc_bx_6 
      go_simp
      all_goals (first | (rw [IntKind.wrap_i64]; omega) | (rw [IntKind.wrap_u64]; omega) | omega)
    · intro a W g hF hd
      refine ⟨fun _ => ?_, fun h => by rw [wanted_none rfl] at h; cases h⟩
      have h1 : a.eval (.tmp 25) = .agg #[.int .i64 N, .int .i64 T, .int .i64 E, .slice a0 l0 c0] := hd ⟨1, .data⟩ (by simp) rfl
      have h3 : a.eval (.tmp 27) = .agg #[.slice a2 l2 c2] := hd ⟨3, .data⟩ (by simp) rfl
      refine op_call_ret (R := fun v w' => v = .bool false ∧ Old W w') Tryz.call43 (vs := #[.agg #[.int .i64 N, .int .i64 T, .int .i64 E, .slice a0 l0 c0], .agg #[.slice a2 l2 c2]]) (by simp [h1, h3]) ((K1 W g).mono fun e w' h => ⟨_, h.1, rfl, h.2⟩) ?_
      rintro x w' ⟨rfl, g'⟩
      exact ⟨_, rfl, g', rfl, (fun h => absurd h (by decide))⟩
    · intro a W g hF hd
      refine ⟨fun _ => ?_, fun h => by rw [wanted_none rfl] at h; cases h⟩
      refine op_move ?_
      exact ⟨_, rfl, Old.refl _, hd ⟨4, .data⟩ (by simp) rfl, (fun h => absurd h (by decide))⟩
    · intro a W g hF hd
      refine ⟨fun h => ?_, fun _ => ⟨rfl, trivial, rfl⟩⟩
      rw [wanted_of (j := 5) (s := 29) (want := true) (b := false) rfl rfl (by rw [hF.size, hsz]; decide) (hd ⟨5, .guard⟩ (by simp) rfl)] at h
      cases h
    · intro a W g hF hd
      refine ⟨fun h => ?_, fun _ => ⟨rfl, trivial, rfl⟩⟩
      rw [wanted_of (j := 5) (s := 29) (want := true) (b := false) rfl rfl (by rw [hF.size, hsz]; decide) (hd ⟨5, .guard⟩ (by simp) rfl)] at h
      cases h
    · intro a W g hF hd
      refine ⟨fun h => ?_, fun _ => ⟨rfl, trivial, rfl⟩⟩
      rw [wanted_of (j := 5) (s := 29) (want := true) (b := false) rfl rfl (by rw [hF.size, hsz]; decide) (hd ⟨5, .guard⟩ (by simp) rfl)] at h
      cases h
    · intro a W g hF hd
      refine ⟨fun _ => ?_, fun h => by rw [wanted_none rfl] at h; cases h⟩
      have h5 : a.eval (.tmp 29) = .bool false := hd ⟨5, .data⟩ (by simp) rfl
      have c1 : a.eval (.const (.bool false)) = .bool false := rfl
      obtain ⟨ρ, hρ⟩ : ∃ ρ, a.eval = ρ := ⟨_, rfl⟩
      rw [hρ] at h5 c1
      refine op_val ρ hρ (.bool false) ?_ ⟨_, rfl, Old.refl _, rfl, (fun h => absurd h (by decide))⟩
      clear g hF hd hρ HK K1 ha1 px_bx b_bx pc_bx_1 pc_bx_2 pc_bx_3 pc_bx_4 pc_bx_6 
      go_simp
      all_goals (first | (rw [IntKind.wrap_i64]; omega) | (rw [IntKind.wrap_u64]; omega) | omega)
    · intro a W g hF hd
      refine ⟨fun _ => ?_, fun h => by rw [wanted_none rfl] at h; cases h⟩
      refine op_move ?_
      exact ⟨_, rfl, Old.refl _, hd ⟨9, .data⟩ (by simp) rfl, (fun h => absurd h (by decide))⟩
    · intro a W g hF hd
      refine ⟨fun h => ?_, fun _ => ⟨rfl, trivial, rfl⟩⟩
      rw [wanted_of (j := 10) (s := 34) (want := true) (b := false) rfl rfl (by rw [hF.size, hsz]; decide) (hd ⟨10, .guard⟩ (by simp) rfl)] at h
      cases h
    · intro a W g hF hd
      refine ⟨fun h => ?_, fun _ => ⟨rfl, trivial, rfl⟩⟩
      rw [wanted_of (j := 10) (s := 34) (want := true) (b := false) rfl rfl (by rw [hF.size, hsz]; decide) (hd ⟨10, .guard⟩ (by simp) rfl)] at h
      cases h
    · intro a W g hF hd
      refine ⟨fun h => ?_, fun _ => ⟨rfl, trivial, rfl⟩⟩
      rw [wanted_of (j := 10) (s := 34) (want := true) (b := false) rfl rfl (by rw [hF.size, hsz]; decide) (hd ⟨10, .guard⟩ (by simp) rfl)] at h
      cases h
    · intro a W g hF hd
      refine ⟨fun h => ?_, fun _ => ⟨rfl, trivial, rfl⟩⟩
      rw [wanted_of (j := 10) (s := 34) (want := true) (b := false) rfl rfl (by rw [hF.size, hsz]; decide) (hd ⟨10, .guard⟩ (by simp) rfl)] at h
      cases h
    · intro a W g hF hd
      refine ⟨fun _ => ?_, fun h => by rw [wanted_none rfl] at h; cases h⟩
      have h10 : a.eval (.tmp 34) = .bool false := hd ⟨10, .data⟩ (by simp) rfl
      have c1 : a.eval (.const (.bool false)) = .bool false := rfl
      obtain ⟨ρ, hρ⟩ : ∃ ρ, a.eval = ρ := ⟨_, rfl⟩
      rw [hρ] at h10 c1
      refine op_val ρ hρ (.bool false) ?_ ⟨_, rfl, Old.refl _, rfl, (fun h => absurd h (by decide))⟩
      clear g hF hd hρ HK K1 ha1 px_bx b_bx pc_bx_1 pc_bx_2 pc_bx_3 pc_bx_4 pc_bx_6 
      go_simp
      all_goals (first | (rw [IntKind.wrap_i64]; omega) | (rw [IntKind.wrap_u64]; omega) | omega)
    · intro a W g hF hd
      refine ⟨fun _ => ?_, fun h => by rw [wanted_none rfl] at h; cases h⟩
      refine op_move ?_
      exact ⟨_, rfl, Old.refl _, hd ⟨15, .data⟩ (by simp) rfl, (fun h => absurd h (by decide))⟩
    · intro a W g hF hd
      refine ⟨fun h => ?_, fun _ => ⟨rfl, trivial, rfl⟩⟩
      rw [wanted_of (j := 16) (s := 40) (want := true) (b := false) rfl rfl (by rw [hF.size, hsz]; decide) (hd ⟨16, .guard⟩ (by simp) rfl)] at h
      cases h
    · intro a W g hF hd
      refine ⟨fun h => ?_, fun _ => ⟨rfl, trivial, rfl⟩⟩
      rw [wanted_of (j := 16) (s := 40) (want := true) (b := false) rfl rfl (by rw [hF.size, hsz]; decide) (hd ⟨16, .guard⟩ (by simp) rfl)] at h
      cases h
    · intro a W g hF hd
      refine ⟨fun h => ?_, fun _ => ⟨rfl, trivial, rfl⟩⟩
      rw [wanted_of (j := 16) (s := 40) (want := true) (b := false) rfl rfl (by rw [hF.size, hsz]; decide) (hd ⟨16, .guard⟩ (by simp) rfl)] at h
      cases h
    · intro a W g hF hd
      refine ⟨fun h => ?_, fun _ => ⟨rfl, trivial, rfl⟩⟩
      rw [wanted_of (j := 16) (s := 40) (want := true) (b := false) rfl rfl (by rw [hF.size, hsz]; decide) (hd ⟨16, .guard⟩ (by simp) rfl)] at h
      cases h
    · intro a W g hF hd
      refine ⟨fun h => ?_, fun _ => ⟨rfl, trivial, rfl⟩⟩
      rw [wanted_of (j := 16) (s := 40) (want := true) (b := false) rfl rfl (by rw [hF.size, hsz]; decide) (hd ⟨16, .guard⟩ (by simp) rfl)] at h
      cases h
    · intro a W g hF hd
      refine ⟨fun h => ?_, fun _ => ⟨rfl, trivial, rfl⟩⟩
      rw [wanted_of (j := 16) (s := 40) (want := true) (b := false) rfl rfl (by rw [hF.size, hsz]; decide) (hd ⟨16, .guard⟩ (by simp) rfl)] at h
      cases h
    · intro a W g hF hd
      refine ⟨fun h => ?_, fun _ => ⟨rfl, trivial, rfl⟩⟩
      rw [wanted_of (j := 16) (s := 40) (want := true) (b := false) rfl rfl (by rw [hF.size, hsz]; decide) (hd ⟨16, .guard⟩ (by simp) rfl)] at h
      cases h
    · intro a W g hF hd
      refine ⟨fun h => ?_, fun _ => ⟨rfl, trivial, rfl⟩⟩
      rw [wanted_of (j := 16) (s := 40) (want := true) (b := false) rfl rfl (by rw [hF.size, hsz]; decide) (hd ⟨16, .guard⟩ (by simp) rfl)] at h
      cases h
    · intro a W g hF hd
      refine ⟨fun _ => ?_, fun h => by rw [wanted_none rfl] at h; cases h⟩
      have h16 : a.eval (.tmp 40) = .bool false := hd ⟨16, .data⟩ (by simp) rfl
      have c1 : a.eval (.const (.bool false)) = .bool false := rfl
      obtain ⟨ρ, hρ⟩ : ∃ ρ, a.eval = ρ := ⟨_, rfl⟩
      rw [hρ] at h16 c1
      refine op_val ρ hρ (.bool false) ?_ ⟨_, rfl, Old.refl _, rfl, (fun h => absurd h (by decide))⟩
      clear g hF hd hρ HK K1 ha1 px_bx b_bx pc_bx_1 pc_bx_2 pc_bx_3 pc_bx_4 pc_bx_6 
      go_simp
      all_goals (first | (rw [IntKind.wrap_i64]; omega) | (rw [IntKind.wrap_u64]; omega) | omega)
  · intro a W g hF hq hne
    have hput := fram_put (show Fram 26 slotLca b0 a from hF) (fun i j hi hj => slotLca_inj i hi j hj)
    have hk := HK.out (fun i => a.eval (.tmp (slotLca i))) W g  
    rw [← hput] at hk
    refine op_assign ?_
    show tailWp _ _ _ _ _
    show tailWp _ _ _ (Act.put a (some 2) (a.eval (.tmp 49))) _
    rw [show a.eval (.tmp 49) = .bool false from hq 25 (by decide)]
    exact hk
def slotLcb (i : Nat) : Nat := [24, 25, 26, 27, 28, 29, 30, 31, 32, 33, 34, 35, 36, 37, 38, 39, 40, 41, 42, 43, 44, 45, 46, 47, 48, 49].getD i 0
theorem slotLcb_lt : ∀ i, i < 26 → slotLcb i < 50 := by decide
theorem slotLcb_inj : ∀ i, i < 26 → ∀ j, j < 26 → slotLcb i = slotLcb j → i = j := by decide
theorem slotLcb_no1 : ∀ i, i < 26 → slotLcb i ≠ 1 := by decide
def qLcb (bx : Nat) (kd N T E : Int) (a0 : Option Addr) (l0 c0 : Nat) (a1 : Option Addr) (l1 c1 : Nat) (a2 : Option Addr) (l2 c2 : Nat) (sg : Bool) (a3 : Option Addr) (l3 c3 : Nat) (a4 : Option Addr) (l4 c4 : Nat)  (i : Nat) (W : World) (x : Value) : Prop :=
  match i with
  | 0 => x = .pointer (some ⟨bx, 1, none⟩)
  | 1 => x = .agg #[.int .i64 N, .int .i64 T, .int .i64 E, .slice a0 l0 c0]
  | 2 => x = .pointer (some ⟨bx, 6, none⟩)
  | 3 => x = .agg #[.slice a2 l2 c2]
  | 4 => x = .bool true
  | 5 => x = .bool true
  | 6 => x = .pointer (some ⟨bx, 7, none⟩)
  | 7 => x = .agg #[.bool sg, .slice a3 l3 c3]
  | 8 => x = .bool false
  | 9 => x = .bool false
  | 10 => x = .bool false
  | 11 => True
  | 12 => True
  | 13 => True
  | 14 => True
  | 15 => x = .bool false
  | 16 => x = .bool false
  | 17 => True
  | 18 => True
  | 19 => True
  | 20 => True
  | 21 => True
  | 22 => True
  | 23 => True
  | 24 => True
  | 25 => x = .bool false
  | _ => True
theorem qLcb_old (bx : Nat) (kd N T E : Int) (a0 : Option Addr) (l0 c0 : Nat) (a1 : Option Addr) (l1 c1 : Nat) (a2 : Option Addr) (l2 c2 : Nat) (sg : Bool) (a3 : Option Addr) (l3 c3 : Nat) (a4 : Option Addr) (l4 c4 : Nat)   (i : Nat) (W W' : World) (x : Value) (h : qLcb bx kd N T E a0 l0 c0 a1 l1 c1 a2 l2 c2 sg a3 l3 c3 a4 l4 c4  i W x) (qo : Old W W') : qLcb bx kd N T E a0 l0 c0 a1 l1 c1 a2 l2 c2 sg a3 l3 c3 a4 l4 c4  i W' x := by
  unfold qLcb at h ⊢
  split at h
  all_goals first | exact h | trivial
set_option maxRecDepth 100000 in
set_option maxHeartbeats 8000000 in
theorem reg_Lcb (w0 : World) (bx : Nat) (kd N T E : Int) (a0 : Option Addr) (l0 c0 : Nat) (a1 : Option Addr) (l1 c1 : Nat) (a2 : Option Addr) (l2 c2 : Nat) (sg : Bool) (a3 : Option Addr) (l3 c3 : Nat) (a4 : Option Addr) (l4 c4 : Nat)     (b_bx : w0.heap[bx]? = some (.cells #[.int .i64 kd, .int .i64 N, .int .i64 T, .int .i64 E, .slice a0 l0 c0, .slice a1 l1 c1, .slice a2 l2 c2, .bool sg, .slice a3 l3 c3, .slice a4 l4 c4] 59 (0, 0))) 
    
    (K1 : ∀ W, Old w0 W → Calls Tryz.prog 43 #[.agg #[.int .i64 N, .int .i64 T, .int .i64 E, .slice a0 l0 c0], .agg #[.slice a2 l2 c2]] W fun e w' => e = .returned (.bool true) ∧ Old W w')
    (K2 : ∀ W, Old w0 W → Calls Tryz.prog 136 #[.agg #[.bool sg, .slice a3 l3 c3]] W fun e w' => e = .returned (.bool false) ∧ Old W w')
    (Q : Exit → Act → World → Prop) (b0 : Act) (hsz : b0.tmps.size = 50) (ha1 : b0.eval (.tmp 1) = .pointer (some ⟨bx, 0, none⟩))
    (HK : Hid (∀ (us : Nat → Value) (W : World) , Old w0 W → Q .normal ((putAll b0 ((List.range 26).map fun i => (slotLcb i, us i))).put (some 2) (.bool false)) W)) :
    Code.wp Tryz.prog ((Tryz.f75.body.bind (regionAtmul 3)).getD .skip) Q b0 w0 := by
  conv => arg 2; whnf
  have px_bx : ∀ W, Old w0 W → W.heap[bx]? = some (.cells #[.int .i64 kd, .int .i64 N, .int .i64 T, .int .i64 E, .slice a0 l0 c0, .slice a1 l1 c1, .slice a2 l2 c2, .bool sg, .slice a3 l3 c3, .slice a4 l4 c4] 59 (0, 0)) := fun W g => (g.block bx (lt_of_some b_bx)).trans b_bx
  have pc_bx_1 : ∀ W, Old w0 W → W.cell? ⟨bx, 1, none⟩ = some (.int .i64 N) := fun W g => cell_of_row W bx 1 _ _ (0, 0) (px_bx W g)
  have pc_bx_2 : ∀ W, Old w0 W → W.cell? ⟨bx, 2, none⟩ = some (.int .i64 T) := fun W g => cell_of_row W bx 2 _ _ (0, 0) (px_bx W g)
  have pc_bx_3 : ∀ W, Old w0 W → W.cell? ⟨bx, 3, none⟩ = some (.int .i64 E) := fun W g => cell_of_row W bx 3 _ _ (0, 0) (px_bx W g)
  have pc_bx_4 : ∀ W, Old w0 W → W.cell? ⟨bx, 4, none⟩ = some (.slice a0 l0 c0) := fun W g => cell_of_row W bx 4 _ _ (0, 0) (px_bx W g)
  have pc_bx_6 : ∀ W, Old w0 W → W.cell? ⟨bx, 6, none⟩ = some (.slice a2 l2 c2) := fun W g => cell_of_row W bx 6 _ _ (0, 0) (px_bx W g)
  have pc_bx_7 : ∀ W, Old w0 W → W.cell? ⟨bx, 7, none⟩ = some (.bool sg) := fun W g => cell_of_row W bx 7 _ _ (0, 0) (px_bx W g)
  have pc_bx_8 : ∀ W, Old w0 W → W.cell? ⟨bx, 8, none⟩ = some (.slice a3 l3 c3) := fun W g => cell_of_row W bx 8 _ _ (0, 0) (px_bx W g)
  refine wp_region_tailG 26 (by decide) (by kernel_rfl) (by kernel_rfl) (by kernel_rfl) (by kernel_rfl) (by kernel_rfl) slotLcb (fun i hi => by rw [hsz]; exact slotLcb_lt i hi) (fun i j hi hj => slotLcb_inj i hi j hj) (qLcb bx kd N T E a0 l0 c0 a1 l1 c1 a2 l2 c2 sg a3 l3 c3 a4 l4 c4  ) (qLcb_old bx kd N T E a0 l0 c0 a1 l1 c1 a2 l2 c2 sg a3 l3 c3 a4 l4 c4  ) [] (fun i W v hi hq => by cases hi) ?_ ?_
  · refine ⟨?_, ?_, ?_, ?_, ?_, ?_, ?_, ?_, ?_, ?_, ?_, ?_, ?_, ?_, ?_, ?_, ?_, ?_, ?_, ?_, ?_, ?_, ?_, ?_, ?_, ?_, trivial⟩
    · intro a W g hF hd
      refine ⟨fun _ => ?_, fun h => by rw [wanted_none rfl] at h; cases h⟩
      have e1 := (hF.same 1 slotLcb_no1).trans ha1
      obtain ⟨ρ, hρ⟩ : ∃ ρ, a.eval = ρ := ⟨_, rfl⟩
      rw [hρ] at e1
      refine op_val ρ hρ (.pointer (some ⟨bx, 1, none⟩)) ?_ ⟨_, rfl, Old.refl _, rfl, (fun h => absurd h (by decide))⟩
      clear g hF hd hρ HK K1 K2 ha1 px_bx b_bx pc_bx_1 pc_bx_2 pc_bx_3 pc_bx_4 pc_bx_6 pc_bx_7 pc_bx_8 
      go_simp
      all_goals (first | (rw [IntKind.wrap_i64]; omega) | (rw [IntKind.wrap_u64]; omega) | omega)
    · intro a W g hF hd
      refine ⟨fun _ => ?_, fun h => by rw [wanted_none rfl] at h; cases h⟩
      have h0 : a.eval (.tmp 24) = .pointer (some ⟨bx, 1, none⟩) := hd ⟨0, .data⟩ (by simp) rfl
      have kk0 := pc_bx_1 W g
      have kk1 := pc_bx_2 W g
      have kk2 := pc_bx_3 W g
      have kk3 := pc_bx_4 W g
      obtain ⟨ρ, hρ⟩ : ∃ ρ, a.eval = ρ := ⟨_, rfl⟩
      rw [hρ] at h0
      refine op_val ρ hρ (.agg #[.int .i64 N, .int .i64 T, .int .i64 E, .slice a0 l0 c0]) ?_ ⟨_, rfl, Old.refl _, rfl, (fun h => absurd h (by decide))⟩
      clear g hF hd hρ HK K1 K2 ha1 px_bx b_bx pc_bx_1 pc_bx_2 pc_bx_3 pc_bx_4 pc_bx_6 pc_bx_7 pc_bx_8 
      go_simp
      all_goals (first | (rw [IntKind.wrap_i64]; omega) | (rw [IntKind.wrap_u64]; omega) | omega)
    · intro a W g hF hd
      refine ⟨fun _ => ?_, fun h => by rw [wanted_none rfl] at h; cases h⟩
      have e1 := (hF.same 1 slotLcb_no1).trans ha1
      obtain ⟨ρ, hρ⟩ : ∃ ρ, a.eval = ρ := ⟨_, rfl⟩
      rw [hρ] at e1
      refine op_val ρ hρ (.pointer (some ⟨bx, 6, none⟩)) ?_ ⟨_, rfl, Old.refl _, rfl, (fun h => absurd h (by decide))⟩
      clear g hF hd hρ HK K1 K2 ha1 px_bx b_bx pc_bx_1 pc_bx_2 pc_bx_3 pc_bx_4 pc_bx_6 pc_bx_7 pc_bx_8 
      go_simp
      all_goals (first | (rw [IntKind.wrap_i64]; omega) | (rw [IntKind.wrap_u64]; omega) | omega)
    · intro a W g hF hd
      refine ⟨fun _ => ?_, fun h => by rw [wanted_none rfl] at h; cases h⟩
      have h2 : a.eval (.tmp 26) = .pointer (some ⟨bx, 6, none⟩) := hd ⟨2, .data⟩ (by simp) rfl
      have kk0 := pc_bx_6 W g
      obtain ⟨ρ, hρ⟩ : ∃ ρ, a.eval = ρ := ⟨_, rfl⟩
      rw [hρ] at h2
      refine op_val ρ hρ (.agg #[.slice a2 l2 c2]) ?_ ⟨_, rfl, Old.refl _, rfl, (fun h => absurd h (by decide))⟩
      clear g hF hd hρ HK K1 K2 ha1 px_bx b_bx pc_bx_1 pc_bx_2 pc_bx_3 pc_bx_4 pc_bx_6 pc_bx_7 pc_bx_8 
      go_simp
      all_goals (first | (rw [IntKind.wrap_i64]; omega) | (rw [IntKind.wrap_u64]; omega) | omega)
    · intro a W g hF hd
      refine ⟨fun _ => ?_, fun h => by rw [wanted_none rfl] at h; cases h⟩
      have h1 : a.eval (.tmp 25) = .agg #[.int .i64 N, .int .i64 T, .int .i64 E, .slice a0 l0 c0] := hd ⟨1, .data⟩ (by simp) rfl
      have h3 : a.eval (.tmp 27) = .agg #[.slice a2 l2 c2] := hd ⟨3, .data⟩ (by simp) rfl
      refine op_call_ret (R := fun v w' => v = .bool true ∧ Old W w') Tryz.call43 (vs := #[.agg #[.int .i64 N, .int .i64 T, .int .i64 E, .slice a0 l0 c0], .agg #[.slice a2 l2 c2]]) (by simp [h1, h3]) ((K1 W g).mono fun e w' h => ⟨_, h.1, rfl, h.2⟩) ?_
      rintro x w' ⟨rfl, g'⟩
      exact ⟨_, rfl, g', rfl, (fun h => absurd h (by decide))⟩
    · intro a W g hF hd
      refine ⟨fun _ => ?_, fun h => by rw [wanted_none rfl] at h; cases h⟩
      refine op_move ?_
      exact ⟨_, rfl, Old.refl _, hd ⟨4, .data⟩ (by simp) rfl, (fun h => absurd h (by decide))⟩
    · intro a W g hF hd
      refine ⟨fun _ => ?_, fun h => ?_⟩
      rotate_left
      · rw [wanted_of (j := 5) (s := 29) (want := true) (b := true) rfl rfl (by rw [hF.size, hsz]; decide) (hd ⟨5, .guard⟩ (by simp) rfl)] at h
        cases h
      refine op_guard ?_
      have e1 := (hF.same 1 slotLcb_no1).trans ha1
      obtain ⟨ρ, hρ⟩ : ∃ ρ, a.eval = ρ := ⟨_, rfl⟩
      rw [hρ] at e1
      refine op_val ρ hρ (.pointer (some ⟨bx, 7, none⟩)) ?_ ⟨_, rfl, Old.refl _, rfl, (fun h => absurd h (by decide))⟩
      clear g hF hd hρ HK K1 K2 ha1 px_bx b_bx pc_bx_1 pc_bx_2 pc_bx_3 pc_bx_4 pc_bx_6 pc_bx_7 pc_bx_8 
      go_simp
      all_goals (first | (rw [IntKind.wrap_i64]; omega) | (rw [IntKind.wrap_u64]; omega) | omega)
    · intro a W g hF hd
      refine ⟨fun _ => ?_, fun h => ?_⟩
      rotate_left
      · rw [wanted_of (j := 5) (s := 29) (want := true) (b := true) rfl rfl (by rw [hF.size, hsz]; decide) (hd ⟨5, .guard⟩ (by simp) rfl)] at h
        cases h
      refine op_guard ?_
      have h6 : a.eval (.tmp 30) = .pointer (some ⟨bx, 7, none⟩) := hd ⟨6, .data⟩ (by simp) rfl
      have kk0 := pc_bx_7 W g
      have kk1 := pc_bx_8 W g
      obtain ⟨ρ, hρ⟩ : ∃ ρ, a.eval = ρ := ⟨_, rfl⟩
      rw [hρ] at h6
      refine op_val ρ hρ (.agg #[.bool sg, .slice a3 l3 c3]) ?_ ⟨_, rfl, Old.refl _, rfl, (fun h => absurd h (by decide))⟩
      clear g hF hd hρ HK K1 K2 ha1 px_bx b_bx pc_bx_1 pc_bx_2 pc_bx_3 pc_bx_4 pc_bx_6 pc_bx_7 pc_bx_8 
      go_simp
      all_goals (first | (rw [IntKind.wrap_i64]; omega) | (rw [IntKind.wrap_u64]; omega) | omega)
    · intro a W g hF hd
      refine ⟨fun _ => ?_, fun h => ?_⟩
      rotate_left
      · rw [wanted_of (j := 5) (s := 29) (want := true) (b := true) rfl rfl (by rw [hF.size, hsz]; decide) (hd ⟨5, .guard⟩ (by simp) rfl)] at h
        cases h
      refine op_guard ?_
      have h7 : a.eval (.tmp 31) = .agg #[.bool sg, .slice a3 l3 c3] := hd ⟨7, .data⟩ (by simp) rfl
      refine op_call_ret (R := fun v w' => v = .bool false ∧ Old W w') Tryz.call136 (vs := #[.agg #[.bool sg, .slice a3 l3 c3]]) (by simp [h7]) ((K2 W g).mono fun e w' h => ⟨_, h.1, rfl, h.2⟩) ?_
      rintro x w' ⟨rfl, g'⟩
      exact ⟨_, rfl, g', rfl, (fun h => absurd h (by decide))⟩
    · intro a W g hF hd
      refine ⟨fun _ => ?_, fun h => by rw [wanted_none rfl] at h; cases h⟩
      have h5 : a.eval (.tmp 29) = .bool true := hd ⟨5, .data⟩ (by simp) rfl
      have h8 : a.eval (.tmp 32) = .bool false := hd ⟨8, .data⟩ (by simp) rfl
      obtain ⟨ρ, hρ⟩ : ∃ ρ, a.eval = ρ := ⟨_, rfl⟩
      rw [hρ] at h5 h8
      refine op_val ρ hρ (.bool false) ?_ ⟨_, rfl, Old.refl _, rfl, (fun h => absurd h (by decide))⟩
      clear g hF hd hρ HK K1 K2 ha1 px_bx b_bx pc_bx_1 pc_bx_2 pc_bx_3 pc_bx_4 pc_bx_6 pc_bx_7 pc_bx_8 
      go_simp
      all_goals (first | (rw [IntKind.wrap_i64]; omega) | (rw [IntKind.wrap_u64]; omega) | omega)
    · intro a W g hF hd
      refine ⟨fun _ => ?_, fun h => by rw [wanted_none rfl] at h; cases h⟩
      refine op_move ?_
      exact ⟨_, rfl, Old.refl _, hd ⟨9, .data⟩ (by simp) rfl, (fun h => absurd h (by decide))⟩
    · intro a W g hF hd
      refine ⟨fun h => ?_, fun _ => ⟨rfl, trivial, rfl⟩⟩
      rw [wanted_of (j := 10) (s := 34) (want := true) (b := false) rfl rfl (by rw [hF.size, hsz]; decide) (hd ⟨10, .guard⟩ (by simp) rfl)] at h
      cases h
    · intro a W g hF hd
      refine ⟨fun h => ?_, fun _ => ⟨rfl, trivial, rfl⟩⟩
      rw [wanted_of (j := 10) (s := 34) (want := true) (b := false) rfl rfl (by rw [hF.size, hsz]; decide) (hd ⟨10, .guard⟩ (by simp) rfl)] at h
      cases h
    · intro a W g hF hd
      refine ⟨fun h => ?_, fun _ => ⟨rfl, trivial, rfl⟩⟩
      rw [wanted_of (j := 10) (s := 34) (want := true) (b := false) rfl rfl (by rw [hF.size, hsz]; decide) (hd ⟨10, .guard⟩ (by simp) rfl)] at h
      cases h
    · intro a W g hF hd
      refine ⟨fun h => ?_, fun _ => ⟨rfl, trivial, rfl⟩⟩
      rw [wanted_of (j := 10) (s := 34) (want := true) (b := false) rfl rfl (by rw [hF.size, hsz]; decide) (hd ⟨10, .guard⟩ (by simp) rfl)] at h
      cases h
    · intro a W g hF hd
      refine ⟨fun _ => ?_, fun h => by rw [wanted_none rfl] at h; cases h⟩
      have h10 : a.eval (.tmp 34) = .bool false := hd ⟨10, .data⟩ (by simp) rfl
      have c1 : a.eval (.const (.bool false)) = .bool false := rfl
      obtain ⟨ρ, hρ⟩ : ∃ ρ, a.eval = ρ := ⟨_, rfl⟩
      rw [hρ] at h10 c1
      refine op_val ρ hρ (.bool false) ?_ ⟨_, rfl, Old.refl _, rfl, (fun h => absurd h (by decide))⟩
      clear g hF hd hρ HK K1 K2 ha1 px_bx b_bx pc_bx_1 pc_bx_2 pc_bx_3 pc_bx_4 pc_bx_6 pc_bx_7 pc_bx_8 
      go_simp
      all_goals (first | (rw [IntKind.wrap_i64]; omega) | (rw [IntKind.wrap_u64]; omega) | omega)
    · intro a W g hF hd
      refine ⟨fun _ => ?_, fun h => by rw [wanted_none rfl] at h; cases h⟩
      refine op_move ?_
      exact ⟨_, rfl, Old.refl _, hd ⟨15, .data⟩ (by simp) rfl, (fun h => absurd h (by decide))⟩
    · intro a W g hF hd
      refine ⟨fun h => ?_, fun _ => ⟨rfl, trivial, rfl⟩⟩
      rw [wanted_of (j := 16) (s := 40) (want := true) (b := false) rfl rfl (by rw [hF.size, hsz]; decide) (hd ⟨16, .guard⟩ (by simp) rfl)] at h
      cases h
    · intro a W g hF hd
      refine ⟨fun h => ?_, fun _ => ⟨rfl, trivial, rfl⟩⟩
      rw [wanted_of (j := 16) (s := 40) (want := true) (b := false) rfl rfl (by rw [hF.size, hsz]; decide) (hd ⟨16, .guard⟩ (by simp) rfl)] at h
      cases h
    · intro a W g hF hd
      refine ⟨fun h => ?_, fun _ => ⟨rfl, trivial, rfl⟩⟩
      rw [wanted_of (j := 16) (s := 40) (want := true) (b := false) rfl rfl (by rw [hF.size, hsz]; decide) (hd ⟨16, .guard⟩ (by simp) rfl)] at h
      cases h
    · intro a W g hF hd
      refine ⟨fun h => ?_, fun _ => ⟨rfl, trivial, rfl⟩⟩
      rw [wanted_of (j := 16) (s := 40) (want := true) (b := false) rfl rfl (by rw [hF.size, hsz]; decide) (hd ⟨16, .guard⟩ (by simp) rfl)] at h
      cases h
    · intro a W g hF hd
      refine ⟨fun h => ?_, fun _ => ⟨rfl, trivial, rfl⟩⟩
      rw [wanted_of (j := 16) (s := 40) (want := true) (b := false) rfl rfl (by rw [hF.size, hsz]; decide) (hd ⟨16, .guard⟩ (by simp) rfl)] at h
      cases h
    · intro a W g hF hd
      refine ⟨fun h => ?_, fun _ => ⟨rfl, trivial, rfl⟩⟩
      rw [wanted_of (j := 16) (s := 40) (want := true) (b := false) rfl rfl (by rw [hF.size, hsz]; decide) (hd ⟨16, .guard⟩ (by simp) rfl)] at h
      cases h
    · intro a W g hF hd
      refine ⟨fun h => ?_, fun _ => ⟨rfl, trivial, rfl⟩⟩
      rw [wanted_of (j := 16) (s := 40) (want := true) (b := false) rfl rfl (by rw [hF.size, hsz]; decide) (hd ⟨16, .guard⟩ (by simp) rfl)] at h
      cases h
    · intro a W g hF hd
      refine ⟨fun h => ?_, fun _ => ⟨rfl, trivial, rfl⟩⟩
      rw [wanted_of (j := 16) (s := 40) (want := true) (b := false) rfl rfl (by rw [hF.size, hsz]; decide) (hd ⟨16, .guard⟩ (by simp) rfl)] at h
      cases h
    · intro a W g hF hd
      refine ⟨fun _ => ?_, fun h => by rw [wanted_none rfl] at h; cases h⟩
      have h16 : a.eval (.tmp 40) = .bool false := hd ⟨16, .data⟩ (by simp) rfl
      have c1 : a.eval (.const (.bool false)) = .bool false := rfl
      obtain ⟨ρ, hρ⟩ : ∃ ρ, a.eval = ρ := ⟨_, rfl⟩
      rw [hρ] at h16 c1
      refine op_val ρ hρ (.bool false) ?_ ⟨_, rfl, Old.refl _, rfl, (fun h => absurd h (by decide))⟩
      clear g hF hd hρ HK K1 K2 ha1 px_bx b_bx pc_bx_1 pc_bx_2 pc_bx_3 pc_bx_4 pc_bx_6 pc_bx_7 pc_bx_8 
      go_simp
      all_goals (first | (rw [IntKind.wrap_i64]; omega) | (rw [IntKind.wrap_u64]; omega) | omega)
  · intro a W g hF hq hne
    have hput := fram_put (show Fram 26 slotLcb b0 a from hF) (fun i j hi hj => slotLcb_inj i hi j hj)
    have hk := HK.out (fun i => a.eval (.tmp (slotLcb i))) W g  
    rw [← hput] at hk
    refine op_assign ?_
    show tailWp _ _ _ _ _
    show tailWp _ _ _ (Act.put a (some 2) (a.eval (.tmp 49))) _
    rw [show a.eval (.tmp 49) = .bool false from hq 25 (by decide)]
    exact hk
def slotLcc (i : Nat) : Nat := [24, 25, 26, 27, 28, 29, 30, 31, 32, 33, 34, 35, 36, 37, 38, 39, 40, 41, 42, 43, 44, 45, 46, 47, 48, 49].getD i 0
theorem slotLcc_lt : ∀ i, i < 26 → slotLcc i < 50 := by decide
theorem slotLcc_inj : ∀ i, i < 26 → ∀ j, j < 26 → slotLcc i = slotLcc j → i = j := by decide
theorem slotLcc_no1 : ∀ i, i < 26 → slotLcc i ≠ 1 := by decide
def qLcc (bx : Nat) (kd N T E : Int) (a0 : Option Addr) (l0 c0 : Nat) (a1 : Option Addr) (l1 c1 : Nat) (a2 : Option Addr) (l2 c2 : Nat) (a3 : Option Addr) (l3 c3 : Nat) (a4 : Option Addr) (l4 c4 : Nat)  (i : Nat) (W : World) (x : Value) : Prop :=
  match i with
  | 0 => x = .pointer (some ⟨bx, 1, none⟩)
  | 1 => x = .agg #[.int .i64 N, .int .i64 T, .int .i64 E, .slice a0 l0 c0]
  | 2 => x = .pointer (some ⟨bx, 6, none⟩)
  | 3 => x = .agg #[.slice a2 l2 c2]
  | 4 => x = .bool true
  | 5 => x = .bool true
  | 6 => x = .pointer (some ⟨bx, 7, none⟩)
  | 7 => x = .agg #[.bool true, .slice a3 l3 c3]
  | 8 => x = .bool true
  | 9 => x = .bool true
  | 10 => x = .bool true
  | 11 => x = .pointer (some ⟨bx, 7, none⟩)
  | 12 => x = .pointer (some ⟨bx, 7, none⟩)
  | 13 => x = .bool true
  | 14 => x = .bool false
  | 15 => x = .bool false
  | 16 => x = .bool false
  | 17 => True
  | 18 => True
  | 19 => True
  | 20 => True
  | 21 => True
  | 22 => True
  | 23 => True
  | 24 => True
  | 25 => x = .bool false
  | _ => True
theorem qLcc_old (bx : Nat) (kd N T E : Int) (a0 : Option Addr) (l0 c0 : Nat) (a1 : Option Addr) (l1 c1 : Nat) (a2 : Option Addr) (l2 c2 : Nat) (a3 : Option Addr) (l3 c3 : Nat) (a4 : Option Addr) (l4 c4 : Nat)   (i : Nat) (W W' : World) (x : Value) (h : qLcc bx kd N T E a0 l0 c0 a1 l1 c1 a2 l2 c2 a3 l3 c3 a4 l4 c4  i W x) (qo : Old W W') : qLcc bx kd N T E a0 l0 c0 a1 l1 c1 a2 l2 c2 a3 l3 c3 a4 l4 c4  i W' x := by
  unfold qLcc at h ⊢
  split at h
  all_goals first | exact h | trivial
set_option maxRecDepth 100000 in
set_option maxHeartbeats 8000000 in
theorem reg_Lcc (w0 : World) (bx : Nat) (kd N T E : Int) (a0 : Option Addr) (l0 c0 : Nat) (a1 : Option Addr) (l1 c1 : Nat) (a2 : Option Addr) (l2 c2 : Nat) (a3 : Option Addr) (l3 c3 : Nat) (a4 : Option Addr) (l4 c4 : Nat)     (b_bx : w0.heap[bx]? = some (.cells #[.int .i64 kd, .int .i64 N, .int .i64 T, .int .i64 E, .slice a0 l0 c0, .slice a1 l1 c1, .slice a2 l2 c2, .bool true, .slice a3 l3 c3, .slice a4 l4 c4] 59 (0, 0))) 
    
    (K1 : ∀ W, Old w0 W → Calls Tryz.prog 43 #[.agg #[.int .i64 N, .int .i64 T, .int .i64 E, .slice a0 l0 c0], .agg #[.slice a2 l2 c2]] W fun e w' => e = .returned (.bool true) ∧ Old W w')
    (K2 : ∀ W, Old w0 W → Calls Tryz.prog 136 #[.agg #[.bool true, .slice a3 l3 c3]] W fun e w' => e = .returned (.bool true) ∧ Old W w')
    (Q : Exit → Act → World → Prop) (b0 : Act) (hsz : b0.tmps.size = 50) (ha1 : b0.eval (.tmp 1) = .pointer (some ⟨bx, 0, none⟩))
    (HK : Hid (∀ (us : Nat → Value) (W : World) , Old w0 W → Q .normal ((putAll b0 ((List.range 26).map fun i => (slotLcc i, us i))).put (some 2) (.bool false)) W)) :
    Code.wp Tryz.prog ((Tryz.f75.body.bind (regionAtmul 3)).getD .skip) Q b0 w0 := by
  conv => arg 2; whnf
  have px_bx : ∀ W, Old w0 W → W.heap[bx]? = some (.cells #[.int .i64 kd, .int .i64 N, .int .i64 T, .int .i64 E, .slice a0 l0 c0, .slice a1 l1 c1, .slice a2 l2 c2, .bool true, .slice a3 l3 c3, .slice a4 l4 c4] 59 (0, 0)) := fun W g => (g.block bx (lt_of_some b_bx)).trans b_bx
  have pc_bx_1 : ∀ W, Old w0 W → W.cell? ⟨bx, 1, none⟩ = some (.int .i64 N) := fun W g => cell_of_row W bx 1 _ _ (0, 0) (px_bx W g)
  have pc_bx_2 : ∀ W, Old w0 W → W.cell? ⟨bx, 2, none⟩ = some (.int .i64 T) := fun W g => cell_of_row W bx 2 _ _ (0, 0) (px_bx W g)
  have pc_bx_3 : ∀ W, Old w0 W → W.cell? ⟨bx, 3, none⟩ = some (.int .i64 E) := fun W g => cell_of_row W bx 3 _ _ (0, 0) (px_bx W g)
  have pc_bx_4 : ∀ W, Old w0 W → W.cell? ⟨bx, 4, none⟩ = some (.slice a0 l0 c0) := fun W g => cell_of_row W bx 4 _ _ (0, 0) (px_bx W g)
  have pc_bx_6 : ∀ W, Old w0 W → W.cell? ⟨bx, 6, none⟩ = some (.slice a2 l2 c2) := fun W g => cell_of_row W bx 6 _ _ (0, 0) (px_bx W g)
  have pc_bx_7 : ∀ W, Old w0 W → W.cell? ⟨bx, 7, none⟩ = some (.bool true) := fun W g => cell_of_row W bx 7 _ _ (0, 0) (px_bx W g)
  have pc_bx_8 : ∀ W, Old w0 W → W.cell? ⟨bx, 8, none⟩ = some (.slice a3 l3 c3) := fun W g => cell_of_row W bx 8 _ _ (0, 0) (px_bx W g)
  refine wp_region_tailG 26 (by decide) (by kernel_rfl) (by kernel_rfl) (by kernel_rfl) (by kernel_rfl) (by kernel_rfl) slotLcc (fun i hi => by rw [hsz]; exact slotLcc_lt i hi) (fun i j hi hj => slotLcc_inj i hi j hj) (qLcc bx kd N T E a0 l0 c0 a1 l1 c1 a2 l2 c2 a3 l3 c3 a4 l4 c4  ) (qLcc_old bx kd N T E a0 l0 c0 a1 l1 c1 a2 l2 c2 a3 l3 c3 a4 l4 c4  ) [] (fun i W v hi hq => by cases hi) ?_ ?_
  · refine ⟨?_, ?_, ?_, ?_, ?_, ?_, ?_, ?_, ?_, ?_, ?_, ?_, ?_, ?_, ?_, ?_, ?_, ?_, ?_, ?_, ?_, ?_, ?_, ?_, ?_, ?_, trivial⟩
    · intro a W g hF hd
      refine ⟨fun _ => ?_, fun h => by rw [wanted_none rfl] at h; cases h⟩
      have e1 := (hF.same 1 slotLcc_no1).trans ha1
      obtain ⟨ρ, hρ⟩ : ∃ ρ, a.eval = ρ := ⟨_, rfl⟩
      rw [hρ] at e1
      refine op_val ρ hρ (.pointer (some ⟨bx, 1, none⟩)) ?_ ⟨_, rfl, Old.refl _, rfl, (fun h => absurd h (by decide))⟩
      clear g hF hd hρ HK K1 K2 ha1 px_bx b_bx pc_bx_1 pc_bx_2 pc_bx_3 pc_bx_4 pc_bx_6 pc_bx_7 pc_bx_8 
      go_simp
      all_goals (first | (rw [IntKind.wrap_i64]; omega) | (rw [IntKind.wrap_u64]; omega) | omega)
    · intro a W g hF hd
      refine ⟨fun _ => ?_, fun h => by rw [wanted_none rfl] at h; cases h⟩
      have h0 : a.eval (.tmp 24) = .pointer (some ⟨bx, 1, none⟩) := hd ⟨0, .data⟩ (by simp) rfl
      have kk0 := pc_bx_1 W g
      have kk1 := pc_bx_2 W g
      have kk2 := pc_bx_3 W g
      have kk3 := pc_bx_4 W g
      obtain ⟨ρ, hρ⟩ : ∃ ρ, a.eval = ρ := ⟨_, rfl⟩
      rw [hρ] at h0
      refine op_val ρ hρ (.agg #[.int .i64 N, .int .i64 T, .int .i64 E, .slice a0 l0 c0]) ?_ ⟨_, rfl, Old.refl _, rfl, (fun h => absurd h (by decide))⟩
      clear g hF hd hρ HK K1 K2 ha1 px_bx b_bx pc_bx_1 pc_bx_2 pc_bx_3 pc_bx_4 pc_bx_6 pc_bx_7 pc_bx_8 
      go_simp
      all_goals (first | (rw [IntKind.wrap_i64]; omega) | (rw [IntKind.wrap_u64]; omega) | omega)
    · intro a W g hF hd
      refine ⟨fun _ => ?_, fun h => by rw [wanted_none rfl] at h; cases h⟩
      have e1 := (hF.same 1 slotLcc_no1).trans ha1
      obtain ⟨ρ, hρ⟩ : ∃ ρ, a.eval = ρ := ⟨_, rfl⟩
      rw [hρ] at e1
      refine op_val ρ hρ (.pointer (some ⟨bx, 6, none⟩)) ?_ ⟨_, rfl, Old.refl _, rfl, (fun h => absurd h (by decide))⟩
      clear g hF hd hρ HK K1 K2 ha1 px_bx b_bx pc_bx_1 pc_bx_2 pc_bx_3 pc_bx_4 pc_bx_6 pc_bx_7 pc_bx_8 
      go_simp
      all_goals (first | (rw [IntKind.wrap_i64]; omega) | (rw [IntKind.wrap_u64]; omega) | omega)
    · intro a W g hF hd
      refine ⟨fun _ => ?_, fun h => by rw [wanted_none rfl] at h; cases h⟩
      have h2 : a.eval (.tmp 26) = .pointer (some ⟨bx, 6, none⟩) := hd ⟨2, .data⟩ (by simp) rfl
      have kk0 := pc_bx_6 W g
      obtain ⟨ρ, hρ⟩ : ∃ ρ, a.eval = ρ := ⟨_, rfl⟩
      rw [hρ] at h2
      refine op_val ρ hρ (.agg #[.slice a2 l2 c2]) ?_ ⟨_, rfl, Old.refl _, rfl, (fun h => absurd h (by decide))⟩
      clear g hF hd hρ HK K1 K2 ha1 px_bx b_bx pc_bx_1 pc_bx_2 pc_bx_3 pc_bx_4 pc_bx_6 pc_bx_7 pc_bx_8 
      go_simp
      all_goals (first | (rw [IntKind.wrap_i64]; omega) | (rw [IntKind.wrap_u64]; omega) | omega)
    · intro a W g hF hd
      refine ⟨fun _ => ?_, fun h => by rw [wanted_none rfl] at h; cases h⟩
      have h1 : a.eval (.tmp 25) = .agg #[.int .i64 N, .int .i64 T, .int .i64 E, .slice a0 l0 c0] := hd ⟨1, .data⟩ (by simp) rfl
      have h3 : a.eval (.tmp 27) = .agg #[.slice a2 l2 c2] := hd ⟨3, .data⟩ (by simp) rfl
      refine op_call_ret (R := fun v w' => v = .bool true ∧ Old W w') Tryz.call43 (vs := #[.agg #[.int .i64 N, .int .i64 T, .int .i64 E, .slice a0 l0 c0], .agg #[.slice a2 l2 c2]]) (by simp [h1, h3]) ((K1 W g).mono fun e w' h => ⟨_, h.1, rfl, h.2⟩) ?_
      rintro x w' ⟨rfl, g'⟩
      exact ⟨_, rfl, g', rfl, (fun h => absurd h (by decide))⟩
    · intro a W g hF hd
      refine ⟨fun _ => ?_, fun h => by rw [wanted_none rfl] at h; cases h⟩
      refine op_move ?_
      exact ⟨_, rfl, Old.refl _, hd ⟨4, .data⟩ (by simp) rfl, (fun h => absurd h (by decide))⟩
    · intro a W g hF hd
      refine ⟨fun _ => ?_, fun h => ?_⟩
      rotate_left
      · rw [wanted_of (j := 5) (s := 29) (want := true) (b := true) rfl rfl (by rw [hF.size, hsz]; decide) (hd ⟨5, .guard⟩ (by simp) rfl)] at h
        cases h
      refine op_guard ?_
      have e1 := (hF.same 1 slotLcc_no1).trans ha1
      obtain ⟨ρ, hρ⟩ : ∃ ρ, a.eval = ρ := ⟨_, rfl⟩
      rw [hρ] at e1
      refine op_val ρ hρ (.pointer (some ⟨bx, 7, none⟩)) ?_ ⟨_, rfl, Old.refl _, rfl, (fun h => absurd h (by decide))⟩
      clear g hF hd hρ HK K1 K2 ha1 px_bx b_bx pc_bx_1 pc_bx_2 pc_bx_3 pc_bx_4 pc_bx_6 pc_bx_7 pc_bx_8 
      go_simp
      all_goals (first | (rw [IntKind.wrap_i64]; omega) | (rw [IntKind.wrap_u64]; omega) | omega)
    · intro a W g hF hd
      refine ⟨fun _ => ?_, fun h => ?_⟩
      rotate_left
      · rw [wanted_of (j := 5) (s := 29) (want := true) (b := true) rfl rfl (by rw [hF.size, hsz]; decide) (hd ⟨5, .guard⟩ (by simp) rfl)] at h
        cases h
      refine op_guard ?_
      have h6 : a.eval (.tmp 30) = .pointer (some ⟨bx, 7, none⟩) := hd ⟨6, .data⟩ (by simp) rfl
      have kk0 := pc_bx_7 W g
      have kk1 := pc_bx_8 W g
      obtain ⟨ρ, hρ⟩ : ∃ ρ, a.eval = ρ := ⟨_, rfl⟩
      rw [hρ] at h6
      refine op_val ρ hρ (.agg #[.bool true, .slice a3 l3 c3]) ?_ ⟨_, rfl, Old.refl _, rfl, (fun h => absurd h (by decide))⟩
      clear g hF hd hρ HK K1 K2 ha1 px_bx b_bx pc_bx_1 pc_bx_2 pc_bx_3 pc_bx_4 pc_bx_6 pc_bx_7 pc_bx_8 
      go_simp
      all_goals (first | (rw [IntKind.wrap_i64]; omega) | (rw [IntKind.wrap_u64]; omega) | omega)
    · intro a W g hF hd
      refine ⟨fun _ => ?_, fun h => ?_⟩
      rotate_left
      · rw [wanted_of (j := 5) (s := 29) (want := true) (b := true) rfl rfl (by rw [hF.size, hsz]; decide) (hd ⟨5, .guard⟩ (by simp) rfl)] at h
        cases h
      refine op_guard ?_
      have h7 : a.eval (.tmp 31) = .agg #[.bool true, .slice a3 l3 c3] := hd ⟨7, .data⟩ (by simp) rfl
      refine op_call_ret (R := fun v w' => v = .bool true ∧ Old W w') Tryz.call136 (vs := #[.agg #[.bool true, .slice a3 l3 c3]]) (by simp [h7]) ((K2 W g).mono fun e w' h => ⟨_, h.1, rfl, h.2⟩) ?_
      rintro x w' ⟨rfl, g'⟩
      exact ⟨_, rfl, g', rfl, (fun h => absurd h (by decide))⟩
    · intro a W g hF hd
      refine ⟨fun _ => ?_, fun h => by rw [wanted_none rfl] at h; cases h⟩
      have h5 : a.eval (.tmp 29) = .bool true := hd ⟨5, .data⟩ (by simp) rfl
      have h8 : a.eval (.tmp 32) = .bool true := hd ⟨8, .data⟩ (by simp) rfl
      obtain ⟨ρ, hρ⟩ : ∃ ρ, a.eval = ρ := ⟨_, rfl⟩
      rw [hρ] at h5 h8
      refine op_val ρ hρ (.bool true) ?_ ⟨_, rfl, Old.refl _, rfl, (fun h => absurd h (by decide))⟩
      clear g hF hd hρ HK K1 K2 ha1 px_bx b_bx pc_bx_1 pc_bx_2 pc_bx_3 pc_bx_4 pc_bx_6 pc_bx_7 pc_bx_8 
      go_simp
      all_goals (first | (rw [IntKind.wrap_i64]; omega) | (rw [IntKind.wrap_u64]; omega) | omega)
    · intro a W g hF hd
      refine ⟨fun _ => ?_, fun h => by rw [wanted_none rfl] at h; cases h⟩
      refine op_move ?_
      exact ⟨_, rfl, Old.refl _, hd ⟨9, .data⟩ (by simp) rfl, (fun h => absurd h (by decide))⟩
    · intro a W g hF hd
      refine ⟨fun _ => ?_, fun h => ?_⟩
      rotate_left
      · rw [wanted_of (j := 10) (s := 34) (want := true) (b := true) rfl rfl (by rw [hF.size, hsz]; decide) (hd ⟨10, .guard⟩ (by simp) rfl)] at h
        cases h
      refine op_guard ?_
      have e1 := (hF.same 1 slotLcc_no1).trans ha1
      obtain ⟨ρ, hρ⟩ : ∃ ρ, a.eval = ρ := ⟨_, rfl⟩
      rw [hρ] at e1
      refine op_val ρ hρ (.pointer (some ⟨bx, 7, none⟩)) ?_ ⟨_, rfl, Old.refl _, rfl, (fun h => absurd h (by decide))⟩
      clear g hF hd hρ HK K1 K2 ha1 px_bx b_bx pc_bx_1 pc_bx_2 pc_bx_3 pc_bx_4 pc_bx_6 pc_bx_7 pc_bx_8 
      go_simp
      all_goals (first | (rw [IntKind.wrap_i64]; omega) | (rw [IntKind.wrap_u64]; omega) | omega)
    · intro a W g hF hd
      refine ⟨fun _ => ?_, fun h => ?_⟩
      rotate_left
      · rw [wanted_of (j := 10) (s := 34) (want := true) (b := true) rfl rfl (by rw [hF.size, hsz]; decide) (hd ⟨10, .guard⟩ (by simp) rfl)] at h
        cases h
      refine op_guard ?_
      have h11 : a.eval (.tmp 35) = .pointer (some ⟨bx, 7, none⟩) := hd ⟨11, .data⟩ (by simp) rfl
      obtain ⟨ρ, hρ⟩ : ∃ ρ, a.eval = ρ := ⟨_, rfl⟩
      rw [hρ] at h11
      refine op_val ρ hρ (.pointer (some ⟨bx, 7, none⟩)) ?_ ⟨_, rfl, Old.refl _, rfl, (fun h => absurd h (by decide))⟩
      clear g hF hd hρ HK K1 K2 ha1 px_bx b_bx pc_bx_1 pc_bx_2 pc_bx_3 pc_bx_4 pc_bx_6 pc_bx_7 pc_bx_8 
      go_simp
      all_goals (first | (rw [IntKind.wrap_i64]; omega) | (rw [IntKind.wrap_u64]; omega) | omega)
    · intro a W g hF hd
      refine ⟨fun _ => ?_, fun h => ?_⟩
      rotate_left
      · rw [wanted_of (j := 10) (s := 34) (want := true) (b := true) rfl rfl (by rw [hF.size, hsz]; decide) (hd ⟨10, .guard⟩ (by simp) rfl)] at h
        cases h
      refine op_guard ?_
      have h12 : a.eval (.tmp 36) = .pointer (some ⟨bx, 7, none⟩) := hd ⟨12, .data⟩ (by simp) rfl
      have kk0 := pc_bx_7 W g
      obtain ⟨ρ, hρ⟩ : ∃ ρ, a.eval = ρ := ⟨_, rfl⟩
      rw [hρ] at h12
      refine op_val ρ hρ (.bool true) ?_ ⟨_, rfl, Old.refl _, rfl, (fun h => absurd h (by decide))⟩
      clear g hF hd hρ HK K1 K2 ha1 px_bx b_bx pc_bx_1 pc_bx_2 pc_bx_3 pc_bx_4 pc_bx_6 pc_bx_7 pc_bx_8 
      go_simp
      all_goals (first | (rw [IntKind.wrap_i64]; omega) | (rw [IntKind.wrap_u64]; omega) | omega)
    · intro a W g hF hd
      refine ⟨fun _ => ?_, fun h => ?_⟩
      rotate_left
      · rw [wanted_of (j := 10) (s := 34) (want := true) (b := true) rfl rfl (by rw [hF.size, hsz]; decide) (hd ⟨10, .guard⟩ (by simp) rfl)] at h
        cases h
      refine op_guard ?_
      have h13 : a.eval (.tmp 37) = .bool true := hd ⟨13, .data⟩ (by simp) rfl
      obtain ⟨ρ, hρ⟩ : ∃ ρ, a.eval = ρ := ⟨_, rfl⟩
      rw [hρ] at h13
      refine op_val ρ hρ (.bool false) ?_ ⟨_, rfl, Old.refl _, rfl, (fun h => absurd h (by decide))⟩
      clear g hF hd hρ HK K1 K2 ha1 px_bx b_bx pc_bx_1 pc_bx_2 pc_bx_3 pc_bx_4 pc_bx_6 pc_bx_7 pc_bx_8 
      go_simp
      all_goals (first | (rw [IntKind.wrap_i64]; omega) | (rw [IntKind.wrap_u64]; omega) | omega)
    · intro a W g hF hd
      refine ⟨fun _ => ?_, fun h => by rw [wanted_none rfl] at h; cases h⟩
      have h10 : a.eval (.tmp 34) = .bool true := hd ⟨10, .data⟩ (by simp) rfl
      have h14 : a.eval (.tmp 38) = .bool false := hd ⟨14, .data⟩ (by simp) rfl
      obtain ⟨ρ, hρ⟩ : ∃ ρ, a.eval = ρ := ⟨_, rfl⟩
      rw [hρ] at h10 h14
      refine op_val ρ hρ (.bool false) ?_ ⟨_, rfl, Old.refl _, rfl, (fun h => absurd h (by decide))⟩
      clear g hF hd hρ HK K1 K2 ha1 px_bx b_bx pc_bx_1 pc_bx_2 pc_bx_3 pc_bx_4 pc_bx_6 pc_bx_7 pc_bx_8 
      go_simp
      all_goals (first | (rw [IntKind.wrap_i64]; omega) | (rw [IntKind.wrap_u64]; omega) | omega)
    · intro a W g hF hd
      refine ⟨fun _ => ?_, fun h => by rw [wanted_none rfl] at h; cases h⟩
      refine op_move ?_
      exact ⟨_, rfl, Old.refl _, hd ⟨15, .data⟩ (by simp) rfl, (fun h => absurd h (by decide))⟩
    · intro a W g hF hd
      refine ⟨fun h => ?_, fun _ => ⟨rfl, trivial, rfl⟩⟩
      rw [wanted_of (j := 16) (s := 40) (want := true) (b := false) rfl rfl (by rw [hF.size, hsz]; decide) (hd ⟨16, .guard⟩ (by simp) rfl)] at h
      cases h
    · intro a W g hF hd
      refine ⟨fun h => ?_, fun _ => ⟨rfl, trivial, rfl⟩⟩
      rw [wanted_of (j := 16) (s := 40) (want := true) (b := false) rfl rfl (by rw [hF.size, hsz]; decide) (hd ⟨16, .guard⟩ (by simp) rfl)] at h
      cases h
    · intro a W g hF hd
      refine ⟨fun h => ?_, fun _ => ⟨rfl, trivial, rfl⟩⟩
      rw [wanted_of (j := 16) (s := 40) (want := true) (b := false) rfl rfl (by rw [hF.size, hsz]; decide) (hd ⟨16, .guard⟩ (by simp) rfl)] at h
      cases h
    · intro a W g hF hd
      refine ⟨fun h => ?_, fun _ => ⟨rfl, trivial, rfl⟩⟩
      rw [wanted_of (j := 16) (s := 40) (want := true) (b := false) rfl rfl (by rw [hF.size, hsz]; decide) (hd ⟨16, .guard⟩ (by simp) rfl)] at h
      cases h
    · intro a W g hF hd
      refine ⟨fun h => ?_, fun _ => ⟨rfl, trivial, rfl⟩⟩
      rw [wanted_of (j := 16) (s := 40) (want := true) (b := false) rfl rfl (by rw [hF.size, hsz]; decide) (hd ⟨16, .guard⟩ (by simp) rfl)] at h
      cases h
    · intro a W g hF hd
      refine ⟨fun h => ?_, fun _ => ⟨rfl, trivial, rfl⟩⟩
      rw [wanted_of (j := 16) (s := 40) (want := true) (b := false) rfl rfl (by rw [hF.size, hsz]; decide) (hd ⟨16, .guard⟩ (by simp) rfl)] at h
      cases h
    · intro a W g hF hd
      refine ⟨fun h => ?_, fun _ => ⟨rfl, trivial, rfl⟩⟩
      rw [wanted_of (j := 16) (s := 40) (want := true) (b := false) rfl rfl (by rw [hF.size, hsz]; decide) (hd ⟨16, .guard⟩ (by simp) rfl)] at h
      cases h
    · intro a W g hF hd
      refine ⟨fun h => ?_, fun _ => ⟨rfl, trivial, rfl⟩⟩
      rw [wanted_of (j := 16) (s := 40) (want := true) (b := false) rfl rfl (by rw [hF.size, hsz]; decide) (hd ⟨16, .guard⟩ (by simp) rfl)] at h
      cases h
    · intro a W g hF hd
      refine ⟨fun _ => ?_, fun h => by rw [wanted_none rfl] at h; cases h⟩
      have h16 : a.eval (.tmp 40) = .bool false := hd ⟨16, .data⟩ (by simp) rfl
      have c1 : a.eval (.const (.bool false)) = .bool false := rfl
      obtain ⟨ρ, hρ⟩ : ∃ ρ, a.eval = ρ := ⟨_, rfl⟩
      rw [hρ] at h16 c1
      refine op_val ρ hρ (.bool false) ?_ ⟨_, rfl, Old.refl _, rfl, (fun h => absurd h (by decide))⟩
      clear g hF hd hρ HK K1 K2 ha1 px_bx b_bx pc_bx_1 pc_bx_2 pc_bx_3 pc_bx_4 pc_bx_6 pc_bx_7 pc_bx_8 
      go_simp
      all_goals (first | (rw [IntKind.wrap_i64]; omega) | (rw [IntKind.wrap_u64]; omega) | omega)
  · intro a W g hF hq hne
    have hput := fram_put (show Fram 26 slotLcc b0 a from hF) (fun i j hi hj => slotLcc_inj i hi j hj)
    have hk := HK.out (fun i => a.eval (.tmp (slotLcc i))) W g  
    rw [← hput] at hk
    refine op_assign ?_
    show tailWp _ _ _ _ _
    show tailWp _ _ _ (Act.put a (some 2) (a.eval (.tmp 49))) _
    rw [show a.eval (.tmp 49) = .bool false from hq 25 (by decide)]
    exact hk
def slotLcd (i : Nat) : Nat := [24, 25, 26, 27, 28, 29, 30, 31, 32, 33, 34, 35, 36, 37, 38, 39, 40, 41, 42, 43, 44, 45, 46, 47, 48, 49].getD i 0
theorem slotLcd_lt : ∀ i, i < 26 → slotLcd i < 50 := by decide
theorem slotLcd_inj : ∀ i, i < 26 → ∀ j, j < 26 → slotLcd i = slotLcd j → i = j := by decide
theorem slotLcd_no1 : ∀ i, i < 26 → slotLcd i ≠ 1 := by decide
def qLcd (bx : Nat) (kd N T E : Int) (a0 : Option Addr) (l0 c0 : Nat) (a1 : Option Addr) (l1 c1 : Nat) (a2 : Option Addr) (l2 c2 : Nat) (a3 : Option Addr) (l3 c3 : Nat) (a4 : Option Addr) (l4 c4 : Nat) (c : Int) (PQ : World → Value → Prop) (i : Nat) (W : World) (x : Value) : Prop :=
  match i with
  | 0 => x = .pointer (some ⟨bx, 1, none⟩)
  | 1 => x = .agg #[.int .i64 N, .int .i64 T, .int .i64 E, .slice a0 l0 c0]
  | 2 => x = .pointer (some ⟨bx, 6, none⟩)
  | 3 => x = .agg #[.slice a2 l2 c2]
  | 4 => x = .bool true
  | 5 => x = .bool true
  | 6 => x = .pointer (some ⟨bx, 7, none⟩)
  | 7 => x = .agg #[.bool false, .slice a3 l3 c3]
  | 8 => x = .bool true
  | 9 => x = .bool true
  | 10 => x = .bool true
  | 11 => x = .pointer (some ⟨bx, 7, none⟩)
  | 12 => x = .pointer (some ⟨bx, 7, none⟩)
  | 13 => x = .bool false
  | 14 => x = .bool true
  | 15 => x = .bool true
  | 16 => x = .bool true
  | 17 => x = .pointer (some ⟨bx, 7, none⟩)
  | 18 => x = .pointer (some ⟨bx, 8, none⟩)
  | 19 => x = .slice a3 l3 c3
  | 20 => x = .pointer (some ⟨bx, 1, none⟩)
  | 21 => x = .agg #[.int .i64 N, .int .i64 T, .int .i64 E, .slice a0 l0 c0]
  | 22 => PQ W x
  | 23 => x = .int .i64 c
  | 24 => x = .bool (decide (c ≤ 0))
  | 25 => x = .bool (decide (c ≤ 0))
  | _ => True
theorem qLcd_old (bx : Nat) (kd N T E : Int) (a0 : Option Addr) (l0 c0 : Nat) (a1 : Option Addr) (l1 c1 : Nat) (a2 : Option Addr) (l2 c2 : Nat) (a3 : Option Addr) (l3 c3 : Nat) (a4 : Option Addr) (l4 c4 : Nat) (c : Int) (PQ : World → Value → Prop) (hM_PQ : ∀ W W' v, PQ W v → Old W W' → PQ W' v) (i : Nat) (W W' : World) (x : Value) (h : qLcd bx kd N T E a0 l0 c0 a1 l1 c1 a2 l2 c2 a3 l3 c3 a4 l4 c4 c PQ i W x) (qo : Old W W') : qLcd bx kd N T E a0 l0 c0 a1 l1 c1 a2 l2 c2 a3 l3 c3 a4 l4 c4 c PQ i W' x := by
  unfold qLcd at h ⊢
  split at h
  case h_23 => exact hM_PQ _ _ _ h qo
  all_goals first | exact h | trivial
set_option maxRecDepth 100000 in
set_option maxHeartbeats 8000000 in
theorem reg_Lcd (w0 : World) (bx : Nat) (kd N T E : Int) (a0 : Option Addr) (l0 c0 : Nat) (a1 : Option Addr) (l1 c1 : Nat) (a2 : Option Addr) (l2 c2 : Nat) (a3 : Option Addr) (l3 c3 : Nat) (a4 : Option Addr) (l4 c4 : Nat) (c : Int) (PQ : World → Value → Prop) (hM_PQ : ∀ W W' v, PQ W v → Old W W' → PQ W' v)   (b_bx : w0.heap[bx]? = some (.cells #[.int .i64 kd, .int .i64 N, .int .i64 T, .int .i64 E, .slice a0 l0 c0, .slice a1 l1 c1, .slice a2 l2 c2, .bool false, .slice a3 l3 c3, .slice a4 l4 c4] 59 (0, 0))) 
    
    (K1 : ∀ W, Old w0 W → Calls Tryz.prog 43 #[.agg #[.int .i64 N, .int .i64 T, .int .i64 E, .slice a0 l0 c0], .agg #[.slice a2 l2 c2]] W fun e w' => e = .returned (.bool true) ∧ Old W w')
    (K2 : ∀ W, Old w0 W → Calls Tryz.prog 136 #[.agg #[.bool false, .slice a3 l3 c3]] W fun e w' => e = .returned (.bool true) ∧ Old W w')
    (K3 : ∀ W, Old w0 W → Calls Tryz.prog 100 #[.agg #[.int .i64 N, .int .i64 T, .int .i64 E, .slice a0 l0 c0]] W fun e w' => ∃ v, e = .returned v ∧ Old W w' ∧ PQ w' v)
    (K4 : ∀ W, Old w0 W → ∀ (u22 : Value), PQ W u22 → Calls Tryz.prog 66 #[.slice a3 l3 c3, u22] W fun e w' => e = .returned (.int .i64 c) ∧ Old W w')
    (Q : Exit → Act → World → Prop) (b0 : Act) (hsz : b0.tmps.size = 50) (ha1 : b0.eval (.tmp 1) = .pointer (some ⟨bx, 0, none⟩))
    (HK : Hid (∀ (us : Nat → Value) (W : World) , Old w0 W → Q .normal ((putAll b0 ((List.range 26).map fun i => (slotLcd i, us i))).put (some 2) (.bool (decide (c ≤ 0)))) W)) :
    Code.wp Tryz.prog ((Tryz.f75.body.bind (regionAtmul 3)).getD .skip) Q b0 w0 := by
  conv => arg 2; whnf
  have px_bx : ∀ W, Old w0 W → W.heap[bx]? = some (.cells #[.int .i64 kd, .int .i64 N, .int .i64 T, .int .i64 E, .slice a0 l0 c0, .slice a1 l1 c1, .slice a2 l2 c2, .bool false, .slice a3 l3 c3, .slice a4 l4 c4] 59 (0, 0)) := fun W g => (g.block bx (lt_of_some b_bx)).trans b_bx
  have pc_bx_1 : ∀ W, Old w0 W → W.cell? ⟨bx, 1, none⟩ = some (.int .i64 N) := fun W g => cell_of_row W bx 1 _ _ (0, 0) (px_bx W g)
  have pc_bx_2 : ∀ W, Old w0 W → W.cell? ⟨bx, 2, none⟩ = some (.int .i64 T) := fun W g => cell_of_row W bx 2 _ _ (0, 0) (px_bx W g)
  have pc_bx_3 : ∀ W, Old w0 W → W.cell? ⟨bx, 3, none⟩ = some (.int .i64 E) := fun W g => cell_of_row W bx 3 _ _ (0, 0) (px_bx W g)
  have pc_bx_4 : ∀ W, Old w0 W → W.cell? ⟨bx, 4, none⟩ = some (.slice a0 l0 c0) := fun W g => cell_of_row W bx 4 _ _ (0, 0) (px_bx W g)
  have pc_bx_6 : ∀ W, Old w0 W → W.cell? ⟨bx, 6, none⟩ = some (.slice a2 l2 c2) := fun W g => cell_of_row W bx 6 _ _ (0, 0) (px_bx W g)
  have pc_bx_7 : ∀ W, Old w0 W → W.cell? ⟨bx, 7, none⟩ = some (.bool false) := fun W g => cell_of_row W bx 7 _ _ (0, 0) (px_bx W g)
  have pc_bx_8 : ∀ W, Old w0 W → W.cell? ⟨bx, 8, none⟩ = some (.slice a3 l3 c3) := fun W g => cell_of_row W bx 8 _ _ (0, 0) (px_bx W g)
  refine wp_region_tailG 26 (by decide) (by kernel_rfl) (by kernel_rfl) (by kernel_rfl) (by kernel_rfl) (by kernel_rfl) slotLcd (fun i hi => by rw [hsz]; exact slotLcd_lt i hi) (fun i j hi hj => slotLcd_inj i hi j hj) (qLcd bx kd N T E a0 l0 c0 a1 l1 c1 a2 l2 c2 a3 l3 c3 a4 l4 c4 c PQ ) (qLcd_old bx kd N T E a0 l0 c0 a1 l1 c1 a2 l2 c2 a3 l3 c3 a4 l4 c4 c PQ hM_PQ) [] (fun i W v hi hq => by cases hi) ?_ ?_
  · refine ⟨?_, ?_, ?_, ?_, ?_, ?_, ?_, ?_, ?_, ?_, ?_, ?_, ?_, ?_, ?_, ?_, ?_, ?_, ?_, ?_, ?_, ?_, ?_, ?_, ?_, ?_, trivial⟩
    · intro a W g hF hd
      refine ⟨fun _ => ?_, fun h => by rw [wanted_none rfl] at h; cases h⟩
      have e1 := (hF.same 1 slotLcd_no1).trans ha1
      obtain ⟨ρ, hρ⟩ : ∃ ρ, a.eval = ρ := ⟨_, rfl⟩
      rw [hρ] at e1
      refine op_val ρ hρ (.pointer (some ⟨bx, 1, none⟩)) ?_ ⟨_, rfl, Old.refl _, rfl, (fun h => absurd h (by decide))⟩
      clear g hF hd hρ HK K1 K2 K3 K4 ha1 px_bx b_bx pc_bx_1 pc_bx_2 pc_bx_3 pc_bx_4 pc_bx_6 pc_bx_7 pc_bx_8 
      go_simp
      all_goals (first | (rw [IntKind.wrap_i64]; omega) | (rw [IntKind.wrap_u64]; omega) | omega)
    · intro a W g hF hd
      refine ⟨fun _ => ?_, fun h => by rw [wanted_none rfl] at h; cases h⟩
      have h0 : a.eval (.tmp 24) = .pointer (some ⟨bx, 1, none⟩) := hd ⟨0, .data⟩ (by simp) rfl
      have kk0 := pc_bx_1 W g
      have kk1 := pc_bx_2 W g
      have kk2 := pc_bx_3 W g
      have kk3 := pc_bx_4 W g
      obtain ⟨ρ, hρ⟩ : ∃ ρ, a.eval = ρ := ⟨_, rfl⟩
      rw [hρ] at h0
      refine op_val ρ hρ (.agg #[.int .i64 N, .int .i64 T, .int .i64 E, .slice a0 l0 c0]) ?_ ⟨_, rfl, Old.refl _, rfl, (fun h => absurd h (by decide))⟩
      clear g hF hd hρ HK K1 K2 K3 K4 ha1 px_bx b_bx pc_bx_1 pc_bx_2 pc_bx_3 pc_bx_4 pc_bx_6 pc_bx_7 pc_bx_8 
      go_simp
      all_goals (first | (rw [IntKind.wrap_i64]; omega) | (rw [IntKind.wrap_u64]; omega) | omega)
    · intro a W g hF hd
      refine ⟨fun _ => ?_, fun h => by rw [wanted_none rfl] at h; cases h⟩
      have e1 := (hF.same 1 slotLcd_no1).trans ha1
      obtain ⟨ρ, hρ⟩ : ∃ ρ, a.eval = ρ := ⟨_, rfl⟩
      rw [hρ] at e1
      refine op_val ρ hρ (.pointer (some ⟨bx, 6, none⟩)) ?_ ⟨_, rfl, Old.refl _, rfl, (fun h => absurd h (by decide))⟩
      clear g hF hd hρ HK K1 K2 K3 K4 ha1 px_bx b_bx pc_bx_1 pc_bx_2 pc_bx_3 pc_bx_4 pc_bx_6 pc_bx_7 pc_bx_8 
      go_simp
      all_goals (first | (rw [IntKind.wrap_i64]; omega) | (rw [IntKind.wrap_u64]; omega) | omega)
    · intro a W g hF hd
      refine ⟨fun _ => ?_, fun h => by rw [wanted_none rfl] at h; cases h⟩
      have h2 : a.eval (.tmp 26) = .pointer (some ⟨bx, 6, none⟩) := hd ⟨2, .data⟩ (by simp) rfl
      have kk0 := pc_bx_6 W g
      obtain ⟨ρ, hρ⟩ : ∃ ρ, a.eval = ρ := ⟨_, rfl⟩
      rw [hρ] at h2
      refine op_val ρ hρ (.agg #[.slice a2 l2 c2]) ?_ ⟨_, rfl, Old.refl _, rfl, (fun h => absurd h (by decide))⟩
      clear g hF hd hρ HK K1 K2 K3 K4 ha1 px_bx b_bx pc_bx_1 pc_bx_2 pc_bx_3 pc_bx_4 pc_bx_6 pc_bx_7 pc_bx_8 
      go_simp
      all_goals (first | (rw [IntKind.wrap_i64]; omega) | (rw [IntKind.wrap_u64]; omega) | omega)
    · intro a W g hF hd
      refine ⟨fun _ => ?_, fun h => by rw [wanted_none rfl] at h; cases h⟩
      have h1 : a.eval (.tmp 25) = .agg #[.int .i64 N, .int .i64 T, .int .i64 E, .slice a0 l0 c0] := hd ⟨1, .data⟩ (by simp) rfl
      have h3 : a.eval (.tmp 27) = .agg #[.slice a2 l2 c2] := hd ⟨3, .data⟩ (by simp) rfl
      refine op_call_ret (R := fun v w' => v = .bool true ∧ Old W w') Tryz.call43 (vs := #[.agg #[.int .i64 N, .int .i64 T, .int .i64 E, .slice a0 l0 c0], .agg #[.slice a2 l2 c2]]) (by simp [h1, h3]) ((K1 W g).mono fun e w' h => ⟨_, h.1, rfl, h.2⟩) ?_
      rintro x w' ⟨rfl, g'⟩
      exact ⟨_, rfl, g', rfl, (fun h => absurd h (by decide))⟩
    · intro a W g hF hd
      refine ⟨fun _ => ?_, fun h => by rw [wanted_none rfl] at h; cases h⟩
      refine op_move ?_
      exact ⟨_, rfl, Old.refl _, hd ⟨4, .data⟩ (by simp) rfl, (fun h => absurd h (by decide))⟩
    · intro a W g hF hd
      refine ⟨fun _ => ?_, fun h => ?_⟩
      rotate_left
      · rw [wanted_of (j := 5) (s := 29) (want := true) (b := true) rfl rfl (by rw [hF.size, hsz]; decide) (hd ⟨5, .guard⟩ (by simp) rfl)] at h
        cases h
      refine op_guard ?_
      have e1 := (hF.same 1 slotLcd_no1).trans ha1
      obtain ⟨ρ, hρ⟩ : ∃ ρ, a.eval = ρ := ⟨_, rfl⟩
      rw [hρ] at e1
      refine op_val ρ hρ (.pointer (some ⟨bx, 7, none⟩)) ?_ ⟨_, rfl, Old.refl _, rfl, (fun h => absurd h (by decide))⟩
      clear g hF hd hρ HK K1 K2 K3 K4 ha1 px_bx b_bx pc_bx_1 pc_bx_2 pc_bx_3 pc_bx_4 pc_bx_6 pc_bx_7 pc_bx_8 
      go_simp
      all_goals (first | (rw [IntKind.wrap_i64]; omega) | (rw [IntKind.wrap_u64]; omega) | omega)
    · intro a W g hF hd
      refine ⟨fun _ => ?_, fun h => ?_⟩
      rotate_left
      · rw [wanted_of (j := 5) (s := 29) (want := true) (b := true) rfl rfl (by rw [hF.size, hsz]; decide) (hd ⟨5, .guard⟩ (by simp) rfl)] at h
        cases h
      refine op_guard ?_
      have h6 : a.eval (.tmp 30) = .pointer (some ⟨bx, 7, none⟩) := hd ⟨6, .data⟩ (by simp) rfl
      have kk0 := pc_bx_7 W g
      have kk1 := pc_bx_8 W g
      obtain ⟨ρ, hρ⟩ : ∃ ρ, a.eval = ρ := ⟨_, rfl⟩
      rw [hρ] at h6
      refine op_val ρ hρ (.agg #[.bool false, .slice a3 l3 c3]) ?_ ⟨_, rfl, Old.refl _, rfl, (fun h => absurd h (by decide))⟩
      clear g hF hd hρ HK K1 K2 K3 K4 ha1 px_bx b_bx pc_bx_1 pc_bx_2 pc_bx_3 pc_bx_4 pc_bx_6 pc_bx_7 pc_bx_8 
      go_simp
      all_goals (first | (rw [IntKind.wrap_i64]; omega) | (rw [IntKind.wrap_u64]; omega) | omega)
    · intro a W g hF hd
      refine ⟨fun _ => ?_, fun h => ?_⟩
      rotate_left
      · rw [wanted_of (j := 5) (s := 29) (want := true) (b := true) rfl rfl (by rw [hF.size, hsz]; decide) (hd ⟨5, .guard⟩ (by simp) rfl)] at h
        cases h
      refine op_guard ?_
      have h7 : a.eval (.tmp 31) = .agg #[.bool false, .slice a3 l3 c3] := hd ⟨7, .data⟩ (by simp) rfl
      refine op_call_ret (R := fun v w' => v = .bool true ∧ Old W w') Tryz.call136 (vs := #[.agg #[.bool false, .slice a3 l3 c3]]) (by simp [h7]) ((K2 W g).mono fun e w' h => ⟨_, h.1, rfl, h.2⟩) ?_
      rintro x w' ⟨rfl, g'⟩
      exact ⟨_, rfl, g', rfl, (fun h => absurd h (by decide))⟩
    · intro a W g hF hd
      refine ⟨fun _ => ?_, fun h => by rw [wanted_none rfl] at h; cases h⟩
      have h5 : a.eval (.tmp 29) = .bool true := hd ⟨5, .data⟩ (by simp) rfl
      have h8 : a.eval (.tmp 32) = .bool true := hd ⟨8, .data⟩ (by simp) rfl
      obtain ⟨ρ, hρ⟩ : ∃ ρ, a.eval = ρ := ⟨_, rfl⟩
      rw [hρ] at h5 h8
      refine op_val ρ hρ (.bool true) ?_ ⟨_, rfl, Old.refl _, rfl, (fun h => absurd h (by decide))⟩
      clear g hF hd hρ HK K1 K2 K3 K4 ha1 px_bx b_bx pc_bx_1 pc_bx_2 pc_bx_3 pc_bx_4 pc_bx_6 pc_bx_7 pc_bx_8 
      go_simp
      all_goals (first | (rw [IntKind.wrap_i64]; omega) | (rw [IntKind.wrap_u64]; omega) | omega)
    · intro a W g hF hd
      refine ⟨fun _ => ?_, fun h => by rw [wanted_none rfl] at h; cases h⟩
      refine op_move ?_
      exact ⟨_, rfl, Old.refl _, hd ⟨9, .data⟩ (by simp) rfl, (fun h => absurd h (by decide))⟩
    · intro a W g hF hd
      refine ⟨fun _ => ?_, fun h => ?_⟩
      rotate_left
      · rw [wanted_of (j := 10) (s := 34) (want := true) (b := true) rfl rfl (by rw [hF.size, hsz]; decide) (hd ⟨10, .guard⟩ (by simp) rfl)] at h
        cases h
      refine op_guard ?_
      have e1 := (hF.same 1 slotLcd_no1).trans ha1
      obtain ⟨ρ, hρ⟩ : ∃ ρ, a.eval = ρ := ⟨_, rfl⟩
      rw [hρ] at e1
      refine op_val ρ hρ (.pointer (some ⟨bx, 7, none⟩)) ?_ ⟨_, rfl, Old.refl _, rfl, (fun h => absurd h (by decide))⟩
      clear g hF hd hρ HK K1 K2 K3 K4 ha1 px_bx b_bx pc_bx_1 pc_bx_2 pc_bx_3 pc_bx_4 pc_bx_6 pc_bx_7 pc_bx_8 
      go_simp
      all_goals (first | (rw [IntKind.wrap_i64]; omega) | (rw [IntKind.wrap_u64]; omega) | omega)
    · intro a W g hF hd
      refine ⟨fun _ => ?_, fun h => ?_⟩
      rotate_left
      · rw [wanted_of (j := 10) (s := 34) (want := true) (b := true) rfl rfl (by rw [hF.size, hsz]; decide) (hd ⟨10, .guard⟩ (by simp) rfl)] at h
        cases h
      refine op_guard ?_
      have h11 : a.eval (.tmp 35) = .pointer (some ⟨bx, 7, none⟩) := hd ⟨11, .data⟩ (by simp) rfl
      obtain ⟨ρ, hρ⟩ : ∃ ρ, a.eval = ρ := ⟨_, rfl⟩
      rw [hρ] at h11
      refine op_val ρ hρ (.pointer (some ⟨bx, 7, none⟩)) ?_ ⟨_, rfl, Old.refl _, rfl, (fun h => absurd h (by decide))⟩
      clear g hF hd hρ HK K1 K2 K3 K4 ha1 px_bx b_bx pc_bx_1 pc_bx_2 pc_bx_3 pc_bx_4 pc_bx_6 pc_bx_7 pc_bx_8 
      go_simp
      all_goals (first | (rw [IntKind.wrap_i64]; omega) | (rw [IntKind.wrap_u64]; omega) | omega)
    · intro a W g hF hd
      refine ⟨fun _ => ?_, fun h => ?_⟩
      rotate_left
      · rw [wanted_of (j := 10) (s := 34) (want := true) (b := true) rfl rfl (by rw [hF.size, hsz]; decide) (hd ⟨10, .guard⟩ (by simp) rfl)] at h
        cases h
      refine op_guard ?_
      have h12 : a.eval (.tmp 36) = .pointer (some ⟨bx, 7, none⟩) := hd ⟨12, .data⟩ (by simp) rfl
      have kk0 := pc_bx_7 W g
      obtain ⟨ρ, hρ⟩ : ∃ ρ, a.eval = ρ := ⟨_, rfl⟩
      rw [hρ] at h12
      refine op_val ρ hρ (.bool false) ?_ ⟨_, rfl, Old.refl _, rfl, (fun h => absurd h (by decide))⟩
      clear g hF hd hρ HK K1 K2 K3 K4 ha1 px_bx b_bx pc_bx_1 pc_bx_2 pc_bx_3 pc_bx_4 pc_bx_6 pc_bx_7 pc_bx_8 
      go_simp
      all_goals (first | (rw [IntKind.wrap_i64]; omega) | (rw [IntKind.wrap_u64]; omega) | omega)
    · intro a W g hF hd
      refine ⟨fun _ => ?_, fun h => ?_⟩
      rotate_left
      · rw [wanted_of (j := 10) (s := 34) (want := true) (b := true) rfl rfl (by rw [hF.size, hsz]; decide) (hd ⟨10, .guard⟩ (by simp) rfl)] at h
        cases h
      refine op_guard ?_
      have h13 : a.eval (.tmp 37) = .bool false := hd ⟨13, .data⟩ (by simp) rfl
      obtain ⟨ρ, hρ⟩ : ∃ ρ, a.eval = ρ := ⟨_, rfl⟩
      rw [hρ] at h13
      refine op_val ρ hρ (.bool true) ?_ ⟨_, rfl, Old.refl _, rfl, (fun h => absurd h (by decide))⟩
      clear g hF hd hρ HK K1 K2 K3 K4 ha1 px_bx b_bx pc_bx_1 pc_bx_2 pc_bx_3 pc_bx_4 pc_bx_6 pc_bx_7 pc_bx_8 
      go_simp
      all_goals (first | (rw [IntKind.wrap_i64]; omega) | (rw [IntKind.wrap_u64]; omega) | omega)
    · intro a W g hF hd
      refine ⟨fun _ => ?_, fun h => by rw [wanted_none rfl] at h; cases h⟩
      have h10 : a.eval (.tmp 34) = .bool true := hd ⟨10, .data⟩ (by simp) rfl
      have h14 : a.eval (.tmp 38) = .bool true := hd ⟨14, .data⟩ (by simp) rfl
      obtain ⟨ρ, hρ⟩ : ∃ ρ, a.eval = ρ := ⟨_, rfl⟩
      rw [hρ] at h10 h14
      refine op_val ρ hρ (.bool true) ?_ ⟨_, rfl, Old.refl _, rfl, (fun h => absurd h (by decide))⟩
      clear g hF hd hρ HK K1 K2 K3 K4 ha1 px_bx b_bx pc_bx_1 pc_bx_2 pc_bx_3 pc_bx_4 pc_bx_6 pc_bx_7 pc_bx_8 
      go_simp
      all_goals (first | (rw [IntKind.wrap_i64]; omega) | (rw [IntKind.wrap_u64]; omega) | omega)
    · intro a W g hF hd
      refine ⟨fun _ => ?_, fun h => by rw [wanted_none rfl] at h; cases h⟩
      refine op_move ?_
      exact ⟨_, rfl, Old.refl _, hd ⟨15, .data⟩ (by simp) rfl, (fun h => absurd h (by decide))⟩
    · intro a W g hF hd
      refine ⟨fun _ => ?_, fun h => ?_⟩
      rotate_left
      · rw [wanted_of (j := 16) (s := 40) (want := true) (b := true) rfl rfl (by rw [hF.size, hsz]; decide) (hd ⟨16, .guard⟩ (by simp) rfl)] at h
        cases h
      refine op_guard ?_
      have e1 := (hF.same 1 slotLcd_no1).trans ha1
      obtain ⟨ρ, hρ⟩ : ∃ ρ, a.eval = ρ := ⟨_, rfl⟩
      rw [hρ] at e1
      refine op_val ρ hρ (.pointer (some ⟨bx, 7, none⟩)) ?_ ⟨_, rfl, Old.refl _, rfl, (fun h => absurd h (by decide))⟩
      clear g hF hd hρ HK K1 K2 K3 K4 ha1 px_bx b_bx pc_bx_1 pc_bx_2 pc_bx_3 pc_bx_4 pc_bx_6 pc_bx_7 pc_bx_8 
      go_simp
      all_goals (first | (rw [IntKind.wrap_i64]; omega) | (rw [IntKind.wrap_u64]; omega) | omega)
    · intro a W g hF hd
      refine ⟨fun _ => ?_, fun h => ?_⟩
      rotate_left
      · rw [wanted_of (j := 16) (s := 40) (want := true) (b := true) rfl rfl (by rw [hF.size, hsz]; decide) (hd ⟨16, .guard⟩ (by simp) rfl)] at h
        cases h
      refine op_guard ?_
      have h17 : a.eval (.tmp 41) = .pointer (some ⟨bx, 7, none⟩) := hd ⟨17, .data⟩ (by simp) rfl
      obtain ⟨ρ, hρ⟩ : ∃ ρ, a.eval = ρ := ⟨_, rfl⟩
      rw [hρ] at h17
      refine op_val ρ hρ (.pointer (some ⟨bx, 8, none⟩)) ?_ ⟨_, rfl, Old.refl _, rfl, (fun h => absurd h (by decide))⟩
      clear g hF hd hρ HK K1 K2 K3 K4 ha1 px_bx b_bx pc_bx_1 pc_bx_2 pc_bx_3 pc_bx_4 pc_bx_6 pc_bx_7 pc_bx_8 
      go_simp
      all_goals (first | (rw [IntKind.wrap_i64]; omega) | (rw [IntKind.wrap_u64]; omega) | omega)
    · intro a W g hF hd
      refine ⟨fun _ => ?_, fun h => ?_⟩
      rotate_left
      · rw [wanted_of (j := 16) (s := 40) (want := true) (b := true) rfl rfl (by rw [hF.size, hsz]; decide) (hd ⟨16, .guard⟩ (by simp) rfl)] at h
        cases h
      refine op_guard ?_
      have h18 : a.eval (.tmp 42) = .pointer (some ⟨bx, 8, none⟩) := hd ⟨18, .data⟩ (by simp) rfl
      have kk0 := pc_bx_8 W g
      obtain ⟨ρ, hρ⟩ : ∃ ρ, a.eval = ρ := ⟨_, rfl⟩
      rw [hρ] at h18
      refine op_val ρ hρ (.slice a3 l3 c3) ?_ ⟨_, rfl, Old.refl _, rfl, (fun h => absurd h (by decide))⟩
      clear g hF hd hρ HK K1 K2 K3 K4 ha1 px_bx b_bx pc_bx_1 pc_bx_2 pc_bx_3 pc_bx_4 pc_bx_6 pc_bx_7 pc_bx_8 
      go_simp
      all_goals (first | (rw [IntKind.wrap_i64]; omega) | (rw [IntKind.wrap_u64]; omega) | omega)
    · intro a W g hF hd
      refine ⟨fun _ => ?_, fun h => ?_⟩
      rotate_left
      · rw [wanted_of (j := 16) (s := 40) (want := true) (b := true) rfl rfl (by rw [hF.size, hsz]; decide) (hd ⟨16, .guard⟩ (by simp) rfl)] at h
        cases h
      refine op_guard ?_
      have e1 := (hF.same 1 slotLcd_no1).trans ha1
      obtain ⟨ρ, hρ⟩ : ∃ ρ, a.eval = ρ := ⟨_, rfl⟩
      rw [hρ] at e1
      refine op_val ρ hρ (.pointer (some ⟨bx, 1, none⟩)) ?_ ⟨_, rfl, Old.refl _, rfl, (fun h => absurd h (by decide))⟩
      clear g hF hd hρ HK K1 K2 K3 K4 ha1 px_bx b_bx pc_bx_1 pc_bx_2 pc_bx_3 pc_bx_4 pc_bx_6 pc_bx_7 pc_bx_8 
      go_simp
      all_goals (first | (rw [IntKind.wrap_i64]; omega) | (rw [IntKind.wrap_u64]; omega) | omega)
    · intro a W g hF hd
      refine ⟨fun _ => ?_, fun h => ?_⟩
      rotate_left
      · rw [wanted_of (j := 16) (s := 40) (want := true) (b := true) rfl rfl (by rw [hF.size, hsz]; decide) (hd ⟨16, .guard⟩ (by simp) rfl)] at h
        cases h
      refine op_guard ?_
      have h20 : a.eval (.tmp 44) = .pointer (some ⟨bx, 1, none⟩) := hd ⟨20, .data⟩ (by simp) rfl
      have kk0 := pc_bx_1 W g
      have kk1 := pc_bx_2 W g
      have kk2 := pc_bx_3 W g
      have kk3 := pc_bx_4 W g
      obtain ⟨ρ, hρ⟩ : ∃ ρ, a.eval = ρ := ⟨_, rfl⟩
      rw [hρ] at h20
      refine op_val ρ hρ (.agg #[.int .i64 N, .int .i64 T, .int .i64 E, .slice a0 l0 c0]) ?_ ⟨_, rfl, Old.refl _, rfl, (fun h => absurd h (by decide))⟩
      clear g hF hd hρ HK K1 K2 K3 K4 ha1 px_bx b_bx pc_bx_1 pc_bx_2 pc_bx_3 pc_bx_4 pc_bx_6 pc_bx_7 pc_bx_8 
      go_simp
      all_goals (first | (rw [IntKind.wrap_i64]; omega) | (rw [IntKind.wrap_u64]; omega) | omega)
    · intro a W g hF hd
      refine ⟨fun _ => ?_, fun h => ?_⟩
      rotate_left
      · rw [wanted_of (j := 16) (s := 40) (want := true) (b := true) rfl rfl (by rw [hF.size, hsz]; decide) (hd ⟨16, .guard⟩ (by simp) rfl)] at h
        cases h
      refine op_guard ?_
      have h21 : a.eval (.tmp 45) = .agg #[.int .i64 N, .int .i64 T, .int .i64 E, .slice a0 l0 c0] := hd ⟨21, .data⟩ (by simp) rfl
      refine op_call_ret (R := fun v w' => Old W w' ∧ PQ w' v) Tryz.call100 (vs := #[.agg #[.int .i64 N, .int .i64 T, .int .i64 E, .slice a0 l0 c0]]) (by simp [h21]) (K3 W g) ?_
      rintro x w' ⟨g', hp⟩
      exact ⟨_, rfl, g', hp, (fun h => absurd h (by decide))⟩
    · intro a W g hF hd
      refine ⟨fun _ => ?_, fun h => ?_⟩
      rotate_left
      · rw [wanted_of (j := 16) (s := 40) (want := true) (b := true) rfl rfl (by rw [hF.size, hsz]; decide) (hd ⟨16, .guard⟩ (by simp) rfl)] at h
        cases h
      refine op_guard ?_
      have h19 : a.eval (.tmp 43) = .slice a3 l3 c3 := hd ⟨19, .data⟩ (by simp) rfl
      have p22 : PQ W (a.eval (.tmp 46)) := hd ⟨22, .data⟩ (by simp) rfl
      refine op_call_ret (R := fun v w' => v = .int .i64 c ∧ Old W w') Tryz.call66 (vs := #[.slice a3 l3 c3, a.eval (.tmp 46)]) (by simp [h19]) ((K4 W g _ p22).mono fun e w' h => ⟨_, h.1, rfl, h.2⟩) ?_
      rintro x w' ⟨rfl, g'⟩
      exact ⟨_, rfl, g', rfl, (fun h => absurd h (by decide))⟩
    · intro a W g hF hd
      refine ⟨fun _ => ?_, fun h => ?_⟩
      rotate_left
      · rw [wanted_of (j := 16) (s := 40) (want := true) (b := true) rfl rfl (by rw [hF.size, hsz]; decide) (hd ⟨16, .guard⟩ (by simp) rfl)] at h
        cases h
      refine op_guard ?_
      have h23 : a.eval (.tmp 47) = .int .i64 c := hd ⟨23, .data⟩ (by simp) rfl
      have c1 : a.eval (.const (.int .i64 0)) = .int .i64 0 := rfl
      obtain ⟨ρ, hρ⟩ : ∃ ρ, a.eval = ρ := ⟨_, rfl⟩
      rw [hρ] at h23 c1
      refine op_val ρ hρ (.bool (decide (c ≤ 0))) ?_ ⟨_, rfl, Old.refl _, rfl, (fun h => absurd h (by decide))⟩
      clear g hF hd hρ HK K1 K2 K3 K4 ha1 px_bx b_bx pc_bx_1 pc_bx_2 pc_bx_3 pc_bx_4 pc_bx_6 pc_bx_7 pc_bx_8 
      go_simp
      all_goals (first | (rw [IntKind.wrap_i64]; omega) | (rw [IntKind.wrap_u64]; omega) | omega)
    · intro a W g hF hd
      refine ⟨fun _ => ?_, fun h => by rw [wanted_none rfl] at h; cases h⟩
      have h16 : a.eval (.tmp 40) = .bool true := hd ⟨16, .data⟩ (by simp) rfl
      have h24 : a.eval (.tmp 48) = .bool (decide (c ≤ 0)) := hd ⟨24, .data⟩ (by simp) rfl
      obtain ⟨ρ, hρ⟩ : ∃ ρ, a.eval = ρ := ⟨_, rfl⟩
      rw [hρ] at h16 h24
      refine op_val ρ hρ (.bool (decide (c ≤ 0))) ?_ ⟨_, rfl, Old.refl _, rfl, (fun h => absurd h (by decide))⟩
      clear g hF hd hρ HK K1 K2 K3 K4 ha1 px_bx b_bx pc_bx_1 pc_bx_2 pc_bx_3 pc_bx_4 pc_bx_6 pc_bx_7 pc_bx_8 
      go_simp
      all_goals (first | (rw [IntKind.wrap_i64]; omega) | (rw [IntKind.wrap_u64]; omega) | omega)
  · intro a W g hF hq hne
    have hput := fram_put (show Fram 26 slotLcd b0 a from hF) (fun i j hi hj => slotLcd_inj i hi j hj)
    have hk := HK.out (fun i => a.eval (.tmp (slotLcd i))) W g  
    rw [← hput] at hk
    refine op_assign ?_
    show tailWp _ _ _ _ _
    show tailWp _ _ _ (Act.put a (some 2) (a.eval (.tmp 49))) _
    rw [show a.eval (.tmp 49) = .bool (decide (c ≤ 0)) from hq 25 (by decide)]
    exact hk
end Go.Proofs.YtejhpljichmmpaaGreatDoor
