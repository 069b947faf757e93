/- Proved: several texts in one: what each proves is said ahead of it. -/
import Derived.Test.YtjjdklakonfnfaaGreatDoorDe03
import Derived.KernelRfl
import Derived.Test.YtjjdklakonfnfaaGreatDoorDe04
/- Proved: the two drawn regions of the model's product in a ring: a number is added to one place, or taken away. -/
namespace Go.Proofs.YtjjdklakonfnfaaGreatDoor
open Go.ChangeShapes Go.WideShapes Go.ChangeAt Go.RowKit
set_option linter.unusedVariables false
set_option linter.unusedSimpArgs false
def regionAtmul (n : Nat) : Code → Option Code
  | .region i ops b => if i = n then some (.region i ops b) else none
  | .seq a b => match regionAtmul n a with
    | some c => some c
    | none => regionAtmul n b
  | .block _ c => regionAtmul n c
  | .loop c => regionAtmul n c
  | .cond _ a b => match regionAtmul n a with
    | some c => some c
    | none => regionAtmul n b
  | _ => none
end Go.Proofs.YtjjdklakonfnfaaGreatDoor
/- Proved: drawn regions of the model's bounds. -/
namespace Go.Proofs.YtjjdklakonfnfaaGreatDoor
open Go.ChangeShapes Go.WideShapes Go.ChangeAt Go.RowKit
set_option linter.unusedVariables false
set_option linter.unusedSimpArgs false
def slotMa (i : Nat) : Nat := [3, 4, 5, 6, 7, 2].getD i 0
theorem slotMa_lt : ∀ i, i < 6 → slotMa i < 8 := by decide
theorem slotMa_inj : ∀ i, i < 6 → ∀ j, j < 6 → slotMa i = slotMa j → i = j := by decide
theorem slotMa_no1 : ∀ i, i < 6 → slotMa i ≠ 1 := by decide
def qMa (N T E : Int) (a0 : Option Addr) (l0 c0 pb : Nat) (r : Int) (PQ : World → Value → Prop) (i : Nat) (W : World) (x : Value) : Prop :=
  match i with
  | 0 => x = .agg #[.int .i64 N, .int .i64 T, .int .i64 E, .slice a0 l0 c0]
  | 1 => PQ W x
  | 2 => x = .pointer (some ⟨pb, 1, none⟩)
  | 3 => x = .int .i64 T
  | 4 => x = .int .i64 r
  | 5 => x = .int .i64 r
  | _ => True
theorem qMa_old (N T E : Int) (a0 : Option Addr) (l0 c0 pb : Nat) (r : Int) (PQ : World → Value → Prop) (hM_PQ : ∀ W W' v, PQ W v → Old W W' → PQ W' v) (i : Nat) (W W' : World) (x : Value) (h : qMa N T E a0 l0 c0 pb r PQ i W x) (qo : Old W W') : qMa N T E a0 l0 c0 pb r PQ i W' x := by
  unfold qMa at h ⊢
  split at h
  case h_2 => exact hM_PQ _ _ _ h qo
  all_goals first | exact h | trivial
set_option maxRecDepth 100000 in
set_option maxHeartbeats 8000000 in
theorem reg_Ma (w0 : World) (N T E : Int) (a0 : Option Addr) (l0 c0 pb : Nat) (r : Int) (PQ : World → Value → Prop) (hM_PQ : ∀ W W' v, PQ W v → Old W W' → PQ W' v)   (b_pb : w0.heap[pb]? = some (.cells #[.int .i64 N, .int .i64 T, .int .i64 E, .slice a0 l0 c0] 28 (0, 0))) 
    
    (KQ : ∀ W, Old w0 W → Calls Tryz.prog 26 #[.agg #[.int .i64 N, .int .i64 T, .int .i64 E, .slice a0 l0 c0]] W fun e w' => ∃ v, e = .returned v ∧ Old W w' ∧ PQ w' v)
    (KW : ∀ W, Old w0 W → ∀ (u1 : Value), PQ W u1 → Calls Tryz.prog 50 #[u1, .int .i64 T] W fun e w' => e = .returned (.int .i64 r) ∧ Old W w')
    (Q : Exit → Act → World → Prop) (b0 : Act) (hsz : b0.tmps.size = 8) (ha1 : b0.eval (.tmp 1) = .pointer (some ⟨pb, 0, none⟩))
    (HK : Hid (∀ (us : Nat → Value) (W : World) , Old w0 W → us 5 = .int .i64 r → Q .normal (putAll b0 ((List.range 6).map fun i => (slotMa i, us i))) W)) :
    Code.wp Tryz.prog ((Tryz.f29.body.bind (regionAtmul 1)).getD .skip) Q b0 w0 := by
  conv => arg 2; whnf
  have px_pb : ∀ W, Old w0 W → W.heap[pb]? = some (.cells #[.int .i64 N, .int .i64 T, .int .i64 E, .slice a0 l0 c0] 28 (0, 0)) := fun W g => (g.block pb (lt_of_some b_pb)).trans b_pb
  have pc_pb_1 : ∀ W, Old w0 W → W.cell? ⟨pb, 1, none⟩ = some (.int .i64 T) := fun W g => cell_of_row W pb 1 _ _ (0, 0) (px_pb W g)
  refine wp_region_old (by kernel_rfl) (by kernel_rfl) (by kernel_rfl) slotMa (fun i hi => by rw [hsz]; exact slotMa_lt i hi) (fun i j hi hj => slotMa_inj i hi j hj) (qMa N T E a0 l0 c0 pb r PQ ) (qMa_old N T E a0 l0 c0 pb r PQ hM_PQ) ?_ ?_
  · refine ⟨?_, ?_, ?_, ?_, ?_, ?_, trivial⟩
    · intro a W g hF hd
      have e1 := (hF.same 1 slotMa_no1).trans ha1
      refine op_load (k := pb) e1 (px_pb W g) Tryz.underlying28 rfl (by kernel_rfl) ?_
      exact ⟨_, rfl, Old.refl _, rfl⟩
    · intro a W g hF hd
      have h0 : a.eval (.tmp 3) = .agg #[.int .i64 N, .int .i64 T, .int .i64 E, .slice a0 l0 c0] := hd ⟨0, .data⟩ (by simp) rfl
      refine op_call_ret (R := fun v w' => Old W w' ∧ PQ w' v) Tryz.call26 (vs := #[.agg #[.int .i64 N, .int .i64 T, .int .i64 E, .slice a0 l0 c0]]) (by simp [h0]) (KQ W g) ?_
      rintro x w' ⟨g', hp⟩
      exact ⟨_, rfl, g', hp⟩
    · intro a W g hF hd
      have e1 := (hF.same 1 slotMa_no1).trans ha1
      obtain ⟨ρ, hρ⟩ : ∃ ρ, a.eval = ρ := ⟨_, rfl⟩
      rw [hρ] at e1
      refine op_val ρ hρ (.pointer (some ⟨pb, 1, none⟩)) ?_ ⟨_, rfl, Old.refl _, rfl⟩
      clear g hF hd hρ HK KQ KW ha1 px_pb b_pb pc_pb_1 
      go_simp
      all_goals (first | (rw [IntKind.wrap_i64]; omega) | (rw [IntKind.wrap_u64]; omega) | omega)
    · intro a W g hF hd
      have h2 : a.eval (.tmp 5) = .pointer (some ⟨pb, 1, none⟩) := hd ⟨2, .data⟩ (by simp) rfl
      have kk0 := pc_pb_1 W g
      obtain ⟨ρ, hρ⟩ : ∃ ρ, a.eval = ρ := ⟨_, rfl⟩
      rw [hρ] at h2
      refine op_val ρ hρ (.int .i64 T) ?_ ⟨_, rfl, Old.refl _, rfl⟩
      clear g hF hd hρ HK KQ KW ha1 px_pb b_pb pc_pb_1 
      go_simp
      all_goals (first | (rw [IntKind.wrap_i64]; omega) | (rw [IntKind.wrap_u64]; omega) | omega)
    · intro a W g hF hd
      have h3 : a.eval (.tmp 6) = .int .i64 T := hd ⟨3, .data⟩ (by simp) rfl
      have p1 : PQ W (a.eval (.tmp 4)) := hd ⟨1, .data⟩ (by simp) rfl
      refine op_call_ret (R := fun v w' => v = .int .i64 r ∧ Old W w') Tryz.call50 (vs := #[a.eval (.tmp 4), .int .i64 T]) (by simp [h3]) ((KW W g _ p1).mono fun e w' h => ⟨_, h.1, rfl, h.2⟩) ?_
      rintro x w' ⟨rfl, g'⟩
      exact ⟨_, rfl, g', rfl⟩
    · intro a W g hF hd
      refine op_assign ?_
      exact ⟨_, rfl, Old.refl _, hd ⟨4, .data⟩ (by simp) rfl⟩
  · intro a W g hF hq
    have hput := fram_put (show Fram 6 slotMa b0 a from hF) (fun i j hi hj => slotMa_inj i hi j hj)
    have hk := HK.out (fun i => a.eval (.tmp (slotMa i))) W g  (hq 5 (by decide))
    rw [← hput] at hk
    exact hk
def slotMb (i : Nat) : Nat := [9, 10, 11, 12, 13, 14, 15, 4].getD i 0
theorem slotMb_lt : ∀ i, i < 8 → slotMb i < 29 := by decide
theorem slotMb_inj : ∀ i, i < 8 → ∀ j, j < 8 → slotMb i = slotMb j → i = j := by decide
theorem slotMb_no1 : ∀ i, i < 8 → slotMb i ≠ 1 := by decide
def qMb (N T E : Int) (a0 : Option Addr) (l0 c0 pb : Nat) (r : Int) (PT : World → Value → Prop) (PR : World → Value → Prop) (PM : World → Value → Prop) (i : Nat) (W : World) (x : Value) : Prop :=
  match i with
  | 0 => x = .pointer (some ⟨pb, 1, none⟩)
  | 1 => x = .int .i64 T
  | 2 => PT W x
  | 3 => x = .agg #[.int .i64 N, .int .i64 T, .int .i64 E, .slice a0 l0 c0]
  | 4 => x = .int .i64 r
  | 5 => PR W x
  | 6 => PM W x
  | 7 => PM W x
  | _ => True
theorem qMb_old (N T E : Int) (a0 : Option Addr) (l0 c0 pb : Nat) (r : Int) (PT : World → Value → Prop) (PR : World → Value → Prop) (PM : World → Value → Prop) (hM_PT : ∀ W W' v, PT W v → Old W W' → PT W' v) (hM_PR : ∀ W W' v, PR W v → Old W W' → PR W' v) (hM_PM : ∀ W W' v, PM W v → Old W W' → PM W' v) (i : Nat) (W W' : World) (x : Value) (h : qMb N T E a0 l0 c0 pb r PT PR PM i W x) (qo : Old W W') : qMb N T E a0 l0 c0 pb r PT PR PM i W' x := by
  unfold qMb at h ⊢
  split at h
  case h_3 => exact hM_PT _ _ _ h qo
  case h_6 => exact hM_PR _ _ _ h qo
  case h_7 => exact hM_PM _ _ _ h qo
  case h_8 => exact hM_PM _ _ _ h qo
  all_goals first | exact h | trivial
set_option maxRecDepth 100000 in
set_option maxHeartbeats 8000000 in
theorem reg_Mb (w0 : World) (N T E : Int) (a0 : Option Addr) (l0 c0 pb : Nat) (r : Int) (PT : World → Value → Prop) (PR : World → Value → Prop) (PM : World → Value → Prop) (hM_PT : ∀ W W' v, PT W v → Old W W' → PT W' v) (hM_PR : ∀ W W' v, PR W v → Old W W' → PR W' v) (hM_PM : ∀ W W' v, PM W v → Old W W' → PM W' v)   (b_pb : w0.heap[pb]? = some (.cells #[.int .i64 N, .int .i64 T, .int .i64 E, .slice a0 l0 c0] 28 (0, 0))) 
    
    (KT : ∀ W, Old w0 W → Calls Tryz.prog 28 #[.int .i64 T] W fun e w' => ∃ v, e = .returned v ∧ Old W w' ∧ PT w' v)
    (KR : ∀ W, Old w0 W → Calls Tryz.prog 29 #[.agg #[.int .i64 N, .int .i64 T, .int .i64 E, .slice a0 l0 c0]] W fun e w' => e = .returned (.int .i64 r) ∧ Old W w')
    (KO : ∀ W, Old w0 W → Calls Tryz.prog 28 #[.int .i64 r] W fun e w' => ∃ v, e = .returned v ∧ Old W w' ∧ PR w' v)
    (KM : ∀ W, Old w0 W → ∀ (u2 : Value) (u5 : Value), PT W u2 → PR W u5 → Calls Tryz.prog 27 #[u2, u5] W fun e w' => ∃ v, e = .returned v ∧ Old W w' ∧ PM w' v)
    (Q : Exit → Act → World → Prop) (b0 : Act) (hsz : b0.tmps.size = 29) (ha1 : b0.eval (.tmp 1) = .pointer (some ⟨pb, 0, none⟩))
    (HK : Hid (∀ (us : Nat → Value) (W : World) , Old w0 W → PM W (us 7) → Q .normal (putAll b0 ((List.range 8).map fun i => (slotMb i, us i))) W)) :
    Code.wp Tryz.prog ((Tryz.f11.body.bind (regionAtmul 2)).getD .skip) Q b0 w0 := by
  conv => arg 2; whnf
  have px_pb : ∀ W, Old w0 W → W.heap[pb]? = some (.cells #[.int .i64 N, .int .i64 T, .int .i64 E, .slice a0 l0 c0] 28 (0, 0)) := fun W g => (g.block pb (lt_of_some b_pb)).trans b_pb
  have pc_pb_1 : ∀ W, Old w0 W → W.cell? ⟨pb, 1, none⟩ = some (.int .i64 T) := fun W g => cell_of_row W pb 1 _ _ (0, 0) (px_pb W g)
  refine wp_region_old (by kernel_rfl) (by kernel_rfl) (by kernel_rfl) slotMb (fun i hi => by rw [hsz]; exact slotMb_lt i hi) (fun i j hi hj => slotMb_inj i hi j hj) (qMb N T E a0 l0 c0 pb r PT PR PM ) (qMb_old N T E a0 l0 c0 pb r PT PR PM hM_PT hM_PR hM_PM) ?_ ?_
  · refine ⟨?_, ?_, ?_, ?_, ?_, ?_, ?_, ?_, trivial⟩
    · intro a W g hF hd
      have e1 := (hF.same 1 slotMb_no1).trans ha1
      obtain ⟨ρ, hρ⟩ : ∃ ρ, a.eval = ρ := ⟨_, rfl⟩
      rw [hρ] at e1
      refine op_val ρ hρ (.pointer (some ⟨pb, 1, none⟩)) ?_ ⟨_, rfl, Old.refl _, rfl⟩
      clear g hF hd hρ HK KT KR KO KM ha1 px_pb b_pb pc_pb_1 
      go_simp
      all_goals (first | (rw [IntKind.wrap_i64]; omega) | (rw [IntKind.wrap_u64]; omega) | omega)
    · intro a W g hF hd
      have h0 : a.eval (.tmp 9) = .pointer (some ⟨pb, 1, none⟩) := hd ⟨0, .data⟩ (by simp) rfl
      have kk0 := pc_pb_1 W g
      obtain ⟨ρ, hρ⟩ : ∃ ρ, a.eval = ρ := ⟨_, rfl⟩
      rw [hρ] at h0
      refine op_val ρ hρ (.int .i64 T) ?_ ⟨_, rfl, Old.refl _, rfl⟩
      clear g hF hd hρ HK KT KR KO KM ha1 px_pb b_pb pc_pb_1 
      go_simp
      all_goals (first | (rw [IntKind.wrap_i64]; omega) | (rw [IntKind.wrap_u64]; omega) | omega)
    · intro a W g hF hd
      have h1 : a.eval (.tmp 10) = .int .i64 T := hd ⟨1, .data⟩ (by simp) rfl
      refine op_call_ret (R := fun v w' => Old W w' ∧ PT w' v) Tryz.call28 (vs := #[.int .i64 T]) (by simp [h1]) (KT W g) ?_
      rintro x w' ⟨g', hp⟩
      exact ⟨_, rfl, g', hp⟩
    · intro a W g hF hd
      have e1 := (hF.same 1 slotMb_no1).trans ha1
      refine op_load (k := pb) e1 (px_pb W g) Tryz.underlying28 rfl (by kernel_rfl) ?_
      exact ⟨_, rfl, Old.refl _, rfl⟩
    · intro a W g hF hd
      have h3 : a.eval (.tmp 12) = .agg #[.int .i64 N, .int .i64 T, .int .i64 E, .slice a0 l0 c0] := hd ⟨3, .data⟩ (by simp) rfl
      refine op_call_ret (R := fun v w' => v = .int .i64 r ∧ Old W w') Tryz.call29 (vs := #[.agg #[.int .i64 N, .int .i64 T, .int .i64 E, .slice a0 l0 c0]]) (by simp [h3]) ((KR W g).mono fun e w' h => ⟨_, h.1, rfl, h.2⟩) ?_
      rintro x w' ⟨rfl, g'⟩
      exact ⟨_, rfl, g', rfl⟩
    · intro a W g hF hd
      have h4 : a.eval (.tmp 13) = .int .i64 r := hd ⟨4, .data⟩ (by simp) rfl
      refine op_call_ret (R := fun v w' => Old W w' ∧ PR w' v) Tryz.call28 (vs := #[.int .i64 r]) (by simp [h4]) (KO W g) ?_
      rintro x w' ⟨g', hp⟩
      exact ⟨_, rfl, g', hp⟩
    · intro a W g hF hd
      have p2 : PT W (a.eval (.tmp 11)) := hd ⟨2, .data⟩ (by simp) rfl
      have p5 : PR W (a.eval (.tmp 14)) := hd ⟨5, .data⟩ (by simp) rfl
      refine op_call_ret (R := fun v w' => Old W w' ∧ PM w' v) Tryz.call27 (vs := #[a.eval (.tmp 11), a.eval (.tmp 14)]) (by simp) (KM W g _ _ p2 p5) ?_
      rintro x w' ⟨g', hp⟩
      exact ⟨_, rfl, g', hp⟩
    · intro a W g hF hd
      refine op_assign ?_
      exact ⟨_, rfl, Old.refl _, hd ⟨6, .data⟩ (by simp) rfl⟩
  · intro a W g hF hq
    have hput := fram_put (show Fram 8 slotMb b0 a from hF) (fun i j hi hj => slotMb_inj i hi j hj)
    have hk := HK.out (fun i => a.eval (.tmp (slotMb i))) W g  (hq 7 (by decide))
    rw [← hput] at hk
    exact hk
def slotMd (i : Nat) : Nat := [3, 4, 5, 6, 7, 8, 9, 10, 11, 12, 13, 14, 15, 16, 17, 18, 19, 20, 21, 2].getD i 0
theorem slotMd_lt : ∀ i, i < 20 → slotMd i < 22 := by decide
theorem slotMd_inj : ∀ i, i < 20 → ∀ j, j < 20 → slotMd i = slotMd j → i = j := by decide
theorem slotMd_no1 : ∀ i, i < 20 → slotMd i ≠ 1 := by decide
def qMd (N T E : Int) (a0 : Option Addr) (l0 c0 pb : Nat) (r : Int) (PO : World → Value → Prop) (PE : World → Value → Prop) (PS : World → Value → Prop) (i : Nat) (W : World) (x : Value) : Prop :=
  match i with
  | 0 => x = .agg #[.int .i64 N, .int .i64 T, .int .i64 E, .slice a0 l0 c0]
  | 1 => x = .int .i64 r
  | 2 => x = .pointer (some ⟨pb, 1, none⟩)
  | 3 => x = .int .i64 T
  | 4 => x = .int .i64 (T - 1)
  | 5 => x = .int .i64 (r * (T - 1))
  | 6 => PO W x
  | 7 => x = .pointer (some ⟨pb, 1, none⟩)
  | 8 => x = .int .i64 T
  | 9 => x = .pointer (some ⟨pb, 2, none⟩)
  | 10 => x = .int .i64 E
  | 11 => x = .int .i64 (T * E)
  | 12 => x = .pointer (some ⟨pb, 0, none⟩)
  | 13 => x = .int .i64 N
  | 14 => x = .int .i64 (2 * N)
  | 15 => x = .int .i64 ((2 * N) + 1)
  | 16 => x = .int .i64 ((T * E) * ((2 * N) + 1))
  | 17 => PE W x
  | 18 => PS W x
  | 19 => PS W x
  | _ => True
theorem qMd_old (N T E : Int) (a0 : Option Addr) (l0 c0 pb : Nat) (r : Int) (PO : World → Value → Prop) (PE : World → Value → Prop) (PS : World → Value → Prop) (hM_PO : ∀ W W' v, PO W v → Old W W' → PO W' v) (hM_PE : ∀ W W' v, PE W v → Old W W' → PE W' v) (hM_PS : ∀ W W' v, PS W v → Old W W' → PS W' v) (i : Nat) (W W' : World) (x : Value) (h : qMd N T E a0 l0 c0 pb r PO PE PS i W x) (qo : Old W W') : qMd N T E a0 l0 c0 pb r PO PE PS i W' x := by
  unfold qMd at h ⊢
  split at h
  case h_7 => exact hM_PO _ _ _ h qo
  case h_18 => exact hM_PE _ _ _ h qo
  case h_19 => exact hM_PS _ _ _ h qo
  case h_20 => exact hM_PS _ _ _ h qo
  all_goals first | exact h | trivial
set_option maxRecDepth 100000 in
set_option maxHeartbeats 8000000 in
theorem reg_Md (w0 : World) (N T E : Int) (a0 : Option Addr) (l0 c0 pb : Nat) (r : Int) (PO : World → Value → Prop) (PE : World → Value → Prop) (PS : World → Value → Prop) (hM_PO : ∀ W W' v, PO W v → Old W W' → PO W' v) (hM_PE : ∀ W W' v, PE W v → Old W W' → PE W' v) (hM_PS : ∀ W W' v, PS W v → Old W W' → PS W' v)   (b_pb : w0.heap[pb]? = some (.cells #[.int .i64 N, .int .i64 T, .int .i64 E, .slice a0 l0 c0] 28 (0, 0))) 
    (hN : 2 ≤ N ∧ N ≤ 16) (hT : 2 ≤ T ∧ T ≤ 65536) (hm : 0 ≤ r * (T - 1) ∧ r * (T - 1) ≤ 4611686018427387904) (hTE : 0 ≤ T * E ∧ T * E ≤ 1048576) (hX : 0 ≤ T * E * (2 * N + 1) ∧ T * E * (2 * N + 1) ≤ 34603008)
    (KR : ∀ W, Old w0 W → Calls Tryz.prog 29 #[.agg #[.int .i64 N, .int .i64 T, .int .i64 E, .slice a0 l0 c0]] W fun e w' => e = .returned (.int .i64 r) ∧ Old W w')
    (KO : ∀ W, Old w0 W → Calls Tryz.prog 28 #[.int .i64 (r * (T - 1))] W fun e w' => ∃ v, e = .returned v ∧ Old W w' ∧ PO w' v)
    (KE : ∀ W, Old w0 W → Calls Tryz.prog 28 #[.int .i64 ((T * E) * ((2 * N) + 1))] W fun e w' => ∃ v, e = .returned v ∧ Old W w' ∧ PE w' v)
    (KA : ∀ W, Old w0 W → ∀ (u6 : Value) (u17 : Value), PO W u6 → PE W u17 → Calls Tryz.prog 32 #[u6, u17] W fun e w' => ∃ v, e = .returned v ∧ Old W w' ∧ PS w' v)
    (Q : Exit → Act → World → Prop) (b0 : Act) (hsz : b0.tmps.size = 22) (ha1 : b0.eval (.tmp 1) = .pointer (some ⟨pb, 0, none⟩))
    (HK : Hid (∀ (us : Nat → Value) (W : World) , Old w0 W → PS W (us 19) → Q .normal (putAll b0 ((List.range 20).map fun i => (slotMd i, us i))) W)) :
    Code.wp Tryz.prog ((Tryz.f12.body.bind (regionAtmul 1)).getD .skip) Q b0 w0 := by
  conv => arg 2; whnf
  have px_pb : ∀ W, Old w0 W → W.heap[pb]? = some (.cells #[.int .i64 N, .int .i64 T, .int .i64 E, .slice a0 l0 c0] 28 (0, 0)) := fun W g => (g.block pb (lt_of_some b_pb)).trans b_pb
  have pc_pb_0 : ∀ W, Old w0 W → W.cell? ⟨pb, 0, none⟩ = some (.int .i64 N) := fun W g => cell_of_row W pb 0 _ _ (0, 0) (px_pb W g)
  have pc_pb_1 : ∀ W, Old w0 W → W.cell? ⟨pb, 1, none⟩ = some (.int .i64 T) := fun W g => cell_of_row W pb 1 _ _ (0, 0) (px_pb W g)
  have pc_pb_2 : ∀ W, Old w0 W → W.cell? ⟨pb, 2, none⟩ = some (.int .i64 E) := fun W g => cell_of_row W pb 2 _ _ (0, 0) (px_pb W g)
  refine wp_region_old (by kernel_rfl) (by kernel_rfl) (by kernel_rfl) slotMd (fun i hi => by rw [hsz]; exact slotMd_lt i hi) (fun i j hi hj => slotMd_inj i hi j hj) (qMd N T E a0 l0 c0 pb r PO PE PS ) (qMd_old N T E a0 l0 c0 pb r PO PE PS hM_PO hM_PE hM_PS) ?_ ?_
  · refine ⟨?_, ?_, ?_, ?_, ?_, ?_, ?_, ?_, ?_, ?_, ?_, ?_, ?_, ?_, ?_, ?_, ?_, ?_, ?_, ?_, trivial⟩
    · intro a W g hF hd
      have e1 := (hF.same 1 slotMd_no1).trans ha1
      refine op_load (k := pb) e1 (px_pb W g) Tryz.underlying28 rfl (by kernel_rfl) ?_
      exact ⟨_, rfl, Old.refl _, rfl⟩
    · intro a W g hF hd
      have h0 : a.eval (.tmp 3) = .agg #[.int .i64 N, .int .i64 T, .int .i64 E, .slice a0 l0 c0] := hd ⟨0, .data⟩ (by simp) rfl
      refine op_call_ret (R := fun v w' => v = .int .i64 r ∧ Old W w') Tryz.call29 (vs := #[.agg #[.int .i64 N, .int .i64 T, .int .i64 E, .slice a0 l0 c0]]) (by simp [h0]) ((KR W g).mono fun e w' h => ⟨_, h.1, rfl, h.2⟩) ?_
      rintro x w' ⟨rfl, g'⟩
      exact ⟨_, rfl, g', rfl⟩
    · intro a W g hF hd
      have e1 := (hF.same 1 slotMd_no1).trans ha1
      obtain ⟨ρ, hρ⟩ : ∃ ρ, a.eval = ρ := ⟨_, rfl⟩
      rw [hρ] at e1
      refine op_val ρ hρ (.pointer (some ⟨pb, 1, none⟩)) ?_ ⟨_, rfl, Old.refl _, rfl⟩
      clear g hF hd hρ HK KR KO KE KA ha1 px_pb b_pb pc_pb_0 pc_pb_1 pc_pb_2 
      go_simp
      all_goals (first | (rw [IntKind.wrap_i64]; omega) | (rw [IntKind.wrap_u64]; omega) | omega)
    · intro a W g hF hd
      have h2 : a.eval (.tmp 5) = .pointer (some ⟨pb, 1, none⟩) := hd ⟨2, .data⟩ (by simp) rfl
      have kk0 := pc_pb_1 W g
      obtain ⟨ρ, hρ⟩ : ∃ ρ, a.eval = ρ := ⟨_, rfl⟩
      rw [hρ] at h2
      refine op_val ρ hρ (.int .i64 T) ?_ ⟨_, rfl, Old.refl _, rfl⟩
      clear g hF hd hρ HK KR KO KE KA ha1 px_pb b_pb pc_pb_0 pc_pb_1 pc_pb_2 
      go_simp
      all_goals (first | (rw [IntKind.wrap_i64]; omega) | (rw [IntKind.wrap_u64]; omega) | omega)
    · intro a W g hF hd
      have h3 : a.eval (.tmp 6) = .int .i64 T := hd ⟨3, .data⟩ (by simp) rfl
      have c1 : a.eval (.const (.int .i64 1)) = .int .i64 1 := rfl
      obtain ⟨ρ, hρ⟩ : ∃ ρ, a.eval = ρ := ⟨_, rfl⟩
      rw [hρ] at h3 c1
      refine op_val ρ hρ (.int .i64 (T - 1)) ?_ ⟨_, rfl, Old.refl _, rfl⟩
      clear g hF hd hρ HK KR KO KE KA ha1 px_pb b_pb pc_pb_0 pc_pb_1 pc_pb_2 
      go_simp
      all_goals (first | (rw [IntKind.wrap_i64]; omega) | (rw [IntKind.wrap_u64]; omega) | omega)
    · intro a W g hF hd
      have h1 : a.eval (.tmp 4) = .int .i64 r := hd ⟨1, .data⟩ (by simp) rfl
      have h4 : a.eval (.tmp 7) = .int .i64 (T - 1) := hd ⟨4, .data⟩ (by simp) rfl
      obtain ⟨ρ, hρ⟩ : ∃ ρ, a.eval = ρ := ⟨_, rfl⟩
      rw [hρ] at h1 h4
      refine op_val ρ hρ (.int .i64 (r * (T - 1))) ?_ ⟨_, rfl, Old.refl _, rfl⟩
      clear g hF hd hρ HK KR KO KE KA ha1 px_pb b_pb pc_pb_0 pc_pb_1 pc_pb_2 
      go_simp
      all_goals (first | (rw [IntKind.wrap_i64]; omega) | (rw [IntKind.wrap_u64]; omega) | omega)
    · intro a W g hF hd
      have h5 : a.eval (.tmp 8) = .int .i64 (r * (T - 1)) := hd ⟨5, .data⟩ (by simp) rfl
      refine op_call_ret (R := fun v w' => Old W w' ∧ PO w' v) Tryz.call28 (vs := #[.int .i64 (r * (T - 1))]) (by simp [h5]) (KO W g) ?_
      rintro x w' ⟨g', hp⟩
      exact ⟨_, rfl, g', hp⟩
    · intro a W g hF hd
      have e1 := (hF.same 1 slotMd_no1).trans ha1
      obtain ⟨ρ, hρ⟩ : ∃ ρ, a.eval = ρ := ⟨_, rfl⟩
      rw [hρ] at e1
      refine op_val ρ hρ (.pointer (some ⟨pb, 1, none⟩)) ?_ ⟨_, rfl, Old.refl _, rfl⟩
      clear g hF hd hρ HK KR KO KE KA ha1 px_pb b_pb pc_pb_0 pc_pb_1 pc_pb_2 
      go_simp
      all_goals (first | (rw [IntKind.wrap_i64]; omega) | (rw [IntKind.wrap_u64]; omega) | omega)
    · intro a W g hF hd
      have h7 : a.eval (.tmp 10) = .pointer (some ⟨pb, 1, none⟩) := hd ⟨7, .data⟩ (by simp) rfl
      have kk0 := pc_pb_1 W g
      obtain ⟨ρ, hρ⟩ : ∃ ρ, a.eval = ρ := ⟨_, rfl⟩
      rw [hρ] at h7
      refine op_val ρ hρ (.int .i64 T) ?_ ⟨_, rfl, Old.refl _, rfl⟩
      clear g hF hd hρ HK KR KO KE KA ha1 px_pb b_pb pc_pb_0 pc_pb_1 pc_pb_2 
      go_simp
      all_goals (first | (rw [IntKind.wrap_i64]; omega) | (rw [IntKind.wrap_u64]; omega) | omega)
    · intro a W g hF hd
      have e1 := (hF.same 1 slotMd_no1).trans ha1
      obtain ⟨ρ, hρ⟩ : ∃ ρ, a.eval = ρ := ⟨_, rfl⟩
      rw [hρ] at e1
      refine op_val ρ hρ (.pointer (some ⟨pb, 2, none⟩)) ?_ ⟨_, rfl, Old.refl _, rfl⟩
      clear g hF hd hρ HK KR KO KE KA ha1 px_pb b_pb pc_pb_0 pc_pb_1 pc_pb_2 
      go_simp
      all_goals (first | (rw [IntKind.wrap_i64]; omega) | (rw [IntKind.wrap_u64]; omega) | omega)
    · intro a W g hF hd
      have h9 : a.eval (.tmp 12) = .pointer (some ⟨pb, 2, none⟩) := hd ⟨9, .data⟩ (by simp) rfl
      have kk0 := pc_pb_2 W g
      obtain ⟨ρ, hρ⟩ : ∃ ρ, a.eval = ρ := ⟨_, rfl⟩
      rw [hρ] at h9
      refine op_val ρ hρ (.int .i64 E) ?_ ⟨_, rfl, Old.refl _, rfl⟩
      clear g hF hd hρ HK KR KO KE KA ha1 px_pb b_pb pc_pb_0 pc_pb_1 pc_pb_2 
      go_simp
      all_goals (first | (rw [IntKind.wrap_i64]; omega) | (rw [IntKind.wrap_u64]; omega) | omega)
    · intro a W g hF hd
      have h8 : a.eval (.tmp 11) = .int .i64 T := hd ⟨8, .data⟩ (by simp) rfl
      have h10 : a.eval (.tmp 13) = .int .i64 E := hd ⟨10, .data⟩ (by simp) rfl
      obtain ⟨ρ, hρ⟩ : ∃ ρ, a.eval = ρ := ⟨_, rfl⟩
      rw [hρ] at h8 h10
      refine op_val ρ hρ (.int .i64 (T * E)) ?_ ⟨_, rfl, Old.refl _, rfl⟩
      clear g hF hd hρ HK KR KO KE KA ha1 px_pb b_pb pc_pb_0 pc_pb_1 pc_pb_2 
      go_simp
      all_goals (first | (rw [IntKind.wrap_i64]; omega) | (rw [IntKind.wrap_u64]; omega) | omega)
    · intro a W g hF hd
      have e1 := (hF.same 1 slotMd_no1).trans ha1
      obtain ⟨ρ, hρ⟩ : ∃ ρ, a.eval = ρ := ⟨_, rfl⟩
      rw [hρ] at e1
      refine op_val ρ hρ (.pointer (some ⟨pb, 0, none⟩)) ?_ ⟨_, rfl, Old.refl _, rfl⟩
      clear g hF hd hρ HK KR KO KE KA ha1 px_pb b_pb pc_pb_0 pc_pb_1 pc_pb_2 
      go_simp
      all_goals (first | (rw [IntKind.wrap_i64]; omega) | (rw [IntKind.wrap_u64]; omega) | omega)
    · intro a W g hF hd
      have h12 : a.eval (.tmp 15) = .pointer (some ⟨pb, 0, none⟩) := hd ⟨12, .data⟩ (by simp) rfl
      have kk0 := pc_pb_0 W g
      obtain ⟨ρ, hρ⟩ : ∃ ρ, a.eval = ρ := ⟨_, rfl⟩
      rw [hρ] at h12
      refine op_val ρ hρ (.int .i64 N) ?_ ⟨_, rfl, Old.refl _, rfl⟩
      clear g hF hd hρ HK KR KO KE KA ha1 px_pb b_pb pc_pb_0 pc_pb_1 pc_pb_2 
      go_simp
      all_goals (first | (rw [IntKind.wrap_i64]; omega) | (rw [IntKind.wrap_u64]; omega) | omega)
    · intro a W g hF hd
      have c0 : a.eval (.const (.int .i64 2)) = .int .i64 2 := rfl
      have h13 : a.eval (.tmp 16) = .int .i64 N := hd ⟨13, .data⟩ (by simp) rfl
      obtain ⟨ρ, hρ⟩ : ∃ ρ, a.eval = ρ := ⟨_, rfl⟩
      rw [hρ] at c0 h13
      refine op_val ρ hρ (.int .i64 (2 * N)) ?_ ⟨_, rfl, Old.refl _, rfl⟩
      clear g hF hd hρ HK KR KO KE KA ha1 px_pb b_pb pc_pb_0 pc_pb_1 pc_pb_2 
      go_simp
      all_goals (first | (rw [IntKind.wrap_i64]; omega) | (rw [IntKind.wrap_u64]; omega) | omega)
    · intro a W g hF hd
      have h14 : a.eval (.tmp 17) = .int .i64 (2 * N) := hd ⟨14, .data⟩ (by simp) rfl
      have c1 : a.eval (.const (.int .i64 1)) = .int .i64 1 := rfl
      obtain ⟨ρ, hρ⟩ : ∃ ρ, a.eval = ρ := ⟨_, rfl⟩
      rw [hρ] at h14 c1
      refine op_val ρ hρ (.int .i64 ((2 * N) + 1)) ?_ ⟨_, rfl, Old.refl _, rfl⟩
      clear g hF hd hρ HK KR KO KE KA ha1 px_pb b_pb pc_pb_0 pc_pb_1 pc_pb_2 
      go_simp
      all_goals (first | (rw [IntKind.wrap_i64]; omega) | (rw [IntKind.wrap_u64]; omega) | omega)
    · intro a W g hF hd
      have h11 : a.eval (.tmp 14) = .int .i64 (T * E) := hd ⟨11, .data⟩ (by simp) rfl
      have h15 : a.eval (.tmp 18) = .int .i64 ((2 * N) + 1) := hd ⟨15, .data⟩ (by simp) rfl
      obtain ⟨ρ, hρ⟩ : ∃ ρ, a.eval = ρ := ⟨_, rfl⟩
      rw [hρ] at h11 h15
      refine op_val ρ hρ (.int .i64 ((T * E) * ((2 * N) + 1))) ?_ ⟨_, rfl, Old.refl _, rfl⟩
      clear g hF hd hρ HK KR KO KE KA ha1 px_pb b_pb pc_pb_0 pc_pb_1 pc_pb_2 
      go_simp
      all_goals (first | (rw [IntKind.wrap_i64]; omega) | (rw [IntKind.wrap_u64]; omega) | omega)
    · intro a W g hF hd
      have h16 : a.eval (.tmp 19) = .int .i64 ((T * E) * ((2 * N) + 1)) := hd ⟨16, .data⟩ (by simp) rfl
      refine op_call_ret (R := fun v w' => Old W w' ∧ PE w' v) Tryz.call28 (vs := #[.int .i64 ((T * E) * ((2 * N) + 1))]) (by simp [h16]) (KE W g) ?_
      rintro x w' ⟨g', hp⟩
      exact ⟨_, rfl, g', hp⟩
    · intro a W g hF hd
      have p6 : PO W (a.eval (.tmp 9)) := hd ⟨6, .data⟩ (by simp) rfl
      have p17 : PE W (a.eval (.tmp 20)) := hd ⟨17, .data⟩ (by simp) rfl
      refine op_call_ret (R := fun v w' => Old W w' ∧ PS w' v) Tryz.call32 (vs := #[a.eval (.tmp 9), a.eval (.tmp 20)]) (by simp) (KA W g _ _ p6 p17) ?_
      rintro x w' ⟨g', hp⟩
      exact ⟨_, rfl, g', hp⟩
    · intro a W g hF hd
      refine op_assign ?_
      exact ⟨_, rfl, Old.refl _, hd ⟨18, .data⟩ (by simp) rfl⟩
  · intro a W g hF hq
    have hput := fram_put (show Fram 20 slotMd b0 a from hF) (fun i j hi hj => slotMd_inj i hi j hj)
    have hk := HK.out (fun i => a.eval (.tmp (slotMd i))) W g  (hq 19 (by decide))
    rw [← hput] at hk
    exact hk
end Go.Proofs.YtjjdklakonfnfaaGreatDoor
/- Proved: drawn regions of the program's bounds. -/
namespace Go.Proofs.YtjjdklakonfnfaaGreatDoor
open Go.ChangeShapes Go.WideShapes Go.ChangeAt Go.RowKit
set_option linter.unusedVariables false
set_option linter.unusedSimpArgs false
theorem heap_newA (w : World) (o : Obj) : (w.alloc o).heap[w.heap.size]? = some o := by
  unfold World.alloc
  simp
def boxS (base : Nat) (W W' : World) : Prop := ∃ (g : Nat) (cs A : Array Value), base ≤ g ∧ W.heap[g]? = some (.cells cs 49 (0, 0)) ∧ A.size = 81 ∧ W' = W.setRow g A
def slotPn (i : Nat) : Nat := [3, 4, 5, 6, 7, 8, 9, 2].getD i 0
theorem slotPn_lt : ∀ i, i < 8 → slotPn i < 10 := by decide
theorem slotPn_inj : ∀ i, i < 8 → ∀ j, j < 8 → slotPn i = slotPn j → i = j := by decide
theorem slotPn_no1 : ∀ i, i < 8 → slotPn i ≠ 1 := by decide
def qPn (N T E : Int) (a3 : Option Addr) (l3 c3 : Nat) (a4 : Option Addr) (l4 c4 : Nat) (a6 : Option Addr) (l6 c6 bx : Nat) (r : Int)  (i : Nat) (W : World) (x : Value) : Prop :=
  match i with
  | 0 => x = .agg #[.int .i64 N, .int .i64 T, .int .i64 E, .slice a3 l3 c3, .slice a4 l4 c4, .bool false, .slice a6 l6 c6]
  | 1 => x = .int .i64 r
  | 2 => x = .pointer (some ⟨bx, 0, none⟩)
  | 3 => x = .pointer (some ⟨bx, 1, none⟩)
  | 4 => x = .int .i64 T
  | 5 => x = .int .i64 (T - 1)
  | 6 => x = .int .i64 (r * (T - 1))
  | 7 => x = .int .i64 (r * (T - 1))
  | _ => True
theorem qPn_old (N T E : Int) (a3 : Option Addr) (l3 c3 : Nat) (a4 : Option Addr) (l4 c4 : Nat) (a6 : Option Addr) (l6 c6 bx : Nat) (r : Int)   (i : Nat) (W W' : World) (x : Value) (h : qPn N T E a3 l3 c3 a4 l4 c4 a6 l6 c6 bx r  i W x) (qo : Old W W') : qPn N T E a3 l3 c3 a4 l4 c4 a6 l6 c6 bx r  i W' x := by
  unfold qPn at h ⊢
  split at h
  all_goals first | exact h | trivial
set_option maxRecDepth 100000 in
set_option maxHeartbeats 8000000 in
theorem reg_Pn (w0 : World) (N T E : Int) (a3 : Option Addr) (l3 c3 : Nat) (a4 : Option Addr) (l4 c4 : Nat) (a6 : Option Addr) (l6 c6 bx : Nat) (r : Int)     (b_bx : w0.heap[bx]? = some (.cells #[.int .i64 N, .int .i64 T, .int .i64 E, .slice a3 l3 c3, .slice a4 l4 c4, .bool false, .slice a6 l6 c6] 44 (0, 0))) 
    (hr : 0 ≤ r ∧ r ≤ 65536) (hT : 2 ≤ T ∧ T ≤ 65536) (hm : 0 ≤ r * (T - 1) ∧ r * (T - 1) ≤ 4611686018427387904)
    (KS : ∀ W, Old w0 W → Calls Tryz.prog 38 #[.agg #[.int .i64 N, .int .i64 T, .int .i64 E, .slice a3 l3 c3, .slice a4 l4 c4, .bool false, .slice a6 l6 c6]] W fun e w' => e = .returned (.int .i64 r) ∧ Old W w')
    (Q : Exit → Act → World → Prop) (b0 : Act) (hsz : b0.tmps.size = 10) (ha1 : b0.eval (.tmp 1) = .pointer (some ⟨bx, 0, none⟩))
    (HK : Hid (∀ (us : Nat → Value) (W : World) , Old w0 W → us 7 = .int .i64 (r * (T - 1)) → Q .normal (putAll b0 ((List.range 8).map fun i => (slotPn i, us i))) W)) :
    Code.wp Tryz.prog ((Tryz.f62.body.bind (regionAtmul 1)).getD .skip) Q b0 w0 := by
  conv => arg 2; whnf
  have px_bx : ∀ W, Old w0 W → W.heap[bx]? = some (.cells #[.int .i64 N, .int .i64 T, .int .i64 E, .slice a3 l3 c3, .slice a4 l4 c4, .bool false, .slice a6 l6 c6] 44 (0, 0)) := fun W g => (g.block bx (lt_of_some b_bx)).trans b_bx
  have pc_bx_1 : ∀ W, Old w0 W → W.cell? ⟨bx, 1, none⟩ = some (.int .i64 T) := fun W g => cell_of_row W bx 1 _ _ (0, 0) (px_bx W g)
  refine wp_region_old (by kernel_rfl) (by kernel_rfl) (by kernel_rfl) slotPn (fun i hi => by rw [hsz]; exact slotPn_lt i hi) (fun i j hi hj => slotPn_inj i hi j hj) (qPn N T E a3 l3 c3 a4 l4 c4 a6 l6 c6 bx r  ) (qPn_old N T E a3 l3 c3 a4 l4 c4 a6 l6 c6 bx r  ) ?_ ?_
  · refine ⟨?_, ?_, ?_, ?_, ?_, ?_, ?_, ?_, trivial⟩
    · intro a W g hF hd
      have e1 := (hF.same 1 slotPn_no1).trans ha1
      refine op_load (k := bx) e1 (px_bx W g) Tryz.underlying44 rfl (by kernel_rfl) ?_
      exact ⟨_, rfl, Old.refl _, rfl⟩
    · intro a W g hF hd
      have h0 : a.eval (.tmp 3) = .agg #[.int .i64 N, .int .i64 T, .int .i64 E, .slice a3 l3 c3, .slice a4 l4 c4, .bool false, .slice a6 l6 c6] := hd ⟨0, .data⟩ (by simp) rfl
      refine op_call_ret (R := fun v w' => v = .int .i64 r ∧ Old W w') Tryz.call38 (vs := #[.agg #[.int .i64 N, .int .i64 T, .int .i64 E, .slice a3 l3 c3, .slice a4 l4 c4, .bool false, .slice a6 l6 c6]]) (by simp [h0]) ((KS W g).mono fun e w' h => ⟨_, h.1, rfl, h.2⟩) ?_
      rintro x w' ⟨rfl, g'⟩
      exact ⟨_, rfl, g', rfl⟩
    · intro a W g hF hd
      have e1 := (hF.same 1 slotPn_no1).trans ha1
      obtain ⟨ρ, hρ⟩ : ∃ ρ, a.eval = ρ := ⟨_, rfl⟩
      rw [hρ] at e1
      refine op_val ρ hρ (.pointer (some ⟨bx, 0, none⟩)) ?_ ⟨_, rfl, Old.refl _, rfl⟩
      clear g hF hd hρ HK KS ha1 px_bx b_bx pc_bx_1 
      go_simp
      all_goals (first | (rw [IntKind.wrap_i64]; omega) | (rw [IntKind.wrap_u64]; omega) | omega)
    · intro a W g hF hd
      have h2 : a.eval (.tmp 5) = .pointer (some ⟨bx, 0, none⟩) := hd ⟨2, .data⟩ (by simp) rfl
      obtain ⟨ρ, hρ⟩ : ∃ ρ, a.eval = ρ := ⟨_, rfl⟩
      rw [hρ] at h2
      refine op_val ρ hρ (.pointer (some ⟨bx, 1, none⟩)) ?_ ⟨_, rfl, Old.refl _, rfl⟩
      clear g hF hd hρ HK KS ha1 px_bx b_bx pc_bx_1 
      go_simp
      all_goals (first | (rw [IntKind.wrap_i64]; omega) | (rw [IntKind.wrap_u64]; omega) | omega)
    · intro a W g hF hd
      have h3 : a.eval (.tmp 6) = .pointer (some ⟨bx, 1, none⟩) := hd ⟨3, .data⟩ (by simp) rfl
      have kk0 := pc_bx_1 W g
      obtain ⟨ρ, hρ⟩ : ∃ ρ, a.eval = ρ := ⟨_, rfl⟩
      rw [hρ] at h3
      refine op_val ρ hρ (.int .i64 T) ?_ ⟨_, rfl, Old.refl _, rfl⟩
      clear g hF hd hρ HK KS ha1 px_bx b_bx pc_bx_1 
      go_simp
      all_goals (first | (rw [IntKind.wrap_i64]; omega) | (rw [IntKind.wrap_u64]; omega) | omega)
    · intro a W g hF hd
      have h4 : a.eval (.tmp 7) = .int .i64 T := hd ⟨4, .data⟩ (by simp) rfl
      have c1 : a.eval (.const (.int .i64 1)) = .int .i64 1 := rfl
      obtain ⟨ρ, hρ⟩ : ∃ ρ, a.eval = ρ := ⟨_, rfl⟩
      rw [hρ] at h4 c1
      refine op_val ρ hρ (.int .i64 (T - 1)) ?_ ⟨_, rfl, Old.refl _, rfl⟩
      clear g hF hd hρ HK KS ha1 px_bx b_bx pc_bx_1 
      go_simp
      all_goals (first | (rw [IntKind.wrap_i64]; omega) | (rw [IntKind.wrap_u64]; omega) | omega)
    · intro a W g hF hd
      have h1 : a.eval (.tmp 4) = .int .i64 r := hd ⟨1, .data⟩ (by simp) rfl
      have h5 : a.eval (.tmp 8) = .int .i64 (T - 1) := hd ⟨5, .data⟩ (by simp) rfl
      obtain ⟨ρ, hρ⟩ : ∃ ρ, a.eval = ρ := ⟨_, rfl⟩
      rw [hρ] at h1 h5
      refine op_val ρ hρ (.int .i64 (r * (T - 1))) ?_ ⟨_, rfl, Old.refl _, rfl⟩
      clear g hF hd hρ HK KS ha1 px_bx b_bx pc_bx_1 
      go_simp
      all_goals (first | (rw [IntKind.wrap_i64]; omega) | (rw [IntKind.wrap_u64]; omega) | omega)
    · intro a W g hF hd
      refine op_assign ?_
      exact ⟨_, rfl, Old.refl _, hd ⟨6, .data⟩ (by simp) rfl⟩
  · intro a W g hF hq
    have hput := fram_put (show Fram 8 slotPn b0 a from hF) (fun i j hi hj => slotPn_inj i hi j hj)
    have hk := HK.out (fun i => a.eval (.tmp (slotPn i))) W g  (hq 7 (by decide))
    rw [← hput] at hk
    exact hk
def slotRa (i : Nat) : Nat := [7, 8, 9, 10, 11, 12, 13].getD i 0
theorem slotRa_lt : ∀ i, i < 7 → slotRa i < 14 := by decide
theorem slotRa_inj : ∀ i, i < 7 → ∀ j, j < 7 → slotRa i = slotRa j → i = j := by decide
theorem slotRa_no2 : ∀ i, i < 7 → slotRa i ≠ 2 := by decide
theorem slotRa_no3 : ∀ i, i < 7 → slotRa i ≠ 3 := by decide
theorem slotRa_no4 : ∀ i, i < 7 → slotRa i ≠ 4 := by decide
theorem slotRa_no6 : ∀ i, i < 7 → slotRa i ≠ 6 := by decide
def qRa (N T E : Int) (a3 : Option Addr) (l3 c3 : Nat) (a4 : Option Addr) (l4 c4 : Nat) (a6 : Option Addr) (l6 c6 bx : Nat) (rb sb : Nat) (S0 S1 S2 SR Z : Array Value) (k : Int)  (i : Nat) (W : World) (x : Value) : Prop :=
  match i with
  | 0 => x = .agg #[.int .i64 N, .int .i64 T, .int .i64 E, .slice a3 l3 c3, .slice a4 l4 c4, .bool false, .slice a6 l6 c6]
  | 1 => x = .agg S0
  | 2 => x = .int .i64 k
  | 3 => x = .int .u64 k
  | 4 => x = .agg S1
  | 5 => x = .agg S2
  | 6 => x = .agg SR
  | _ => True
theorem qRa_old (N T E : Int) (a3 : Option Addr) (l3 c3 : Nat) (a4 : Option Addr) (l4 c4 : Nat) (a6 : Option Addr) (l6 c6 bx : Nat) (rb sb : Nat) (S0 S1 S2 SR Z : Array Value) (k : Int)   (i : Nat) (W W' : World) (x : Value) (h : qRa N T E a3 l3 c3 a4 l4 c4 a6 l6 c6 bx rb sb S0 S1 S2 SR Z k  i W x) (qo : Old W W') : qRa N T E a3 l3 c3 a4 l4 c4 a6 l6 c6 bx rb sb S0 S1 S2 SR Z k  i W' x := by
  unfold qRa at h ⊢
  split at h
  all_goals first | exact h | trivial
set_option maxRecDepth 100000 in
set_option maxHeartbeats 8000000 in
theorem reg_Ra (w0 : World) (N T E : Int) (a3 : Option Addr) (l3 c3 : Nat) (a4 : Option Addr) (l4 c4 : Nat) (a6 : Option Addr) (l6 c6 bx : Nat) (rb sb : Nat) (S0 S1 S2 SR Z : Array Value) (k : Int)     (b_bx : w0.heap[bx]? = some (.cells #[.int .i64 N, .int .i64 T, .int .i64 E, .slice a3 l3 c3, .slice a4 l4 c4, .bool false, .slice a6 l6 c6] 44 (0, 0))) (b_rb : w0.heap[rb]? = some (.cells Z 49 (0, 0))) (hS_rb : Z.size = 81) (b_sb : w0.heap[sb]? = some (.cells S0 49 (0, 0))) (hS_sb : S0.size = 81) (hZ_SR : (SR).size = 81 ∧ (SR).all (·.oneCell') = true)
    (hk : 0 ≤ k ∧ k ≤ 4611686018427387904)
    (KO : ∀ W, Old w0 W → Calls Tryz.prog 37 #[.int .u64 k] W fun e w' => e = .returned (.agg S1) ∧ Old W w')
    (KA : ∀ W, Old w0 W → Calls Tryz.prog 63 #[.agg S0, .agg S1] W fun e w' => e = .returned (.agg S2) ∧ Old W w')
    (KC : ∀ W, Old w0 W → Calls Tryz.prog 75 #[.agg #[.int .i64 N, .int .i64 T, .int .i64 E, .slice a3 l3 c3, .slice a4 l4 c4, .bool false, .slice a6 l6 c6], .agg S2] W fun e w' => e = .returned (.agg SR) ∧ Old W w')
    (Q : Exit → Act → World → Prop) (b0 : Act) (hsz : b0.tmps.size = 14) (ha2 : b0.eval (.tmp 2) = .int .i64 k) (ha3 : b0.eval (.tmp 3) = .pointer (some ⟨bx, 0, none⟩)) (ha4 : b0.eval (.tmp 4) = .pointer (some ⟨sb, 0, none⟩)) (ha6 : b0.eval (.tmp 6) = .pointer (some ⟨rb, 0, none⟩))
    (HK : Hid (∀ (us : Nat → Value) (W : World) , Old w0 W → Q .normal (putAll b0 ((List.range 7).map fun i => (slotRa i, us i))) (W.setRow rb SR))) :
    Code.wp Tryz.prog ((Tryz.f61.body.bind (regionAtmul 1)).getD .skip) Q b0 w0 := by
  conv => arg 2; whnf
  have px_bx : ∀ W, Old w0 W → W.heap[bx]? = some (.cells #[.int .i64 N, .int .i64 T, .int .i64 E, .slice a3 l3 c3, .slice a4 l4 c4, .bool false, .slice a6 l6 c6] 44 (0, 0)) := fun W g => (g.block bx (lt_of_some b_bx)).trans b_bx
  have px_rb : ∀ W, Old w0 W → W.heap[rb]? = some (.cells Z 49 (0, 0)) := fun W g => (g.block rb (lt_of_some b_rb)).trans b_rb
  have px_sb : ∀ W, Old w0 W → W.heap[sb]? = some (.cells S0 49 (0, 0)) := fun W g => (g.block sb (lt_of_some b_sb)).trans b_sb
  refine wp_region_tailG 7 (by decide) (by kernel_rfl) (by kernel_rfl) (by kernel_rfl) (by kernel_rfl) (by kernel_rfl) slotRa (fun i hi => by rw [hsz]; exact slotRa_lt i hi) (fun i j hi hj => slotRa_inj i hi j hj) (qRa N T E a3 l3 c3 a4 l4 c4 a6 l6 c6 bx rb sb S0 S1 S2 SR Z k  ) (qRa_old N T E a3 l3 c3 a4 l4 c4 a6 l6 c6 bx rb sb S0 S1 S2 SR Z k  ) [] (fun i W v hi hq => by cases hi) ?_ ?_
  · refine ⟨?_, ?_, ?_, ?_, ?_, ?_, ?_, trivial⟩
    · intro a W g hF hd
      refine ⟨fun _ => ?_, fun h => by rw [wanted_none rfl] at h; cases h⟩
      have e3 := (hF.same 3 slotRa_no3).trans ha3
      refine op_load (k := bx) e3 (px_bx W g) Tryz.underlying44 rfl (by kernel_rfl) ?_
      exact ⟨_, rfl, Old.refl _, rfl, (fun h => absurd h (by decide))⟩
    · intro a W g hF hd
      refine ⟨fun _ => ?_, fun h => by rw [wanted_none rfl] at h; cases h⟩
      have e4 := (hF.same 4 slotRa_no4).trans ha4
      refine op_load (k := sb) e4 (px_sb W g) Tryz.underlying49 rfl (by rw [hS_sb]; exact infoSz) ?_
      exact ⟨_, rfl, Old.refl _, rfl, (fun h => absurd h (by decide))⟩
    · intro a W g hF hd
      refine ⟨fun _ => ?_, fun h => by rw [wanted_none rfl] at h; cases h⟩
      have e2 := (hF.same 2 slotRa_no2).trans ha2
      refine op_move ?_
      exact ⟨_, rfl, Old.refl _, e2, (fun h => absurd h (by decide))⟩
    · intro a W g hF hd
      refine ⟨fun _ => ?_, fun h => by rw [wanted_none rfl] at h; cases h⟩
      have h2 : a.eval (.tmp 9) = .int .i64 k := hd ⟨2, .data⟩ (by simp) rfl
      obtain ⟨ρ, hρ⟩ : ∃ ρ, a.eval = ρ := ⟨_, rfl⟩
      rw [hρ] at h2
      refine op_val ρ hρ (.int .u64 k) ?_ ⟨_, rfl, Old.refl _, rfl, (fun h => absurd h (by decide))⟩
      clear g hF hd hρ HK KO KA KC ha2 ha3 ha4 ha6 px_bx b_bx px_rb b_rb px_sb b_sb  
      go_simp
      all_goals (first | (rw [IntKind.wrap_i64]; omega) | (rw [IntKind.wrap_u64]; omega) | omega)
    · intro a W g hF hd
      refine ⟨fun _ => ?_, fun h => by rw [wanted_none rfl] at h; cases h⟩
      have h3 : a.eval (.tmp 10) = .int .u64 k := hd ⟨3, .data⟩ (by simp) rfl
      refine op_call_ret (R := fun v w' => v = .agg S1 ∧ Old W w') Tryz.call37 (vs := #[.int .u64 k]) (by simp [h3]) ((KO W g).mono fun e w' h => ⟨_, h.1, rfl, h.2⟩) ?_
      rintro x w' ⟨rfl, g'⟩
      exact ⟨_, rfl, g', rfl, (fun h => absurd h (by decide))⟩
    · intro a W g hF hd
      refine ⟨fun _ => ?_, fun h => by rw [wanted_none rfl] at h; cases h⟩
      have h1 : a.eval (.tmp 8) = .agg S0 := hd ⟨1, .data⟩ (by simp) rfl
      have h4 : a.eval (.tmp 11) = .agg S1 := hd ⟨4, .data⟩ (by simp) rfl
      refine op_call_ret (R := fun v w' => v = .agg S2 ∧ Old W w') Tryz.call63 (vs := #[.agg S0, .agg S1]) (by simp [h1, h4]) ((KA W g).mono fun e w' h => ⟨_, h.1, rfl, h.2⟩) ?_
      rintro x w' ⟨rfl, g'⟩
      exact ⟨_, rfl, g', rfl, (fun h => absurd h (by decide))⟩
    · intro a W g hF hd
      refine ⟨fun _ => ?_, fun h => by rw [wanted_none rfl] at h; cases h⟩
      have h0 : a.eval (.tmp 7) = .agg #[.int .i64 N, .int .i64 T, .int .i64 E, .slice a3 l3 c3, .slice a4 l4 c4, .bool false, .slice a6 l6 c6] := hd ⟨0, .data⟩ (by simp) rfl
      have h5 : a.eval (.tmp 12) = .agg S2 := hd ⟨5, .data⟩ (by simp) rfl
      refine op_call_ret (R := fun v w' => v = .agg SR ∧ Old W w') Tryz.call75 (vs := #[.agg #[.int .i64 N, .int .i64 T, .int .i64 E, .slice a3 l3 c3, .slice a4 l4 c4, .bool false, .slice a6 l6 c6], .agg S2]) (by simp [h0, h5]) ((KC W g).mono fun e w' h => ⟨_, h.1, rfl, h.2⟩) ?_
      rintro x w' ⟨rfl, g'⟩
      exact ⟨_, rfl, g', rfl, (fun h => absurd h (by decide))⟩
  · intro a W g hF hq hne
    have hput := fram_put (show Fram 7 slotRa b0 a from hF) (fun i j hi hj => slotRa_inj i hi j hj)
    have hk := HK.out (fun i => a.eval (.tmp (slotRa i))) W g  
    rw [← hput] at hk
    refine op_store (k := rb) ((hF.same 6 slotRa_no6).trans ha6) (show a.eval (.tmp 13) = .agg SR from hq 6 (by decide)) (px_rb W g) (by rw [hZ_SR.1]; exact infoSz) (by rw [hZ_SR.1]; exact hS_rb) hZ_SR.2 ?_
    show tailWp _ _ _ _ _
    exact hk
end Go.Proofs.YtjjdklakonfnfaaGreatDoor
/- Proved: drawn regions of the program's bounds. -/
namespace Go.Proofs.YtjjdklakonfnfaaGreatDoor
open Go.ChangeShapes Go.WideShapes Go.ChangeAt Go.RowKit
set_option linter.unusedVariables false
set_option linter.unusedSimpArgs false
def slotFr (i : Nat) : Nat := [3, 4, 5, 6, 7, 8, 9, 10, 11, 12, 13, 14, 15, 16, 17, 18, 19, 20, 21].getD i 0
theorem slotFr_lt : ∀ i, i < 19 → slotFr i < 22 := by decide
theorem slotFr_inj : ∀ i, i < 19 → ∀ j, j < 19 → slotFr i = slotFr j → i = j := by decide
theorem slotFr_no1 : ∀ i, i < 19 → slotFr i ≠ 1 := by decide
theorem slotFr_no2 : ∀ i, i < 19 → slotFr i ≠ 2 := by decide
def qFr (N T E : Int) (a3 : Option Addr) (l3 c3 : Nat) (a4 : Option Addr) (l4 c4 : Nat) (a6 : Option Addr) (l6 c6 bx : Nat) (rb : Nat) (S1 SR Z : Array Value) (m : Int)  (i : Nat) (W : World) (x : Value) : Prop :=
  match i with
  | 0 => x = .agg #[.int .i64 N, .int .i64 T, .int .i64 E, .slice a3 l3 c3, .slice a4 l4 c4, .bool false, .slice a6 l6 c6]
  | 1 => x = .agg #[.int .i64 N, .int .i64 T, .int .i64 E, .slice a3 l3 c3, .slice a4 l4 c4, .bool false, .slice a6 l6 c6]
  | 2 => x = .int .i64 m
  | 3 => x = .int .u64 m
  | 4 => x = .agg S1
  | 5 => x = .pointer (some ⟨bx, 0, none⟩)
  | 6 => x = .pointer (some ⟨bx, 1, none⟩)
  | 7 => x = .int .i64 T
  | 8 => x = .pointer (some ⟨bx, 0, none⟩)
  | 9 => x = .pointer (some ⟨bx, 2, none⟩)
  | 10 => x = .int .i64 E
  | 11 => x = .int .i64 (T * E)
  | 12 => x = .pointer (some ⟨bx, 0, none⟩)
  | 13 => x = .pointer (some ⟨bx, 0, none⟩)
  | 14 => x = .int .i64 N
  | 15 => x = .int .i64 (2 * N)
  | 16 => x = .int .i64 ((2 * N) + 1)
  | 17 => x = .int .i64 ((T * E) * ((2 * N) + 1))
  | 18 => x = .agg SR
  | _ => True
theorem qFr_old (N T E : Int) (a3 : Option Addr) (l3 c3 : Nat) (a4 : Option Addr) (l4 c4 : Nat) (a6 : Option Addr) (l6 c6 bx : Nat) (rb : Nat) (S1 SR Z : Array Value) (m : Int)   (i : Nat) (W W' : World) (x : Value) (h : qFr N T E a3 l3 c3 a4 l4 c4 a6 l6 c6 bx rb S1 SR Z m  i W x) (qo : Old W W') : qFr N T E a3 l3 c3 a4 l4 c4 a6 l6 c6 bx rb S1 SR Z m  i W' x := by
  unfold qFr at h ⊢
  split at h
  all_goals first | exact h | trivial
set_option maxRecDepth 100000 in
set_option maxHeartbeats 8000000 in
theorem reg_Fr (w0 : World) (N T E : Int) (a3 : Option Addr) (l3 c3 : Nat) (a4 : Option Addr) (l4 c4 : Nat) (a6 : Option Addr) (l6 c6 bx : Nat) (rb : Nat) (S1 SR Z : Array Value) (m : Int)     (b_bx : w0.heap[bx]? = some (.cells #[.int .i64 N, .int .i64 T, .int .i64 E, .slice a3 l3 c3, .slice a4 l4 c4, .bool false, .slice a6 l6 c6] 44 (0, 0))) (b_rb : w0.heap[rb]? = some (.cells Z 49 (0, 0))) (hS_rb : Z.size = 81) (hZ_SR : (SR).size = 81 ∧ (SR).all (·.oneCell') = true)
    (hN : 2 ≤ N ∧ N ≤ 16) (hm : 0 ≤ m ∧ m ≤ 4611686018427387904) (hTE : 0 ≤ T * E ∧ T * E ≤ 1048576) (hX : 0 ≤ T * E * (2 * N + 1) ∧ T * E * (2 * N + 1) ≤ 34603008)
    (KP : ∀ W, Old w0 W → Calls Tryz.prog 62 #[.agg #[.int .i64 N, .int .i64 T, .int .i64 E, .slice a3 l3 c3, .slice a4 l4 c4, .bool false, .slice a6 l6 c6]] W fun e w' => e = .returned (.int .i64 m) ∧ Old W w')
    (KO : ∀ W, Old w0 W → Calls Tryz.prog 37 #[.int .u64 m] W fun e w' => e = .returned (.agg S1) ∧ Old W w')
    (KR : ∀ W, Old w0 W → Calls Tryz.prog 61 #[.agg #[.int .i64 N, .int .i64 T, .int .i64 E, .slice a3 l3 c3, .slice a4 l4 c4, .bool false, .slice a6 l6 c6], .agg S1, .int .i64 ((T * E) * ((2 * N) + 1))] W fun e w' => e = .returned (.agg SR) ∧ Old W w')
    (Q : Exit → Act → World → Prop) (b0 : Act) (hsz : b0.tmps.size = 22) (ha1 : b0.eval (.tmp 1) = .pointer (some ⟨bx, 0, none⟩)) (ha2 : b0.eval (.tmp 2) = .pointer (some ⟨rb, 0, none⟩))
    (HK : Hid (∀ (us : Nat → Value) (W : World) , Old w0 W → Q .normal (putAll b0 ((List.range 19).map fun i => (slotFr i, us i))) (W.setRow rb SR))) :
    Code.wp Tryz.prog ((Tryz.f42.body.bind (regionAtmul 1)).getD .skip) Q b0 w0 := by
  conv => arg 2; whnf
  have px_bx : ∀ W, Old w0 W → W.heap[bx]? = some (.cells #[.int .i64 N, .int .i64 T, .int .i64 E, .slice a3 l3 c3, .slice a4 l4 c4, .bool false, .slice a6 l6 c6] 44 (0, 0)) := fun W g => (g.block bx (lt_of_some b_bx)).trans b_bx
  have px_rb : ∀ W, Old w0 W → W.heap[rb]? = some (.cells Z 49 (0, 0)) := fun W g => (g.block rb (lt_of_some b_rb)).trans b_rb
  have pc_bx_0 : ∀ W, Old w0 W → W.cell? ⟨bx, 0, none⟩ = some (.int .i64 N) := fun W g => cell_of_row W bx 0 _ _ (0, 0) (px_bx W g)
  have pc_bx_1 : ∀ W, Old w0 W → W.cell? ⟨bx, 1, none⟩ = some (.int .i64 T) := fun W g => cell_of_row W bx 1 _ _ (0, 0) (px_bx W g)
  have pc_bx_2 : ∀ W, Old w0 W → W.cell? ⟨bx, 2, none⟩ = some (.int .i64 E) := fun W g => cell_of_row W bx 2 _ _ (0, 0) (px_bx W g)
  refine wp_region_tailG 19 (by decide) (by kernel_rfl) (by kernel_rfl) (by kernel_rfl) (by kernel_rfl) (by kernel_rfl) slotFr (fun i hi => by rw [hsz]; exact slotFr_lt i hi) (fun i j hi hj => slotFr_inj i hi j hj) (qFr N T E a3 l3 c3 a4 l4 c4 a6 l6 c6 bx rb S1 SR Z m  ) (qFr_old N T E a3 l3 c3 a4 l4 c4 a6 l6 c6 bx rb S1 SR Z m  ) [] (fun i W v hi hq => by cases hi) ?_ ?_
  · refine ⟨?_, ?_, ?_, ?_, ?_, ?_, ?_, ?_, ?_, ?_, ?_, ?_, ?_, ?_, ?_, ?_, ?_, ?_, ?_, trivial⟩
    · intro a W g hF hd
      refine ⟨fun _ => ?_, fun h => by rw [wanted_none rfl] at h; cases h⟩
      have e1 := (hF.same 1 slotFr_no1).trans ha1
      refine op_load (k := bx) e1 (px_bx W g) Tryz.underlying44 rfl (by kernel_rfl) ?_
      exact ⟨_, rfl, Old.refl _, rfl, (fun h => absurd h (by decide))⟩
    · intro a W g hF hd
      refine ⟨fun _ => ?_, fun h => by rw [wanted_none rfl] at h; cases h⟩
      have e1 := (hF.same 1 slotFr_no1).trans ha1
      refine op_load (k := bx) e1 (px_bx W g) Tryz.underlying44 rfl (by kernel_rfl) ?_
      exact ⟨_, rfl, Old.refl _, rfl, (fun h => absurd h (by decide))⟩
    · intro a W g hF hd
      refine ⟨fun _ => ?_, fun h => by rw [wanted_none rfl] at h; cases h⟩
      have h1 : a.eval (.tmp 4) = .agg #[.int .i64 N, .int .i64 T, .int .i64 E, .slice a3 l3 c3, .slice a4 l4 c4, .bool false, .slice a6 l6 c6] := hd ⟨1, .data⟩ (by simp) rfl
      refine op_call_ret (R := fun v w' => v = .int .i64 m ∧ Old W w') Tryz.call62 (vs := #[.agg #[.int .i64 N, .int .i64 T, .int .i64 E, .slice a3 l3 c3, .slice a4 l4 c4, .bool false, .slice a6 l6 c6]]) (by simp [h1]) ((KP W g).mono fun e w' h => ⟨_, h.1, rfl, h.2⟩) ?_
      rintro x w' ⟨rfl, g'⟩
      exact ⟨_, rfl, g', rfl, (fun h => absurd h (by decide))⟩
    · intro a W g hF hd
      refine ⟨fun _ => ?_, fun h => by rw [wanted_none rfl] at h; cases h⟩
      have h2 : a.eval (.tmp 5) = .int .i64 m := hd ⟨2, .data⟩ (by simp) rfl
      obtain ⟨ρ, hρ⟩ : ∃ ρ, a.eval = ρ := ⟨_, rfl⟩
      rw [hρ] at h2
      refine op_val ρ hρ (.int .u64 m) ?_ ⟨_, rfl, Old.refl _, rfl, (fun h => absurd h (by decide))⟩
      clear g hF hd hρ HK KP KO KR ha1 ha2 px_bx b_bx px_rb b_rb pc_bx_0 pc_bx_1 pc_bx_2 
      go_simp
      all_goals (first | (rw [IntKind.wrap_i64]; omega) | (rw [IntKind.wrap_u64]; omega) | omega)
    · intro a W g hF hd
      refine ⟨fun _ => ?_, fun h => by rw [wanted_none rfl] at h; cases h⟩
      have h3 : a.eval (.tmp 6) = .int .u64 m := hd ⟨3, .data⟩ (by simp) rfl
      refine op_call_ret (R := fun v w' => v = .agg S1 ∧ Old W w') Tryz.call37 (vs := #[.int .u64 m]) (by simp [h3]) ((KO W g).mono fun e w' h => ⟨_, h.1, rfl, h.2⟩) ?_
      rintro x w' ⟨rfl, g'⟩
      exact ⟨_, rfl, g', rfl, (fun h => absurd h (by decide))⟩
    · intro a W g hF hd
      refine ⟨fun _ => ?_, fun h => by rw [wanted_none rfl] at h; cases h⟩
      have e1 := (hF.same 1 slotFr_no1).trans ha1
      obtain ⟨ρ, hρ⟩ : ∃ ρ, a.eval = ρ := ⟨_, rfl⟩
      rw [hρ] at e1
      refine op_val ρ hρ (.pointer (some ⟨bx, 0, none⟩)) ?_ ⟨_, rfl, Old.refl _, rfl, (fun h => absurd h (by decide))⟩
      clear g hF hd hρ HK KP KO KR ha1 ha2 px_bx b_bx px_rb b_rb pc_bx_0 pc_bx_1 pc_bx_2 
      go_simp
      all_goals (first | (rw [IntKind.wrap_i64]; omega) | (rw [IntKind.wrap_u64]; omega) | omega)
    · intro a W g hF hd
      refine ⟨fun _ => ?_, fun h => by rw [wanted_none rfl] at h; cases h⟩
      have h5 : a.eval (.tmp 8) = .pointer (some ⟨bx, 0, none⟩) := hd ⟨5, .data⟩ (by simp) rfl
      obtain ⟨ρ, hρ⟩ : ∃ ρ, a.eval = ρ := ⟨_, rfl⟩
      rw [hρ] at h5
      refine op_val ρ hρ (.pointer (some ⟨bx, 1, none⟩)) ?_ ⟨_, rfl, Old.refl _, rfl, (fun h => absurd h (by decide))⟩
      clear g hF hd hρ HK KP KO KR ha1 ha2 px_bx b_bx px_rb b_rb pc_bx_0 pc_bx_1 pc_bx_2 
      go_simp
      all_goals (first | (rw [IntKind.wrap_i64]; omega) | (rw [IntKind.wrap_u64]; omega) | omega)
    · intro a W g hF hd
      refine ⟨fun _ => ?_, fun h => by rw [wanted_none rfl] at h; cases h⟩
      have h6 : a.eval (.tmp 9) = .pointer (some ⟨bx, 1, none⟩) := hd ⟨6, .data⟩ (by simp) rfl
      have kk0 := pc_bx_1 W g
      obtain ⟨ρ, hρ⟩ : ∃ ρ, a.eval = ρ := ⟨_, rfl⟩
      rw [hρ] at h6
      refine op_val ρ hρ (.int .i64 T) ?_ ⟨_, rfl, Old.refl _, rfl, (fun h => absurd h (by decide))⟩
      clear g hF hd hρ HK KP KO KR ha1 ha2 px_bx b_bx px_rb b_rb pc_bx_0 pc_bx_1 pc_bx_2 
      go_simp
      all_goals (first | (rw [IntKind.wrap_i64]; omega) | (rw [IntKind.wrap_u64]; omega) | omega)
    · intro a W g hF hd
      refine ⟨fun _ => ?_, fun h => by rw [wanted_none rfl] at h; cases h⟩
      have e1 := (hF.same 1 slotFr_no1).trans ha1
      obtain ⟨ρ, hρ⟩ : ∃ ρ, a.eval = ρ := ⟨_, rfl⟩
      rw [hρ] at e1
      refine op_val ρ hρ (.pointer (some ⟨bx, 0, none⟩)) ?_ ⟨_, rfl, Old.refl _, rfl, (fun h => absurd h (by decide))⟩
      clear g hF hd hρ HK KP KO KR ha1 ha2 px_bx b_bx px_rb b_rb pc_bx_0 pc_bx_1 pc_bx_2 
      go_simp
      all_goals (first | (rw [IntKind.wrap_i64]; omega) | (rw [IntKind.wrap_u64]; omega) | omega)
    · intro a W g hF hd
      refine ⟨fun _ => ?_, fun h => by rw [wanted_none rfl] at h; cases h⟩
      have h8 : a.eval (.tmp 11) = .pointer (some ⟨bx, 0, none⟩) := hd ⟨8, .data⟩ (by simp) rfl
      obtain ⟨ρ, hρ⟩ : ∃ ρ, a.eval = ρ := ⟨_, rfl⟩
      rw [hρ] at h8
      refine op_val ρ hρ (.pointer (some ⟨bx, 2, none⟩)) ?_ ⟨_, rfl, Old.refl _, rfl, (fun h => absurd h (by decide))⟩
      clear g hF hd hρ HK KP KO KR ha1 ha2 px_bx b_bx px_rb b_rb pc_bx_0 pc_bx_1 pc_bx_2 
      go_simp
      all_goals (first | (rw [IntKind.wrap_i64]; omega) | (rw [IntKind.wrap_u64]; omega) | omega)
    · intro a W g hF hd
      refine ⟨fun _ => ?_, fun h => by rw [wanted_none rfl] at h; cases h⟩
      have h9 : a.eval (.tmp 12) = .pointer (some ⟨bx, 2, none⟩) := hd ⟨9, .data⟩ (by simp) rfl
      have kk0 := pc_bx_2 W g
      obtain ⟨ρ, hρ⟩ : ∃ ρ, a.eval = ρ := ⟨_, rfl⟩
      rw [hρ] at h9
      refine op_val ρ hρ (.int .i64 E) ?_ ⟨_, rfl, Old.refl _, rfl, (fun h => absurd h (by decide))⟩
      clear g hF hd hρ HK KP KO KR ha1 ha2 px_bx b_bx px_rb b_rb pc_bx_0 pc_bx_1 pc_bx_2 
      go_simp
      all_goals (first | (rw [IntKind.wrap_i64]; omega) | (rw [IntKind.wrap_u64]; omega) | omega)
    · intro a W g hF hd
      refine ⟨fun _ => ?_, fun h => by rw [wanted_none rfl] at h; cases h⟩
      have h7 : a.eval (.tmp 10) = .int .i64 T := hd ⟨7, .data⟩ (by simp) rfl
      have h10 : a.eval (.tmp 13) = .int .i64 E := hd ⟨10, .data⟩ (by simp) rfl
      obtain ⟨ρ, hρ⟩ : ∃ ρ, a.eval = ρ := ⟨_, rfl⟩
      rw [hρ] at h7 h10
      refine op_val ρ hρ (.int .i64 (T * E)) ?_ ⟨_, rfl, Old.refl _, rfl, (fun h => absurd h (by decide))⟩
      clear g hF hd hρ HK KP KO KR ha1 ha2 px_bx b_bx px_rb b_rb pc_bx_0 pc_bx_1 pc_bx_2 
      go_simp
      all_goals (first | (rw [IntKind.wrap_i64]; omega) | (rw [IntKind.wrap_u64]; omega) | omega)
    · intro a W g hF hd
      refine ⟨fun _ => ?_, fun h => by rw [wanted_none rfl] at h; cases h⟩
      have e1 := (hF.same 1 slotFr_no1).trans ha1
      obtain ⟨ρ, hρ⟩ : ∃ ρ, a.eval = ρ := ⟨_, rfl⟩
      rw [hρ] at e1
      refine op_val ρ hρ (.pointer (some ⟨bx, 0, none⟩)) ?_ ⟨_, rfl, Old.refl _, rfl, (fun h => absurd h (by decide))⟩
      clear g hF hd hρ HK KP KO KR ha1 ha2 px_bx b_bx px_rb b_rb pc_bx_0 pc_bx_1 pc_bx_2 
      go_simp
      all_goals (first | (rw [IntKind.wrap_i64]; omega) | (rw [IntKind.wrap_u64]; omega) | omega)
    · intro a W g hF hd
      refine ⟨fun _ => ?_, fun h => by rw [wanted_none rfl] at h; cases h⟩
      have h12 : a.eval (.tmp 15) = .pointer (some ⟨bx, 0, none⟩) := hd ⟨12, .data⟩ (by simp) rfl
      obtain ⟨ρ, hρ⟩ : ∃ ρ, a.eval = ρ := ⟨_, rfl⟩
      rw [hρ] at h12
      refine op_val ρ hρ (.pointer (some ⟨bx, 0, none⟩)) ?_ ⟨_, rfl, Old.refl _, rfl, (fun h => absurd h (by decide))⟩
      clear g hF hd hρ HK KP KO KR ha1 ha2 px_bx b_bx px_rb b_rb pc_bx_0 pc_bx_1 pc_bx_2 
      go_simp
      all_goals (first | (rw [IntKind.wrap_i64]; omega) | (rw [IntKind.wrap_u64]; omega) | omega)
    · intro a W g hF hd
      refine ⟨fun _ => ?_, fun h => by rw [wanted_none rfl] at h; cases h⟩
      have h13 : a.eval (.tmp 16) = .pointer (some ⟨bx, 0, none⟩) := hd ⟨13, .data⟩ (by simp) rfl
      have kk0 := pc_bx_0 W g
      obtain ⟨ρ, hρ⟩ : ∃ ρ, a.eval = ρ := ⟨_, rfl⟩
      rw [hρ] at h13
      refine op_val ρ hρ (.int .i64 N) ?_ ⟨_, rfl, Old.refl _, rfl, (fun h => absurd h (by decide))⟩
      clear g hF hd hρ HK KP KO KR ha1 ha2 px_bx b_bx px_rb b_rb pc_bx_0 pc_bx_1 pc_bx_2 
      go_simp
      all_goals (first | (rw [IntKind.wrap_i64]; omega) | (rw [IntKind.wrap_u64]; omega) | omega)
    · intro a W g hF hd
      refine ⟨fun _ => ?_, fun h => by rw [wanted_none rfl] at h; cases h⟩
      have c0 : a.eval (.const (.int .i64 2)) = .int .i64 2 := rfl
      have h14 : a.eval (.tmp 17) = .int .i64 N := hd ⟨14, .data⟩ (by simp) rfl
      obtain ⟨ρ, hρ⟩ : ∃ ρ, a.eval = ρ := ⟨_, rfl⟩
      rw [hρ] at c0 h14
      refine op_val ρ hρ (.int .i64 (2 * N)) ?_ ⟨_, rfl, Old.refl _, rfl, (fun h => absurd h (by decide))⟩
      clear g hF hd hρ HK KP KO KR ha1 ha2 px_bx b_bx px_rb b_rb pc_bx_0 pc_bx_1 pc_bx_2 
      go_simp
      all_goals (first | (rw [IntKind.wrap_i64]; omega) | (rw [IntKind.wrap_u64]; omega) | omega)
    · intro a W g hF hd
      refine ⟨fun _ => ?_, fun h => by rw [wanted_none rfl] at h; cases h⟩
      have h15 : a.eval (.tmp 18) = .int .i64 (2 * N) := hd ⟨15, .data⟩ (by simp) rfl
      have c1 : a.eval (.const (.int .i64 1)) = .int .i64 1 := rfl
      obtain ⟨ρ, hρ⟩ : ∃ ρ, a.eval = ρ := ⟨_, rfl⟩
      rw [hρ] at h15 c1
      refine op_val ρ hρ (.int .i64 ((2 * N) + 1)) ?_ ⟨_, rfl, Old.refl _, rfl, (fun h => absurd h (by decide))⟩
      clear g hF hd hρ HK KP KO KR ha1 ha2 px_bx b_bx px_rb b_rb pc_bx_0 pc_bx_1 pc_bx_2 
      go_simp
      all_goals (first | (rw [IntKind.wrap_i64]; omega) | (rw [IntKind.wrap_u64]; omega) | omega)
    · intro a W g hF hd
      refine ⟨fun _ => ?_, fun h => by rw [wanted_none rfl] at h; cases h⟩
      have h11 : a.eval (.tmp 14) = .int .i64 (T * E) := hd ⟨11, .data⟩ (by simp) rfl
      have h16 : a.eval (.tmp 19) = .int .i64 ((2 * N) + 1) := hd ⟨16, .data⟩ (by simp) rfl
      obtain ⟨ρ, hρ⟩ : ∃ ρ, a.eval = ρ := ⟨_, rfl⟩
      rw [hρ] at h11 h16
      refine op_val ρ hρ (.int .i64 ((T * E) * ((2 * N) + 1))) ?_ ⟨_, rfl, Old.refl _, rfl, (fun h => absurd h (by decide))⟩
      clear g hF hd hρ HK KP KO KR ha1 ha2 px_bx b_bx px_rb b_rb pc_bx_0 pc_bx_1 pc_bx_2 
      go_simp
      all_goals (first | (rw [IntKind.wrap_i64]; omega) | (rw [IntKind.wrap_u64]; omega) | omega)
    · intro a W g hF hd
      refine ⟨fun _ => ?_, fun h => by rw [wanted_none rfl] at h; cases h⟩
      have h0 : a.eval (.tmp 3) = .agg #[.int .i64 N, .int .i64 T, .int .i64 E, .slice a3 l3 c3, .slice a4 l4 c4, .bool false, .slice a6 l6 c6] := hd ⟨0, .data⟩ (by simp) rfl
      have h4 : a.eval (.tmp 7) = .agg S1 := hd ⟨4, .data⟩ (by simp) rfl
      have h17 : a.eval (.tmp 20) = .int .i64 ((T * E) * ((2 * N) + 1)) := hd ⟨17, .data⟩ (by simp) rfl
      refine op_call_ret (R := fun v w' => v = .agg SR ∧ Old W w') Tryz.call61 (vs := #[.agg #[.int .i64 N, .int .i64 T, .int .i64 E, .slice a3 l3 c3, .slice a4 l4 c4, .bool false, .slice a6 l6 c6], .agg S1, .int .i64 ((T * E) * ((2 * N) + 1))]) (by simp [h0, h4, h17]) ((KR W g).mono fun e w' h => ⟨_, h.1, rfl, h.2⟩) ?_
      rintro x w' ⟨rfl, g'⟩
      exact ⟨_, rfl, g', rfl, (fun h => absurd h (by decide))⟩
  · intro a W g hF hq hne
    have hput := fram_put (show Fram 19 slotFr b0 a from hF) (fun i j hi hj => slotFr_inj i hi j hj)
    have hk := HK.out (fun i => a.eval (.tmp (slotFr i))) W g  
    rw [← hput] at hk
    refine op_store (k := rb) ((hF.same 2 slotFr_no2).trans ha2) (show a.eval (.tmp 21) = .agg SR from hq 18 (by decide)) (px_rb W g) (by rw [hZ_SR.1]; exact infoSz) (by rw [hZ_SR.1]; exact hS_rb) hZ_SR.2 ?_
    show tailWp _ _ _ _ _
    exact hk
end Go.Proofs.YtjjdklakonfnfaaGreatDoor
/- Proved: drawn regions of the program's limit and readBound. -/
namespace Go.Proofs.YtjjdklakonfnfaaGreatDoor
open Go.ChangeShapes Go.WideShapes Go.ChangeAt Go.RowKit
set_option linter.unusedVariables false
set_option linter.unusedSimpArgs false
def slotLi (i : Nat) : Nat := [7, 8, 9, 10, 11, 12, 13, 14, 15, 16, 17, 3, 4].getD i 0
theorem slotLi_lt : ∀ i, i < 13 → slotLi i < 31 := by decide
theorem slotLi_inj : ∀ i, i < 13 → ∀ j, j < 13 → slotLi i = slotLi j → i = j := by decide
theorem slotLi_no1 : ∀ i, i < 13 → slotLi i ≠ 1 := by decide
def qLi (N T E : Int) (a3 : Option Addr) (l3 c3 : Nat) (a4 : Option Addr) (l4 c4 : Nat) (a6 : Option Addr) (l6 c6 bx : Nat) (SQ SL : Array Value) (r : Int)  (base : Nat) (i : Nat) (W : World) (x : Value) : Prop :=
  match i with
  | 0 => x = .pointer (some ⟨bx, 5, none⟩)
  | 1 => x = .agg #[.bool false, .slice a6 l6 c6]
  | 2 => x = .agg SQ
  | 3 => x = .pointer (some ⟨bx, 0, none⟩)
  | 4 => x = .pointer (some ⟨bx, 1, none⟩)
  | 5 => x = .int .i64 T
  | 6 => x = .agg #[.int .i64 N, .int .i64 T, .int .i64 E, .slice a3 l3 c3, .slice a4 l4 c4, .bool false, .slice a6 l6 c6]
  | 7 => x = .int .i64 r
  | 8 => x = .int .i64 (T * r)
  | 9 => x = .int .u64 (T * r)
  | 10 => x = .agg SL
  | 11 => ∃ (g : Nat) (cs : Array Value), x = .pointer (some ⟨g, 0, none⟩) ∧ base ≤ g ∧ g < W.heap.size ∧ W.heap[g]? = some (.cells cs 49 (0, 0)) ∧ cs.size = 81
  | 12 => ∃ (g : Nat) (cs : Array Value), x = .pointer (some ⟨g, 0, none⟩) ∧ base ≤ g ∧ g < W.heap.size ∧ W.heap[g]? = some (.cells cs 49 (0, 0)) ∧ cs.size = 81
  | _ => True
theorem qLi_old (N T E : Int) (a3 : Option Addr) (l3 c3 : Nat) (a4 : Option Addr) (l4 c4 : Nat) (a6 : Option Addr) (l6 c6 bx : Nat) (SQ SL : Array Value) (r : Int)  (base : Nat)  (i : Nat) (W W' : World) (x : Value) (h : qLi N T E a3 l3 c3 a4 l4 c4 a6 l6 c6 bx SQ SL r  base i W x) (qo : Old W W') : qLi N T E a3 l3 c3 a4 l4 c4 a6 l6 c6 bx SQ SL r  base i W' x := by
  unfold qLi at h ⊢
  split at h
  case h_12 =>
    obtain ⟨g, cs, e, h1, h2, h3, h4⟩ := h
    exact ⟨g, cs, e, h1, Nat.lt_of_lt_of_le h2 qo.size, (qo.block g h2).trans h3, h4⟩
  case h_13 =>
    obtain ⟨g, cs, e, h1, h2, h3, h4⟩ := h
    exact ⟨g, cs, e, h1, Nat.lt_of_lt_of_le h2 qo.size, (qo.block g h2).trans h3, h4⟩
  all_goals first | exact h | trivial
set_option maxRecDepth 100000 in
set_option maxHeartbeats 8000000 in
theorem reg_Li (w0 : World) (N T E : Int) (a3 : Option Addr) (l3 c3 : Nat) (a4 : Option Addr) (l4 c4 : Nat) (a6 : Option Addr) (l6 c6 bx : Nat) (SQ SL : Array Value) (r : Int)     (b_bx : w0.heap[bx]? = some (.cells #[.int .i64 N, .int .i64 T, .int .i64 E, .slice a3 l3 c3, .slice a4 l4 c4, .bool false, .slice a6 l6 c6] 44 (0, 0))) (hZ_SL : (SL).size = 81 ∧ (SL).all (·.oneCell') = true) (hZ_SQ : (SQ).size = 81 ∧ (SQ).all (·.oneCell') = true)
    (hX : 0 ≤ T * r ∧ T * r ≤ 4611686018427387904)
    (KZ : ∀ W, Old w0 W → Calls Tryz.prog 36 #[.agg #[.bool false, .slice a6 l6 c6]] W fun e w' => e = .returned (.agg SQ) ∧ Old W w')
    (KS : ∀ W, Old w0 W → Calls Tryz.prog 38 #[.agg #[.int .i64 N, .int .i64 T, .int .i64 E, .slice a3 l3 c3, .slice a4 l4 c4, .bool false, .slice a6 l6 c6]] W fun e w' => e = .returned (.int .i64 r) ∧ Old W w')
    (KO : ∀ W, Old w0 W → Calls Tryz.prog 37 #[.int .u64 (T * r)] W fun e w' => e = .returned (.agg SL) ∧ Old W w')
    (Q : Exit → Act → World → Prop) (b0 : Act) (hsz : b0.tmps.size = 31) (ha1 : b0.eval (.tmp 1) = .pointer (some ⟨bx, 0, none⟩))
    (HK : Hid (∀ (us : Nat → Value) (W : World) (g11 g12 : Nat), Old w0 W → us 11 = .pointer (some ⟨g11, 0, none⟩) → w0.heap.size ≤ g11 → us 12 = .pointer (some ⟨g12, 0, none⟩) → w0.heap.size ≤ g12 → W.heap[g11]? = some (.cells SQ 49 (0, 0)) → W.heap[g12]? = some (.cells SL 49 (0, 0)) → Q .normal (putAll b0 ((List.range 13).map fun i => (slotLi i, us i))) W)) :
    Code.wp Tryz.prog ((Tryz.f18.body.bind (regionAtmul 1)).getD .skip) Q b0 w0 := by
  conv => arg 2; whnf
  have px_bx : ∀ W, Old w0 W → W.heap[bx]? = some (.cells #[.int .i64 N, .int .i64 T, .int .i64 E, .slice a3 l3 c3, .slice a4 l4 c4, .bool false, .slice a6 l6 c6] 44 (0, 0)) := fun W g => (g.block bx (lt_of_some b_bx)).trans b_bx
  have pc_bx_1 : ∀ W, Old w0 W → W.cell? ⟨bx, 1, none⟩ = some (.int .i64 T) := fun W g => cell_of_row W bx 1 _ _ (0, 0) (px_bx W g)
  have pc_bx_5 : ∀ W, Old w0 W → W.cell? ⟨bx, 5, none⟩ = some (.bool false) := fun W g => cell_of_row W bx 5 _ _ (0, 0) (px_bx W g)
  have pc_bx_6 : ∀ W, Old w0 W → W.cell? ⟨bx, 6, none⟩ = some (.slice a6 l6 c6) := fun W g => cell_of_row W bx 6 _ _ (0, 0) (px_bx W g)
  obtain ⟨z_impl_size, hz_impl_size, hzs_impl_size⟩ : ∃ z, (Tryz.prog.info? 49).bind (·.zero) = some z ∧ z.cells.size = 81 := ⟨_, rfl, by kernel_rfl⟩
  refine wp_region_tailG 13 (by decide) (by kernel_rfl) (by kernel_rfl) (by kernel_rfl) (by kernel_rfl) (by kernel_rfl) slotLi (fun i hi => by rw [hsz]; exact slotLi_lt i hi) (fun i j hi hj => slotLi_inj i hi j hj) (qLi N T E a3 l3 c3 a4 l4 c4 a6 l6 c6 bx SQ SL r  w0.heap.size ) (qLi_old N T E a3 l3 c3 a4 l4 c4 a6 l6 c6 bx SQ SL r  w0.heap.size ) [11, 12] (fun i W v hi hq => by
    have hi2 : i = 11 ∨ i = 12 := by simpa using hi
    rcases hi2 with rfl | rfl
    all_goals (obtain ⟨g, cs, e, _, h2, _⟩ := hq; exact ⟨g, e, h2⟩)) ?_ ?_
  · refine ⟨?_, ?_, ?_, ?_, ?_, ?_, ?_, ?_, ?_, ?_, ?_, ?_, ?_, trivial⟩
    · intro a W g hF hd
      refine ⟨fun _ => ?_, fun h => by rw [wanted_none rfl] at h; cases h⟩
      have e1 := (hF.same 1 slotLi_no1).trans ha1
      obtain ⟨ρ, hρ⟩ : ∃ ρ, a.eval = ρ := ⟨_, rfl⟩
      rw [hρ] at e1
      refine op_val ρ hρ (.pointer (some ⟨bx, 5, none⟩)) ?_ ⟨_, rfl, Old.refl _, rfl, (fun h => absurd h (by decide))⟩
      clear g hF hd hρ HK KZ KS KO ha1 px_bx b_bx pc_bx_1 pc_bx_5 pc_bx_6 
      go_simp
      all_goals (first | (rw [IntKind.wrap_i64]; omega) | (rw [IntKind.wrap_u64]; omega) | omega)
    · intro a W g hF hd
      refine ⟨fun _ => ?_, fun h => by rw [wanted_none rfl] at h; cases h⟩
      have h0 : a.eval (.tmp 7) = .pointer (some ⟨bx, 5, none⟩) := hd ⟨0, .data⟩ (by simp) rfl
      have kk0 := pc_bx_5 W g
      have kk1 := pc_bx_6 W g
      obtain ⟨ρ, hρ⟩ : ∃ ρ, a.eval = ρ := ⟨_, rfl⟩
      rw [hρ] at h0
      refine op_val ρ hρ (.agg #[.bool false, .slice a6 l6 c6]) ?_ ⟨_, rfl, Old.refl _, rfl, (fun h => absurd h (by decide))⟩
      clear g hF hd hρ HK KZ KS KO ha1 px_bx b_bx pc_bx_1 pc_bx_5 pc_bx_6 
      go_simp
      all_goals (first | (rw [IntKind.wrap_i64]; omega) | (rw [IntKind.wrap_u64]; omega) | omega)
    · intro a W g hF hd
      refine ⟨fun _ => ?_, fun h => by rw [wanted_none rfl] at h; cases h⟩
      have h1 : a.eval (.tmp 8) = .agg #[.bool false, .slice a6 l6 c6] := hd ⟨1, .data⟩ (by simp) rfl
      refine op_call_ret (R := fun v w' => v = .agg SQ ∧ Old W w') Tryz.call36 (vs := #[.agg #[.bool false, .slice a6 l6 c6]]) (by simp [h1]) ((KZ W g).mono fun e w' h => ⟨_, h.1, rfl, h.2⟩) ?_
      rintro x w' ⟨rfl, g'⟩
      exact ⟨_, rfl, g', rfl, (fun h => absurd h (by decide))⟩
    · intro a W g hF hd
      refine ⟨fun _ => ?_, fun h => by rw [wanted_none rfl] at h; cases h⟩
      have e1 := (hF.same 1 slotLi_no1).trans ha1
      obtain ⟨ρ, hρ⟩ : ∃ ρ, a.eval = ρ := ⟨_, rfl⟩
      rw [hρ] at e1
      refine op_val ρ hρ (.pointer (some ⟨bx, 0, none⟩)) ?_ ⟨_, rfl, Old.refl _, rfl, (fun h => absurd h (by decide))⟩
      clear g hF hd hρ HK KZ KS KO ha1 px_bx b_bx pc_bx_1 pc_bx_5 pc_bx_6 
      go_simp
      all_goals (first | (rw [IntKind.wrap_i64]; omega) | (rw [IntKind.wrap_u64]; omega) | omega)
    · intro a W g hF hd
      refine ⟨fun _ => ?_, fun h => by rw [wanted_none rfl] at h; cases h⟩
      have h3 : a.eval (.tmp 10) = .pointer (some ⟨bx, 0, none⟩) := hd ⟨3, .data⟩ (by simp) rfl
      obtain ⟨ρ, hρ⟩ : ∃ ρ, a.eval = ρ := ⟨_, rfl⟩
      rw [hρ] at h3
      refine op_val ρ hρ (.pointer (some ⟨bx, 1, none⟩)) ?_ ⟨_, rfl, Old.refl _, rfl, (fun h => absurd h (by decide))⟩
      clear g hF hd hρ HK KZ KS KO ha1 px_bx b_bx pc_bx_1 pc_bx_5 pc_bx_6 
      go_simp
      all_goals (first | (rw [IntKind.wrap_i64]; omega) | (rw [IntKind.wrap_u64]; omega) | omega)
    · intro a W g hF hd
      refine ⟨fun _ => ?_, fun h => by rw [wanted_none rfl] at h; cases h⟩
      have h4 : a.eval (.tmp 11) = .pointer (some ⟨bx, 1, none⟩) := hd ⟨4, .data⟩ (by simp) rfl
      have kk0 := pc_bx_1 W g
      obtain ⟨ρ, hρ⟩ : ∃ ρ, a.eval = ρ := ⟨_, rfl⟩
      rw [hρ] at h4
      refine op_val ρ hρ (.int .i64 T) ?_ ⟨_, rfl, Old.refl _, rfl, (fun h => absurd h (by decide))⟩
      clear g hF hd hρ HK KZ KS KO ha1 px_bx b_bx pc_bx_1 pc_bx_5 pc_bx_6 
      go_simp
      all_goals (first | (rw [IntKind.wrap_i64]; omega) | (rw [IntKind.wrap_u64]; omega) | omega)
    · intro a W g hF hd
      refine ⟨fun _ => ?_, fun h => by rw [wanted_none rfl] at h; cases h⟩
      have e1 := (hF.same 1 slotLi_no1).trans ha1
      refine op_load (k := bx) e1 (px_bx W g) Tryz.underlying44 rfl (by kernel_rfl) ?_
      exact ⟨_, rfl, Old.refl _, rfl, (fun h => absurd h (by decide))⟩
    · intro a W g hF hd
      refine ⟨fun _ => ?_, fun h => by rw [wanted_none rfl] at h; cases h⟩
      have h6 : a.eval (.tmp 13) = .agg #[.int .i64 N, .int .i64 T, .int .i64 E, .slice a3 l3 c3, .slice a4 l4 c4, .bool false, .slice a6 l6 c6] := hd ⟨6, .data⟩ (by simp) rfl
      refine op_call_ret (R := fun v w' => v = .int .i64 r ∧ Old W w') Tryz.call38 (vs := #[.agg #[.int .i64 N, .int .i64 T, .int .i64 E, .slice a3 l3 c3, .slice a4 l4 c4, .bool false, .slice a6 l6 c6]]) (by simp [h6]) ((KS W g).mono fun e w' h => ⟨_, h.1, rfl, h.2⟩) ?_
      rintro x w' ⟨rfl, g'⟩
      exact ⟨_, rfl, g', rfl, (fun h => absurd h (by decide))⟩
    · intro a W g hF hd
      refine ⟨fun _ => ?_, fun h => by rw [wanted_none rfl] at h; cases h⟩
      have h5 : a.eval (.tmp 12) = .int .i64 T := hd ⟨5, .data⟩ (by simp) rfl
      have h7 : a.eval (.tmp 14) = .int .i64 r := hd ⟨7, .data⟩ (by simp) rfl
      obtain ⟨ρ, hρ⟩ : ∃ ρ, a.eval = ρ := ⟨_, rfl⟩
      rw [hρ] at h5 h7
      refine op_val ρ hρ (.int .i64 (T * r)) ?_ ⟨_, rfl, Old.refl _, rfl, (fun h => absurd h (by decide))⟩
      clear g hF hd hρ HK KZ KS KO ha1 px_bx b_bx pc_bx_1 pc_bx_5 pc_bx_6 
      go_simp
      all_goals (first | (rw [IntKind.wrap_i64]; omega) | (rw [IntKind.wrap_u64]; omega) | omega)
    · intro a W g hF hd
      refine ⟨fun _ => ?_, fun h => by rw [wanted_none rfl] at h; cases h⟩
      have h8 : a.eval (.tmp 15) = .int .i64 (T * r) := hd ⟨8, .data⟩ (by simp) rfl
      obtain ⟨ρ, hρ⟩ : ∃ ρ, a.eval = ρ := ⟨_, rfl⟩
      rw [hρ] at h8
      refine op_val ρ hρ (.int .u64 (T * r)) ?_ ⟨_, rfl, Old.refl _, rfl, (fun h => absurd h (by decide))⟩
      clear g hF hd hρ HK KZ KS KO ha1 px_bx b_bx pc_bx_1 pc_bx_5 pc_bx_6 
      go_simp
      all_goals (first | (rw [IntKind.wrap_i64]; omega) | (rw [IntKind.wrap_u64]; omega) | omega)
    · intro a W g hF hd
      refine ⟨fun _ => ?_, fun h => by rw [wanted_none rfl] at h; cases h⟩
      have h9 : a.eval (.tmp 16) = .int .u64 (T * r) := hd ⟨9, .data⟩ (by simp) rfl
      refine op_call_ret (R := fun v w' => v = .agg SL ∧ Old W w') Tryz.call37 (vs := #[.int .u64 (T * r)]) (by simp [h9]) ((KO W g).mono fun e w' h => ⟨_, h.1, rfl, h.2⟩) ?_
      rintro x w' ⟨rfl, g'⟩
      exact ⟨_, rfl, g', rfl, (fun h => absurd h (by decide))⟩
    · intro a W g hF hd
      refine ⟨fun _ => ?_, fun h => by rw [wanted_none rfl] at h; cases h⟩
      refine op_alloc hz_impl_size ?_
      exact ⟨_, rfl, (Old.refl _).alloc _, ⟨W.heap.size, z_impl_size.cells, rfl, g.size, by simp, heap_newA W _, hzs_impl_size⟩, (fun _ => rfl)⟩
    · intro a W g hF hd
      refine ⟨fun _ => ?_, fun h => by rw [wanted_none rfl] at h; cases h⟩
      refine op_alloc hz_impl_size ?_
      exact ⟨_, rfl, (Old.refl _).alloc _, ⟨W.heap.size, z_impl_size.cells, rfl, g.size, by simp, heap_newA W _, hzs_impl_size⟩, (fun _ => rfl)⟩
  · intro a W g hF hq hne
    obtain ⟨g11, cs11, hp11, hb11, hl11, hc11, hz11⟩ := hq 11 (by decide)
    obtain ⟨g12, cs12, hp12, hb12, hl12, hc12, hz12⟩ := hq 12 (by decide)
    have ne11_12 : g11 ≠ g12 := fun e => hne 11 12 (by decide) (by decide) (by decide) (by decide) (by decide) (by rw [hp11, hp12, e])
    have hput := fram_put (show Fram 13 slotLi b0 a from hF) (fun i j hi hj => slotLi_inj i hi j hj)
    have hO : Old w0 ((W.setRow g11 SQ).setRow g12 SL) := (old_setRow (old_setRow g (by omega) _) (by omega) _)
    have hk := HK.out (fun i => a.eval (.tmp (slotLi i))) ((W.setRow g11 SQ).setRow g12 SL) g11 g12 hO hp11 hb11 hp12 hb12 (((heap_setRow_other _ g12 _ g11 (by omega)).trans (heap_setRow_same hc11))) (heap_setRow_same ((heap_setRow_other _ g11 _ g12 (by omega)).trans hc12)) 
    rw [← hput] at hk
    refine op_store (k := g11) hp11 (show a.eval (.tmp 9) = .agg SQ from hq 2 (by decide)) hc11 (by rw [hZ_SQ.1]; exact infoSz) (by rw [hZ_SQ.1]; exact hz11) hZ_SQ.2 ?_
    show tailWp _ _ _ _ _
    refine op_store (k := g12) hp12 (show a.eval (.tmp 17) = .agg SL from hq 10 (by decide)) ((heap_setRow_other _ g11 _ g12 (by omega)).trans hc12) (by rw [hZ_SL.1]; exact infoSz) (by rw [hZ_SL.1]; exact hz12) hZ_SL.2 ?_
    show tailWp _ _ _ _ _
    exact hk
end Go.Proofs.YtjjdklakonfnfaaGreatDoor
/- Proved: drawn regions of the program's productBound and deeperBounds. -/
namespace Go.Proofs.YtjjdklakonfnfaaGreatDoor
open Go.ChangeShapes Go.WideShapes Go.ChangeAt Go.RowKit
set_option linter.unusedVariables false
set_option linter.unusedSimpArgs false
def slotP2 (i : Nat) : Nat := [22, 23, 24, 25, 26, 27, 28, 29, 30, 8].getD i 0
theorem slotP2_lt : ∀ i, i < 10 → slotP2 i < 70 := by decide
theorem slotP2_inj : ∀ i, i < 10 → ∀ j, j < 10 → slotP2 i = slotP2 j → i = j := by decide
theorem slotP2_no3 : ∀ i, i < 10 → slotP2 i ≠ 3 := by decide
theorem slotP2_no4 : ∀ i, i < 10 → slotP2 i ≠ 4 := by decide
theorem slotP2_no5 : ∀ i, i < 10 → slotP2 i ≠ 5 := by decide
theorem slotP2_no7 : ∀ i, i < 10 → slotP2 i ≠ 7 := by decide
def qP2 (N T E : Int) (a3 : Option Addr) (l3 c3 : Nat) (a4 : Option Addr) (l4 c4 : Nat) (a6 : Option Addr) (l6 c6 bx : Nat) (ab bb : Nat) (SA SB SS SE : Array Value) (o : Int)  (base : Nat) (i : Nat) (W : World) (x : Value) : Prop :=
  match i with
  | 0 => x = .agg SA
  | 1 => x = .agg SB
  | 2 => x = .agg SS
  | 3 => x = .pointer (some ⟨bx, 0, none⟩)
  | 4 => x = .pointer (some ⟨bx, 0, none⟩)
  | 5 => x = .int .i64 N
  | 6 => x = .int .i64 o
  | 7 => x = .int .i64 (N * o)
  | 8 => x = .agg SE
  | 9 => ∃ (g : Nat) (cs : Array Value), x = .pointer (some ⟨g, 0, none⟩) ∧ base ≤ g ∧ g < W.heap.size ∧ W.heap[g]? = some (.cells cs 49 (0, 0)) ∧ cs.size = 81
  | _ => True
theorem qP2_old (N T E : Int) (a3 : Option Addr) (l3 c3 : Nat) (a4 : Option Addr) (l4 c4 : Nat) (a6 : Option Addr) (l6 c6 bx : Nat) (ab bb : Nat) (SA SB SS SE : Array Value) (o : Int)  (base : Nat)  (i : Nat) (W W' : World) (x : Value) (h : qP2 N T E a3 l3 c3 a4 l4 c4 a6 l6 c6 bx ab bb SA SB SS SE o  base i W x) (qo : Old W W') : qP2 N T E a3 l3 c3 a4 l4 c4 a6 l6 c6 bx ab bb SA SB SS SE o  base i W' x := by
  unfold qP2 at h ⊢
  split at h
  case h_10 =>
    obtain ⟨g, cs, e, h1, h2, h3, h4⟩ := h
    exact ⟨g, cs, e, h1, Nat.lt_of_lt_of_le h2 qo.size, (qo.block g h2).trans h3, h4⟩
  all_goals first | exact h | trivial
set_option maxRecDepth 100000 in
set_option maxHeartbeats 8000000 in
theorem reg_P2 (w0 : World) (N T E : Int) (a3 : Option Addr) (l3 c3 : Nat) (a4 : Option Addr) (l4 c4 : Nat) (a6 : Option Addr) (l6 c6 bx : Nat) (ab bb : Nat) (SA SB SS SE : Array Value) (o : Int)     (b_ab : w0.heap[ab]? = some (.cells SA 49 (0, 0))) (hS_ab : SA.size = 81) (b_bb : w0.heap[bb]? = some (.cells SB 49 (0, 0))) (hS_bb : SB.size = 81) (b_bx : w0.heap[bx]? = some (.cells #[.int .i64 N, .int .i64 T, .int .i64 E, .slice a3 l3 c3, .slice a4 l4 c4, .bool false, .slice a6 l6 c6] 44 (0, 0))) (hZ_SE : (SE).size = 81 ∧ (SE).all (·.oneCell') = true)
    (hX : 0 ≤ N * o ∧ N * o ≤ 4611686018427387904)
    (KA : ∀ W, Old w0 W → Calls Tryz.prog 63 #[.agg SA, .agg SB] W fun e w' => e = .returned (.agg SS) ∧ Old W w')
    (KX : ∀ W, Old w0 W → Calls Tryz.prog 58 #[.agg SS, .int .i64 (N * o), .int .i64 0] W fun e w' => e = .returned (.agg SE) ∧ Old W w')
    (Q : Exit → Act → World → Prop) (b0 : Act) (hsz : b0.tmps.size = 70) (ha3 : b0.eval (.tmp 3) = .pointer (some ⟨bx, 0, none⟩)) (ha4 : b0.eval (.tmp 4) = .pointer (some ⟨ab, 0, none⟩)) (ha5 : b0.eval (.tmp 5) = .pointer (some ⟨bb, 0, none⟩)) (ha7 : b0.eval (.tmp 7) = .int .i64 o)
    (HK : Hid (∀ (us : Nat → Value) (W : World) (g9 : Nat), Old w0 W → us 9 = .pointer (some ⟨g9, 0, none⟩) → w0.heap.size ≤ g9 → W.heap[g9]? = some (.cells SE 49 (0, 0)) → Q .normal (putAll b0 ((List.range 10).map fun i => (slotP2 i, us i))) W)) :
    Code.wp Tryz.prog ((Tryz.f44.body.bind (regionAtmul 2)).getD .skip) Q b0 w0 := by
  conv => arg 2; whnf
  have px_ab : ∀ W, Old w0 W → W.heap[ab]? = some (.cells SA 49 (0, 0)) := fun W g => (g.block ab (lt_of_some b_ab)).trans b_ab
  have px_bb : ∀ W, Old w0 W → W.heap[bb]? = some (.cells SB 49 (0, 0)) := fun W g => (g.block bb (lt_of_some b_bb)).trans b_bb
  have px_bx : ∀ W, Old w0 W → W.heap[bx]? = some (.cells #[.int .i64 N, .int .i64 T, .int .i64 E, .slice a3 l3 c3, .slice a4 l4 c4, .bool false, .slice a6 l6 c6] 44 (0, 0)) := fun W g => (g.block bx (lt_of_some b_bx)).trans b_bx
  have pc_bx_0 : ∀ W, Old w0 W → W.cell? ⟨bx, 0, none⟩ = some (.int .i64 N) := fun W g => cell_of_row W bx 0 _ _ (0, 0) (px_bx W g)
  obtain ⟨z_impl_size, hz_impl_size, hzs_impl_size⟩ : ∃ z, (Tryz.prog.info? 49).bind (·.zero) = some z ∧ z.cells.size = 81 := ⟨_, rfl, by kernel_rfl⟩
  refine wp_region_tailG 10 (by decide) (by kernel_rfl) (by kernel_rfl) (by kernel_rfl) (by kernel_rfl) (by kernel_rfl) slotP2 (fun i hi => by rw [hsz]; exact slotP2_lt i hi) (fun i j hi hj => slotP2_inj i hi j hj) (qP2 N T E a3 l3 c3 a4 l4 c4 a6 l6 c6 bx ab bb SA SB SS SE o  w0.heap.size ) (qP2_old N T E a3 l3 c3 a4 l4 c4 a6 l6 c6 bx ab bb SA SB SS SE o  w0.heap.size ) [9] (fun i W v hi hq => by
    have hi2 : i = 9 := by simpa using hi
    rcases hi2 with rfl
    all_goals (obtain ⟨g, cs, e, _, h2, _⟩ := hq; exact ⟨g, e, h2⟩)) ?_ ?_
  · refine ⟨?_, ?_, ?_, ?_, ?_, ?_, ?_, ?_, ?_, ?_, trivial⟩
    · intro a W g hF hd
      refine ⟨fun _ => ?_, fun h => by rw [wanted_none rfl] at h; cases h⟩
      have e4 := (hF.same 4 slotP2_no4).trans ha4
      refine op_load (k := ab) e4 (px_ab W g) Tryz.underlying49 rfl (by rw [hS_ab]; exact infoSz) ?_
      exact ⟨_, rfl, Old.refl _, rfl, (fun h => absurd h (by decide))⟩
    · intro a W g hF hd
      refine ⟨fun _ => ?_, fun h => by rw [wanted_none rfl] at h; cases h⟩
      have e5 := (hF.same 5 slotP2_no5).trans ha5
      refine op_load (k := bb) e5 (px_bb W g) Tryz.underlying49 rfl (by rw [hS_bb]; exact infoSz) ?_
      exact ⟨_, rfl, Old.refl _, rfl, (fun h => absurd h (by decide))⟩
    · intro a W g hF hd
      refine ⟨fun _ => ?_, fun h => by rw [wanted_none rfl] at h; cases h⟩
      have h0 : a.eval (.tmp 22) = .agg SA := hd ⟨0, .data⟩ (by simp) rfl
      have h1 : a.eval (.tmp 23) = .agg SB := hd ⟨1, .data⟩ (by simp) rfl
      refine op_call_ret (R := fun v w' => v = .agg SS ∧ Old W w') Tryz.call63 (vs := #[.agg SA, .agg SB]) (by simp [h0, h1]) ((KA W g).mono fun e w' h => ⟨_, h.1, rfl, h.2⟩) ?_
      rintro x w' ⟨rfl, g'⟩
      exact ⟨_, rfl, g', rfl, (fun h => absurd h (by decide))⟩
    · intro a W g hF hd
      refine ⟨fun _ => ?_, fun h => by rw [wanted_none rfl] at h; cases h⟩
      have e3 := (hF.same 3 slotP2_no3).trans ha3
      obtain ⟨ρ, hρ⟩ : ∃ ρ, a.eval = ρ := ⟨_, rfl⟩
      rw [hρ] at e3
      refine op_val ρ hρ (.pointer (some ⟨bx, 0, none⟩)) ?_ ⟨_, rfl, Old.refl _, rfl, (fun h => absurd h (by decide))⟩
      clear g hF hd hρ HK KA KX ha3 ha4 ha5 ha7 px_ab b_ab px_bb b_bb px_bx b_bx pc_bx_0 
      go_simp
      all_goals (first | (rw [IntKind.wrap_i64]; omega) | (rw [IntKind.wrap_u64]; omega) | omega)
    · intro a W g hF hd
      refine ⟨fun _ => ?_, fun h => by rw [wanted_none rfl] at h; cases h⟩
      have h3 : a.eval (.tmp 25) = .pointer (some ⟨bx, 0, none⟩) := hd ⟨3, .data⟩ (by simp) rfl
      obtain ⟨ρ, hρ⟩ : ∃ ρ, a.eval = ρ := ⟨_, rfl⟩
      rw [hρ] at h3
      refine op_val ρ hρ (.pointer (some ⟨bx, 0, none⟩)) ?_ ⟨_, rfl, Old.refl _, rfl, (fun h => absurd h (by decide))⟩
      clear g hF hd hρ HK KA KX ha3 ha4 ha5 ha7 px_ab b_ab px_bb b_bb px_bx b_bx pc_bx_0 
      go_simp
      all_goals (first | (rw [IntKind.wrap_i64]; omega) | (rw [IntKind.wrap_u64]; omega) | omega)
    · intro a W g hF hd
      refine ⟨fun _ => ?_, fun h => by rw [wanted_none rfl] at h; cases h⟩
      have h4 : a.eval (.tmp 26) = .pointer (some ⟨bx, 0, none⟩) := hd ⟨4, .data⟩ (by simp) rfl
      have kk0 := pc_bx_0 W g
      obtain ⟨ρ, hρ⟩ : ∃ ρ, a.eval = ρ := ⟨_, rfl⟩
      rw [hρ] at h4
      refine op_val ρ hρ (.int .i64 N) ?_ ⟨_, rfl, Old.refl _, rfl, (fun h => absurd h (by decide))⟩
      clear g hF hd hρ HK KA KX ha3 ha4 ha5 ha7 px_ab b_ab px_bb b_bb px_bx b_bx pc_bx_0 
      go_simp
      all_goals (first | (rw [IntKind.wrap_i64]; omega) | (rw [IntKind.wrap_u64]; omega) | omega)
    · intro a W g hF hd
      refine ⟨fun _ => ?_, fun h => by rw [wanted_none rfl] at h; cases h⟩
      have e7 := (hF.same 7 slotP2_no7).trans ha7
      refine op_move ?_
      exact ⟨_, rfl, Old.refl _, e7, (fun h => absurd h (by decide))⟩
    · intro a W g hF hd
      refine ⟨fun _ => ?_, fun h => by rw [wanted_none rfl] at h; cases h⟩
      have h5 : a.eval (.tmp 27) = .int .i64 N := hd ⟨5, .data⟩ (by simp) rfl
      have h6 : a.eval (.tmp 28) = .int .i64 o := hd ⟨6, .data⟩ (by simp) rfl
      obtain ⟨ρ, hρ⟩ : ∃ ρ, a.eval = ρ := ⟨_, rfl⟩
      rw [hρ] at h5 h6
      refine op_val ρ hρ (.int .i64 (N * o)) ?_ ⟨_, rfl, Old.refl _, rfl, (fun h => absurd h (by decide))⟩
      clear g hF hd hρ HK KA KX ha3 ha4 ha5 ha7 px_ab b_ab px_bb b_bb px_bx b_bx pc_bx_0 
      go_simp
      all_goals (first | (rw [IntKind.wrap_i64]; omega) | (rw [IntKind.wrap_u64]; omega) | omega)
    · intro a W g hF hd
      refine ⟨fun _ => ?_, fun h => by rw [wanted_none rfl] at h; cases h⟩
      have h2 : a.eval (.tmp 24) = .agg SS := hd ⟨2, .data⟩ (by simp) rfl
      have h7 : a.eval (.tmp 29) = .int .i64 (N * o) := hd ⟨7, .data⟩ (by simp) rfl
      have c2 : a.eval (.const (.int .i64 0)) = .int .i64 0 := rfl
      refine op_call_ret (R := fun v w' => v = .agg SE ∧ Old W w') Tryz.call58 (vs := #[.agg SS, .int .i64 (N * o), .int .i64 0]) (by simp [h2, h7, c2]) ((KX W g).mono fun e w' h => ⟨_, h.1, rfl, h.2⟩) ?_
      rintro x w' ⟨rfl, g'⟩
      exact ⟨_, rfl, g', rfl, (fun h => absurd h (by decide))⟩
    · intro a W g hF hd
      refine ⟨fun _ => ?_, fun h => by rw [wanted_none rfl] at h; cases h⟩
      refine op_alloc hz_impl_size ?_
      exact ⟨_, rfl, (Old.refl _).alloc _, ⟨W.heap.size, z_impl_size.cells, rfl, g.size, by simp, heap_newA W _, hzs_impl_size⟩, (fun _ => rfl)⟩
  · intro a W g hF hq hne
    obtain ⟨g9, cs9, hp9, hb9, hl9, hc9, hz9⟩ := hq 9 (by decide)
    have hput := fram_put (show Fram 10 slotP2 b0 a from hF) (fun i j hi hj => slotP2_inj i hi j hj)
    have hO : Old w0 (W.setRow g9 SE) := (old_setRow g (by omega) _)
    have hk := HK.out (fun i => a.eval (.tmp (slotP2 i))) (W.setRow g9 SE) g9 hO hp9 hb9 (heap_setRow_same hc9) 
    rw [← hput] at hk
    refine op_store (k := g9) hp9 (show a.eval (.tmp 30) = .agg SE from hq 8 (by decide)) hc9 (by rw [hZ_SE.1]; exact infoSz) (by rw [hZ_SE.1]; exact hz9) hZ_SE.2 ?_
    show tailWp _ _ _ _ _
    exact hk
def slotP3 (i : Nat) : Nat := [32, 33, 34, 35, 36, 37, 38, 39, 40, 41, 42, 31, 43, 44, 9, 10].getD i 0
theorem slotP3_lt : ∀ i, i < 16 → slotP3 i < 70 := by decide
theorem slotP3_inj : ∀ i, i < 16 → ∀ j, j < 16 → slotP3 i = slotP3 j → i = j := by decide
theorem slotP3_no3 : ∀ i, i < 16 → slotP3 i ≠ 3 := by decide
theorem slotP3_no4 : ∀ i, i < 16 → slotP3 i ≠ 4 := by decide
theorem slotP3_no5 : ∀ i, i < 16 → slotP3 i ≠ 5 := by decide
def qP3 (N T E : Int) (a3 : Option Addr) (l3 c3 : Nat) (a4 : Option Addr) (l4 c4 : Nat) (a6 : Option Addr) (l6 c6 bx : Nat) (ab bb : Nat) (SA SB SM SN SQ SD SZ : Array Value)  (base : Nat) (i : Nat) (W : World) (x : Value) : Prop :=
  match i with
  | 0 => x = .agg SA
  | 1 => x = .agg SB
  | 2 => x = .agg SM
  | 3 => x = .pointer (some ⟨bx, 0, none⟩)
  | 4 => x = .pointer (some ⟨bx, 0, none⟩)
  | 5 => x = .int .i64 N
  | 6 => x = .agg SN
  | 7 => x = .pointer (some ⟨bx, 5, none⟩)
  | 8 => x = .agg #[.bool false, .slice a6 l6 c6]
  | 9 => x = .agg SQ
  | 10 => x = .tuple #[.agg SD, .agg SZ]
  | 11 => x = .tuple #[.agg SD, .agg SZ]
  | 12 => x = .agg SD
  | 13 => x = .agg SZ
  | 14 => ∃ (g : Nat) (cs : Array Value), x = .pointer (some ⟨g, 0, none⟩) ∧ base ≤ g ∧ g < W.heap.size ∧ W.heap[g]? = some (.cells cs 49 (0, 0)) ∧ cs.size = 81
  | 15 => ∃ (g : Nat) (cs : Array Value), x = .pointer (some ⟨g, 0, none⟩) ∧ base ≤ g ∧ g < W.heap.size ∧ W.heap[g]? = some (.cells cs 49 (0, 0)) ∧ cs.size = 81
  | _ => True
theorem qP3_old (N T E : Int) (a3 : Option Addr) (l3 c3 : Nat) (a4 : Option Addr) (l4 c4 : Nat) (a6 : Option Addr) (l6 c6 bx : Nat) (ab bb : Nat) (SA SB SM SN SQ SD SZ : Array Value)  (base : Nat)  (i : Nat) (W W' : World) (x : Value) (h : qP3 N T E a3 l3 c3 a4 l4 c4 a6 l6 c6 bx ab bb SA SB SM SN SQ SD SZ  base i W x) (qo : Old W W') : qP3 N T E a3 l3 c3 a4 l4 c4 a6 l6 c6 bx ab bb SA SB SM SN SQ SD SZ  base i W' x := by
  unfold qP3 at h ⊢
  split at h
  case h_15 =>
    obtain ⟨g, cs, e, h1, h2, h3, h4⟩ := h
    exact ⟨g, cs, e, h1, Nat.lt_of_lt_of_le h2 qo.size, (qo.block g h2).trans h3, h4⟩
  case h_16 =>
    obtain ⟨g, cs, e, h1, h2, h3, h4⟩ := h
    exact ⟨g, cs, e, h1, Nat.lt_of_lt_of_le h2 qo.size, (qo.block g h2).trans h3, h4⟩
  all_goals first | exact h | trivial
def eP3 (k : Nat) : List Nat := match k with | 0 => [0, 1, 2, 3, 4, 5, 6, 7, 8, 9, 10, 11, 12, 14, 15] | _ => []
theorem qP3_box (N T E : Int) (a3 : Option Addr) (l3 c3 : Nat) (a4 : Option Addr) (l4 c4 : Nat) (a6 : Option Addr) (l6 c6 bx : Nat) (ab bb : Nat) (SA SB SM SN SQ SD SZ : Array Value) (base : Nat) (i : Nat) (W W' : World) (x : Value) (h : qP3 N T E a3 l3 c3 a4 l4 c4 a6 l6 c6 bx ab bb SA SB SM SN SQ SD SZ base i W x) (qo : boxS base W W') : qP3 N T E a3 l3 c3 a4 l4 c4 a6 l6 c6 bx ab bb SA SB SM SN SQ SD SZ base i W' x := by
  unfold qP3 at h ⊢
  split at h
  case h_15 =>
    obtain ⟨g, cs, e, h1, h2, h3, h4⟩ := h
    obtain ⟨g', cs', A, b', h', sA, rfl⟩ := qo
    by_cases hg : g = g'
    · subst hg
      exact ⟨g, A, e, h1, by rw [size_setRow]; exact h2, heap_setRow_same h', sA⟩
    · exact ⟨g, cs, e, h1, by rw [size_setRow]; exact h2, (heap_setRow_other _ _ _ _ hg).trans h3, h4⟩
  case h_16 =>
    obtain ⟨g, cs, e, h1, h2, h3, h4⟩ := h
    obtain ⟨g', cs', A, b', h', sA, rfl⟩ := qo
    by_cases hg : g = g'
    · subst hg
      exact ⟨g, A, e, h1, by rw [size_setRow]; exact h2, heap_setRow_same h', sA⟩
    · exact ⟨g, cs, e, h1, by rw [size_setRow]; exact h2, (heap_setRow_other _ _ _ _ hg).trans h3, h4⟩
  all_goals first | exact h | trivial
def tP3 (S1 : Array Value) (base : Nat) (k : Nat) (W : World) (vs : Nat → Value) : Prop := match k with | 0 => True | 1 => ∃ g g' : Nat, vs 14 = .pointer (some ⟨g, 0, none⟩) ∧ vs 15 = .pointer (some ⟨g', 0, none⟩) ∧ g ≠ g' ∧ base ≤ g ∧ base ≤ g' ∧ g < W.heap.size ∧ W.heap[g]? = some (.cells S1 49 (0, 0)) | _ => True
theorem tP3_oldA (S1 : Array Value) (base k : Nat) (W W' : World) (vs vs' : Nat → Value) (h : tP3 S1 base (k + 1) W vs) (q : Old W W') (he : ∀ i ∈ eP3 k, vs' i = vs i) : tP3 S1 base (k + 1) W' vs' := by
  cases k with
  | zero =>
    obtain ⟨g, g', h1, h2, h3, h4, h5, h6, h7⟩ := h
    exact ⟨g, g', (he 14 (by decide)).trans h1, (he 15 (by decide)).trans h2, h3, h4, h5, Nat.lt_of_lt_of_le h6 q.size, (q.block g h6).trans h7⟩
  | succ k => exact trivial
set_option maxRecDepth 100000 in
set_option maxHeartbeats 8000000 in
theorem reg_P3 (w0 : World) (N T E : Int) (a3 : Option Addr) (l3 c3 : Nat) (a4 : Option Addr) (l4 c4 : Nat) (a6 : Option Addr) (l6 c6 bx : Nat) (ab bb : Nat) (SA SB SM SN SQ SD SZ : Array Value)     (b_ab : w0.heap[ab]? = some (.cells SA 49 (0, 0))) (hS_ab : SA.size = 81) (b_bb : w0.heap[bb]? = some (.cells SB 49 (0, 0))) (hS_bb : SB.size = 81) (b_bx : w0.heap[bx]? = some (.cells #[.int .i64 N, .int .i64 T, .int .i64 E, .slice a3 l3 c3, .slice a4 l4 c4, .bool false, .slice a6 l6 c6] 44 (0, 0))) (hZ_SD : (SD).size = 81 ∧ (SD).all (·.oneCell') = true) (hZ_SZ : (SZ).size = 81 ∧ (SZ).all (·.oneCell') = true)
    
    (KM : ∀ W, Old w0 W → Calls Tryz.prog 65 #[.agg SA, .agg SB] W fun e w' => e = .returned (.agg SM) ∧ Old W w')
    (KX : ∀ W, Old w0 W → Calls Tryz.prog 58 #[.agg SM, .int .i64 N, .int .i64 0] W fun e w' => e = .returned (.agg SN) ∧ Old W w')
    (KZ : ∀ W, Old w0 W → Calls Tryz.prog 36 #[.agg #[.bool false, .slice a6 l6 c6]] W fun e w' => e = .returned (.agg SQ) ∧ Old W w')
    (KD : ∀ W, Old w0 W → Calls Tryz.prog 64 #[.agg SN, .agg SQ] W fun e w' => e = .returned (.tuple #[.agg SD, .agg SZ]) ∧ Old W w')
    (Q : Exit → Act → World → Prop) (b0 : Act) (hsz : b0.tmps.size = 70) (ha3 : b0.eval (.tmp 3) = .pointer (some ⟨bx, 0, none⟩)) (ha4 : b0.eval (.tmp 4) = .pointer (some ⟨ab, 0, none⟩)) (ha5 : b0.eval (.tmp 5) = .pointer (some ⟨bb, 0, none⟩))
    (HK : Hid (∀ (us : Nat → Value) (W : World) (g14 g15 : Nat), Old w0 W → us 14 = .pointer (some ⟨g14, 0, none⟩) → w0.heap.size ≤ g14 → us 15 = .pointer (some ⟨g15, 0, none⟩) → w0.heap.size ≤ g15 → W.heap[g14]? = some (.cells SD 49 (0, 0)) → W.heap[g15]? = some (.cells SZ 49 (0, 0)) → Q .normal (putAll b0 ((List.range 16).map fun i => (slotP3 i, us i))) W)) :
    Code.wp Tryz.prog ((Tryz.f44.body.bind (regionAtmul 3)).getD .skip) Q b0 w0 := by
  conv => arg 2; whnf
  have px_ab : ∀ W, Old w0 W → W.heap[ab]? = some (.cells SA 49 (0, 0)) := fun W g => (g.block ab (lt_of_some b_ab)).trans b_ab
  have px_bb : ∀ W, Old w0 W → W.heap[bb]? = some (.cells SB 49 (0, 0)) := fun W g => (g.block bb (lt_of_some b_bb)).trans b_bb
  have px_bx : ∀ W, Old w0 W → W.heap[bx]? = some (.cells #[.int .i64 N, .int .i64 T, .int .i64 E, .slice a3 l3 c3, .slice a4 l4 c4, .bool false, .slice a6 l6 c6] 44 (0, 0)) := fun W g => (g.block bx (lt_of_some b_bx)).trans b_bx
  have pc_bx_0 : ∀ W, Old w0 W → W.cell? ⟨bx, 0, none⟩ = some (.int .i64 N) := fun W g => cell_of_row W bx 0 _ _ (0, 0) (px_bx W g)
  have pc_bx_5 : ∀ W, Old w0 W → W.cell? ⟨bx, 5, none⟩ = some (.bool false) := fun W g => cell_of_row W bx 5 _ _ (0, 0) (px_bx W g)
  have pc_bx_6 : ∀ W, Old w0 W → W.cell? ⟨bx, 6, none⟩ = some (.slice a6 l6 c6) := fun W g => cell_of_row W bx 6 _ _ (0, 0) (px_bx W g)
  obtain ⟨z_impl_size, hz_impl_size, hzs_impl_size⟩ : ∃ z, (Tryz.prog.info? 49).bind (·.zero) = some z ∧ z.cells.size = 81 := ⟨_, rfl, by kernel_rfl⟩
  refine wp_region_boxes 16 1 rfl rfl (by kernel_rfl) (by kernel_rfl) (by kernel_rfl) (by kernel_rfl) (by kernel_rfl) eP3 (by kernel_rfl) slotP3 (fun i hi => by rw [hsz]; exact slotP3_lt i hi) (fun i j hi hj => slotP3_inj i hi j hj) (qP3 N T E a3 l3 c3 a4 l4 c4 a6 l6 c6 bx ab bb SA SB SM SN SQ SD SZ w0.heap.size ) (boxS w0.heap.size) (qP3_old N T E a3 l3 c3 a4 l4 c4 a6 l6 c6 bx ab bb SA SB SM SN SQ SD SZ w0.heap.size ) (qP3_box N T E a3 l3 c3 a4 l4 c4 a6 l6 c6 bx ab bb SA SB SM SN SQ SD SZ w0.heap.size ) [14, 15] (fun i W v hi hq => ?_) (fun k => tP3 (SD) w0.heap.size k) (fun _ _ => trivial) (fun k W W' vs vs' h q he => ?_) ?_ ?_ ?_
  · have hi2 : i = 14 ∨ i = 15 := by simpa using hi
    rcases hi2 with rfl | rfl
    all_goals (obtain ⟨g, cs, e, _, h2, _⟩ := hq; exact ⟨g, e, h2⟩)
  · exact tP3_oldA (SD) w0.heap.size k W W' vs vs' h q he
  · refine ⟨?_, ?_, ?_, ?_, ?_, ?_, ?_, ?_, ?_, ?_, ?_, ?_, ?_, ?_, ?_, ?_, trivial⟩
    · intro a W g hF hd
      have e4 := (hF.same 4 slotP3_no4).trans ha4
      refine op_load (k := ab) e4 (px_ab W g) Tryz.underlying49 rfl (by rw [hS_ab]; exact infoSz) ?_
      exact ⟨_, rfl, Old.refl _, rfl, (fun h => absurd h (by decide))⟩
    · intro a W g hF hd
      have e5 := (hF.same 5 slotP3_no5).trans ha5
      refine op_load (k := bb) e5 (px_bb W g) Tryz.underlying49 rfl (by rw [hS_bb]; exact infoSz) ?_
      exact ⟨_, rfl, Old.refl _, rfl, (fun h => absurd h (by decide))⟩
    · intro a W g hF hd
      have h0 : a.eval (.tmp 32) = .agg SA := hd ⟨0, .data⟩ (by simp) rfl
      have h1 : a.eval (.tmp 33) = .agg SB := hd ⟨1, .data⟩ (by simp) rfl
      refine op_call_ret (R := fun v w' => v = .agg SM ∧ Old W w') Tryz.call65 (vs := #[.agg SA, .agg SB]) (by simp [h0, h1]) ((KM W g).mono fun e w' h => ⟨_, h.1, rfl, h.2⟩) ?_
      rintro x w' ⟨rfl, g'⟩
      exact ⟨_, rfl, g', rfl, (fun h => absurd h (by decide))⟩
    · intro a W g hF hd
      have e3 := (hF.same 3 slotP3_no3).trans ha3
      obtain ⟨ρ, hρ⟩ : ∃ ρ, a.eval = ρ := ⟨_, rfl⟩
      rw [hρ] at e3
      refine op_val ρ hρ (.pointer (some ⟨bx, 0, none⟩)) ?_ ⟨_, rfl, Old.refl _, rfl, (fun h => absurd h (by decide))⟩
      clear g hF hd hρ HK KM KX KZ KD ha3 ha4 ha5 px_ab b_ab px_bb b_bb px_bx b_bx pc_bx_0 pc_bx_5 pc_bx_6 
      go_simp
      all_goals (first | (rw [IntKind.wrap_i64]; omega) | (rw [IntKind.wrap_u64]; omega) | omega)
    · intro a W g hF hd
      have h3 : a.eval (.tmp 35) = .pointer (some ⟨bx, 0, none⟩) := hd ⟨3, .data⟩ (by simp) rfl
      obtain ⟨ρ, hρ⟩ : ∃ ρ, a.eval = ρ := ⟨_, rfl⟩
      rw [hρ] at h3
      refine op_val ρ hρ (.pointer (some ⟨bx, 0, none⟩)) ?_ ⟨_, rfl, Old.refl _, rfl, (fun h => absurd h (by decide))⟩
      clear g hF hd hρ HK KM KX KZ KD ha3 ha4 ha5 px_ab b_ab px_bb b_bb px_bx b_bx pc_bx_0 pc_bx_5 pc_bx_6 
      go_simp
      all_goals (first | (rw [IntKind.wrap_i64]; omega) | (rw [IntKind.wrap_u64]; omega) | omega)
    · intro a W g hF hd
      have h4 : a.eval (.tmp 36) = .pointer (some ⟨bx, 0, none⟩) := hd ⟨4, .data⟩ (by simp) rfl
      have kk0 := pc_bx_0 W g
      obtain ⟨ρ, hρ⟩ : ∃ ρ, a.eval = ρ := ⟨_, rfl⟩
      rw [hρ] at h4
      refine op_val ρ hρ (.int .i64 N) ?_ ⟨_, rfl, Old.refl _, rfl, (fun h => absurd h (by decide))⟩
      clear g hF hd hρ HK KM KX KZ KD ha3 ha4 ha5 px_ab b_ab px_bb b_bb px_bx b_bx pc_bx_0 pc_bx_5 pc_bx_6 
      go_simp
      all_goals (first | (rw [IntKind.wrap_i64]; omega) | (rw [IntKind.wrap_u64]; omega) | omega)
    · intro a W g hF hd
      have h2 : a.eval (.tmp 34) = .agg SM := hd ⟨2, .data⟩ (by simp) rfl
      have h5 : a.eval (.tmp 37) = .int .i64 N := hd ⟨5, .data⟩ (by simp) rfl
      have c2 : a.eval (.const (.int .i64 0)) = .int .i64 0 := rfl
      refine op_call_ret (R := fun v w' => v = .agg SN ∧ Old W w') Tryz.call58 (vs := #[.agg SM, .int .i64 N, .int .i64 0]) (by simp [h2, h5, c2]) ((KX W g).mono fun e w' h => ⟨_, h.1, rfl, h.2⟩) ?_
      rintro x w' ⟨rfl, g'⟩
      exact ⟨_, rfl, g', rfl, (fun h => absurd h (by decide))⟩
    · intro a W g hF hd
      have e3 := (hF.same 3 slotP3_no3).trans ha3
      obtain ⟨ρ, hρ⟩ : ∃ ρ, a.eval = ρ := ⟨_, rfl⟩
      rw [hρ] at e3
      refine op_val ρ hρ (.pointer (some ⟨bx, 5, none⟩)) ?_ ⟨_, rfl, Old.refl _, rfl, (fun h => absurd h (by decide))⟩
      clear g hF hd hρ HK KM KX KZ KD ha3 ha4 ha5 px_ab b_ab px_bb b_bb px_bx b_bx pc_bx_0 pc_bx_5 pc_bx_6 
      go_simp
      all_goals (first | (rw [IntKind.wrap_i64]; omega) | (rw [IntKind.wrap_u64]; omega) | omega)
    · intro a W g hF hd
      have h7 : a.eval (.tmp 39) = .pointer (some ⟨bx, 5, none⟩) := hd ⟨7, .data⟩ (by simp) rfl
      have kk0 := pc_bx_5 W g
      have kk1 := pc_bx_6 W g
      obtain ⟨ρ, hρ⟩ : ∃ ρ, a.eval = ρ := ⟨_, rfl⟩
      rw [hρ] at h7
      refine op_val ρ hρ (.agg #[.bool false, .slice a6 l6 c6]) ?_ ⟨_, rfl, Old.refl _, rfl, (fun h => absurd h (by decide))⟩
      clear g hF hd hρ HK KM KX KZ KD ha3 ha4 ha5 px_ab b_ab px_bb b_bb px_bx b_bx pc_bx_0 pc_bx_5 pc_bx_6 
      go_simp
      all_goals (first | (rw [IntKind.wrap_i64]; omega) | (rw [IntKind.wrap_u64]; omega) | omega)
    · intro a W g hF hd
      have h8 : a.eval (.tmp 40) = .agg #[.bool false, .slice a6 l6 c6] := hd ⟨8, .data⟩ (by simp) rfl
      refine op_call_ret (R := fun v w' => v = .agg SQ ∧ Old W w') Tryz.call36 (vs := #[.agg #[.bool false, .slice a6 l6 c6]]) (by simp [h8]) ((KZ W g).mono fun e w' h => ⟨_, h.1, rfl, h.2⟩) ?_
      rintro x w' ⟨rfl, g'⟩
      exact ⟨_, rfl, g', rfl, (fun h => absurd h (by decide))⟩
    · intro a W g hF hd
      have h6 : a.eval (.tmp 38) = .agg SN := hd ⟨6, .data⟩ (by simp) rfl
      have h9 : a.eval (.tmp 41) = .agg SQ := hd ⟨9, .data⟩ (by simp) rfl
      refine op_call_ret (R := fun v w' => v = .tuple #[.agg SD, .agg SZ] ∧ Old W w') Tryz.call64 (vs := #[.agg SN, .agg SQ]) (by simp [h6, h9]) ((KD W g).mono fun e w' h => ⟨_, h.1, rfl, h.2⟩) ?_
      rintro x w' ⟨rfl, g'⟩
      exact ⟨_, rfl, g', rfl, (fun h => absurd h (by decide))⟩
    · intro a W g hF hd
      refine op_move ?_
      exact ⟨_, rfl, Old.refl _, hd ⟨10, .data⟩ (by simp) rfl, (fun h => absurd h (by decide))⟩
    · intro a W g hF hd
      have h11 : a.eval (.tmp 31) = .tuple #[.agg SD, .agg SZ] := hd ⟨11, .data⟩ (by simp) rfl
      exact op_extract h11 rfl ⟨_, rfl, Old.refl _, rfl, (fun h => absurd h (by decide))⟩
    · intro a W g hF hd
      have h11 : a.eval (.tmp 31) = .tuple #[.agg SD, .agg SZ] := hd ⟨11, .data⟩ (by simp) rfl
      exact op_extract h11 rfl ⟨_, rfl, Old.refl _, rfl, (fun h => absurd h (by decide))⟩
    · intro a W g hF hd
      refine op_alloc hz_impl_size ?_
      exact ⟨_, rfl, (Old.refl _).alloc _, ⟨W.heap.size, z_impl_size.cells, rfl, g.size, by simp, heap_newA W _, hzs_impl_size⟩, (fun _ => rfl)⟩
    · intro a W g hF hd
      refine op_alloc hz_impl_size ?_
      exact ⟨_, rfl, (Old.refl _).alloc _, ⟨W.heap.size, z_impl_size.cells, rfl, g.size, by simp, heap_newA W _, hzs_impl_size⟩, (fun _ => rfl)⟩
  · refine ⟨?_, trivial⟩
    intro a W g hF _ hq hne
    obtain ⟨g1, cs1, hp1, hb1, hl1, hc1, hz1⟩ := hq 14 (by decide)
    obtain ⟨g2, cs2, hp2, hb2, hl2, hc2, hz2⟩ := hq 15 (by decide)
    have ne12 : g1 ≠ g2 := fun e => hne 14 (by decide) 15 (by decide) (by decide) (by decide) (by decide) (by rw [hp1, hp2, e])
    refine op_store (k := g1) hp1 (show a.eval (.tmp 43) = .agg (SD) from hq 12 (by decide)) hc1 (by rw [hZ_SD.1]; exact infoSz) (by rw [hZ_SD.1]; exact hz1) hZ_SD.2 ?_
    exact ⟨rfl, old_setRow g hb1 _, ⟨g1, cs1, _, hb1, hc1, hZ_SD.1, rfl⟩, ⟨g1, g2, hp1, hp2, ne12, hb1, hb2, by rw [size_setRow]; exact hl1, heap_setRow_same hc1⟩⟩
  · intro a W g hF hq ht
    obtain ⟨g1, g2, hp1, hp2, ne12, hb1, hb2, hl1, hc1⟩ := ht
    obtain ⟨g2', cs2, hp2', _, hl2, hc2, hz2⟩ := hq 15 (by decide)
    obtain rfl : g2' = g2 := by
      have := hp2'.symm.trans hp2
      simpa using this
    have hput := fram_put (show Fram 16 slotP3 b0 a from hF) (fun i j hi hj => slotP3_inj i hi j hj)
    have hk := HK.out (fun i => a.eval (.tmp (slotP3 i))) (W.setRow g2' (SZ)) g1 g2' (old_setRow g hb2 _) hp1 hb1 hp2 hb2 ((heap_setRow_other _ _ _ _ ne12).trans hc1) (heap_setRow_same hc2)
    rw [← hput] at hk
    refine op_store (k := g2') hp2' (show a.eval (.tmp 44) = .agg (SZ) from hq 13 (by decide)) hc2 (by rw [hZ_SZ.1]; exact infoSz) (by rw [hZ_SZ.1]; exact hz2) hZ_SZ.2 ?_
    exact hk
def slotP5 (i : Nat) : Nat := [63, 64, 65, 66, 67, 68, 69].getD i 0
theorem slotP5_lt : ∀ i, i < 7 → slotP5 i < 70 := by decide
theorem slotP5_inj : ∀ i, i < 7 → ∀ j, j < 7 → slotP5 i = slotP5 j → i = j := by decide
theorem slotP5_no3 : ∀ i, i < 7 → slotP5 i ≠ 3 := by decide
theorem slotP5_no6 : ∀ i, i < 7 → slotP5 i ≠ 6 := by decide
theorem slotP5_no8 : ∀ i, i < 7 → slotP5 i ≠ 8 := by decide
theorem slotP5_no9 : ∀ i, i < 7 → slotP5 i ≠ 9 := by decide
theorem slotP5_no11 : ∀ i, i < 7 → slotP5 i ≠ 11 := by decide
def qP5 (N T E : Int) (a3 : Option Addr) (l3 c3 : Nat) (a4 : Option Addr) (l4 c4 : Nat) (a6 : Option Addr) (l6 c6 bx : Nat) (eb db rb : Nat) (SE SD SS SR Z : Array Value) (q : Int)  (i : Nat) (W : World) (x : Value) : Prop :=
  match i with
  | 0 => x = .agg #[.int .i64 N, .int .i64 T, .int .i64 E, .slice a3 l3 c3, .slice a4 l4 c4, .bool false, .slice a6 l6 c6]
  | 1 => x = .agg SE
  | 2 => x = .agg SD
  | 3 => x = .agg SS
  | 4 => x = .int .i64 q
  | 5 => x = .int .i64 (1 + q)
  | 6 => x = .agg SR
  | _ => True
theorem qP5_old (N T E : Int) (a3 : Option Addr) (l3 c3 : Nat) (a4 : Option Addr) (l4 c4 : Nat) (a6 : Option Addr) (l6 c6 bx : Nat) (eb db rb : Nat) (SE SD SS SR Z : Array Value) (q : Int)   (i : Nat) (W W' : World) (x : Value) (h : qP5 N T E a3 l3 c3 a4 l4 c4 a6 l6 c6 bx eb db rb SE SD SS SR Z q  i W x) (qo : Old W W') : qP5 N T E a3 l3 c3 a4 l4 c4 a6 l6 c6 bx eb db rb SE SD SS SR Z q  i W' x := by
  unfold qP5 at h ⊢
  split at h
  all_goals first | exact h | trivial
set_option maxRecDepth 100000 in
set_option maxHeartbeats 8000000 in
theorem reg_P5 (w0 : World) (N T E : Int) (a3 : Option Addr) (l3 c3 : Nat) (a4 : Option Addr) (l4 c4 : Nat) (a6 : Option Addr) (l6 c6 bx : Nat) (eb db rb : Nat) (SE SD SS SR Z : Array Value) (q : Int)     (b_bx : w0.heap[bx]? = some (.cells #[.int .i64 N, .int .i64 T, .int .i64 E, .slice a3 l3 c3, .slice a4 l4 c4, .bool false, .slice a6 l6 c6] 44 (0, 0))) (b_db : w0.heap[db]? = some (.cells SD 49 (0, 0))) (hS_db : SD.size = 81) (b_eb : w0.heap[eb]? = some (.cells SE 49 (0, 0))) (hS_eb : SE.size = 81) (b_rb : w0.heap[rb]? = some (.cells Z 49 (0, 0))) (hS_rb : Z.size = 81) (hZ_SR : (SR).size = 81 ∧ (SR).all (·.oneCell') = true)
    (hq : 0 ≤ q ∧ q ≤ 4611686018427387904)
    (KA : ∀ W, Old w0 W → Calls Tryz.prog 63 #[.agg SE, .agg SD] W fun e w' => e = .returned (.agg SS) ∧ Old W w')
    (KR : ∀ W, Old w0 W → Calls Tryz.prog 61 #[.agg #[.int .i64 N, .int .i64 T, .int .i64 E, .slice a3 l3 c3, .slice a4 l4 c4, .bool false, .slice a6 l6 c6], .agg SS, .int .i64 (1 + q)] W fun e w' => e = .returned (.agg SR) ∧ Old W w')
    (Q : Exit → Act → World → Prop) (b0 : Act) (hsz : b0.tmps.size = 70) (ha3 : b0.eval (.tmp 3) = .pointer (some ⟨bx, 0, none⟩)) (ha6 : b0.eval (.tmp 6) = .pointer (some ⟨rb, 0, none⟩)) (ha8 : b0.eval (.tmp 8) = .pointer (some ⟨eb, 0, none⟩)) (ha9 : b0.eval (.tmp 9) = .pointer (some ⟨db, 0, none⟩)) (ha11 : b0.eval (.tmp 11) = .int .i64 q)
    (HK : Hid (∀ (us : Nat → Value) (W : World) , Old w0 W → Q .normal (putAll b0 ((List.range 7).map fun i => (slotP5 i, us i))) (W.setRow rb SR))) :
    Code.wp Tryz.prog ((Tryz.f44.body.bind (regionAtmul 5)).getD .skip) Q b0 w0 := by
  conv => arg 2; whnf
  have px_bx : ∀ W, Old w0 W → W.heap[bx]? = some (.cells #[.int .i64 N, .int .i64 T, .int .i64 E, .slice a3 l3 c3, .slice a4 l4 c4, .bool false, .slice a6 l6 c6] 44 (0, 0)) := fun W g => (g.block bx (lt_of_some b_bx)).trans b_bx
  have px_db : ∀ W, Old w0 W → W.heap[db]? = some (.cells SD 49 (0, 0)) := fun W g => (g.block db (lt_of_some b_db)).trans b_db
  have px_eb : ∀ W, Old w0 W → W.heap[eb]? = some (.cells SE 49 (0, 0)) := fun W g => (g.block eb (lt_of_some b_eb)).trans b_eb
  have px_rb : ∀ W, Old w0 W → W.heap[rb]? = some (.cells Z 49 (0, 0)) := fun W g => (g.block rb (lt_of_some b_rb)).trans b_rb
  refine wp_region_tailG 7 (by decide) (by kernel_rfl) (by kernel_rfl) (by kernel_rfl) (by kernel_rfl) (by kernel_rfl) slotP5 (fun i hi => by rw [hsz]; exact slotP5_lt i hi) (fun i j hi hj => slotP5_inj i hi j hj) (qP5 N T E a3 l3 c3 a4 l4 c4 a6 l6 c6 bx eb db rb SE SD SS SR Z q  ) (qP5_old N T E a3 l3 c3 a4 l4 c4 a6 l6 c6 bx eb db rb SE SD SS SR Z q  ) [] (fun i W v hi hq => by cases hi) ?_ ?_
  · refine ⟨?_, ?_, ?_, ?_, ?_, ?_, ?_, trivial⟩
    · intro a W g hF hd
      refine ⟨fun _ => ?_, fun h => by rw [wanted_none rfl] at h; cases h⟩
      have e3 := (hF.same 3 slotP5_no3).trans ha3
      refine op_load (k := bx) e3 (px_bx W g) Tryz.underlying44 rfl (by kernel_rfl) ?_
      exact ⟨_, rfl, Old.refl _, rfl, (fun h => absurd h (by decide))⟩
    · intro a W g hF hd
      refine ⟨fun _ => ?_, fun h => by rw [wanted_none rfl] at h; cases h⟩
      have e8 := (hF.same 8 slotP5_no8).trans ha8
      refine op_load (k := eb) e8 (px_eb W g) Tryz.underlying49 rfl (by rw [hS_eb]; exact infoSz) ?_
      exact ⟨_, rfl, Old.refl _, rfl, (fun h => absurd h (by decide))⟩
    · intro a W g hF hd
      refine ⟨fun _ => ?_, fun h => by rw [wanted_none rfl] at h; cases h⟩
      have e9 := (hF.same 9 slotP5_no9).trans ha9
      refine op_load (k := db) e9 (px_db W g) Tryz.underlying49 rfl (by rw [hS_db]; exact infoSz) ?_
      exact ⟨_, rfl, Old.refl _, rfl, (fun h => absurd h (by decide))⟩
    · intro a W g hF hd
      refine ⟨fun _ => ?_, fun h => by rw [wanted_none rfl] at h; cases h⟩
      have h1 : a.eval (.tmp 64) = .agg SE := hd ⟨1, .data⟩ (by simp) rfl
      have h2 : a.eval (.tmp 65) = .agg SD := hd ⟨2, .data⟩ (by simp) rfl
      refine op_call_ret (R := fun v w' => v = .agg SS ∧ Old W w') Tryz.call63 (vs := #[.agg SE, .agg SD]) (by simp [h1, h2]) ((KA W g).mono fun e w' h => ⟨_, h.1, rfl, h.2⟩) ?_
      rintro x w' ⟨rfl, g'⟩
      exact ⟨_, rfl, g', rfl, (fun h => absurd h (by decide))⟩
    · intro a W g hF hd
      refine ⟨fun _ => ?_, fun h => by rw [wanted_none rfl] at h; cases h⟩
      have e11 := (hF.same 11 slotP5_no11).trans ha11
      refine op_move ?_
      exact ⟨_, rfl, Old.refl _, e11, (fun h => absurd h (by decide))⟩
    · intro a W g hF hd
      refine ⟨fun _ => ?_, fun h => by rw [wanted_none rfl] at h; cases h⟩
      have c0 : a.eval (.const (.int .i64 1)) = .int .i64 1 := rfl
      have h4 : a.eval (.tmp 67) = .int .i64 q := hd ⟨4, .data⟩ (by simp) rfl
      obtain ⟨ρ, hρ⟩ : ∃ ρ, a.eval = ρ := ⟨_, rfl⟩
      rw [hρ] at c0 h4
      refine op_val ρ hρ (.int .i64 (1 + q)) ?_ ⟨_, rfl, Old.refl _, rfl, (fun h => absurd h (by decide))⟩
      clear g hF hd hρ HK KA KR ha3 ha6 ha8 ha9 ha11 px_bx b_bx px_db b_db px_eb b_eb px_rb b_rb  
      go_simp
      all_goals (first | (rw [IntKind.wrap_i64]; omega) | (rw [IntKind.wrap_u64]; omega) | omega)
    · intro a W g hF hd
      refine ⟨fun _ => ?_, fun h => by rw [wanted_none rfl] at h; cases h⟩
      have h0 : a.eval (.tmp 63) = .agg #[.int .i64 N, .int .i64 T, .int .i64 E, .slice a3 l3 c3, .slice a4 l4 c4, .bool false, .slice a6 l6 c6] := hd ⟨0, .data⟩ (by simp) rfl
      have h3 : a.eval (.tmp 66) = .agg SS := hd ⟨3, .data⟩ (by simp) rfl
      have h5 : a.eval (.tmp 68) = .int .i64 (1 + q) := hd ⟨5, .data⟩ (by simp) rfl
      refine op_call_ret (R := fun v w' => v = .agg SR ∧ Old W w') Tryz.call61 (vs := #[.agg #[.int .i64 N, .int .i64 T, .int .i64 E, .slice a3 l3 c3, .slice a4 l4 c4, .bool false, .slice a6 l6 c6], .agg SS, .int .i64 (1 + q)]) (by simp [h0, h3, h5]) ((KR W g).mono fun e w' h => ⟨_, h.1, rfl, h.2⟩) ?_
      rintro x w' ⟨rfl, g'⟩
      exact ⟨_, rfl, g', rfl, (fun h => absurd h (by decide))⟩
  · intro a W g hF hq hne
    have hput := fram_put (show Fram 7 slotP5 b0 a from hF) (fun i j hi hj => slotP5_inj i hi j hj)
    have hk := HK.out (fun i => a.eval (.tmp (slotP5 i))) W g  
    rw [← hput] at hk
    refine op_store (k := rb) ((hF.same 6 slotP5_no6).trans ha6) (show a.eval (.tmp 69) = .agg SR from hq 6 (by decide)) (px_rb W g) (by rw [hZ_SR.1]; exact infoSz) (by rw [hZ_SR.1]; exact hS_rb) hZ_SR.2 ?_
    show tailWp _ _ _ _ _
    exact hk
def slotDb (i : Nat) : Nat := [9, 10, 11, 12, 13, 14].getD i 0
theorem slotDb_lt : ∀ i, i < 6 → slotDb i < 15 := by decide
theorem slotDb_inj : ∀ i, i < 6 → ∀ j, j < 6 → slotDb i = slotDb j → i = j := by decide
theorem slotDb_no1 : ∀ i, i < 6 → slotDb i ≠ 1 := by decide
theorem slotDb_no3 : ∀ i, i < 6 → slotDb i ≠ 3 := by decide
def qDb (N T E : Int) (a3 : Option Addr) (l3 c3 : Nat) (a4 : Option Addr) (l4 c4 : Nat) (a6 : Option Addr) (l6 c6 bx : Nat) (sb : Nat) (S0 SP SW : Array Value)  (i : Nat) (W : World) (x : Value) : Prop :=
  match i with
  | 0 => x = .agg #[.int .i64 N, .int .i64 T, .int .i64 E, .slice a3 l3 c3, .slice a4 l4 c4, .bool false, .slice a6 l6 c6]
  | 1 => x = .agg #[.int .i64 N, .int .i64 T, .int .i64 E, .slice a3 l3 c3, .slice a4 l4 c4, .bool false, .slice a6 l6 c6]
  | 2 => x = .agg S0
  | 3 => x = .agg S0
  | 4 => x = .agg SP
  | 5 => x = .agg SW
  | _ => True
theorem qDb_old (N T E : Int) (a3 : Option Addr) (l3 c3 : Nat) (a4 : Option Addr) (l4 c4 : Nat) (a6 : Option Addr) (l6 c6 bx : Nat) (sb : Nat) (S0 SP SW : Array Value)   (i : Nat) (W W' : World) (x : Value) (h : qDb N T E a3 l3 c3 a4 l4 c4 a6 l6 c6 bx sb S0 SP SW  i W x) (qo : Old W W') : qDb N T E a3 l3 c3 a4 l4 c4 a6 l6 c6 bx sb S0 SP SW  i W' x := by
  unfold qDb at h ⊢
  split at h
  all_goals first | exact h | trivial
set_option maxRecDepth 100000 in
set_option maxHeartbeats 8000000 in
theorem reg_Db (w0 : World) (N T E : Int) (a3 : Option Addr) (l3 c3 : Nat) (a4 : Option Addr) (l4 c4 : Nat) (a6 : Option Addr) (l6 c6 bx : Nat) (sb : Nat) (S0 SP SW : Array Value)     (b_bx : w0.heap[bx]? = some (.cells #[.int .i64 N, .int .i64 T, .int .i64 E, .slice a3 l3 c3, .slice a4 l4 c4, .bool false, .slice a6 l6 c6] 44 (0, 0))) (b_sb : w0.heap[sb]? = some (.cells S0 49 (0, 0))) (hS_sb : S0.size = 81) (hZ_SW : (SW).size = 81 ∧ (SW).all (·.oneCell') = true)
    
    (KP : ∀ W, Old w0 W → Calls Tryz.prog 44 #[.agg #[.int .i64 N, .int .i64 T, .int .i64 E, .slice a3 l3 c3, .slice a4 l4 c4, .bool false, .slice a6 l6 c6], .agg S0, .agg S0] W fun e w' => e = .returned (.agg SP) ∧ Old W w')
    (KW : ∀ W, Old w0 W → Calls Tryz.prog 43 #[.agg #[.int .i64 N, .int .i64 T, .int .i64 E, .slice a3 l3 c3, .slice a4 l4 c4, .bool false, .slice a6 l6 c6], .agg SP] W fun e w' => e = .returned (.agg SW) ∧ Old W w')
    (Q : Exit → Act → World → Prop) (b0 : Act) (hsz : b0.tmps.size = 15) (ha1 : b0.eval (.tmp 1) = .pointer (some ⟨bx, 0, none⟩)) (ha3 : b0.eval (.tmp 3) = .pointer (some ⟨sb, 0, none⟩))
    (HK : Hid (∀ (us : Nat → Value) (W : World) , Old w0 W → Q .normal (putAll b0 ((List.range 6).map fun i => (slotDb i, us i))) (W.setRow sb SW))) :
    Code.wp Tryz.prog ((Tryz.f41.body.bind (regionAtmul 2)).getD .skip) Q b0 w0 := by
  conv => arg 2; whnf
  have px_bx : ∀ W, Old w0 W → W.heap[bx]? = some (.cells #[.int .i64 N, .int .i64 T, .int .i64 E, .slice a3 l3 c3, .slice a4 l4 c4, .bool false, .slice a6 l6 c6] 44 (0, 0)) := fun W g => (g.block bx (lt_of_some b_bx)).trans b_bx
  have px_sb : ∀ W, Old w0 W → W.heap[sb]? = some (.cells S0 49 (0, 0)) := fun W g => (g.block sb (lt_of_some b_sb)).trans b_sb
  refine wp_region_tailG 6 (by decide) (by kernel_rfl) (by kernel_rfl) (by kernel_rfl) (by kernel_rfl) (by kernel_rfl) slotDb (fun i hi => by rw [hsz]; exact slotDb_lt i hi) (fun i j hi hj => slotDb_inj i hi j hj) (qDb N T E a3 l3 c3 a4 l4 c4 a6 l6 c6 bx sb S0 SP SW  ) (qDb_old N T E a3 l3 c3 a4 l4 c4 a6 l6 c6 bx sb S0 SP SW  ) [] (fun i W v hi hq => by cases hi) ?_ ?_
  · refine ⟨?_, ?_, ?_, ?_, ?_, ?_, trivial⟩
    · intro a W g hF hd
      refine ⟨fun _ => ?_, fun h => by rw [wanted_none rfl] at h; cases h⟩
      have e1 := (hF.same 1 slotDb_no1).trans ha1
      refine op_load (k := bx) e1 (px_bx W g) Tryz.underlying44 rfl (by kernel_rfl) ?_
      exact ⟨_, rfl, Old.refl _, rfl, (fun h => absurd h (by decide))⟩
    · intro a W g hF hd
      refine ⟨fun _ => ?_, fun h => by rw [wanted_none rfl] at h; cases h⟩
      have e1 := (hF.same 1 slotDb_no1).trans ha1
      refine op_load (k := bx) e1 (px_bx W g) Tryz.underlying44 rfl (by kernel_rfl) ?_
      exact ⟨_, rfl, Old.refl _, rfl, (fun h => absurd h (by decide))⟩
    · intro a W g hF hd
      refine ⟨fun _ => ?_, fun h => by rw [wanted_none rfl] at h; cases h⟩
      have e3 := (hF.same 3 slotDb_no3).trans ha3
      refine op_load (k := sb) e3 (px_sb W g) Tryz.underlying49 rfl (by rw [hS_sb]; exact infoSz) ?_
      exact ⟨_, rfl, Old.refl _, rfl, (fun h => absurd h (by decide))⟩
    · intro a W g hF hd
      refine ⟨fun _ => ?_, fun h => by rw [wanted_none rfl] at h; cases h⟩
      have e3 := (hF.same 3 slotDb_no3).trans ha3
      refine op_load (k := sb) e3 (px_sb W g) Tryz.underlying49 rfl (by rw [hS_sb]; exact infoSz) ?_
      exact ⟨_, rfl, Old.refl _, rfl, (fun h => absurd h (by decide))⟩
    · intro a W g hF hd
      refine ⟨fun _ => ?_, fun h => by rw [wanted_none rfl] at h; cases h⟩
      have h1 : a.eval (.tmp 10) = .agg #[.int .i64 N, .int .i64 T, .int .i64 E, .slice a3 l3 c3, .slice a4 l4 c4, .bool false, .slice a6 l6 c6] := hd ⟨1, .data⟩ (by simp) rfl
      have h2 : a.eval (.tmp 11) = .agg S0 := hd ⟨2, .data⟩ (by simp) rfl
      have h3 : a.eval (.tmp 12) = .agg S0 := hd ⟨3, .data⟩ (by simp) rfl
      refine op_call_ret (R := fun v w' => v = .agg SP ∧ Old W w') Tryz.call44 (vs := #[.agg #[.int .i64 N, .int .i64 T, .int .i64 E, .slice a3 l3 c3, .slice a4 l4 c4, .bool false, .slice a6 l6 c6], .agg S0, .agg S0]) (by simp [h1, h2, h3]) ((KP W g).mono fun e w' h => ⟨_, h.1, rfl, h.2⟩) ?_
      rintro x w' ⟨rfl, g'⟩
      exact ⟨_, rfl, g', rfl, (fun h => absurd h (by decide))⟩
    · intro a W g hF hd
      refine ⟨fun _ => ?_, fun h => by rw [wanted_none rfl] at h; cases h⟩
      have h0 : a.eval (.tmp 9) = .agg #[.int .i64 N, .int .i64 T, .int .i64 E, .slice a3 l3 c3, .slice a4 l4 c4, .bool false, .slice a6 l6 c6] := hd ⟨0, .data⟩ (by simp) rfl
      have h4 : a.eval (.tmp 13) = .agg SP := hd ⟨4, .data⟩ (by simp) rfl
      refine op_call_ret (R := fun v w' => v = .agg SW ∧ Old W w') Tryz.call43 (vs := #[.agg #[.int .i64 N, .int .i64 T, .int .i64 E, .slice a3 l3 c3, .slice a4 l4 c4, .bool false, .slice a6 l6 c6], .agg SP]) (by simp [h0, h4]) ((KW W g).mono fun e w' h => ⟨_, h.1, rfl, h.2⟩) ?_
      rintro x w' ⟨rfl, g'⟩
      exact ⟨_, rfl, g', rfl, (fun h => absurd h (by decide))⟩
  · intro a W g hF hq hne
    have hput := fram_put (show Fram 6 slotDb b0 a from hF) (fun i j hi hj => slotDb_inj i hi j hj)
    have hk := HK.out (fun i => a.eval (.tmp (slotDb i))) W g  
    rw [← hput] at hk
    refine op_store (k := sb) ((hF.same 3 slotDb_no3).trans ha3) (show a.eval (.tmp 14) = .agg SW from hq 5 (by decide)) (px_sb W g) (by rw [hZ_SW.1]; exact infoSz) (by rw [hZ_SW.1]; exact hS_sb) hZ_SW.2 ?_
    show tailWp _ _ _ _ _
    exact hk
end Go.Proofs.YtjjdklakonfnfaaGreatDoor
/- Proved: drawn regions of the model's bounds. -/
namespace Go.Proofs.YtjjdklakonfnfaaGreatDoor
open Go.ChangeShapes Go.WideShapes Go.ChangeAt Go.RowKit
set_option linter.unusedVariables false
set_option linter.unusedSimpArgs false
def slotMj (i : Nat) : Nat := [29, 30, 31, 32, 33, 34, 35, 36, 37, 38, 28, 39, 40, 9, 10].getD i 0
theorem slotMj_lt : ∀ i, i < 15 → slotMj i < 63 := by decide
theorem slotMj_inj : ∀ i, i < 15 → ∀ j, j < 15 → slotMj i = slotMj j → i = j := by decide
theorem slotMj_no1 : ∀ i, i < 15 → slotMj i ≠ 1 := by decide
theorem slotMj_no2 : ∀ i, i < 15 → slotMj i ≠ 2 := by decide
theorem slotMj_no3 : ∀ i, i < 15 → slotMj i ≠ 3 := by decide
def qMj (N T E : Int) (a0 : Option Addr) (l0 c0 pb : Nat) (a1 : Option Addr) (l1 c1 : Nat) (a2 : Option Addr) (l2 c2 : Nat) (PN : World → Value → Prop) (PM : World → Value → Prop) (PX : World → Value → Prop) (PQ : World → Value → Prop) (PD : World → Value → Prop) (PDa : World → Value → Prop) (PDb : World → Value → Prop) (i : Nat) (W : World) (x : Value) : Prop :=
  match i with
  | 0 => x = .pointer (some ⟨pb, 0, none⟩)
  | 1 => x = .int .i64 N
  | 2 => PN W x
  | 3 => x = .slice a1 l1 c1
  | 4 => x = .slice a2 l2 c2
  | 5 => PM W x
  | 6 => PX W x
  | 7 => x = .agg #[.int .i64 N, .int .i64 T, .int .i64 E, .slice a0 l0 c0]
  | 8 => PQ W x
  | 9 => PD W x
  | 10 => PD W x
  | 11 => PDa W x
  | 12 => PDb W x
  | 13 => PDa W x
  | 14 => PDb W x
  | _ => True
theorem qMj_old (N T E : Int) (a0 : Option Addr) (l0 c0 pb : Nat) (a1 : Option Addr) (l1 c1 : Nat) (a2 : Option Addr) (l2 c2 : Nat) (PN : World → Value → Prop) (PM : World → Value → Prop) (PX : World → Value → Prop) (PQ : World → Value → Prop) (PD : World → Value → Prop) (PDa : World → Value → Prop) (PDb : World → Value → Prop) (hM_PN : ∀ W W' v, PN W v → Old W W' → PN W' v) (hM_PM : ∀ W W' v, PM W v → Old W W' → PM W' v) (hM_PX : ∀ W W' v, PX W v → Old W W' → PX W' v) (hM_PQ : ∀ W W' v, PQ W v → Old W W' → PQ W' v) (hM_PD : ∀ W W' v, PD W v → Old W W' → PD W' v) (hM_PDa : ∀ W W' v, PDa W v → Old W W' → PDa W' v) (hM_PDb : ∀ W W' v, PDb W v → Old W W' → PDb W' v) (i : Nat) (W W' : World) (x : Value) (h : qMj N T E a0 l0 c0 pb a1 l1 c1 a2 l2 c2 PN PM PX PQ PD PDa PDb i W x) (qo : Old W W') : qMj N T E a0 l0 c0 pb a1 l1 c1 a2 l2 c2 PN PM PX PQ PD PDa PDb i W' x := by
  unfold qMj at h ⊢
  split at h
  case h_3 => exact hM_PN _ _ _ h qo
  case h_6 => exact hM_PM _ _ _ h qo
  case h_7 => exact hM_PX _ _ _ h qo
  case h_9 => exact hM_PQ _ _ _ h qo
  case h_10 => exact hM_PD _ _ _ h qo
  case h_11 => exact hM_PD _ _ _ h qo
  case h_12 => exact hM_PDa _ _ _ h qo
  case h_13 => exact hM_PDb _ _ _ h qo
  case h_14 => exact hM_PDa _ _ _ h qo
  case h_15 => exact hM_PDb _ _ _ h qo
  all_goals first | exact h | trivial
set_option maxRecDepth 100000 in
set_option maxHeartbeats 8000000 in
theorem reg_Mj (w0 : World) (N T E : Int) (a0 : Option Addr) (l0 c0 pb : Nat) (a1 : Option Addr) (l1 c1 : Nat) (a2 : Option Addr) (l2 c2 : Nat) (PN : World → Value → Prop) (PM : World → Value → Prop) (PX : World → Value → Prop) (PQ : World → Value → Prop) (PD : World → Value → Prop) (PDa : World → Value → Prop) (PDb : World → Value → Prop) (hM_PN : ∀ W W' v, PN W v → Old W W' → PN W' v) (hM_PM : ∀ W W' v, PM W v → Old W W' → PM W' v) (hM_PX : ∀ W W' v, PX W v → Old W W' → PX W' v) (hM_PQ : ∀ W W' v, PQ W v → Old W W' → PQ W' v) (hM_PD : ∀ W W' v, PD W v → Old W W' → PD W' v) (hM_PDa : ∀ W W' v, PDa W v → Old W W' → PDa W' v) (hM_PDb : ∀ W W' v, PDb W v → Old W W' → PDb W' v) (hT_PD : ∀ W x, PD W x → ∃ v1 v2, x = .tuple #[v1, v2] ∧ PDa W v1 ∧ PDb W v2)  (b_pb : w0.heap[pb]? = some (.cells #[.int .i64 N, .int .i64 T, .int .i64 E, .slice a0 l0 c0] 28 (0, 0))) 
    
    (KN : ∀ W, Old w0 W → Calls Tryz.prog 28 #[.int .i64 N] W fun e w' => ∃ v, e = .returned v ∧ Old W w' ∧ PN w' v)
    (KM : ∀ W, Old w0 W → Calls Tryz.prog 27 #[.slice a1 l1 c1, .slice a2 l2 c2] W fun e w' => ∃ v, e = .returned v ∧ Old W w' ∧ PM w' v)
    (KX : ∀ W, Old w0 W → ∀ (u2 : Value) (u5 : Value), PN W u2 → PM W u5 → Calls Tryz.prog 27 #[u2, u5] W fun e w' => ∃ v, e = .returned v ∧ Old W w' ∧ PX w' v)
    (KQ : ∀ W, Old w0 W → Calls Tryz.prog 26 #[.agg #[.int .i64 N, .int .i64 T, .int .i64 E, .slice a0 l0 c0]] W fun e w' => ∃ v, e = .returned v ∧ Old W w' ∧ PQ w' v)
    (KD : ∀ W, Old w0 W → ∀ (u6 : Value) (u8 : Value), PX W u6 → PQ W u8 → Calls Tryz.prog 30 #[u6, u8] W fun e w' => ∃ v, e = .returned v ∧ Old W w' ∧ PD w' v)
    (Q : Exit → Act → World → Prop) (b0 : Act) (hsz : b0.tmps.size = 63) (ha1 : b0.eval (.tmp 1) = .slice a1 l1 c1) (ha2 : b0.eval (.tmp 2) = .slice a2 l2 c2) (ha3 : b0.eval (.tmp 3) = .pointer (some ⟨pb, 0, none⟩))
    (HK : Hid (∀ (us : Nat → Value) (W : World) , Old w0 W → PDa W (us 13) → Q .normal (putAll b0 ((List.range 15).map fun i => (slotMj i, us i))) W)) :
    Code.wp Tryz.prog ((Tryz.f15.body.bind (regionAtmul 3)).getD .skip) Q b0 w0 := by
  conv => arg 2; whnf
  have px_pb : ∀ W, Old w0 W → W.heap[pb]? = some (.cells #[.int .i64 N, .int .i64 T, .int .i64 E, .slice a0 l0 c0] 28 (0, 0)) := fun W g => (g.block pb (lt_of_some b_pb)).trans b_pb
  have pc_pb_0 : ∀ W, Old w0 W → W.cell? ⟨pb, 0, none⟩ = some (.int .i64 N) := fun W g => cell_of_row W pb 0 _ _ (0, 0) (px_pb W g)
  refine wp_region_old (by kernel_rfl) (by kernel_rfl) (by kernel_rfl) slotMj (fun i hi => by rw [hsz]; exact slotMj_lt i hi) (fun i j hi hj => slotMj_inj i hi j hj) (qMj N T E a0 l0 c0 pb a1 l1 c1 a2 l2 c2 PN PM PX PQ PD PDa PDb ) (qMj_old N T E a0 l0 c0 pb a1 l1 c1 a2 l2 c2 PN PM PX PQ PD PDa PDb hM_PN hM_PM hM_PX hM_PQ hM_PD hM_PDa hM_PDb) ?_ ?_
  · refine ⟨?_, ?_, ?_, ?_, ?_, ?_, ?_, ?_, ?_, ?_, ?_, ?_, ?_, ?_, ?_, trivial⟩
    · intro a W g hF hd
      have e3 := (hF.same 3 slotMj_no3).trans ha3
      obtain ⟨ρ, hρ⟩ : ∃ ρ, a.eval = ρ := ⟨_, rfl⟩
      rw [hρ] at e3
      refine op_val ρ hρ (.pointer (some ⟨pb, 0, none⟩)) ?_ ⟨_, rfl, Old.refl _, rfl⟩
      clear g hF hd hρ HK KN KM KX KQ KD ha1 ha2 ha3 px_pb b_pb pc_pb_0 
      go_simp
      all_goals (first | (rw [IntKind.wrap_i64]; omega) | (rw [IntKind.wrap_u64]; omega) | omega)
    · intro a W g hF hd
      have h0 : a.eval (.tmp 29) = .pointer (some ⟨pb, 0, none⟩) := hd ⟨0, .data⟩ (by simp) rfl
      have kk0 := pc_pb_0 W g
      obtain ⟨ρ, hρ⟩ : ∃ ρ, a.eval = ρ := ⟨_, rfl⟩
      rw [hρ] at h0
      refine op_val ρ hρ (.int .i64 N) ?_ ⟨_, rfl, Old.refl _, rfl⟩
      clear g hF hd hρ HK KN KM KX KQ KD ha1 ha2 ha3 px_pb b_pb pc_pb_0 
      go_simp
      all_goals (first | (rw [IntKind.wrap_i64]; omega) | (rw [IntKind.wrap_u64]; omega) | omega)
    · intro a W g hF hd
      have h1 : a.eval (.tmp 30) = .int .i64 N := hd ⟨1, .data⟩ (by simp) rfl
      refine op_call_ret (R := fun v w' => Old W w' ∧ PN w' v) Tryz.call28 (vs := #[.int .i64 N]) (by simp [h1]) (KN W g) ?_
      rintro x w' ⟨g', hp⟩
      exact ⟨_, rfl, g', hp⟩
    · intro a W g hF hd
      have e1 := (hF.same 1 slotMj_no1).trans ha1
      refine op_move ?_
      exact ⟨_, rfl, Old.refl _, e1⟩
    · intro a W g hF hd
      have e2 := (hF.same 2 slotMj_no2).trans ha2
      refine op_move ?_
      exact ⟨_, rfl, Old.refl _, e2⟩
    · intro a W g hF hd
      have h3 : a.eval (.tmp 32) = .slice a1 l1 c1 := hd ⟨3, .data⟩ (by simp) rfl
      have h4 : a.eval (.tmp 33) = .slice a2 l2 c2 := hd ⟨4, .data⟩ (by simp) rfl
      refine op_call_ret (R := fun v w' => Old W w' ∧ PM w' v) Tryz.call27 (vs := #[.slice a1 l1 c1, .slice a2 l2 c2]) (by simp [h3, h4]) (KM W g) ?_
      rintro x w' ⟨g', hp⟩
      exact ⟨_, rfl, g', hp⟩
    · intro a W g hF hd
      have p2 : PN W (a.eval (.tmp 31)) := hd ⟨2, .data⟩ (by simp) rfl
      have p5 : PM W (a.eval (.tmp 34)) := hd ⟨5, .data⟩ (by simp) rfl
      refine op_call_ret (R := fun v w' => Old W w' ∧ PX w' v) Tryz.call27 (vs := #[a.eval (.tmp 31), a.eval (.tmp 34)]) (by simp) (KX W g _ _ p2 p5) ?_
      rintro x w' ⟨g', hp⟩
      exact ⟨_, rfl, g', hp⟩
    · intro a W g hF hd
      have e3 := (hF.same 3 slotMj_no3).trans ha3
      refine op_load (k := pb) e3 (px_pb W g) Tryz.underlying28 rfl (by kernel_rfl) ?_
      exact ⟨_, rfl, Old.refl _, rfl⟩
    · intro a W g hF hd
      have h7 : a.eval (.tmp 36) = .agg #[.int .i64 N, .int .i64 T, .int .i64 E, .slice a0 l0 c0] := hd ⟨7, .data⟩ (by simp) rfl
      refine op_call_ret (R := fun v w' => Old W w' ∧ PQ w' v) Tryz.call26 (vs := #[.agg #[.int .i64 N, .int .i64 T, .int .i64 E, .slice a0 l0 c0]]) (by simp [h7]) (KQ W g) ?_
      rintro x w' ⟨g', hp⟩
      exact ⟨_, rfl, g', hp⟩
    · intro a W g hF hd
      have p6 : PX W (a.eval (.tmp 35)) := hd ⟨6, .data⟩ (by simp) rfl
      have p8 : PQ W (a.eval (.tmp 37)) := hd ⟨8, .data⟩ (by simp) rfl
      refine op_call_ret (R := fun v w' => Old W w' ∧ PD w' v) Tryz.call30 (vs := #[a.eval (.tmp 35), a.eval (.tmp 37)]) (by simp) (KD W g _ _ p6 p8) ?_
      rintro x w' ⟨g', hp⟩
      exact ⟨_, rfl, g', hp⟩
    · intro a W g hF hd
      refine op_move ?_
      exact ⟨_, rfl, Old.refl _, hd ⟨9, .data⟩ (by simp) rfl⟩
    · intro a W g hF hd
      obtain ⟨v1, v2, ht, p1, p2⟩ := hT_PD W _ (hd ⟨10, .data⟩ (by simp) rfl)
      exact op_extract ht rfl ⟨_, rfl, Old.refl _, p1⟩
    · intro a W g hF hd
      obtain ⟨v1, v2, ht, p1, p2⟩ := hT_PD W _ (hd ⟨10, .data⟩ (by simp) rfl)
      exact op_extract ht rfl ⟨_, rfl, Old.refl _, p2⟩
    · intro a W g hF hd
      refine op_assign ?_
      exact ⟨_, rfl, Old.refl _, hd ⟨11, .data⟩ (by simp) rfl⟩
    · intro a W g hF hd
      refine op_assign ?_
      exact ⟨_, rfl, Old.refl _, hd ⟨12, .data⟩ (by simp) rfl⟩
  · intro a W g hF hq
    have hput := fram_put (show Fram 15 slotMj b0 a from hF) (fun i j hi hj => slotMj_inj i hi j hj)
    have hk := HK.out (fun i => a.eval (.tmp (slotMj i))) W g  (hq 13 (by decide))
    rw [← hput] at hk
    exact hk
end Go.Proofs.YtjjdklakonfnfaaGreatDoor
/- Proved: drawn regions of the model's BudgetOf and DepthOf, and of the program's BudgetOf. -/
namespace Go.Proofs.YtjjdklakonfnfaaGreatDoor
open Go.ChangeShapes Go.WideShapes Go.ChangeAt Go.RowKit
set_option linter.unusedVariables false
set_option linter.unusedSimpArgs false
def slotMl (i : Nat) : Nat := [22, 23, 24, 25, 26, 27].getD i 0
theorem slotMl_lt : ∀ i, i < 6 → slotMl i < 33 := by decide
theorem slotMl_inj : ∀ i, i < 6 → ∀ j, j < 6 → slotMl i = slotMl j → i = j := by decide
theorem slotMl_no1 : ∀ i, i < 6 → slotMl i ≠ 1 := by decide
theorem slotMl_no5 : ∀ i, i < 6 → slotMl i ≠ 5 := by decide
def qMl (N T E : Int) (a0 : Option Addr) (l0 c0 pb : Nat) (sv : Value) (PM : World → Value → Prop) (PS : World → Value → Prop) (i : Nat) (W : World) (x : Value) : Prop :=
  match i with
  | 0 => x = .agg #[.int .i64 N, .int .i64 T, .int .i64 E, .slice a0 l0 c0]
  | 1 => x = .agg #[.int .i64 N, .int .i64 T, .int .i64 E, .slice a0 l0 c0]
  | 2 => x = sv
  | 3 => x = sv
  | 4 => PM W x
  | 5 => PS W x
  | _ => True
theorem qMl_old (N T E : Int) (a0 : Option Addr) (l0 c0 pb : Nat) (sv : Value) (PM : World → Value → Prop) (PS : World → Value → Prop) (hM_PM : ∀ W W' v, PM W v → Old W W' → PM W' v) (hM_PS : ∀ W W' v, PS W v → Old W W' → PS W' v) (i : Nat) (W W' : World) (x : Value) (h : qMl N T E a0 l0 c0 pb sv PM PS i W x) (qo : Old W W') : qMl N T E a0 l0 c0 pb sv PM PS i W' x := by
  unfold qMl at h ⊢
  split at h
  case h_5 => exact hM_PM _ _ _ h qo
  case h_6 => exact hM_PS _ _ _ h qo
  all_goals first | exact h | trivial
set_option maxRecDepth 100000 in
set_option maxHeartbeats 8000000 in
theorem reg_Ml (w0 : World) (N T E : Int) (a0 : Option Addr) (l0 c0 pb : Nat) (sv : Value) (PM : World → Value → Prop) (PS : World → Value → Prop) (hM_PM : ∀ W W' v, PM W v → Old W W' → PM W' v) (hM_PS : ∀ W W' v, PS W v → Old W W' → PS W' v)   (b_pb : w0.heap[pb]? = some (.cells #[.int .i64 N, .int .i64 T, .int .i64 E, .slice a0 l0 c0] 28 (0, 0))) 
    
    (KM : ∀ W, Old w0 W → Calls Tryz.prog 15 #[.agg #[.int .i64 N, .int .i64 T, .int .i64 E, .slice a0 l0 c0], sv, sv] W fun e w' => ∃ v, e = .returned v ∧ Old W w' ∧ PM w' v)
    (KS : ∀ W, Old w0 W → ∀ (u4 : Value), PM W u4 → Calls Tryz.prog 14 #[.agg #[.int .i64 N, .int .i64 T, .int .i64 E, .slice a0 l0 c0], u4] W fun e w' => ∃ v, e = .returned v ∧ Old W w' ∧ PS w' v)
    (Q : Exit → Act → World → Prop) (b0 : Act) (hsz : b0.tmps.size = 33) (ha1 : b0.eval (.tmp 1) = .pointer (some ⟨pb, 0, none⟩)) (ha5 : b0.eval (.tmp 5) = sv)
    (HK : Hid (∀ (us : Nat → Value) (W : World) , Old w0 W → PS W (us 5) → Q .normal ((putAll b0 ((List.range 6).map fun i => (slotMl i, us i))).put (some 5) (us 5)) W)) :
    Code.wp Tryz.prog ((Tryz.f5.body.bind (regionAtmul 10)).getD .skip) Q b0 w0 := by
  conv => arg 2; whnf
  have px_pb : ∀ W, Old w0 W → W.heap[pb]? = some (.cells #[.int .i64 N, .int .i64 T, .int .i64 E, .slice a0 l0 c0] 28 (0, 0)) := fun W g => (g.block pb (lt_of_some b_pb)).trans b_pb
  refine wp_region_tailG 6 (by decide) (by kernel_rfl) (by kernel_rfl) (by kernel_rfl) (by kernel_rfl) (by kernel_rfl) slotMl (fun i hi => by rw [hsz]; exact slotMl_lt i hi) (fun i j hi hj => slotMl_inj i hi j hj) (qMl N T E a0 l0 c0 pb sv PM PS ) (qMl_old N T E a0 l0 c0 pb sv PM PS hM_PM hM_PS) [] (fun i W v hi hq => by cases hi) ?_ ?_
  · refine ⟨?_, ?_, ?_, ?_, ?_, ?_, trivial⟩
    · intro a W g hF hd
      refine ⟨fun _ => ?_, fun h => by rw [wanted_none rfl] at h; cases h⟩
      have e1 := (hF.same 1 slotMl_no1).trans ha1
      refine op_load (k := pb) e1 (px_pb W g) Tryz.underlying28 rfl (by kernel_rfl) ?_
      exact ⟨_, rfl, Old.refl _, rfl, (fun h => absurd h (by decide))⟩
    · intro a W g hF hd
      refine ⟨fun _ => ?_, fun h => by rw [wanted_none rfl] at h; cases h⟩
      have e1 := (hF.same 1 slotMl_no1).trans ha1
      refine op_load (k := pb) e1 (px_pb W g) Tryz.underlying28 rfl (by kernel_rfl) ?_
      exact ⟨_, rfl, Old.refl _, rfl, (fun h => absurd h (by decide))⟩
    · intro a W g hF hd
      refine ⟨fun _ => ?_, fun h => by rw [wanted_none rfl] at h; cases h⟩
      have e5 := (hF.same 5 slotMl_no5).trans ha5
      refine op_move ?_
      exact ⟨_, rfl, Old.refl _, e5, (fun h => absurd h (by decide))⟩
    · intro a W g hF hd
      refine ⟨fun _ => ?_, fun h => by rw [wanted_none rfl] at h; cases h⟩
      have e5 := (hF.same 5 slotMl_no5).trans ha5
      refine op_move ?_
      exact ⟨_, rfl, Old.refl _, e5, (fun h => absurd h (by decide))⟩
    · intro a W g hF hd
      refine ⟨fun _ => ?_, fun h => by rw [wanted_none rfl] at h; cases h⟩
      have h1 : a.eval (.tmp 23) = .agg #[.int .i64 N, .int .i64 T, .int .i64 E, .slice a0 l0 c0] := hd ⟨1, .data⟩ (by simp) rfl
      have h2 : a.eval (.tmp 24) = sv := hd ⟨2, .data⟩ (by simp) rfl
      have h3 : a.eval (.tmp 25) = sv := hd ⟨3, .data⟩ (by simp) rfl
      refine op_call_ret (R := fun v w' => Old W w' ∧ PM w' v) Tryz.call15 (vs := #[.agg #[.int .i64 N, .int .i64 T, .int .i64 E, .slice a0 l0 c0], sv, sv]) (by simp [h1, h2, h3]) (KM W g) ?_
      rintro x w' ⟨g', hp⟩
      exact ⟨_, rfl, g', hp, (fun h => absurd h (by decide))⟩
    · intro a W g hF hd
      refine ⟨fun _ => ?_, fun h => by rw [wanted_none rfl] at h; cases h⟩
      have h0 : a.eval (.tmp 22) = .agg #[.int .i64 N, .int .i64 T, .int .i64 E, .slice a0 l0 c0] := hd ⟨0, .data⟩ (by simp) rfl
      have p4 : PM W (a.eval (.tmp 26)) := hd ⟨4, .data⟩ (by simp) rfl
      refine op_call_ret (R := fun v w' => Old W w' ∧ PS w' v) Tryz.call14 (vs := #[.agg #[.int .i64 N, .int .i64 T, .int .i64 E, .slice a0 l0 c0], a.eval (.tmp 26)]) (by simp [h0]) (KS W g _ p4) ?_
      rintro x w' ⟨g', hp⟩
      exact ⟨_, rfl, g', hp, (fun h => absurd h (by decide))⟩
  · intro a W g hF hq hne
    have hput := fram_put (show Fram 6 slotMl b0 a from hF) (fun i j hi hj => slotMl_inj i hi j hj)
    have hk := HK.out (fun i => a.eval (.tmp (slotMl i))) W g  (hq 5 (by decide))
    rw [← hput] at hk
    refine op_assign ?_
    show tailWp _ _ _ _ _
    exact hk
end Go.Proofs.YtjjdklakonfnfaaGreatDoor
