/- Proved: several texts in one: what each proves is said ahead of it. -/
import Derived.Test.YtihjndakgncdaaaGreatDoorFd01
import Derived.KernelRfl
import Derived.Test.YtihjndakgncdaaaGreatDoorFd03
/- Proved: the two drawn regions of the model's product in a ring: a number is added to one place, or taken away. -/
namespace Go.Proofs.YtihjndakgncdaaaGreatDoor
open Go.ChangeShapes Go.WideShapes Go.ChangeAt Go.RowKit
set_option linter.unusedVariables false
set_option linter.unusedSimpArgs false
def regionAtmul (n : Nat) : Code → Option Code
  | .region i ops b => if i = n then some (.region i ops b) else none
  | .seq a b => match regionAtmul n a with
    | some c => some c
    | none => regionAtmul n b
  | .block _ c => regionAtmul n c
  | .loop c => regionAtmul n c
  | .cond _ a b => match regionAtmul n a with
    | some c => some c
    | none => regionAtmul n b
  | _ => none
end Go.Proofs.YtihjndakgncdaaaGreatDoor
/- Proved: drawn regions of the model's bounds. -/
namespace Go.Proofs.YtihjndakgncdaaaGreatDoor
open Go.ChangeShapes Go.WideShapes Go.ChangeAt Go.RowKit
set_option linter.unusedVariables false
set_option linter.unusedSimpArgs false
def slotMa (i : Nat) : Nat := [3, 4, 5, 6, 7, 2].getD i 0
theorem slotMa_lt : ∀ i, i < 6 → slotMa i < 8 := by decide
theorem slotMa_inj : ∀ i, i < 6 → ∀ j, j < 6 → slotMa i = slotMa j → i = j := by decide
theorem slotMa_no1 : ∀ i, i < 6 → slotMa i ≠ 1 := by decide
def qMa (N T E : Int) (a0 : Option Addr) (l0 c0 pb : Nat) (r : Int) (PQ : World → Value → Prop) (i : Nat) (W : World) (x : Value) : Prop :=
  match i with
  | 0 => x = .agg #[.int .i64 N, .int .i64 T, .int .i64 E, .slice a0 l0 c0]
  | 1 => PQ W x
  | 2 => x = .pointer (some ⟨pb, 1, none⟩)
  | 3 => x = .int .i64 T
  | 4 => x = .int .i64 r
  | 5 => x = .int .i64 r
  | _ => True
theorem qMa_old (N T E : Int) (a0 : Option Addr) (l0 c0 pb : Nat) (r : Int) (PQ : World → Value → Prop) (hM_PQ : ∀ W W' v, PQ W v → Old W W' → PQ W' v) (i : Nat) (W W' : World) (x : Value) (h : qMa N T E a0 l0 c0 pb r PQ i W x) (qo : Old W W') : qMa N T E a0 l0 c0 pb r PQ i W' x := by
  unfold qMa at h ⊢
  split at h
  case h_2 => exact hM_PQ _ _ _ h qo
  all_goals first | exact h | trivial
set_option maxRecDepth 100000 in
set_option maxHeartbeats 8000000 in
theorem reg_Ma (w0 : World) (N T E : Int) (a0 : Option Addr) (l0 c0 pb : Nat) (r : Int) (PQ : World → Value → Prop) (hM_PQ : ∀ W W' v, PQ W v → Old W W' → PQ W' v)   (b_pb : w0.heap[pb]? = some (.cells #[.int .i64 N, .int .i64 T, .int .i64 E, .slice a0 l0 c0] 25 (0, 0))) 
    
    (KQ : ∀ W, Old w0 W → Calls Tryz.prog 49 #[.agg #[.int .i64 N, .int .i64 T, .int .i64 E, .slice a0 l0 c0]] W fun e w' => ∃ v, e = .returned v ∧ Old W w' ∧ PQ w' v)
    (KW : ∀ W, Old w0 W → ∀ (u1 : Value), PQ W u1 → Calls Tryz.prog 78 #[u1, .int .i64 T] W fun e w' => e = .returned (.int .i64 r) ∧ Old W w')
    (Q : Exit → Act → World → Prop) (b0 : Act) (hsz : b0.tmps.size = 8) (ha1 : b0.eval (.tmp 1) = .pointer (some ⟨pb, 0, none⟩))
    (HK : Hid (∀ (us : Nat → Value) (W : World) , Old w0 W → us 5 = .int .i64 r → Q .normal (putAll b0 ((List.range 6).map fun i => (slotMa i, us i))) W)) :
    Code.wp Tryz.prog ((Tryz.f52.body.bind (regionAtmul 1)).getD .skip) Q b0 w0 := by
  conv => arg 2; whnf
  have px_pb : ∀ W, Old w0 W → W.heap[pb]? = some (.cells #[.int .i64 N, .int .i64 T, .int .i64 E, .slice a0 l0 c0] 25 (0, 0)) := fun W g => (g.block pb (lt_of_some b_pb)).trans b_pb
  have pc_pb_1 : ∀ W, Old w0 W → W.cell? ⟨pb, 1, none⟩ = some (.int .i64 T) := fun W g => cell_of_row W pb 1 _ _ (0, 0) (px_pb W g)
  refine wp_region_old (by kernel_rfl) (by kernel_rfl) (by kernel_rfl) slotMa (fun i hi => by rw [hsz]; exact slotMa_lt i hi) (fun i j hi hj => slotMa_inj i hi j hj) (qMa N T E a0 l0 c0 pb r PQ ) (qMa_old N T E a0 l0 c0 pb r PQ hM_PQ) ?_ ?_
  · refine ⟨?_, ?_, ?_, ?_, ?_, ?_, trivial⟩
    · intro a W g hF hd
      have e1 := (hF.same 1 slotMa_no1).trans ha1
      refine op_load (k := pb) e1 (px_pb W g) Tryz.underlying25 rfl (by kernel_rfl) ?_
      exact ⟨_, rfl, Old.refl _, rfl⟩
    · intro a W g hF hd
      have h0 : a.eval (.tmp 3) = .agg #[.int .i64 N, .int .i64 T, .int .i64 E, .slice a0 l0 c0] := hd ⟨0, .data⟩ (by simp) rfl
      refine op_call_ret (R := fun v w' => Old W w' ∧ PQ w' v) Tryz.call49 (vs := #[.agg #[.int .i64 N, .int .i64 T, .int .i64 E, .slice a0 l0 c0]]) (by simp [h0]) (KQ W g) ?_
      rintro x w' ⟨g', hp⟩
      exact ⟨_, rfl, g', hp⟩
    · intro a W g hF hd
      have e1 := (hF.same 1 slotMa_no1).trans ha1
      obtain ⟨ρ, hρ⟩ : ∃ ρ, a.eval = ρ := ⟨_, rfl⟩
      rw [hρ] at e1
      refine op_val ρ hρ (.pointer (some ⟨pb, 1, none⟩)) ?_ ⟨_, rfl, Old.refl _, rfl⟩
      clear g hF hd hρ HK KQ KW ha1 px_pb b_pb pc_pb_1 
      go_simp
      all_goals (first | (rw [IntKind.wrap_i64]; omega) | (rw [IntKind.wrap_u64]; omega) | omega)
    · intro a W g hF hd
      have h2 : a.eval (.tmp 5) = .pointer (some ⟨pb, 1, none⟩) := hd ⟨2, .data⟩ (by simp) rfl
      have kk0 := pc_pb_1 W g
      obtain ⟨ρ, hρ⟩ : ∃ ρ, a.eval = ρ := ⟨_, rfl⟩
      rw [hρ] at h2
      refine op_val ρ hρ (.int .i64 T) ?_ ⟨_, rfl, Old.refl _, rfl⟩
      clear g hF hd hρ HK KQ KW ha1 px_pb b_pb pc_pb_1 
      go_simp
      all_goals (first | (rw [IntKind.wrap_i64]; omega) | (rw [IntKind.wrap_u64]; omega) | omega)
    · intro a W g hF hd
      have h3 : a.eval (.tmp 6) = .int .i64 T := hd ⟨3, .data⟩ (by simp) rfl
      have p1 : PQ W (a.eval (.tmp 4)) := hd ⟨1, .data⟩ (by simp) rfl
      refine op_call_ret (R := fun v w' => v = .int .i64 r ∧ Old W w') Tryz.call78 (vs := #[a.eval (.tmp 4), .int .i64 T]) (by simp [h3]) ((KW W g _ p1).mono fun e w' h => ⟨_, h.1, rfl, h.2⟩) ?_
      rintro x w' ⟨rfl, g'⟩
      exact ⟨_, rfl, g', rfl⟩
    · intro a W g hF hd
      refine op_assign ?_
      exact ⟨_, rfl, Old.refl _, hd ⟨4, .data⟩ (by simp) rfl⟩
  · intro a W g hF hq
    have hput := fram_put (show Fram 6 slotMa b0 a from hF) (fun i j hi hj => slotMa_inj i hi j hj)
    have hk := HK.out (fun i => a.eval (.tmp (slotMa i))) W g  (hq 5 (by decide))
    rw [← hput] at hk
    exact hk
def slotMb (i : Nat) : Nat := [9, 10, 11, 12, 13, 14, 15, 4].getD i 0
theorem slotMb_lt : ∀ i, i < 8 → slotMb i < 29 := by decide
theorem slotMb_inj : ∀ i, i < 8 → ∀ j, j < 8 → slotMb i = slotMb j → i = j := by decide
theorem slotMb_no1 : ∀ i, i < 8 → slotMb i ≠ 1 := by decide
def qMb (N T E : Int) (a0 : Option Addr) (l0 c0 pb : Nat) (r : Int) (PT : World → Value → Prop) (PR : World → Value → Prop) (PM : World → Value → Prop) (i : Nat) (W : World) (x : Value) : Prop :=
  match i with
  | 0 => x = .pointer (some ⟨pb, 1, none⟩)
  | 1 => x = .int .i64 T
  | 2 => PT W x
  | 3 => x = .agg #[.int .i64 N, .int .i64 T, .int .i64 E, .slice a0 l0 c0]
  | 4 => x = .int .i64 r
  | 5 => PR W x
  | 6 => PM W x
  | 7 => PM W x
  | _ => True
theorem qMb_old (N T E : Int) (a0 : Option Addr) (l0 c0 pb : Nat) (r : Int) (PT : World → Value → Prop) (PR : World → Value → Prop) (PM : World → Value → Prop) (hM_PT : ∀ W W' v, PT W v → Old W W' → PT W' v) (hM_PR : ∀ W W' v, PR W v → Old W W' → PR W' v) (hM_PM : ∀ W W' v, PM W v → Old W W' → PM W' v) (i : Nat) (W W' : World) (x : Value) (h : qMb N T E a0 l0 c0 pb r PT PR PM i W x) (qo : Old W W') : qMb N T E a0 l0 c0 pb r PT PR PM i W' x := by
  unfold qMb at h ⊢
  split at h
  case h_3 => exact hM_PT _ _ _ h qo
  case h_6 => exact hM_PR _ _ _ h qo
  case h_7 => exact hM_PM _ _ _ h qo
  case h_8 => exact hM_PM _ _ _ h qo
  all_goals first | exact h | trivial
set_option maxRecDepth 100000 in
set_option maxHeartbeats 8000000 in
theorem reg_Mb (w0 : World) (N T E : Int) (a0 : Option Addr) (l0 c0 pb : Nat) (r : Int) (PT : World → Value → Prop) (PR : World → Value → Prop) (PM : World → Value → Prop) (hM_PT : ∀ W W' v, PT W v → Old W W' → PT W' v) (hM_PR : ∀ W W' v, PR W v → Old W W' → PR W' v) (hM_PM : ∀ W W' v, PM W v → Old W W' → PM W' v)   (b_pb : w0.heap[pb]? = some (.cells #[.int .i64 N, .int .i64 T, .int .i64 E, .slice a0 l0 c0] 25 (0, 0))) 
    
    (KT : ∀ W, Old w0 W → Calls Tryz.prog 51 #[.int .i64 T] W fun e w' => ∃ v, e = .returned v ∧ Old W w' ∧ PT w' v)
    (KR : ∀ W, Old w0 W → Calls Tryz.prog 52 #[.agg #[.int .i64 N, .int .i64 T, .int .i64 E, .slice a0 l0 c0]] W fun e w' => e = .returned (.int .i64 r) ∧ Old W w')
    (KO : ∀ W, Old w0 W → Calls Tryz.prog 51 #[.int .i64 r] W fun e w' => ∃ v, e = .returned v ∧ Old W w' ∧ PR w' v)
    (KM : ∀ W, Old w0 W → ∀ (u2 : Value) (u5 : Value), PT W u2 → PR W u5 → Calls Tryz.prog 50 #[u2, u5] W fun e w' => ∃ v, e = .returned v ∧ Old W w' ∧ PM w' v)
    (Q : Exit → Act → World → Prop) (b0 : Act) (hsz : b0.tmps.size = 29) (ha1 : b0.eval (.tmp 1) = .pointer (some ⟨pb, 0, none⟩))
    (HK : Hid (∀ (us : Nat → Value) (W : World) , Old w0 W → PM W (us 7) → Q .normal (putAll b0 ((List.range 8).map fun i => (slotMb i, us i))) W)) :
    Code.wp Tryz.prog ((Tryz.f22.body.bind (regionAtmul 2)).getD .skip) Q b0 w0 := by
  conv => arg 2; whnf
  have px_pb : ∀ W, Old w0 W → W.heap[pb]? = some (.cells #[.int .i64 N, .int .i64 T, .int .i64 E, .slice a0 l0 c0] 25 (0, 0)) := fun W g => (g.block pb (lt_of_some b_pb)).trans b_pb
  have pc_pb_1 : ∀ W, Old w0 W → W.cell? ⟨pb, 1, none⟩ = some (.int .i64 T) := fun W g => cell_of_row W pb 1 _ _ (0, 0) (px_pb W g)
  refine wp_region_old (by kernel_rfl) (by kernel_rfl) (by kernel_rfl) slotMb (fun i hi => by rw [hsz]; exact slotMb_lt i hi) (fun i j hi hj => slotMb_inj i hi j hj) (qMb N T E a0 l0 c0 pb r PT PR PM ) (qMb_old N T E a0 l0 c0 pb r PT PR PM hM_PT hM_PR hM_PM) ?_ ?_
  · refine ⟨?_, ?_, ?_, ?_, ?_, ?_, ?_, ?_, trivial⟩
    · intro a W g hF hd
      have e1 := (hF.same 1 slotMb_no1).trans ha1
      obtain ⟨ρ, hρ⟩ : ∃ ρ, a.eval = ρ := ⟨_, rfl⟩
      rw [hρ] at e1
      refine op_val ρ hρ (.pointer (some ⟨pb, 1, none⟩)) ?_ ⟨_, rfl, Old.refl _, rfl⟩
      clear g hF hd hρ HK KT KR KO KM ha1 px_pb b_pb pc_pb_1 
      go_simp
      all_goals (first | (rw [IntKind.wrap_i64]; omega) | (rw [IntKind.wrap_u64]; omega) | omega)
    · intro a W g hF hd
      have h0 : a.eval (.tmp 9) = .pointer (some ⟨pb, 1, none⟩) := hd ⟨0, .data⟩ (by simp) rfl
      have kk0 := pc_pb_1 W g
      obtain ⟨ρ, hρ⟩ : ∃ ρ, a.eval = ρ := ⟨_, rfl⟩
      rw [hρ] at h0
      refine op_val ρ hρ (.int .i64 T) ?_ ⟨_, rfl, Old.refl _, rfl⟩
      clear g hF hd hρ HK KT KR KO KM ha1 px_pb b_pb pc_pb_1 
      go_simp
      all_goals (first | (rw [IntKind.wrap_i64]; omega) | (rw [IntKind.wrap_u64]; omega) | omega)
    · intro a W g hF hd
      have h1 : a.eval (.tmp 10) = .int .i64 T := hd ⟨1, .data⟩ (by simp) rfl
      refine op_call_ret (R := fun v w' => Old W w' ∧ PT w' v) Tryz.call51 (vs := #[.int .i64 T]) (by simp [h1]) (KT W g) ?_
      rintro x w' ⟨g', hp⟩
      exact ⟨_, rfl, g', hp⟩
    · intro a W g hF hd
      have e1 := (hF.same 1 slotMb_no1).trans ha1
      refine op_load (k := pb) e1 (px_pb W g) Tryz.underlying25 rfl (by kernel_rfl) ?_
      exact ⟨_, rfl, Old.refl _, rfl⟩
    · intro a W g hF hd
      have h3 : a.eval (.tmp 12) = .agg #[.int .i64 N, .int .i64 T, .int .i64 E, .slice a0 l0 c0] := hd ⟨3, .data⟩ (by simp) rfl
      refine op_call_ret (R := fun v w' => v = .int .i64 r ∧ Old W w') Tryz.call52 (vs := #[.agg #[.int .i64 N, .int .i64 T, .int .i64 E, .slice a0 l0 c0]]) (by simp [h3]) ((KR W g).mono fun e w' h => ⟨_, h.1, rfl, h.2⟩) ?_
      rintro x w' ⟨rfl, g'⟩
      exact ⟨_, rfl, g', rfl⟩
    · intro a W g hF hd
      have h4 : a.eval (.tmp 13) = .int .i64 r := hd ⟨4, .data⟩ (by simp) rfl
      refine op_call_ret (R := fun v w' => Old W w' ∧ PR w' v) Tryz.call51 (vs := #[.int .i64 r]) (by simp [h4]) (KO W g) ?_
      rintro x w' ⟨g', hp⟩
      exact ⟨_, rfl, g', hp⟩
    · intro a W g hF hd
      have p2 : PT W (a.eval (.tmp 11)) := hd ⟨2, .data⟩ (by simp) rfl
      have p5 : PR W (a.eval (.tmp 14)) := hd ⟨5, .data⟩ (by simp) rfl
      refine op_call_ret (R := fun v w' => Old W w' ∧ PM w' v) Tryz.call50 (vs := #[a.eval (.tmp 11), a.eval (.tmp 14)]) (by simp) (KM W g _ _ p2 p5) ?_
      rintro x w' ⟨g', hp⟩
      exact ⟨_, rfl, g', hp⟩
    · intro a W g hF hd
      refine op_assign ?_
      exact ⟨_, rfl, Old.refl _, hd ⟨6, .data⟩ (by simp) rfl⟩
  · intro a W g hF hq
    have hput := fram_put (show Fram 8 slotMb b0 a from hF) (fun i j hi hj => slotMb_inj i hi j hj)
    have hk := HK.out (fun i => a.eval (.tmp (slotMb i))) W g  (hq 7 (by decide))
    rw [← hput] at hk
    exact hk
def slotMd (i : Nat) : Nat := [3, 4, 5, 6, 7, 8, 9, 10, 11, 12, 13, 14, 15, 16, 17, 18, 19, 20, 21, 2].getD i 0
theorem slotMd_lt : ∀ i, i < 20 → slotMd i < 22 := by decide
theorem slotMd_inj : ∀ i, i < 20 → ∀ j, j < 20 → slotMd i = slotMd j → i = j := by decide
theorem slotMd_no1 : ∀ i, i < 20 → slotMd i ≠ 1 := by decide
def qMd (N T E : Int) (a0 : Option Addr) (l0 c0 pb : Nat) (r : Int) (PO : World → Value → Prop) (PE : World → Value → Prop) (PS : World → Value → Prop) (i : Nat) (W : World) (x : Value) : Prop :=
  match i with
  | 0 => x = .agg #[.int .i64 N, .int .i64 T, .int .i64 E, .slice a0 l0 c0]
  | 1 => x = .int .i64 r
  | 2 => x = .pointer (some ⟨pb, 1, none⟩)
  | 3 => x = .int .i64 T
  | 4 => x = .int .i64 (T - 1)
  | 5 => x = .int .i64 (r * (T - 1))
  | 6 => PO W x
  | 7 => x = .pointer (some ⟨pb, 1, none⟩)
  | 8 => x = .int .i64 T
  | 9 => x = .pointer (some ⟨pb, 2, none⟩)
  | 10 => x = .int .i64 E
  | 11 => x = .int .i64 (T * E)
  | 12 => x = .pointer (some ⟨pb, 0, none⟩)
  | 13 => x = .int .i64 N
  | 14 => x = .int .i64 (2 * N)
  | 15 => x = .int .i64 ((2 * N) + 1)
  | 16 => x = .int .i64 ((T * E) * ((2 * N) + 1))
  | 17 => PE W x
  | 18 => PS W x
  | 19 => PS W x
  | _ => True
theorem qMd_old (N T E : Int) (a0 : Option Addr) (l0 c0 pb : Nat) (r : Int) (PO : World → Value → Prop) (PE : World → Value → Prop) (PS : World → Value → Prop) (hM_PO : ∀ W W' v, PO W v → Old W W' → PO W' v) (hM_PE : ∀ W W' v, PE W v → Old W W' → PE W' v) (hM_PS : ∀ W W' v, PS W v → Old W W' → PS W' v) (i : Nat) (W W' : World) (x : Value) (h : qMd N T E a0 l0 c0 pb r PO PE PS i W x) (qo : Old W W') : qMd N T E a0 l0 c0 pb r PO PE PS i W' x := by
  unfold qMd at h ⊢
  split at h
  case h_7 => exact hM_PO _ _ _ h qo
  case h_18 => exact hM_PE _ _ _ h qo
  case h_19 => exact hM_PS _ _ _ h qo
  case h_20 => exact hM_PS _ _ _ h qo
  all_goals first | exact h | trivial
set_option maxRecDepth 100000 in
set_option maxHeartbeats 8000000 in
theorem reg_Md (w0 : World) (N T E : Int) (a0 : Option Addr) (l0 c0 pb : Nat) (r : Int) (PO : World → Value → Prop) (PE : World → Value → Prop) (PS : World → Value → Prop) (hM_PO : ∀ W W' v, PO W v → Old W W' → PO W' v) (hM_PE : ∀ W W' v, PE W v → Old W W' → PE W' v) (hM_PS : ∀ W W' v, PS W v → Old W W' → PS W' v)   (b_pb : w0.heap[pb]? = some (.cells #[.int .i64 N, .int .i64 T, .int .i64 E, .slice a0 l0 c0] 25 (0, 0))) 
    (hN : 2 ≤ N ∧ N ≤ 16) (hT : 2 ≤ T ∧ T ≤ 65536) (hm : 0 ≤ r * (T - 1) ∧ r * (T - 1) ≤ 4611686018427387904) (hTE : 0 ≤ T * E ∧ T * E ≤ 1048576) (hX : 0 ≤ T * E * (2 * N + 1) ∧ T * E * (2 * N + 1) ≤ 34603008)
    (KR : ∀ W, Old w0 W → Calls Tryz.prog 52 #[.agg #[.int .i64 N, .int .i64 T, .int .i64 E, .slice a0 l0 c0]] W fun e w' => e = .returned (.int .i64 r) ∧ Old W w')
    (KO : ∀ W, Old w0 W → Calls Tryz.prog 51 #[.int .i64 (r * (T - 1))] W fun e w' => ∃ v, e = .returned v ∧ Old W w' ∧ PO w' v)
    (KE : ∀ W, Old w0 W → Calls Tryz.prog 51 #[.int .i64 ((T * E) * ((2 * N) + 1))] W fun e w' => ∃ v, e = .returned v ∧ Old W w' ∧ PE w' v)
    (KA : ∀ W, Old w0 W → ∀ (u6 : Value) (u17 : Value), PO W u6 → PE W u17 → Calls Tryz.prog 55 #[u6, u17] W fun e w' => ∃ v, e = .returned v ∧ Old W w' ∧ PS w' v)
    (Q : Exit → Act → World → Prop) (b0 : Act) (hsz : b0.tmps.size = 22) (ha1 : b0.eval (.tmp 1) = .pointer (some ⟨pb, 0, none⟩))
    (HK : Hid (∀ (us : Nat → Value) (W : World) , Old w0 W → PS W (us 19) → Q .normal (putAll b0 ((List.range 20).map fun i => (slotMd i, us i))) W)) :
    Code.wp Tryz.prog ((Tryz.f23.body.bind (regionAtmul 1)).getD .skip) Q b0 w0 := by
  conv => arg 2; whnf
  have px_pb : ∀ W, Old w0 W → W.heap[pb]? = some (.cells #[.int .i64 N, .int .i64 T, .int .i64 E, .slice a0 l0 c0] 25 (0, 0)) := fun W g => (g.block pb (lt_of_some b_pb)).trans b_pb
  have pc_pb_0 : ∀ W, Old w0 W → W.cell? ⟨pb, 0, none⟩ = some (.int .i64 N) := fun W g => cell_of_row W pb 0 _ _ (0, 0) (px_pb W g)
  have pc_pb_1 : ∀ W, Old w0 W → W.cell? ⟨pb, 1, none⟩ = some (.int .i64 T) := fun W g => cell_of_row W pb 1 _ _ (0, 0) (px_pb W g)
  have pc_pb_2 : ∀ W, Old w0 W → W.cell? ⟨pb, 2, none⟩ = some (.int .i64 E) := fun W g => cell_of_row W pb 2 _ _ (0, 0) (px_pb W g)
  refine wp_region_old (by kernel_rfl) (by kernel_rfl) (by kernel_rfl) slotMd (fun i hi => by rw [hsz]; exact slotMd_lt i hi) (fun i j hi hj => slotMd_inj i hi j hj) (qMd N T E a0 l0 c0 pb r PO PE PS ) (qMd_old N T E a0 l0 c0 pb r PO PE PS hM_PO hM_PE hM_PS) ?_ ?_
  · refine ⟨?_, ?_, ?_, ?_, ?_, ?_, ?_, ?_, ?_, ?_, ?_, ?_, ?_, ?_, ?_, ?_, ?_, ?_, ?_, ?_, trivial⟩
    · intro a W g hF hd
      have e1 := (hF.same 1 slotMd_no1).trans ha1
      refine op_load (k := pb) e1 (px_pb W g) Tryz.underlying25 rfl (by kernel_rfl) ?_
      exact ⟨_, rfl, Old.refl _, rfl⟩
    · intro a W g hF hd
      have h0 : a.eval (.tmp 3) = .agg #[.int .i64 N, .int .i64 T, .int .i64 E, .slice a0 l0 c0] := hd ⟨0, .data⟩ (by simp) rfl
      refine op_call_ret (R := fun v w' => v = .int .i64 r ∧ Old W w') Tryz.call52 (vs := #[.agg #[.int .i64 N, .int .i64 T, .int .i64 E, .slice a0 l0 c0]]) (by simp [h0]) ((KR W g).mono fun e w' h => ⟨_, h.1, rfl, h.2⟩) ?_
      rintro x w' ⟨rfl, g'⟩
      exact ⟨_, rfl, g', rfl⟩
    · intro a W g hF hd
      have e1 := (hF.same 1 slotMd_no1).trans ha1
      obtain ⟨ρ, hρ⟩ : ∃ ρ, a.eval = ρ := ⟨_, rfl⟩
      rw [hρ] at e1
      refine op_val ρ hρ (.pointer (some ⟨pb, 1, none⟩)) ?_ ⟨_, rfl, Old.refl _, rfl⟩
      clear g hF hd hρ HK KR KO KE KA ha1 px_pb b_pb pc_pb_0 pc_pb_1 pc_pb_2 
      go_simp
      all_goals (first | (rw [IntKind.wrap_i64]; omega) | (rw [IntKind.wrap_u64]; omega) | omega)
    · intro a W g hF hd
      have h2 : a.eval (.tmp 5) = .pointer (some ⟨pb, 1, none⟩) := hd ⟨2, .data⟩ (by simp) rfl
      have kk0 := pc_pb_1 W g
      obtain ⟨ρ, hρ⟩ : ∃ ρ, a.eval = ρ := ⟨_, rfl⟩
      rw [hρ] at h2
      refine op_val ρ hρ (.int .i64 T) ?_ ⟨_, rfl, Old.refl _, rfl⟩
      clear g hF hd hρ HK KR KO KE KA ha1 px_pb b_pb pc_pb_0 pc_pb_1 pc_pb_2 
      go_simp
      all_goals (first | (rw [IntKind.wrap_i64]; omega) | (rw [IntKind.wrap_u64]; omega) | omega)
    · intro a W g hF hd
      have h3 : a.eval (.tmp 6) = .int .i64 T := hd ⟨3, .data⟩ (by simp) rfl
      have c1 : a.eval (.const (.int .i64 1)) = .int .i64 1 := rfl
      obtain ⟨ρ, hρ⟩ : ∃ ρ, a.eval = ρ := ⟨_, rfl⟩
      rw [hρ] at h3 c1
      refine op_val ρ hρ (.int .i64 (T - 1)) ?_ ⟨_, rfl, Old.refl _, rfl⟩
      clear g hF hd hρ HK KR KO KE KA ha1 px_pb b_pb pc_pb_0 pc_pb_1 pc_pb_2 
      go_simp
      all_goals (first | (rw [IntKind.wrap_i64]; omega) | (rw [IntKind.wrap_u64]; omega) | omega)
    · intro a W g hF hd
      have h1 : a.eval (.tmp 4) = .int .i64 r := hd ⟨1, .data⟩ (by simp) rfl
      have h4 : a.eval (.tmp 7) = .int .i64 (T - 1) := hd ⟨4, .data⟩ (by simp) rfl
      obtain ⟨ρ, hρ⟩ : ∃ ρ, a.eval = ρ := ⟨_, rfl⟩
      rw [hρ] at h1 h4
      refine op_val ρ hρ (.int .i64 (r * (T - 1))) ?_ ⟨_, rfl, Old.refl _, rfl⟩
      clear g hF hd hρ HK KR KO KE KA ha1 px_pb b_pb pc_pb_0 pc_pb_1 pc_pb_2 
      go_simp
      all_goals (first | (rw [IntKind.wrap_i64]; omega) | (rw [IntKind.wrap_u64]; omega) | omega)
    · intro a W g hF hd
      have h5 : a.eval (.tmp 8) = .int .i64 (r * (T - 1)) := hd ⟨5, .data⟩ (by simp) rfl
      refine op_call_ret (R := fun v w' => Old W w' ∧ PO w' v) Tryz.call51 (vs := #[.int .i64 (r * (T - 1))]) (by simp [h5]) (KO W g) ?_
      rintro x w' ⟨g', hp⟩
      exact ⟨_, rfl, g', hp⟩
    · intro a W g hF hd
      have e1 := (hF.same 1 slotMd_no1).trans ha1
      obtain ⟨ρ, hρ⟩ : ∃ ρ, a.eval = ρ := ⟨_, rfl⟩
      rw [hρ] at e1
      refine op_val ρ hρ (.pointer (some ⟨pb, 1, none⟩)) ?_ ⟨_, rfl, Old.refl _, rfl⟩
      clear g hF hd hρ HK KR KO KE KA ha1 px_pb b_pb pc_pb_0 pc_pb_1 pc_pb_2 
      go_simp
      all_goals (first | (rw [IntKind.wrap_i64]; omega) | (rw [IntKind.wrap_u64]; omega) | omega)
    · intro a W g hF hd
      have h7 : a.eval (.tmp 10) = .pointer (some ⟨pb, 1, none⟩) := hd ⟨7, .data⟩ (by simp) rfl
      have kk0 := pc_pb_1 W g
      obtain ⟨ρ, hρ⟩ : ∃ ρ, a.eval = ρ := ⟨_, rfl⟩
      rw [hρ] at h7
      refine op_val ρ hρ (.int .i64 T) ?_ ⟨_, rfl, Old.refl _, rfl⟩
      clear g hF hd hρ HK KR KO KE KA ha1 px_pb b_pb pc_pb_0 pc_pb_1 pc_pb_2 
      go_simp
      all_goals (first | (rw [IntKind.wrap_i64]; omega) | (rw [IntKind.wrap_u64]; omega) | omega)
    · intro a W g hF hd
      have e1 := (hF.same 1 slotMd_no1).trans ha1
      obtain ⟨ρ, hρ⟩ : ∃ ρ, a.eval = ρ := ⟨_, rfl⟩
      rw [hρ] at e1
      refine op_val ρ hρ (.pointer (some ⟨pb, 2, none⟩)) ?_ ⟨_, rfl, Old.refl _, rfl⟩
      clear g hF hd hρ HK KR KO KE KA ha1 px_pb b_pb pc_pb_0 pc_pb_1 pc_pb_2 
      go_simp
      all_goals (first | (rw [IntKind.wrap_i64]; omega) | (rw [IntKind.wrap_u64]; omega) | omega)
    · intro a W g hF hd
      have h9 : a.eval (.tmp 12) = .pointer (some ⟨pb, 2, none⟩) := hd ⟨9, .data⟩ (by simp) rfl
      have kk0 := pc_pb_2 W g
      obtain ⟨ρ, hρ⟩ : ∃ ρ, a.eval = ρ := ⟨_, rfl⟩
      rw [hρ] at h9
      refine op_val ρ hρ (.int .i64 E) ?_ ⟨_, rfl, Old.refl _, rfl⟩
      clear g hF hd hρ HK KR KO KE KA ha1 px_pb b_pb pc_pb_0 pc_pb_1 pc_pb_2 
      go_simp
      all_goals (first | (rw [IntKind.wrap_i64]; omega) | (rw [IntKind.wrap_u64]; omega) | omega)
    · intro a W g hF hd
      have h8 : a.eval (.tmp 11) = .int .i64 T := hd ⟨8, .data⟩ (by simp) rfl
      have h10 : a.eval (.tmp 13) = .int .i64 E := hd ⟨10, .data⟩ (by simp) rfl
      obtain ⟨ρ, hρ⟩ : ∃ ρ, a.eval = ρ := ⟨_, rfl⟩
      rw [hρ] at h8 h10
      refine op_val ρ hρ (.int .i64 (T * E)) ?_ ⟨_, rfl, Old.refl _, rfl⟩
      clear g hF hd hρ HK KR KO KE KA ha1 px_pb b_pb pc_pb_0 pc_pb_1 pc_pb_2 
      go_simp
      all_goals (first | (rw [IntKind.wrap_i64]; omega) | (rw [IntKind.wrap_u64]; omega) | omega)
    · intro a W g hF hd
      have e1 := (hF.same 1 slotMd_no1).trans ha1
      obtain ⟨ρ, hρ⟩ : ∃ ρ, a.eval = ρ := ⟨_, rfl⟩
      rw [hρ] at e1
      refine op_val ρ hρ (.pointer (some ⟨pb, 0, none⟩)) ?_ ⟨_, rfl, Old.refl _, rfl⟩
      clear g hF hd hρ HK KR KO KE KA ha1 px_pb b_pb pc_pb_0 pc_pb_1 pc_pb_2 
      go_simp
      all_goals (first | (rw [IntKind.wrap_i64]; omega) | (rw [IntKind.wrap_u64]; omega) | omega)
    · intro a W g hF hd
      have h12 : a.eval (.tmp 15) = .pointer (some ⟨pb, 0, none⟩) := hd ⟨12, .data⟩ (by simp) rfl
      have kk0 := pc_pb_0 W g
      obtain ⟨ρ, hρ⟩ : ∃ ρ, a.eval = ρ := ⟨_, rfl⟩
      rw [hρ] at h12
      refine op_val ρ hρ (.int .i64 N) ?_ ⟨_, rfl, Old.refl _, rfl⟩
      clear g hF hd hρ HK KR KO KE KA ha1 px_pb b_pb pc_pb_0 pc_pb_1 pc_pb_2 
      go_simp
      all_goals (first | (rw [IntKind.wrap_i64]; omega) | (rw [IntKind.wrap_u64]; omega) | omega)
    · intro a W g hF hd
      have c0 : a.eval (.const (.int .i64 2)) = .int .i64 2 := rfl
      have h13 : a.eval (.tmp 16) = .int .i64 N := hd ⟨13, .data⟩ (by simp) rfl
      obtain ⟨ρ, hρ⟩ : ∃ ρ, a.eval = ρ := ⟨_, rfl⟩
      rw [hρ] at c0 h13
      refine op_val ρ hρ (.int .i64 (2 * N)) ?_ ⟨_, rfl, Old.refl _, rfl⟩
      clear g hF hd hρ HK KR KO KE KA ha1 px_pb b_pb pc_pb_0 pc_pb_1 pc_pb_2 
      go_simp
      all_goals (first | (rw [IntKind.wrap_i64]; omega) | (rw [IntKind.wrap_u64]; omega) | omega)
    · intro a W g hF hd
      have h14 : a.eval (.tmp 17) = .int .i64 (2 * N) := hd ⟨14, .data⟩ (by simp) rfl
      have c1 : a.eval (.const (.int .i64 1)) = .int .i64 1 := rfl
      obtain ⟨ρ, hρ⟩ : ∃ ρ, a.eval = ρ := ⟨_, rfl⟩
      rw [hρ] at h14 c1
      refine op_val ρ hρ (.int .i64 ((2 * N) + 1)) ?_ ⟨_, rfl, Old.refl _, rfl⟩
      clear g hF hd hρ HK KR KO KE KA ha1 px_pb b_pb pc_pb_0 pc_pb_1 pc_pb_2 
      go_simp
      all_goals (first | (rw [IntKind.wrap_i64]; omega) | (rw [IntKind.wrap_u64]; omega) | omega)
    · intro a W g hF hd
      have h11 : a.eval (.tmp 14) = .int .i64 (T * E) := hd ⟨11, .data⟩ (by simp) rfl
      have h15 : a.eval (.tmp 18) = .int .i64 ((2 * N) + 1) := hd ⟨15, .data⟩ (by simp) rfl
      obtain ⟨ρ, hρ⟩ : ∃ ρ, a.eval = ρ := ⟨_, rfl⟩
      rw [hρ] at h11 h15
      refine op_val ρ hρ (.int .i64 ((T * E) * ((2 * N) + 1))) ?_ ⟨_, rfl, Old.refl _, rfl⟩
      clear g hF hd hρ HK KR KO KE KA ha1 px_pb b_pb pc_pb_0 pc_pb_1 pc_pb_2 
      go_simp
      all_goals (first | (rw [IntKind.wrap_i64]; omega) | (rw [IntKind.wrap_u64]; omega) | omega)
    · intro a W g hF hd
      have h16 : a.eval (.tmp 19) = .int .i64 ((T * E) * ((2 * N) + 1)) := hd ⟨16, .data⟩ (by simp) rfl
      refine op_call_ret (R := fun v w' => Old W w' ∧ PE w' v) Tryz.call51 (vs := #[.int .i64 ((T * E) * ((2 * N) + 1))]) (by simp [h16]) (KE W g) ?_
      rintro x w' ⟨g', hp⟩
      exact ⟨_, rfl, g', hp⟩
    · intro a W g hF hd
      have p6 : PO W (a.eval (.tmp 9)) := hd ⟨6, .data⟩ (by simp) rfl
      have p17 : PE W (a.eval (.tmp 20)) := hd ⟨17, .data⟩ (by simp) rfl
      refine op_call_ret (R := fun v w' => Old W w' ∧ PS w' v) Tryz.call55 (vs := #[a.eval (.tmp 9), a.eval (.tmp 20)]) (by simp) (KA W g _ _ p6 p17) ?_
      rintro x w' ⟨g', hp⟩
      exact ⟨_, rfl, g', hp⟩
    · intro a W g hF hd
      refine op_assign ?_
      exact ⟨_, rfl, Old.refl _, hd ⟨18, .data⟩ (by simp) rfl⟩
  · intro a W g hF hq
    have hput := fram_put (show Fram 20 slotMd b0 a from hF) (fun i j hi hj => slotMd_inj i hi j hj)
    have hk := HK.out (fun i => a.eval (.tmp (slotMd i))) W g  (hq 19 (by decide))
    rw [← hput] at hk
    exact hk
end Go.Proofs.YtihjndakgncdaaaGreatDoor
/- Proved: drawn regions of the program's bounds. -/
namespace Go.Proofs.YtihjndakgncdaaaGreatDoor
open Go.ChangeShapes Go.WideShapes Go.ChangeAt Go.RowKit
set_option linter.unusedVariables false
set_option linter.unusedSimpArgs false
theorem heap_newA (w : World) (o : Obj) : (w.alloc o).heap[w.heap.size]? = some o := by
  unfold World.alloc
  simp
theorem op_guard {P : Program} {d : Option Tmp} {op : Op} {ty : TypeId} {pos : String} {af : Array Edge} {gd : Option (Nat × Bool)} {a : Act} {W : World} {K : Act → World → Prop} {Q : Exit → Act → World → Prop} (h : Oper.wp P ⟨d, op, ty, pos, af, none⟩ a W K Q) : Oper.wp P ⟨d, op, ty, pos, af, gd⟩ a W K Q := h
def boxS (base : Nat) (W W' : World) : Prop := ∃ (g : Nat) (cs A : Array Value), base ≤ g ∧ W.heap[g]? = some (.cells cs 53 (0, 0)) ∧ A.size = 81 ∧ W' = W.setRow g A
def slotPn (i : Nat) : Nat := [3, 4, 5, 6, 7, 8, 9, 2].getD i 0
theorem slotPn_lt : ∀ i, i < 8 → slotPn i < 10 := by decide
theorem slotPn_inj : ∀ i, i < 8 → ∀ j, j < 8 → slotPn i = slotPn j → i = j := by decide
theorem slotPn_no1 : ∀ i, i < 8 → slotPn i ≠ 1 := by decide
def qPn (N T E : Int) (a3 : Option Addr) (l3 c3 : Nat) (a4 : Option Addr) (l4 c4 : Nat) (a6 : Option Addr) (l6 c6 bx : Nat) (r : Int)  (i : Nat) (W : World) (x : Value) : Prop :=
  match i with
  | 0 => x = .agg #[.int .i64 N, .int .i64 T, .int .i64 E, .slice a3 l3 c3, .slice a4 l4 c4, .bool false, .slice a6 l6 c6]
  | 1 => x = .int .i64 r
  | 2 => x = .pointer (some ⟨bx, 0, none⟩)
  | 3 => x = .pointer (some ⟨bx, 1, none⟩)
  | 4 => x = .int .i64 T
  | 5 => x = .int .i64 (T - 1)
  | 6 => x = .int .i64 (r * (T - 1))
  | 7 => x = .int .i64 (r * (T - 1))
  | _ => True
theorem qPn_old (N T E : Int) (a3 : Option Addr) (l3 c3 : Nat) (a4 : Option Addr) (l4 c4 : Nat) (a6 : Option Addr) (l6 c6 bx : Nat) (r : Int)   (i : Nat) (W W' : World) (x : Value) (h : qPn N T E a3 l3 c3 a4 l4 c4 a6 l6 c6 bx r  i W x) (qo : Old W W') : qPn N T E a3 l3 c3 a4 l4 c4 a6 l6 c6 bx r  i W' x := by
  unfold qPn at h ⊢
  split at h
  all_goals first | exact h | trivial
set_option maxRecDepth 100000 in
set_option maxHeartbeats 8000000 in
theorem reg_Pn (w0 : World) (N T E : Int) (a3 : Option Addr) (l3 c3 : Nat) (a4 : Option Addr) (l4 c4 : Nat) (a6 : Option Addr) (l6 c6 bx : Nat) (r : Int)     (b_bx : w0.heap[bx]? = some (.cells #[.int .i64 N, .int .i64 T, .int .i64 E, .slice a3 l3 c3, .slice a4 l4 c4, .bool false, .slice a6 l6 c6] 48 (0, 0))) 
    (hr : 0 ≤ r ∧ r ≤ 65536) (hT : 2 ≤ T ∧ T ≤ 65536) (hm : 0 ≤ r * (T - 1) ∧ r * (T - 1) ≤ 4611686018427387904)
    (KS : ∀ W, Old w0 W → Calls Tryz.prog 40 #[.agg #[.int .i64 N, .int .i64 T, .int .i64 E, .slice a3 l3 c3, .slice a4 l4 c4, .bool false, .slice a6 l6 c6]] W fun e w' => e = .returned (.int .i64 r) ∧ Old W w')
    (Q : Exit → Act → World → Prop) (b0 : Act) (hsz : b0.tmps.size = 10) (ha1 : b0.eval (.tmp 1) = .pointer (some ⟨bx, 0, none⟩))
    (HK : Hid (∀ (us : Nat → Value) (W : World) , Old w0 W → us 7 = .int .i64 (r * (T - 1)) → Q .normal (putAll b0 ((List.range 8).map fun i => (slotPn i, us i))) W)) :
    Code.wp Tryz.prog ((Tryz.f57.body.bind (regionAtmul 1)).getD .skip) Q b0 w0 := by
  conv => arg 2; whnf
  have px_bx : ∀ W, Old w0 W → W.heap[bx]? = some (.cells #[.int .i64 N, .int .i64 T, .int .i64 E, .slice a3 l3 c3, .slice a4 l4 c4, .bool false, .slice a6 l6 c6] 48 (0, 0)) := fun W g => (g.block bx (lt_of_some b_bx)).trans b_bx
  have pc_bx_1 : ∀ W, Old w0 W → W.cell? ⟨bx, 1, none⟩ = some (.int .i64 T) := fun W g => cell_of_row W bx 1 _ _ (0, 0) (px_bx W g)
  refine wp_region_old (by kernel_rfl) (by kernel_rfl) (by kernel_rfl) slotPn (fun i hi => by rw [hsz]; exact slotPn_lt i hi) (fun i j hi hj => slotPn_inj i hi j hj) (qPn N T E a3 l3 c3 a4 l4 c4 a6 l6 c6 bx r  ) (qPn_old N T E a3 l3 c3 a4 l4 c4 a6 l6 c6 bx r  ) ?_ ?_
  · refine ⟨?_, ?_, ?_, ?_, ?_, ?_, ?_, ?_, trivial⟩
    · intro a W g hF hd
      have e1 := (hF.same 1 slotPn_no1).trans ha1
      refine op_load (k := bx) e1 (px_bx W g) Tryz.underlying48 rfl (by kernel_rfl) ?_
      exact ⟨_, rfl, Old.refl _, rfl⟩
    · intro a W g hF hd
      have h0 : a.eval (.tmp 3) = .agg #[.int .i64 N, .int .i64 T, .int .i64 E, .slice a3 l3 c3, .slice a4 l4 c4, .bool false, .slice a6 l6 c6] := hd ⟨0, .data⟩ (by simp) rfl
      refine op_call_ret (R := fun v w' => v = .int .i64 r ∧ Old W w') Tryz.call40 (vs := #[.agg #[.int .i64 N, .int .i64 T, .int .i64 E, .slice a3 l3 c3, .slice a4 l4 c4, .bool false, .slice a6 l6 c6]]) (by simp [h0]) ((KS W g).mono fun e w' h => ⟨_, h.1, rfl, h.2⟩) ?_
      rintro x w' ⟨rfl, g'⟩
      exact ⟨_, rfl, g', rfl⟩
    · intro a W g hF hd
      have e1 := (hF.same 1 slotPn_no1).trans ha1
      obtain ⟨ρ, hρ⟩ : ∃ ρ, a.eval = ρ := ⟨_, rfl⟩
      rw [hρ] at e1
      refine op_val ρ hρ (.pointer (some ⟨bx, 0, none⟩)) ?_ ⟨_, rfl, Old.refl _, rfl⟩
      clear g hF hd hρ HK KS ha1 px_bx b_bx pc_bx_1 
      go_simp
      all_goals (first | (rw [IntKind.wrap_i64]; omega) | (rw [IntKind.wrap_u64]; omega) | omega)
    · intro a W g hF hd
      have h2 : a.eval (.tmp 5) = .pointer (some ⟨bx, 0, none⟩) := hd ⟨2, .data⟩ (by simp) rfl
      obtain ⟨ρ, hρ⟩ : ∃ ρ, a.eval = ρ := ⟨_, rfl⟩
      rw [hρ] at h2
      refine op_val ρ hρ (.pointer (some ⟨bx, 1, none⟩)) ?_ ⟨_, rfl, Old.refl _, rfl⟩
      clear g hF hd hρ HK KS ha1 px_bx b_bx pc_bx_1 
      go_simp
      all_goals (first | (rw [IntKind.wrap_i64]; omega) | (rw [IntKind.wrap_u64]; omega) | omega)
    · intro a W g hF hd
      have h3 : a.eval (.tmp 6) = .pointer (some ⟨bx, 1, none⟩) := hd ⟨3, .data⟩ (by simp) rfl
      have kk0 := pc_bx_1 W g
      obtain ⟨ρ, hρ⟩ : ∃ ρ, a.eval = ρ := ⟨_, rfl⟩
      rw [hρ] at h3
      refine op_val ρ hρ (.int .i64 T) ?_ ⟨_, rfl, Old.refl _, rfl⟩
      clear g hF hd hρ HK KS ha1 px_bx b_bx pc_bx_1 
      go_simp
      all_goals (first | (rw [IntKind.wrap_i64]; omega) | (rw [IntKind.wrap_u64]; omega) | omega)
    · intro a W g hF hd
      have h4 : a.eval (.tmp 7) = .int .i64 T := hd ⟨4, .data⟩ (by simp) rfl
      have c1 : a.eval (.const (.int .i64 1)) = .int .i64 1 := rfl
      obtain ⟨ρ, hρ⟩ : ∃ ρ, a.eval = ρ := ⟨_, rfl⟩
      rw [hρ] at h4 c1
      refine op_val ρ hρ (.int .i64 (T - 1)) ?_ ⟨_, rfl, Old.refl _, rfl⟩
      clear g hF hd hρ HK KS ha1 px_bx b_bx pc_bx_1 
      go_simp
      all_goals (first | (rw [IntKind.wrap_i64]; omega) | (rw [IntKind.wrap_u64]; omega) | omega)
    · intro a W g hF hd
      have h1 : a.eval (.tmp 4) = .int .i64 r := hd ⟨1, .data⟩ (by simp) rfl
      have h5 : a.eval (.tmp 8) = .int .i64 (T - 1) := hd ⟨5, .data⟩ (by simp) rfl
      obtain ⟨ρ, hρ⟩ : ∃ ρ, a.eval = ρ := ⟨_, rfl⟩
      rw [hρ] at h1 h5
      refine op_val ρ hρ (.int .i64 (r * (T - 1))) ?_ ⟨_, rfl, Old.refl _, rfl⟩
      clear g hF hd hρ HK KS ha1 px_bx b_bx pc_bx_1 
      go_simp
      all_goals (first | (rw [IntKind.wrap_i64]; omega) | (rw [IntKind.wrap_u64]; omega) | omega)
    · intro a W g hF hd
      refine op_assign ?_
      exact ⟨_, rfl, Old.refl _, hd ⟨6, .data⟩ (by simp) rfl⟩
  · intro a W g hF hq
    have hput := fram_put (show Fram 8 slotPn b0 a from hF) (fun i j hi hj => slotPn_inj i hi j hj)
    have hk := HK.out (fun i => a.eval (.tmp (slotPn i))) W g  (hq 7 (by decide))
    rw [← hput] at hk
    exact hk
def slotRa (i : Nat) : Nat := [7, 8, 9, 10, 11, 12, 13].getD i 0
theorem slotRa_lt : ∀ i, i < 7 → slotRa i < 14 := by decide
theorem slotRa_inj : ∀ i, i < 7 → ∀ j, j < 7 → slotRa i = slotRa j → i = j := by decide
theorem slotRa_no2 : ∀ i, i < 7 → slotRa i ≠ 2 := by decide
theorem slotRa_no3 : ∀ i, i < 7 → slotRa i ≠ 3 := by decide
theorem slotRa_no4 : ∀ i, i < 7 → slotRa i ≠ 4 := by decide
theorem slotRa_no6 : ∀ i, i < 7 → slotRa i ≠ 6 := by decide
def qRa (N T E : Int) (a3 : Option Addr) (l3 c3 : Nat) (a4 : Option Addr) (l4 c4 : Nat) (a6 : Option Addr) (l6 c6 bx : Nat) (rb sb : Nat) (S0 S1 S2 SR Z : Array Value) (k : Int)  (i : Nat) (W : World) (x : Value) : Prop :=
  match i with
  | 0 => x = .agg #[.int .i64 N, .int .i64 T, .int .i64 E, .slice a3 l3 c3, .slice a4 l4 c4, .bool false, .slice a6 l6 c6]
  | 1 => x = .agg S0
  | 2 => x = .int .i64 k
  | 3 => x = .int .u64 k
  | 4 => x = .agg S1
  | 5 => x = .agg S2
  | 6 => x = .agg SR
  | _ => True
theorem qRa_old (N T E : Int) (a3 : Option Addr) (l3 c3 : Nat) (a4 : Option Addr) (l4 c4 : Nat) (a6 : Option Addr) (l6 c6 bx : Nat) (rb sb : Nat) (S0 S1 S2 SR Z : Array Value) (k : Int)   (i : Nat) (W W' : World) (x : Value) (h : qRa N T E a3 l3 c3 a4 l4 c4 a6 l6 c6 bx rb sb S0 S1 S2 SR Z k  i W x) (qo : Old W W') : qRa N T E a3 l3 c3 a4 l4 c4 a6 l6 c6 bx rb sb S0 S1 S2 SR Z k  i W' x := by
  unfold qRa at h ⊢
  split at h
  all_goals first | exact h | trivial
set_option maxRecDepth 100000 in
set_option maxHeartbeats 8000000 in
theorem reg_Ra (w0 : World) (N T E : Int) (a3 : Option Addr) (l3 c3 : Nat) (a4 : Option Addr) (l4 c4 : Nat) (a6 : Option Addr) (l6 c6 bx : Nat) (rb sb : Nat) (S0 S1 S2 SR Z : Array Value) (k : Int)     (b_bx : w0.heap[bx]? = some (.cells #[.int .i64 N, .int .i64 T, .int .i64 E, .slice a3 l3 c3, .slice a4 l4 c4, .bool false, .slice a6 l6 c6] 48 (0, 0))) (b_rb : w0.heap[rb]? = some (.cells Z 53 (0, 0))) (hS_rb : Z.size = 81) (b_sb : w0.heap[sb]? = some (.cells S0 53 (0, 0))) (hS_sb : S0.size = 81) (hZ_SR : (SR).size = 81 ∧ (SR).all (·.oneCell') = true)
    (hk : 0 ≤ k ∧ k ≤ 4611686018427387904)
    (KO : ∀ W, Old w0 W → Calls Tryz.prog 39 #[.int .u64 k] W fun e w' => e = .returned (.agg S1) ∧ Old W w')
    (KA : ∀ W, Old w0 W → Calls Tryz.prog 62 #[.agg S0, .agg S1] W fun e w' => e = .returned (.agg S2) ∧ Old W w')
    (KC : ∀ W, Old w0 W → Calls Tryz.prog 80 #[.agg #[.int .i64 N, .int .i64 T, .int .i64 E, .slice a3 l3 c3, .slice a4 l4 c4, .bool false, .slice a6 l6 c6], .agg S2] W fun e w' => e = .returned (.agg SR) ∧ Old W w')
    (Q : Exit → Act → World → Prop) (b0 : Act) (hsz : b0.tmps.size = 14) (ha2 : b0.eval (.tmp 2) = .int .i64 k) (ha3 : b0.eval (.tmp 3) = .pointer (some ⟨bx, 0, none⟩)) (ha4 : b0.eval (.tmp 4) = .pointer (some ⟨sb, 0, none⟩)) (ha6 : b0.eval (.tmp 6) = .pointer (some ⟨rb, 0, none⟩))
    (HK : Hid (∀ (us : Nat → Value) (W : World) , Old w0 W → Q .normal (putAll b0 ((List.range 7).map fun i => (slotRa i, us i))) (W.setRow rb SR))) :
    Code.wp Tryz.prog ((Tryz.f56.body.bind (regionAtmul 1)).getD .skip) Q b0 w0 := by
  conv => arg 2; whnf
  have px_bx : ∀ W, Old w0 W → W.heap[bx]? = some (.cells #[.int .i64 N, .int .i64 T, .int .i64 E, .slice a3 l3 c3, .slice a4 l4 c4, .bool false, .slice a6 l6 c6] 48 (0, 0)) := fun W g => (g.block bx (lt_of_some b_bx)).trans b_bx
  have px_rb : ∀ W, Old w0 W → W.heap[rb]? = some (.cells Z 53 (0, 0)) := fun W g => (g.block rb (lt_of_some b_rb)).trans b_rb
  have px_sb : ∀ W, Old w0 W → W.heap[sb]? = some (.cells S0 53 (0, 0)) := fun W g => (g.block sb (lt_of_some b_sb)).trans b_sb
  refine wp_region_tailG 7 (by decide) (by kernel_rfl) (by kernel_rfl) (by kernel_rfl) (by kernel_rfl) (by kernel_rfl) slotRa (fun i hi => by rw [hsz]; exact slotRa_lt i hi) (fun i j hi hj => slotRa_inj i hi j hj) (qRa N T E a3 l3 c3 a4 l4 c4 a6 l6 c6 bx rb sb S0 S1 S2 SR Z k  ) (qRa_old N T E a3 l3 c3 a4 l4 c4 a6 l6 c6 bx rb sb S0 S1 S2 SR Z k  ) [] (fun i W v hi hq => by cases hi) ?_ ?_
  · refine ⟨?_, ?_, ?_, ?_, ?_, ?_, ?_, trivial⟩
    · intro a W g hF hd
      refine ⟨fun _ => ?_, fun h => by rw [wanted_none rfl] at h; cases h⟩
      have e3 := (hF.same 3 slotRa_no3).trans ha3
      refine op_load (k := bx) e3 (px_bx W g) Tryz.underlying48 rfl (by kernel_rfl) ?_
      exact ⟨_, rfl, Old.refl _, rfl, (fun h => absurd h (by decide))⟩
    · intro a W g hF hd
      refine ⟨fun _ => ?_, fun h => by rw [wanted_none rfl] at h; cases h⟩
      have e4 := (hF.same 4 slotRa_no4).trans ha4
      refine op_load (k := sb) e4 (px_sb W g) Tryz.underlying53 rfl (by rw [hS_sb]; exact infoSz) ?_
      exact ⟨_, rfl, Old.refl _, rfl, (fun h => absurd h (by decide))⟩
    · intro a W g hF hd
      refine ⟨fun _ => ?_, fun h => by rw [wanted_none rfl] at h; cases h⟩
      have e2 := (hF.same 2 slotRa_no2).trans ha2
      refine op_move ?_
      exact ⟨_, rfl, Old.refl _, e2, (fun h => absurd h (by decide))⟩
    · intro a W g hF hd
      refine ⟨fun _ => ?_, fun h => by rw [wanted_none rfl] at h; cases h⟩
      have h2 : a.eval (.tmp 9) = .int .i64 k := hd ⟨2, .data⟩ (by simp) rfl
      obtain ⟨ρ, hρ⟩ : ∃ ρ, a.eval = ρ := ⟨_, rfl⟩
      rw [hρ] at h2
      refine op_val ρ hρ (.int .u64 k) ?_ ⟨_, rfl, Old.refl _, rfl, (fun h => absurd h (by decide))⟩
      clear g hF hd hρ HK KO KA KC ha2 ha3 ha4 ha6 px_bx b_bx px_rb b_rb px_sb b_sb  
      go_simp
      all_goals (first | (rw [IntKind.wrap_i64]; omega) | (rw [IntKind.wrap_u64]; omega) | omega)
    · intro a W g hF hd
      refine ⟨fun _ => ?_, fun h => by rw [wanted_none rfl] at h; cases h⟩
      have h3 : a.eval (.tmp 10) = .int .u64 k := hd ⟨3, .data⟩ (by simp) rfl
      refine op_call_ret (R := fun v w' => v = .agg S1 ∧ Old W w') Tryz.call39 (vs := #[.int .u64 k]) (by simp [h3]) ((KO W g).mono fun e w' h => ⟨_, h.1, rfl, h.2⟩) ?_
      rintro x w' ⟨rfl, g'⟩
      exact ⟨_, rfl, g', rfl, (fun h => absurd h (by decide))⟩
    · intro a W g hF hd
      refine ⟨fun _ => ?_, fun h => by rw [wanted_none rfl] at h; cases h⟩
      have h1 : a.eval (.tmp 8) = .agg S0 := hd ⟨1, .data⟩ (by simp) rfl
      have h4 : a.eval (.tmp 11) = .agg S1 := hd ⟨4, .data⟩ (by simp) rfl
      refine op_call_ret (R := fun v w' => v = .agg S2 ∧ Old W w') Tryz.call62 (vs := #[.agg S0, .agg S1]) (by simp [h1, h4]) ((KA W g).mono fun e w' h => ⟨_, h.1, rfl, h.2⟩) ?_
      rintro x w' ⟨rfl, g'⟩
      exact ⟨_, rfl, g', rfl, (fun h => absurd h (by decide))⟩
    · intro a W g hF hd
      refine ⟨fun _ => ?_, fun h => by rw [wanted_none rfl] at h; cases h⟩
      have h0 : a.eval (.tmp 7) = .agg #[.int .i64 N, .int .i64 T, .int .i64 E, .slice a3 l3 c3, .slice a4 l4 c4, .bool false, .slice a6 l6 c6] := hd ⟨0, .data⟩ (by simp) rfl
      have h5 : a.eval (.tmp 12) = .agg S2 := hd ⟨5, .data⟩ (by simp) rfl
      refine op_call_ret (R := fun v w' => v = .agg SR ∧ Old W w') Tryz.call80 (vs := #[.agg #[.int .i64 N, .int .i64 T, .int .i64 E, .slice a3 l3 c3, .slice a4 l4 c4, .bool false, .slice a6 l6 c6], .agg S2]) (by simp [h0, h5]) ((KC W g).mono fun e w' h => ⟨_, h.1, rfl, h.2⟩) ?_
      rintro x w' ⟨rfl, g'⟩
      exact ⟨_, rfl, g', rfl, (fun h => absurd h (by decide))⟩
  · intro a W g hF hq hne
    have hput := fram_put (show Fram 7 slotRa b0 a from hF) (fun i j hi hj => slotRa_inj i hi j hj)
    have hk := HK.out (fun i => a.eval (.tmp (slotRa i))) W g  
    rw [← hput] at hk
    refine op_store (k := rb) ((hF.same 6 slotRa_no6).trans ha6) (show a.eval (.tmp 13) = .agg SR from hq 6 (by decide)) (px_rb W g) (by rw [hZ_SR.1]; exact infoSz) (by rw [hZ_SR.1]; exact hS_rb) hZ_SR.2 ?_
    show tailWp _ _ _ _ _
    exact hk
end Go.Proofs.YtihjndakgncdaaaGreatDoor
/- Proved: drawn regions of the program's bounds. -/
namespace Go.Proofs.YtihjndakgncdaaaGreatDoor
open Go.ChangeShapes Go.WideShapes Go.ChangeAt Go.RowKit
set_option linter.unusedVariables false
set_option linter.unusedSimpArgs false
def slotFr (i : Nat) : Nat := [3, 4, 5, 6, 7, 8, 9, 10, 11, 12, 13, 14, 15, 16, 17, 18, 19, 20, 21].getD i 0
theorem slotFr_lt : ∀ i, i < 19 → slotFr i < 22 := by decide
theorem slotFr_inj : ∀ i, i < 19 → ∀ j, j < 19 → slotFr i = slotFr j → i = j := by decide
theorem slotFr_no1 : ∀ i, i < 19 → slotFr i ≠ 1 := by decide
theorem slotFr_no2 : ∀ i, i < 19 → slotFr i ≠ 2 := by decide
def qFr (N T E : Int) (a3 : Option Addr) (l3 c3 : Nat) (a4 : Option Addr) (l4 c4 : Nat) (a6 : Option Addr) (l6 c6 bx : Nat) (rb : Nat) (S1 SR Z : Array Value) (m : Int)  (i : Nat) (W : World) (x : Value) : Prop :=
  match i with
  | 0 => x = .agg #[.int .i64 N, .int .i64 T, .int .i64 E, .slice a3 l3 c3, .slice a4 l4 c4, .bool false, .slice a6 l6 c6]
  | 1 => x = .agg #[.int .i64 N, .int .i64 T, .int .i64 E, .slice a3 l3 c3, .slice a4 l4 c4, .bool false, .slice a6 l6 c6]
  | 2 => x = .int .i64 m
  | 3 => x = .int .u64 m
  | 4 => x = .agg S1
  | 5 => x = .pointer (some ⟨bx, 0, none⟩)
  | 6 => x = .pointer (some ⟨bx, 1, none⟩)
  | 7 => x = .int .i64 T
  | 8 => x = .pointer (some ⟨bx, 0, none⟩)
  | 9 => x = .pointer (some ⟨bx, 2, none⟩)
  | 10 => x = .int .i64 E
  | 11 => x = .int .i64 (T * E)
  | 12 => x = .pointer (some ⟨bx, 0, none⟩)
  | 13 => x = .pointer (some ⟨bx, 0, none⟩)
  | 14 => x = .int .i64 N
  | 15 => x = .int .i64 (2 * N)
  | 16 => x = .int .i64 ((2 * N) + 1)
  | 17 => x = .int .i64 ((T * E) * ((2 * N) + 1))
  | 18 => x = .agg SR
  | _ => True
theorem qFr_old (N T E : Int) (a3 : Option Addr) (l3 c3 : Nat) (a4 : Option Addr) (l4 c4 : Nat) (a6 : Option Addr) (l6 c6 bx : Nat) (rb : Nat) (S1 SR Z : Array Value) (m : Int)   (i : Nat) (W W' : World) (x : Value) (h : qFr N T E a3 l3 c3 a4 l4 c4 a6 l6 c6 bx rb S1 SR Z m  i W x) (qo : Old W W') : qFr N T E a3 l3 c3 a4 l4 c4 a6 l6 c6 bx rb S1 SR Z m  i W' x := by
  unfold qFr at h ⊢
  split at h
  all_goals first | exact h | trivial
set_option maxRecDepth 100000 in
set_option maxHeartbeats 8000000 in
theorem reg_Fr (w0 : World) (N T E : Int) (a3 : Option Addr) (l3 c3 : Nat) (a4 : Option Addr) (l4 c4 : Nat) (a6 : Option Addr) (l6 c6 bx : Nat) (rb : Nat) (S1 SR Z : Array Value) (m : Int)     (b_bx : w0.heap[bx]? = some (.cells #[.int .i64 N, .int .i64 T, .int .i64 E, .slice a3 l3 c3, .slice a4 l4 c4, .bool false, .slice a6 l6 c6] 48 (0, 0))) (b_rb : w0.heap[rb]? = some (.cells Z 53 (0, 0))) (hS_rb : Z.size = 81) (hZ_SR : (SR).size = 81 ∧ (SR).all (·.oneCell') = true)
    (hN : 2 ≤ N ∧ N ≤ 16) (hm : 0 ≤ m ∧ m ≤ 4611686018427387904) (hTE : 0 ≤ T * E ∧ T * E ≤ 1048576) (hX : 0 ≤ T * E * (2 * N + 1) ∧ T * E * (2 * N + 1) ≤ 34603008)
    (KP : ∀ W, Old w0 W → Calls Tryz.prog 57 #[.agg #[.int .i64 N, .int .i64 T, .int .i64 E, .slice a3 l3 c3, .slice a4 l4 c4, .bool false, .slice a6 l6 c6]] W fun e w' => e = .returned (.int .i64 m) ∧ Old W w')
    (KO : ∀ W, Old w0 W → Calls Tryz.prog 39 #[.int .u64 m] W fun e w' => e = .returned (.agg S1) ∧ Old W w')
    (KR : ∀ W, Old w0 W → Calls Tryz.prog 56 #[.agg #[.int .i64 N, .int .i64 T, .int .i64 E, .slice a3 l3 c3, .slice a4 l4 c4, .bool false, .slice a6 l6 c6], .agg S1, .int .i64 ((T * E) * ((2 * N) + 1))] W fun e w' => e = .returned (.agg SR) ∧ Old W w')
    (Q : Exit → Act → World → Prop) (b0 : Act) (hsz : b0.tmps.size = 22) (ha1 : b0.eval (.tmp 1) = .pointer (some ⟨bx, 0, none⟩)) (ha2 : b0.eval (.tmp 2) = .pointer (some ⟨rb, 0, none⟩))
    (HK : Hid (∀ (us : Nat → Value) (W : World) , Old w0 W → Q .normal (putAll b0 ((List.range 19).map fun i => (slotFr i, us i))) (W.setRow rb SR))) :
    Code.wp Tryz.prog ((Tryz.f28.body.bind (regionAtmul 1)).getD .skip) Q b0 w0 := by
  conv => arg 2; whnf
  have px_bx : ∀ W, Old w0 W → W.heap[bx]? = some (.cells #[.int .i64 N, .int .i64 T, .int .i64 E, .slice a3 l3 c3, .slice a4 l4 c4, .bool false, .slice a6 l6 c6] 48 (0, 0)) := fun W g => (g.block bx (lt_of_some b_bx)).trans b_bx
  have px_rb : ∀ W, Old w0 W → W.heap[rb]? = some (.cells Z 53 (0, 0)) := fun W g => (g.block rb (lt_of_some b_rb)).trans b_rb
  have pc_bx_0 : ∀ W, Old w0 W → W.cell? ⟨bx, 0, none⟩ = some (.int .i64 N) := fun W g => cell_of_row W bx 0 _ _ (0, 0) (px_bx W g)
  have pc_bx_1 : ∀ W, Old w0 W → W.cell? ⟨bx, 1, none⟩ = some (.int .i64 T) := fun W g => cell_of_row W bx 1 _ _ (0, 0) (px_bx W g)
  have pc_bx_2 : ∀ W, Old w0 W → W.cell? ⟨bx, 2, none⟩ = some (.int .i64 E) := fun W g => cell_of_row W bx 2 _ _ (0, 0) (px_bx W g)
  refine wp_region_tailG 19 (by decide) (by kernel_rfl) (by kernel_rfl) (by kernel_rfl) (by kernel_rfl) (by kernel_rfl) slotFr (fun i hi => by rw [hsz]; exact slotFr_lt i hi) (fun i j hi hj => slotFr_inj i hi j hj) (qFr N T E a3 l3 c3 a4 l4 c4 a6 l6 c6 bx rb S1 SR Z m  ) (qFr_old N T E a3 l3 c3 a4 l4 c4 a6 l6 c6 bx rb S1 SR Z m  ) [] (fun i W v hi hq => by cases hi) ?_ ?_
  · refine ⟨?_, ?_, ?_, ?_, ?_, ?_, ?_, ?_, ?_, ?_, ?_, ?_, ?_, ?_, ?_, ?_, ?_, ?_, ?_, trivial⟩
    · intro a W g hF hd
      refine ⟨fun _ => ?_, fun h => by rw [wanted_none rfl] at h; cases h⟩
      have e1 := (hF.same 1 slotFr_no1).trans ha1
      refine op_load (k := bx) e1 (px_bx W g) Tryz.underlying48 rfl (by kernel_rfl) ?_
      exact ⟨_, rfl, Old.refl _, rfl, (fun h => absurd h (by decide))⟩
    · intro a W g hF hd
      refine ⟨fun _ => ?_, fun h => by rw [wanted_none rfl] at h; cases h⟩
      have e1 := (hF.same 1 slotFr_no1).trans ha1
      refine op_load (k := bx) e1 (px_bx W g) Tryz.underlying48 rfl (by kernel_rfl) ?_
      exact ⟨_, rfl, Old.refl _, rfl, (fun h => absurd h (by decide))⟩
    · intro a W g hF hd
      refine ⟨fun _ => ?_, fun h => by rw [wanted_none rfl] at h; cases h⟩
      have h1 : a.eval (.tmp 4) = .agg #[.int .i64 N, .int .i64 T, .int .i64 E, .slice a3 l3 c3, .slice a4 l4 c4, .bool false, .slice a6 l6 c6] := hd ⟨1, .data⟩ (by simp) rfl
      refine op_call_ret (R := fun v w' => v = .int .i64 m ∧ Old W w') Tryz.call57 (vs := #[.agg #[.int .i64 N, .int .i64 T, .int .i64 E, .slice a3 l3 c3, .slice a4 l4 c4, .bool false, .slice a6 l6 c6]]) (by simp [h1]) ((KP W g).mono fun e w' h => ⟨_, h.1, rfl, h.2⟩) ?_
      rintro x w' ⟨rfl, g'⟩
      exact ⟨_, rfl, g', rfl, (fun h => absurd h (by decide))⟩
    · intro a W g hF hd
      refine ⟨fun _ => ?_, fun h => by rw [wanted_none rfl] at h; cases h⟩
      have h2 : a.eval (.tmp 5) = .int .i64 m := hd ⟨2, .data⟩ (by simp) rfl
      obtain ⟨ρ, hρ⟩ : ∃ ρ, a.eval = ρ := ⟨_, rfl⟩
      rw [hρ] at h2
      refine op_val ρ hρ (.int .u64 m) ?_ ⟨_, rfl, Old.refl _, rfl, (fun h => absurd h (by decide))⟩
      clear g hF hd hρ HK KP KO KR ha1 ha2 px_bx b_bx px_rb b_rb pc_bx_0 pc_bx_1 pc_bx_2 
      go_simp
      all_goals (first | (rw [IntKind.wrap_i64]; omega) | (rw [IntKind.wrap_u64]; omega) | omega)
    · intro a W g hF hd
      refine ⟨fun _ => ?_, fun h => by rw [wanted_none rfl] at h; cases h⟩
      have h3 : a.eval (.tmp 6) = .int .u64 m := hd ⟨3, .data⟩ (by simp) rfl
      refine op_call_ret (R := fun v w' => v = .agg S1 ∧ Old W w') Tryz.call39 (vs := #[.int .u64 m]) (by simp [h3]) ((KO W g).mono fun e w' h => ⟨_, h.1, rfl, h.2⟩) ?_
      rintro x w' ⟨rfl, g'⟩
      exact ⟨_, rfl, g', rfl, (fun h => absurd h (by decide))⟩
    · intro a W g hF hd
      refine ⟨fun _ => ?_, fun h => by rw [wanted_none rfl] at h; cases h⟩
      have e1 := (hF.same 1 slotFr_no1).trans ha1
      obtain ⟨ρ, hρ⟩ : ∃ ρ, a.eval = ρ := ⟨_, rfl⟩
      rw [hρ] at e1
      refine op_val ρ hρ (.pointer (some ⟨bx, 0, none⟩)) ?_ ⟨_, rfl, Old.refl _, rfl, (fun h => absurd h (by decide))⟩
      clear g hF hd hρ HK KP KO KR ha1 ha2 px_bx b_bx px_rb b_rb pc_bx_0 pc_bx_1 pc_bx_2 
      go_simp
      all_goals (first | (rw [IntKind.wrap_i64]; omega) | (rw [IntKind.wrap_u64]; omega) | omega)
    · intro a W g hF hd
      refine ⟨fun _ => ?_, fun h => by rw [wanted_none rfl] at h; cases h⟩
      have h5 : a.eval (.tmp 8) = .pointer (some ⟨bx, 0, none⟩) := hd ⟨5, .data⟩ (by simp) rfl
      obtain ⟨ρ, hρ⟩ : ∃ ρ, a.eval = ρ := ⟨_, rfl⟩
      rw [hρ] at h5
      refine op_val ρ hρ (.pointer (some ⟨bx, 1, none⟩)) ?_ ⟨_, rfl, Old.refl _, rfl, (fun h => absurd h (by decide))⟩
      clear g hF hd hρ HK KP KO KR ha1 ha2 px_bx b_bx px_rb b_rb pc_bx_0 pc_bx_1 pc_bx_2 
      go_simp
      all_goals (first | (rw [IntKind.wrap_i64]; omega) | (rw [IntKind.wrap_u64]; omega) | omega)
    · intro a W g hF hd
      refine ⟨fun _ => ?_, fun h => by rw [wanted_none rfl] at h; cases h⟩
      have h6 : a.eval (.tmp 9) = .pointer (some ⟨bx, 1, none⟩) := hd ⟨6, .data⟩ (by simp) rfl
      have kk0 := pc_bx_1 W g
      obtain ⟨ρ, hρ⟩ : ∃ ρ, a.eval = ρ := ⟨_, rfl⟩
      rw [hρ] at h6
      refine op_val ρ hρ (.int .i64 T) ?_ ⟨_, rfl, Old.refl _, rfl, (fun h => absurd h (by decide))⟩
      clear g hF hd hρ HK KP KO KR ha1 ha2 px_bx b_bx px_rb b_rb pc_bx_0 pc_bx_1 pc_bx_2 
      go_simp
      all_goals (first | (rw [IntKind.wrap_i64]; omega) | (rw [IntKind.wrap_u64]; omega) | omega)
    · intro a W g hF hd
      refine ⟨fun _ => ?_, fun h => by rw [wanted_none rfl] at h; cases h⟩
      have e1 := (hF.same 1 slotFr_no1).trans ha1
      obtain ⟨ρ, hρ⟩ : ∃ ρ, a.eval = ρ := ⟨_, rfl⟩
      rw [hρ] at e1
      refine op_val ρ hρ (.pointer (some ⟨bx, 0, none⟩)) ?_ ⟨_, rfl, Old.refl _, rfl, (fun h => absurd h (by decide))⟩
      clear g hF hd hρ HK KP KO KR ha1 ha2 px_bx b_bx px_rb b_rb pc_bx_0 pc_bx_1 pc_bx_2 
      go_simp
      all_goals (first | (rw [IntKind.wrap_i64]; omega) | (rw [IntKind.wrap_u64]; omega) | omega)
    · intro a W g hF hd
      refine ⟨fun _ => ?_, fun h => by rw [wanted_none rfl] at h; cases h⟩
      have h8 : a.eval (.tmp 11) = .pointer (some ⟨bx, 0, none⟩) := hd ⟨8, .data⟩ (by simp) rfl
      obtain ⟨ρ, hρ⟩ : ∃ ρ, a.eval = ρ := ⟨_, rfl⟩
      rw [hρ] at h8
      refine op_val ρ hρ (.pointer (some ⟨bx, 2, none⟩)) ?_ ⟨_, rfl, Old.refl _, rfl, (fun h => absurd h (by decide))⟩
      clear g hF hd hρ HK KP KO KR ha1 ha2 px_bx b_bx px_rb b_rb pc_bx_0 pc_bx_1 pc_bx_2 
      go_simp
      all_goals (first | (rw [IntKind.wrap_i64]; omega) | (rw [IntKind.wrap_u64]; omega) | omega)
    · intro a W g hF hd
      refine ⟨fun _ => ?_, fun h => by rw [wanted_none rfl] at h; cases h⟩
      have h9 : a.eval (.tmp 12) = .pointer (some ⟨bx, 2, none⟩) := hd ⟨9, .data⟩ (by simp) rfl
      have kk0 := pc_bx_2 W g
      obtain ⟨ρ, hρ⟩ : ∃ ρ, a.eval = ρ := ⟨_, rfl⟩
      rw [hρ] at h9
      refine op_val ρ hρ (.int .i64 E) ?_ ⟨_, rfl, Old.refl _, rfl, (fun h => absurd h (by decide))⟩
      clear g hF hd hρ HK KP KO KR ha1 ha2 px_bx b_bx px_rb b_rb pc_bx_0 pc_bx_1 pc_bx_2 
      go_simp
      all_goals (first | (rw [IntKind.wrap_i64]; omega) | (rw [IntKind.wrap_u64]; omega) | omega)
    · intro a W g hF hd
      refine ⟨fun _ => ?_, fun h => by rw [wanted_none rfl] at h; cases h⟩
      have h7 : a.eval (.tmp 10) = .int .i64 T := hd ⟨7, .data⟩ (by simp) rfl
      have h10 : a.eval (.tmp 13) = .int .i64 E := hd ⟨10, .data⟩ (by simp) rfl
      obtain ⟨ρ, hρ⟩ : ∃ ρ, a.eval = ρ := ⟨_, rfl⟩
      rw [hρ] at h7 h10
      refine op_val ρ hρ (.int .i64 (T * E)) ?_ ⟨_, rfl, Old.refl _, rfl, (fun h => absurd h (by decide))⟩
      clear g hF hd hρ HK KP KO KR ha1 ha2 px_bx b_bx px_rb b_rb pc_bx_0 pc_bx_1 pc_bx_2 
      go_simp
      all_goals (first | (rw [IntKind.wrap_i64]; omega) | (rw [IntKind.wrap_u64]; omega) | omega)
    · intro a W g hF hd
      refine ⟨fun _ => ?_, fun h => by rw [wanted_none rfl] at h; cases h⟩
      have e1 := (hF.same 1 slotFr_no1).trans ha1
      obtain ⟨ρ, hρ⟩ : ∃ ρ, a.eval = ρ := ⟨_, rfl⟩
      rw [hρ] at e1
      refine op_val ρ hρ (.pointer (some ⟨bx, 0, none⟩)) ?_ ⟨_, rfl, Old.refl _, rfl, (fun h => absurd h (by decide))⟩
      clear g hF hd hρ HK KP KO KR ha1 ha2 px_bx b_bx px_rb b_rb pc_bx_0 pc_bx_1 pc_bx_2 
      go_simp
      all_goals (first | (rw [IntKind.wrap_i64]; omega) | (rw [IntKind.wrap_u64]; omega) | omega)
    · intro a W g hF hd
      refine ⟨fun _ => ?_, fun h => by rw [wanted_none rfl] at h; cases h⟩
      have h12 : a.eval (.tmp 15) = .pointer (some ⟨bx, 0, none⟩) := hd ⟨12, .data⟩ (by simp) rfl
      obtain ⟨ρ, hρ⟩ : ∃ ρ, a.eval = ρ := ⟨_, rfl⟩
      rw [hρ] at h12
      refine op_val ρ hρ (.pointer (some ⟨bx, 0, none⟩)) ?_ ⟨_, rfl, Old.refl _, rfl, (fun h => absurd h (by decide))⟩
      clear g hF hd hρ HK KP KO KR ha1 ha2 px_bx b_bx px_rb b_rb pc_bx_0 pc_bx_1 pc_bx_2 
      go_simp
      all_goals (first | (rw [IntKind.wrap_i64]; omega) | (rw [IntKind.wrap_u64]; omega) | omega)
    · intro a W g hF hd
      refine ⟨fun _ => ?_, fun h => by rw [wanted_none rfl] at h; cases h⟩
      have h13 : a.eval (.tmp 16) = .pointer (some ⟨bx, 0, none⟩) := hd ⟨13, .data⟩ (by simp) rfl
      have kk0 := pc_bx_0 W g
      obtain ⟨ρ, hρ⟩ : ∃ ρ, a.eval = ρ := ⟨_, rfl⟩
      rw [hρ] at h13
      refine op_val ρ hρ (.int .i64 N) ?_ ⟨_, rfl, Old.refl _, rfl, (fun h => absurd h (by decide))⟩
      clear g hF hd hρ HK KP KO KR ha1 ha2 px_bx b_bx px_rb b_rb pc_bx_0 pc_bx_1 pc_bx_2 
      go_simp
      all_goals (first | (rw [IntKind.wrap_i64]; omega) | (rw [IntKind.wrap_u64]; omega) | omega)
    · intro a W g hF hd
      refine ⟨fun _ => ?_, fun h => by rw [wanted_none rfl] at h; cases h⟩
      have c0 : a.eval (.const (.int .i64 2)) = .int .i64 2 := rfl
      have h14 : a.eval (.tmp 17) = .int .i64 N := hd ⟨14, .data⟩ (by simp) rfl
      obtain ⟨ρ, hρ⟩ : ∃ ρ, a.eval = ρ := ⟨_, rfl⟩
      rw [hρ] at c0 h14
      refine op_val ρ hρ (.int .i64 (2 * N)) ?_ ⟨_, rfl, Old.refl _, rfl, (fun h => absurd h (by decide))⟩
      clear g hF hd hρ HK KP KO KR ha1 ha2 px_bx b_bx px_rb b_rb pc_bx_0 pc_bx_1 pc_bx_2 
      go_simp
      all_goals (first | (rw [IntKind.wrap_i64]; omega) | (rw [IntKind.wrap_u64]; omega) | omega)
    · intro a W g hF hd
      refine ⟨fun _ => ?_, fun h => by rw [wanted_none rfl] at h; cases h⟩
      have h15 : a.eval (.tmp 18) = .int .i64 (2 * N) := hd ⟨15, .data⟩ (by simp) rfl
      have c1 : a.eval (.const (.int .i64 1)) = .int .i64 1 := rfl
      obtain ⟨ρ, hρ⟩ : ∃ ρ, a.eval = ρ := ⟨_, rfl⟩
      rw [hρ] at h15 c1
      refine op_val ρ hρ (.int .i64 ((2 * N) + 1)) ?_ ⟨_, rfl, Old.refl _, rfl, (fun h => absurd h (by decide))⟩
      clear g hF hd hρ HK KP KO KR ha1 ha2 px_bx b_bx px_rb b_rb pc_bx_0 pc_bx_1 pc_bx_2 
      go_simp
      all_goals (first | (rw [IntKind.wrap_i64]; omega) | (rw [IntKind.wrap_u64]; omega) | omega)
    · intro a W g hF hd
      refine ⟨fun _ => ?_, fun h => by rw [wanted_none rfl] at h; cases h⟩
      have h11 : a.eval (.tmp 14) = .int .i64 (T * E) := hd ⟨11, .data⟩ (by simp) rfl
      have h16 : a.eval (.tmp 19) = .int .i64 ((2 * N) + 1) := hd ⟨16, .data⟩ (by simp) rfl
      obtain ⟨ρ, hρ⟩ : ∃ ρ, a.eval = ρ := ⟨_, rfl⟩
      rw [hρ] at h11 h16
      refine op_val ρ hρ (.int .i64 ((T * E) * ((2 * N) + 1))) ?_ ⟨_, rfl, Old.refl _, rfl, (fun h => absurd h (by decide))⟩
      clear g hF hd hρ HK KP KO KR ha1 ha2 px_bx b_bx px_rb b_rb pc_bx_0 pc_bx_1 pc_bx_2 
      go_simp
      all_goals (first | (rw [IntKind.wrap_i64]; omega) | (rw [IntKind.wrap_u64]; omega) | omega)
    · intro a W g hF hd
      refine ⟨fun _ => ?_, fun h => by rw [wanted_none rfl] at h; cases h⟩
      have h0 : a.eval (.tmp 3) = .agg #[.int .i64 N, .int .i64 T, .int .i64 E, .slice a3 l3 c3, .slice a4 l4 c4, .bool false, .slice a6 l6 c6] := hd ⟨0, .data⟩ (by simp) rfl
      have h4 : a.eval (.tmp 7) = .agg S1 := hd ⟨4, .data⟩ (by simp) rfl
      have h17 : a.eval (.tmp 20) = .int .i64 ((T * E) * ((2 * N) + 1)) := hd ⟨17, .data⟩ (by simp) rfl
      refine op_call_ret (R := fun v w' => v = .agg SR ∧ Old W w') Tryz.call56 (vs := #[.agg #[.int .i64 N, .int .i64 T, .int .i64 E, .slice a3 l3 c3, .slice a4 l4 c4, .bool false, .slice a6 l6 c6], .agg S1, .int .i64 ((T * E) * ((2 * N) + 1))]) (by simp [h0, h4, h17]) ((KR W g).mono fun e w' h => ⟨_, h.1, rfl, h.2⟩) ?_
      rintro x w' ⟨rfl, g'⟩
      exact ⟨_, rfl, g', rfl, (fun h => absurd h (by decide))⟩
  · intro a W g hF hq hne
    have hput := fram_put (show Fram 19 slotFr b0 a from hF) (fun i j hi hj => slotFr_inj i hi j hj)
    have hk := HK.out (fun i => a.eval (.tmp (slotFr i))) W g  
    rw [← hput] at hk
    refine op_store (k := rb) ((hF.same 2 slotFr_no2).trans ha2) (show a.eval (.tmp 21) = .agg SR from hq 18 (by decide)) (px_rb W g) (by rw [hZ_SR.1]; exact infoSz) (by rw [hZ_SR.1]; exact hS_rb) hZ_SR.2 ?_
    show tailWp _ _ _ _ _
    exact hk
end Go.Proofs.YtihjndakgncdaaaGreatDoor
/- Proved: drawn regions of the program's limit and readBound. -/
namespace Go.Proofs.YtihjndakgncdaaaGreatDoor
open Go.ChangeShapes Go.WideShapes Go.ChangeAt Go.RowKit
set_option linter.unusedVariables false
set_option linter.unusedSimpArgs false
def slotLi (i : Nat) : Nat := [7, 8, 9, 10, 11, 12, 13, 14, 15, 16, 17, 3, 4].getD i 0
theorem slotLi_lt : ∀ i, i < 13 → slotLi i < 31 := by decide
theorem slotLi_inj : ∀ i, i < 13 → ∀ j, j < 13 → slotLi i = slotLi j → i = j := by decide
theorem slotLi_no1 : ∀ i, i < 13 → slotLi i ≠ 1 := by decide
def qLi (N T E : Int) (a3 : Option Addr) (l3 c3 : Nat) (a4 : Option Addr) (l4 c4 : Nat) (a6 : Option Addr) (l6 c6 bx : Nat) (SQ SL : Array Value) (r : Int)  (base : Nat) (i : Nat) (W : World) (x : Value) : Prop :=
  match i with
  | 0 => x = .pointer (some ⟨bx, 5, none⟩)
  | 1 => x = .agg #[.bool false, .slice a6 l6 c6]
  | 2 => x = .agg SQ
  | 3 => x = .pointer (some ⟨bx, 0, none⟩)
  | 4 => x = .pointer (some ⟨bx, 1, none⟩)
  | 5 => x = .int .i64 T
  | 6 => x = .agg #[.int .i64 N, .int .i64 T, .int .i64 E, .slice a3 l3 c3, .slice a4 l4 c4, .bool false, .slice a6 l6 c6]
  | 7 => x = .int .i64 r
  | 8 => x = .int .i64 (T * r)
  | 9 => x = .int .u64 (T * r)
  | 10 => x = .agg SL
  | 11 => ∃ (g : Nat) (cs : Array Value), x = .pointer (some ⟨g, 0, none⟩) ∧ base ≤ g ∧ g < W.heap.size ∧ W.heap[g]? = some (.cells cs 53 (0, 0)) ∧ cs.size = 81
  | 12 => ∃ (g : Nat) (cs : Array Value), x = .pointer (some ⟨g, 0, none⟩) ∧ base ≤ g ∧ g < W.heap.size ∧ W.heap[g]? = some (.cells cs 53 (0, 0)) ∧ cs.size = 81
  | _ => True
theorem qLi_old (N T E : Int) (a3 : Option Addr) (l3 c3 : Nat) (a4 : Option Addr) (l4 c4 : Nat) (a6 : Option Addr) (l6 c6 bx : Nat) (SQ SL : Array Value) (r : Int)  (base : Nat)  (i : Nat) (W W' : World) (x : Value) (h : qLi N T E a3 l3 c3 a4 l4 c4 a6 l6 c6 bx SQ SL r  base i W x) (qo : Old W W') : qLi N T E a3 l3 c3 a4 l4 c4 a6 l6 c6 bx SQ SL r  base i W' x := by
  unfold qLi at h ⊢
  split at h
  case h_12 =>
    obtain ⟨g, cs, e, h1, h2, h3, h4⟩ := h
    exact ⟨g, cs, e, h1, Nat.lt_of_lt_of_le h2 qo.size, (qo.block g h2).trans h3, h4⟩
  case h_13 =>
    obtain ⟨g, cs, e, h1, h2, h3, h4⟩ := h
    exact ⟨g, cs, e, h1, Nat.lt_of_lt_of_le h2 qo.size, (qo.block g h2).trans h3, h4⟩
  all_goals first | exact h | trivial
set_option maxRecDepth 100000 in
set_option maxHeartbeats 8000000 in
theorem reg_Li (w0 : World) (N T E : Int) (a3 : Option Addr) (l3 c3 : Nat) (a4 : Option Addr) (l4 c4 : Nat) (a6 : Option Addr) (l6 c6 bx : Nat) (SQ SL : Array Value) (r : Int)     (b_bx : w0.heap[bx]? = some (.cells #[.int .i64 N, .int .i64 T, .int .i64 E, .slice a3 l3 c3, .slice a4 l4 c4, .bool false, .slice a6 l6 c6] 48 (0, 0))) (hZ_SL : (SL).size = 81 ∧ (SL).all (·.oneCell') = true) (hZ_SQ : (SQ).size = 81 ∧ (SQ).all (·.oneCell') = true)
    (hX : 0 ≤ T * r ∧ T * r ≤ 4611686018427387904)
    (KZ : ∀ W, Old w0 W → Calls Tryz.prog 35 #[.agg #[.bool false, .slice a6 l6 c6]] W fun e w' => e = .returned (.agg SQ) ∧ Old W w')
    (KS : ∀ W, Old w0 W → Calls Tryz.prog 40 #[.agg #[.int .i64 N, .int .i64 T, .int .i64 E, .slice a3 l3 c3, .slice a4 l4 c4, .bool false, .slice a6 l6 c6]] W fun e w' => e = .returned (.int .i64 r) ∧ Old W w')
    (KO : ∀ W, Old w0 W → Calls Tryz.prog 39 #[.int .u64 (T * r)] W fun e w' => e = .returned (.agg SL) ∧ Old W w')
    (Q : Exit → Act → World → Prop) (b0 : Act) (hsz : b0.tmps.size = 31) (ha1 : b0.eval (.tmp 1) = .pointer (some ⟨bx, 0, none⟩))
    (HK : Hid (∀ (us : Nat → Value) (W : World) (g11 g12 : Nat), Old w0 W → us 11 = .pointer (some ⟨g11, 0, none⟩) → w0.heap.size ≤ g11 → us 12 = .pointer (some ⟨g12, 0, none⟩) → w0.heap.size ≤ g12 → W.heap[g11]? = some (.cells SQ 53 (0, 0)) → W.heap[g12]? = some (.cells SL 53 (0, 0)) → Q .normal (putAll b0 ((List.range 13).map fun i => (slotLi i, us i))) W)) :
    Code.wp Tryz.prog ((Tryz.f18.body.bind (regionAtmul 1)).getD .skip) Q b0 w0 := by
  conv => arg 2; whnf
  have px_bx : ∀ W, Old w0 W → W.heap[bx]? = some (.cells #[.int .i64 N, .int .i64 T, .int .i64 E, .slice a3 l3 c3, .slice a4 l4 c4, .bool false, .slice a6 l6 c6] 48 (0, 0)) := fun W g => (g.block bx (lt_of_some b_bx)).trans b_bx
  have pc_bx_1 : ∀ W, Old w0 W → W.cell? ⟨bx, 1, none⟩ = some (.int .i64 T) := fun W g => cell_of_row W bx 1 _ _ (0, 0) (px_bx W g)
  have pc_bx_5 : ∀ W, Old w0 W → W.cell? ⟨bx, 5, none⟩ = some (.bool false) := fun W g => cell_of_row W bx 5 _ _ (0, 0) (px_bx W g)
  have pc_bx_6 : ∀ W, Old w0 W → W.cell? ⟨bx, 6, none⟩ = some (.slice a6 l6 c6) := fun W g => cell_of_row W bx 6 _ _ (0, 0) (px_bx W g)
  obtain ⟨z_impl_size, hz_impl_size, hzs_impl_size⟩ : ∃ z, (Tryz.prog.info? 53).bind (·.zero) = some z ∧ z.cells.size = 81 := ⟨_, rfl, by kernel_rfl⟩
  refine wp_region_tailG 13 (by decide) (by kernel_rfl) (by kernel_rfl) (by kernel_rfl) (by kernel_rfl) (by kernel_rfl) slotLi (fun i hi => by rw [hsz]; exact slotLi_lt i hi) (fun i j hi hj => slotLi_inj i hi j hj) (qLi N T E a3 l3 c3 a4 l4 c4 a6 l6 c6 bx SQ SL r  w0.heap.size ) (qLi_old N T E a3 l3 c3 a4 l4 c4 a6 l6 c6 bx SQ SL r  w0.heap.size ) [11, 12] (fun i W v hi hq => by
    have hi2 : i = 11 ∨ i = 12 := by simpa using hi
    rcases hi2 with rfl | rfl
    all_goals (obtain ⟨g, cs, e, _, h2, _⟩ := hq; exact ⟨g, e, h2⟩)) ?_ ?_
  · refine ⟨?_, ?_, ?_, ?_, ?_, ?_, ?_, ?_, ?_, ?_, ?_, ?_, ?_, trivial⟩
    · intro a W g hF hd
      refine ⟨fun _ => ?_, fun h => by rw [wanted_none rfl] at h; cases h⟩
      have e1 := (hF.same 1 slotLi_no1).trans ha1
      obtain ⟨ρ, hρ⟩ : ∃ ρ, a.eval = ρ := ⟨_, rfl⟩
      rw [hρ] at e1
      refine op_val ρ hρ (.pointer (some ⟨bx, 5, none⟩)) ?_ ⟨_, rfl, Old.refl _, rfl, (fun h => absurd h (by decide))⟩
      clear g hF hd hρ HK KZ KS KO ha1 px_bx b_bx pc_bx_1 pc_bx_5 pc_bx_6 
      go_simp
      all_goals (first | (rw [IntKind.wrap_i64]; omega) | (rw [IntKind.wrap_u64]; omega) | omega)
    · intro a W g hF hd
      refine ⟨fun _ => ?_, fun h => by rw [wanted_none rfl] at h; cases h⟩
      have h0 : a.eval (.tmp 7) = .pointer (some ⟨bx, 5, none⟩) := hd ⟨0, .data⟩ (by simp) rfl
      have kk0 := pc_bx_5 W g
      have kk1 := pc_bx_6 W g
      obtain ⟨ρ, hρ⟩ : ∃ ρ, a.eval = ρ := ⟨_, rfl⟩
      rw [hρ] at h0
      refine op_val ρ hρ (.agg #[.bool false, .slice a6 l6 c6]) ?_ ⟨_, rfl, Old.refl _, rfl, (fun h => absurd h (by decide))⟩
      clear g hF hd hρ HK KZ KS KO ha1 px_bx b_bx pc_bx_1 pc_bx_5 pc_bx_6 
      go_simp
      all_goals (first | (rw [IntKind.wrap_i64]; omega) | (rw [IntKind.wrap_u64]; omega) | omega)
    · intro a W g hF hd
      refine ⟨fun _ => ?_, fun h => by rw [wanted_none rfl] at h; cases h⟩
      have h1 : a.eval (.tmp 8) = .agg #[.bool false, .slice a6 l6 c6] := hd ⟨1, .data⟩ (by simp) rfl
      refine op_call_ret (R := fun v w' => v = .agg SQ ∧ Old W w') Tryz.call35 (vs := #[.agg #[.bool false, .slice a6 l6 c6]]) (by simp [h1]) ((KZ W g).mono fun e w' h => ⟨_, h.1, rfl, h.2⟩) ?_
      rintro x w' ⟨rfl, g'⟩
      exact ⟨_, rfl, g', rfl, (fun h => absurd h (by decide))⟩
    · intro a W g hF hd
      refine ⟨fun _ => ?_, fun h => by rw [wanted_none rfl] at h; cases h⟩
      have e1 := (hF.same 1 slotLi_no1).trans ha1
      obtain ⟨ρ, hρ⟩ : ∃ ρ, a.eval = ρ := ⟨_, rfl⟩
      rw [hρ] at e1
      refine op_val ρ hρ (.pointer (some ⟨bx, 0, none⟩)) ?_ ⟨_, rfl, Old.refl _, rfl, (fun h => absurd h (by decide))⟩
      clear g hF hd hρ HK KZ KS KO ha1 px_bx b_bx pc_bx_1 pc_bx_5 pc_bx_6 
      go_simp
      all_goals (first | (rw [IntKind.wrap_i64]; omega) | (rw [IntKind.wrap_u64]; omega) | omega)
    · intro a W g hF hd
      refine ⟨fun _ => ?_, fun h => by rw [wanted_none rfl] at h; cases h⟩
      have h3 : a.eval (.tmp 10) = .pointer (some ⟨bx, 0, none⟩) := hd ⟨3, .data⟩ (by simp) rfl
      obtain ⟨ρ, hρ⟩ : ∃ ρ, a.eval = ρ := ⟨_, rfl⟩
      rw [hρ] at h3
      refine op_val ρ hρ (.pointer (some ⟨bx, 1, none⟩)) ?_ ⟨_, rfl, Old.refl _, rfl, (fun h => absurd h (by decide))⟩
      clear g hF hd hρ HK KZ KS KO ha1 px_bx b_bx pc_bx_1 pc_bx_5 pc_bx_6 
      go_simp
      all_goals (first | (rw [IntKind.wrap_i64]; omega) | (rw [IntKind.wrap_u64]; omega) | omega)
    · intro a W g hF hd
      refine ⟨fun _ => ?_, fun h => by rw [wanted_none rfl] at h; cases h⟩
      have h4 : a.eval (.tmp 11) = .pointer (some ⟨bx, 1, none⟩) := hd ⟨4, .data⟩ (by simp) rfl
      have kk0 := pc_bx_1 W g
      obtain ⟨ρ, hρ⟩ : ∃ ρ, a.eval = ρ := ⟨_, rfl⟩
      rw [hρ] at h4
      refine op_val ρ hρ (.int .i64 T) ?_ ⟨_, rfl, Old.refl _, rfl, (fun h => absurd h (by decide))⟩
      clear g hF hd hρ HK KZ KS KO ha1 px_bx b_bx pc_bx_1 pc_bx_5 pc_bx_6 
      go_simp
      all_goals (first | (rw [IntKind.wrap_i64]; omega) | (rw [IntKind.wrap_u64]; omega) | omega)
    · intro a W g hF hd
      refine ⟨fun _ => ?_, fun h => by rw [wanted_none rfl] at h; cases h⟩
      have e1 := (hF.same 1 slotLi_no1).trans ha1
      refine op_load (k := bx) e1 (px_bx W g) Tryz.underlying48 rfl (by kernel_rfl) ?_
      exact ⟨_, rfl, Old.refl _, rfl, (fun h => absurd h (by decide))⟩
    · intro a W g hF hd
      refine ⟨fun _ => ?_, fun h => by rw [wanted_none rfl] at h; cases h⟩
      have h6 : a.eval (.tmp 13) = .agg #[.int .i64 N, .int .i64 T, .int .i64 E, .slice a3 l3 c3, .slice a4 l4 c4, .bool false, .slice a6 l6 c6] := hd ⟨6, .data⟩ (by simp) rfl
      refine op_call_ret (R := fun v w' => v = .int .i64 r ∧ Old W w') Tryz.call40 (vs := #[.agg #[.int .i64 N, .int .i64 T, .int .i64 E, .slice a3 l3 c3, .slice a4 l4 c4, .bool false, .slice a6 l6 c6]]) (by simp [h6]) ((KS W g).mono fun e w' h => ⟨_, h.1, rfl, h.2⟩) ?_
      rintro x w' ⟨rfl, g'⟩
      exact ⟨_, rfl, g', rfl, (fun h => absurd h (by decide))⟩
    · intro a W g hF hd
      refine ⟨fun _ => ?_, fun h => by rw [wanted_none rfl] at h; cases h⟩
      have h5 : a.eval (.tmp 12) = .int .i64 T := hd ⟨5, .data⟩ (by simp) rfl
      have h7 : a.eval (.tmp 14) = .int .i64 r := hd ⟨7, .data⟩ (by simp) rfl
      obtain ⟨ρ, hρ⟩ : ∃ ρ, a.eval = ρ := ⟨_, rfl⟩
      rw [hρ] at h5 h7
      refine op_val ρ hρ (.int .i64 (T * r)) ?_ ⟨_, rfl, Old.refl _, rfl, (fun h => absurd h (by decide))⟩
      clear g hF hd hρ HK KZ KS KO ha1 px_bx b_bx pc_bx_1 pc_bx_5 pc_bx_6 
      go_simp
      all_goals (first | (rw [IntKind.wrap_i64]; omega) | (rw [IntKind.wrap_u64]; omega) | omega)
    · intro a W g hF hd
      refine ⟨fun _ => ?_, fun h => by rw [wanted_none rfl] at h; cases h⟩
      have h8 : a.eval (.tmp 15) = .int .i64 (T * r) := hd ⟨8, .data⟩ (by simp) rfl
      obtain ⟨ρ, hρ⟩ : ∃ ρ, a.eval = ρ := ⟨_, rfl⟩
      rw [hρ] at h8
      refine op_val ρ hρ (.int .u64 (T * r)) ?_ ⟨_, rfl, Old.refl _, rfl, (fun h => absurd h (by decide))⟩
      clear g hF hd hρ HK KZ KS KO ha1 px_bx b_bx pc_bx_1 pc_bx_5 pc_bx_6 
      go_simp
      all_goals (first | (rw [IntKind.wrap_i64]; omega) | (rw [IntKind.wrap_u64]; omega) | omega)
    · intro a W g hF hd
      refine ⟨fun _ => ?_, fun h => by rw [wanted_none rfl] at h; cases h⟩
      have h9 : a.eval (.tmp 16) = .int .u64 (T * r) := hd ⟨9, .data⟩ (by simp) rfl
      refine op_call_ret (R := fun v w' => v = .agg SL ∧ Old W w') Tryz.call39 (vs := #[.int .u64 (T * r)]) (by simp [h9]) ((KO W g).mono fun e w' h => ⟨_, h.1, rfl, h.2⟩) ?_
      rintro x w' ⟨rfl, g'⟩
      exact ⟨_, rfl, g', rfl, (fun h => absurd h (by decide))⟩
    · intro a W g hF hd
      refine ⟨fun _ => ?_, fun h => by rw [wanted_none rfl] at h; cases h⟩
      refine op_alloc hz_impl_size ?_
      exact ⟨_, rfl, (Old.refl _).alloc _, ⟨W.heap.size, z_impl_size.cells, rfl, g.size, by simp, heap_newA W _, hzs_impl_size⟩, (fun _ => rfl)⟩
    · intro a W g hF hd
      refine ⟨fun _ => ?_, fun h => by rw [wanted_none rfl] at h; cases h⟩
      refine op_alloc hz_impl_size ?_
      exact ⟨_, rfl, (Old.refl _).alloc _, ⟨W.heap.size, z_impl_size.cells, rfl, g.size, by simp, heap_newA W _, hzs_impl_size⟩, (fun _ => rfl)⟩
  · intro a W g hF hq hne
    obtain ⟨g11, cs11, hp11, hb11, hl11, hc11, hz11⟩ := hq 11 (by decide)
    obtain ⟨g12, cs12, hp12, hb12, hl12, hc12, hz12⟩ := hq 12 (by decide)
    have ne11_12 : g11 ≠ g12 := fun e => hne 11 12 (by decide) (by decide) (by decide) (by decide) (by decide) (by rw [hp11, hp12, e])
    have hput := fram_put (show Fram 13 slotLi b0 a from hF) (fun i j hi hj => slotLi_inj i hi j hj)
    have hO : Old w0 ((W.setRow g11 SQ).setRow g12 SL) := (old_setRow (old_setRow g (by omega) _) (by omega) _)
    have hk := HK.out (fun i => a.eval (.tmp (slotLi i))) ((W.setRow g11 SQ).setRow g12 SL) g11 g12 hO hp11 hb11 hp12 hb12 (((heap_setRow_other _ g12 _ g11 (by omega)).trans (heap_setRow_same hc11))) (heap_setRow_same ((heap_setRow_other _ g11 _ g12 (by omega)).trans hc12)) 
    rw [← hput] at hk
    refine op_store (k := g11) hp11 (show a.eval (.tmp 9) = .agg SQ from hq 2 (by decide)) hc11 (by rw [hZ_SQ.1]; exact infoSz) (by rw [hZ_SQ.1]; exact hz11) hZ_SQ.2 ?_
    show tailWp _ _ _ _ _
    refine op_store (k := g12) hp12 (show a.eval (.tmp 17) = .agg SL from hq 10 (by decide)) ((heap_setRow_other _ g11 _ g12 (by omega)).trans hc12) (by rw [hZ_SL.1]; exact infoSz) (by rw [hZ_SL.1]; exact hz12) hZ_SL.2 ?_
    show tailWp _ _ _ _ _
    exact hk
def slotRb (i : Nat) : Nat := [8, 9, 10, 11, 12, 6, 7].getD i 0
theorem slotRb_lt : ∀ i, i < 7 → slotRb i < 24 := by decide
theorem slotRb_inj : ∀ i, i < 7 → ∀ j, j < 7 → slotRb i = slotRb j → i = j := by decide
theorem slotRb_no2 : ∀ i, i < 7 → slotRb i ≠ 2 := by decide
theorem slotRb_no3 : ∀ i, i < 7 → slotRb i ≠ 3 := by decide
def qRb (N T E : Int) (a3 : Option Addr) (l3 c3 : Nat) (a4 : Option Addr) (l4 c4 : Nat) (a6 : Option Addr) (l6 c6 bx : Nat) (wb : Nat) (nb : Bool) (a1 : Option Addr) (l1 c1 : Nat) (SA SQ : Array Value)  (base : Nat) (i : Nat) (W : World) (x : Value) : Prop :=
  match i with
  | 0 => x = .agg #[.bool nb, .slice a1 l1 c1]
  | 1 => x = .agg SA
  | 2 => x = .pointer (some ⟨bx, 5, none⟩)
  | 3 => x = .agg #[.bool false, .slice a6 l6 c6]
  | 4 => x = .agg SQ
  | 5 => ∃ (g : Nat) (cs : Array Value), x = .pointer (some ⟨g, 0, none⟩) ∧ base ≤ g ∧ g < W.heap.size ∧ W.heap[g]? = some (.cells cs 53 (0, 0)) ∧ cs.size = 81
  | 6 => ∃ (g : Nat) (cs : Array Value), x = .pointer (some ⟨g, 0, none⟩) ∧ base ≤ g ∧ g < W.heap.size ∧ W.heap[g]? = some (.cells cs 53 (0, 0)) ∧ cs.size = 81
  | _ => True
theorem qRb_old (N T E : Int) (a3 : Option Addr) (l3 c3 : Nat) (a4 : Option Addr) (l4 c4 : Nat) (a6 : Option Addr) (l6 c6 bx : Nat) (wb : Nat) (nb : Bool) (a1 : Option Addr) (l1 c1 : Nat) (SA SQ : Array Value)  (base : Nat)  (i : Nat) (W W' : World) (x : Value) (h : qRb N T E a3 l3 c3 a4 l4 c4 a6 l6 c6 bx wb nb a1 l1 c1 SA SQ  base i W x) (qo : Old W W') : qRb N T E a3 l3 c3 a4 l4 c4 a6 l6 c6 bx wb nb a1 l1 c1 SA SQ  base i W' x := by
  unfold qRb at h ⊢
  split at h
  case h_6 =>
    obtain ⟨g, cs, e, h1, h2, h3, h4⟩ := h
    exact ⟨g, cs, e, h1, Nat.lt_of_lt_of_le h2 qo.size, (qo.block g h2).trans h3, h4⟩
  case h_7 =>
    obtain ⟨g, cs, e, h1, h2, h3, h4⟩ := h
    exact ⟨g, cs, e, h1, Nat.lt_of_lt_of_le h2 qo.size, (qo.block g h2).trans h3, h4⟩
  all_goals first | exact h | trivial
set_option maxRecDepth 100000 in
set_option maxHeartbeats 8000000 in
theorem reg_Rb (w0 : World) (N T E : Int) (a3 : Option Addr) (l3 c3 : Nat) (a4 : Option Addr) (l4 c4 : Nat) (a6 : Option Addr) (l6 c6 bx : Nat) (wb : Nat) (nb : Bool) (a1 : Option Addr) (l1 c1 : Nat) (SA SQ : Array Value)     (b_bx : w0.heap[bx]? = some (.cells #[.int .i64 N, .int .i64 T, .int .i64 E, .slice a3 l3 c3, .slice a4 l4 c4, .bool false, .slice a6 l6 c6] 48 (0, 0))) (b_wb : w0.heap[wb]? = some (.cells #[.bool nb, .slice a1 l1 c1] 30 (0, 0))) (hZ_SA : (SA).size = 81 ∧ (SA).all (·.oneCell') = true) (hZ_SQ : (SQ).size = 81 ∧ (SQ).all (·.oneCell') = true)
    
    (KA : ∀ W, Old w0 W → Calls Tryz.prog 35 #[.agg #[.bool nb, .slice a1 l1 c1]] W fun e w' => e = .returned (.agg SA) ∧ Old W w')
    (KQ : ∀ W, Old w0 W → Calls Tryz.prog 35 #[.agg #[.bool false, .slice a6 l6 c6]] W fun e w' => e = .returned (.agg SQ) ∧ Old W w')
    (Q : Exit → Act → World → Prop) (b0 : Act) (hsz : b0.tmps.size = 24) (ha2 : b0.eval (.tmp 2) = .pointer (some ⟨bx, 0, none⟩)) (ha3 : b0.eval (.tmp 3) = .pointer (some ⟨wb, 0, none⟩))
    (HK : Hid (∀ (us : Nat → Value) (W : World) (g5 g6 : Nat), Old w0 W → us 5 = .pointer (some ⟨g5, 0, none⟩) → w0.heap.size ≤ g5 → us 6 = .pointer (some ⟨g6, 0, none⟩) → w0.heap.size ≤ g6 → W.heap[g5]? = some (.cells SA 53 (0, 0)) → W.heap[g6]? = some (.cells SQ 53 (0, 0)) → Q .normal (putAll b0 ((List.range 7).map fun i => (slotRb i, us i))) W)) :
    Code.wp Tryz.prog ((Tryz.f29.body.bind (regionAtmul 1)).getD .skip) Q b0 w0 := by
  conv => arg 2; whnf
  have px_bx : ∀ W, Old w0 W → W.heap[bx]? = some (.cells #[.int .i64 N, .int .i64 T, .int .i64 E, .slice a3 l3 c3, .slice a4 l4 c4, .bool false, .slice a6 l6 c6] 48 (0, 0)) := fun W g => (g.block bx (lt_of_some b_bx)).trans b_bx
  have px_wb : ∀ W, Old w0 W → W.heap[wb]? = some (.cells #[.bool nb, .slice a1 l1 c1] 30 (0, 0)) := fun W g => (g.block wb (lt_of_some b_wb)).trans b_wb
  have pc_bx_5 : ∀ W, Old w0 W → W.cell? ⟨bx, 5, none⟩ = some (.bool false) := fun W g => cell_of_row W bx 5 _ _ (0, 0) (px_bx W g)
  have pc_bx_6 : ∀ W, Old w0 W → W.cell? ⟨bx, 6, none⟩ = some (.slice a6 l6 c6) := fun W g => cell_of_row W bx 6 _ _ (0, 0) (px_bx W g)
  obtain ⟨z_impl_size, hz_impl_size, hzs_impl_size⟩ : ∃ z, (Tryz.prog.info? 53).bind (·.zero) = some z ∧ z.cells.size = 81 := ⟨_, rfl, by kernel_rfl⟩
  refine wp_region_tailG 7 (by decide) (by kernel_rfl) (by kernel_rfl) (by kernel_rfl) (by kernel_rfl) (by kernel_rfl) slotRb (fun i hi => by rw [hsz]; exact slotRb_lt i hi) (fun i j hi hj => slotRb_inj i hi j hj) (qRb N T E a3 l3 c3 a4 l4 c4 a6 l6 c6 bx wb nb a1 l1 c1 SA SQ  w0.heap.size ) (qRb_old N T E a3 l3 c3 a4 l4 c4 a6 l6 c6 bx wb nb a1 l1 c1 SA SQ  w0.heap.size ) [5, 6] (fun i W v hi hq => by
    have hi2 : i = 5 ∨ i = 6 := by simpa using hi
    rcases hi2 with rfl | rfl
    all_goals (obtain ⟨g, cs, e, _, h2, _⟩ := hq; exact ⟨g, e, h2⟩)) ?_ ?_
  · refine ⟨?_, ?_, ?_, ?_, ?_, ?_, ?_, trivial⟩
    · intro a W g hF hd
      refine ⟨fun _ => ?_, fun h => by rw [wanted_none rfl] at h; cases h⟩
      have e3 := (hF.same 3 slotRb_no3).trans ha3
      refine op_load (k := wb) e3 (px_wb W g) Tryz.underlying30 rfl (by kernel_rfl) ?_
      exact ⟨_, rfl, Old.refl _, rfl, (fun h => absurd h (by decide))⟩
    · intro a W g hF hd
      refine ⟨fun _ => ?_, fun h => by rw [wanted_none rfl] at h; cases h⟩
      have h0 : a.eval (.tmp 8) = .agg #[.bool nb, .slice a1 l1 c1] := hd ⟨0, .data⟩ (by simp) rfl
      refine op_call_ret (R := fun v w' => v = .agg SA ∧ Old W w') Tryz.call35 (vs := #[.agg #[.bool nb, .slice a1 l1 c1]]) (by simp [h0]) ((KA W g).mono fun e w' h => ⟨_, h.1, rfl, h.2⟩) ?_
      rintro x w' ⟨rfl, g'⟩
      exact ⟨_, rfl, g', rfl, (fun h => absurd h (by decide))⟩
    · intro a W g hF hd
      refine ⟨fun _ => ?_, fun h => by rw [wanted_none rfl] at h; cases h⟩
      have e2 := (hF.same 2 slotRb_no2).trans ha2
      obtain ⟨ρ, hρ⟩ : ∃ ρ, a.eval = ρ := ⟨_, rfl⟩
      rw [hρ] at e2
      refine op_val ρ hρ (.pointer (some ⟨bx, 5, none⟩)) ?_ ⟨_, rfl, Old.refl _, rfl, (fun h => absurd h (by decide))⟩
      clear g hF hd hρ HK KA KQ ha2 ha3 px_bx b_bx px_wb b_wb pc_bx_5 pc_bx_6 
      go_simp
      all_goals (first | (rw [IntKind.wrap_i64]; omega) | (rw [IntKind.wrap_u64]; omega) | omega)
    · intro a W g hF hd
      refine ⟨fun _ => ?_, fun h => by rw [wanted_none rfl] at h; cases h⟩
      have h2 : a.eval (.tmp 10) = .pointer (some ⟨bx, 5, none⟩) := hd ⟨2, .data⟩ (by simp) rfl
      have kk0 := pc_bx_5 W g
      have kk1 := pc_bx_6 W g
      obtain ⟨ρ, hρ⟩ : ∃ ρ, a.eval = ρ := ⟨_, rfl⟩
      rw [hρ] at h2
      refine op_val ρ hρ (.agg #[.bool false, .slice a6 l6 c6]) ?_ ⟨_, rfl, Old.refl _, rfl, (fun h => absurd h (by decide))⟩
      clear g hF hd hρ HK KA KQ ha2 ha3 px_bx b_bx px_wb b_wb pc_bx_5 pc_bx_6 
      go_simp
      all_goals (first | (rw [IntKind.wrap_i64]; omega) | (rw [IntKind.wrap_u64]; omega) | omega)
    · intro a W g hF hd
      refine ⟨fun _ => ?_, fun h => by rw [wanted_none rfl] at h; cases h⟩
      have h3 : a.eval (.tmp 11) = .agg #[.bool false, .slice a6 l6 c6] := hd ⟨3, .data⟩ (by simp) rfl
      refine op_call_ret (R := fun v w' => v = .agg SQ ∧ Old W w') Tryz.call35 (vs := #[.agg #[.bool false, .slice a6 l6 c6]]) (by simp [h3]) ((KQ W g).mono fun e w' h => ⟨_, h.1, rfl, h.2⟩) ?_
      rintro x w' ⟨rfl, g'⟩
      exact ⟨_, rfl, g', rfl, (fun h => absurd h (by decide))⟩
    · intro a W g hF hd
      refine ⟨fun _ => ?_, fun h => by rw [wanted_none rfl] at h; cases h⟩
      refine op_alloc hz_impl_size ?_
      exact ⟨_, rfl, (Old.refl _).alloc _, ⟨W.heap.size, z_impl_size.cells, rfl, g.size, by simp, heap_newA W _, hzs_impl_size⟩, (fun _ => rfl)⟩
    · intro a W g hF hd
      refine ⟨fun _ => ?_, fun h => by rw [wanted_none rfl] at h; cases h⟩
      refine op_alloc hz_impl_size ?_
      exact ⟨_, rfl, (Old.refl _).alloc _, ⟨W.heap.size, z_impl_size.cells, rfl, g.size, by simp, heap_newA W _, hzs_impl_size⟩, (fun _ => rfl)⟩
  · intro a W g hF hq hne
    obtain ⟨g5, cs5, hp5, hb5, hl5, hc5, hz5⟩ := hq 5 (by decide)
    obtain ⟨g6, cs6, hp6, hb6, hl6, hc6, hz6⟩ := hq 6 (by decide)
    have ne5_6 : g5 ≠ g6 := fun e => hne 5 6 (by decide) (by decide) (by decide) (by decide) (by decide) (by rw [hp5, hp6, e])
    have hput := fram_put (show Fram 7 slotRb b0 a from hF) (fun i j hi hj => slotRb_inj i hi j hj)
    have hO : Old w0 ((W.setRow g5 SA).setRow g6 SQ) := (old_setRow (old_setRow g (by omega) _) (by omega) _)
    have hk := HK.out (fun i => a.eval (.tmp (slotRb i))) ((W.setRow g5 SA).setRow g6 SQ) g5 g6 hO hp5 hb5 hp6 hb6 (((heap_setRow_other _ g6 _ g5 (by omega)).trans (heap_setRow_same hc5))) (heap_setRow_same ((heap_setRow_other _ g5 _ g6 (by omega)).trans hc6)) 
    rw [← hput] at hk
    refine op_store (k := g5) hp5 (show a.eval (.tmp 9) = .agg SA from hq 1 (by decide)) hc5 (by rw [hZ_SA.1]; exact infoSz) (by rw [hZ_SA.1]; exact hz5) hZ_SA.2 ?_
    show tailWp _ _ _ _ _
    refine op_store (k := g6) hp6 (show a.eval (.tmp 12) = .agg SQ from hq 4 (by decide)) ((heap_setRow_other _ g5 _ g6 (by omega)).trans hc6) (by rw [hZ_SQ.1]; exact infoSz) (by rw [hZ_SQ.1]; exact hz6) hZ_SQ.2 ?_
    show tailWp _ _ _ _ _
    exact hk
def slotRt (i : Nat) : Nat := [13, 14, 15, 16, 17, 18, 19, 20, 21, 22, 23].getD i 0
theorem slotRt_lt : ∀ i, i < 11 → slotRt i < 24 := by decide
theorem slotRt_inj : ∀ i, i < 11 → ∀ j, j < 11 → slotRt i = slotRt j → i = j := by decide
theorem slotRt_no3 : ∀ i, i < 11 → slotRt i ≠ 3 := by decide
theorem slotRt_no4 : ∀ i, i < 11 → slotRt i ≠ 4 := by decide
theorem slotRt_no6 : ∀ i, i < 11 → slotRt i ≠ 6 := by decide
theorem slotRt_no7 : ∀ i, i < 11 → slotRt i ≠ 7 := by decide
def qRt (ab qb rb : Nat) (wb : Nat) (nb : Bool) (a1 : Option Addr) (l1 c1 : Nat) (SA SQ SM Z : Array Value) (c : Int) (i : Nat) (x : Value) : Prop :=
  match i with
  | 0 => x = .agg SA
  | 1 => x = .agg #[.bool nb, .slice a1 l1 c1]
  | 2 => x = .bool true
  | 3 => x = .bool true
  | 4 => x = .agg SA
  | 5 => x = .agg SQ
  | 6 => x = .agg SQ
  | 7 => x = .agg SM
  | 8 => x = .int .i64 c
  | 9 => x = .bool (decide (c ≤ 0))
  | 10 => x = .bool (decide (c ≤ 0))
  | _ => True
set_option maxRecDepth 100000 in
set_option maxHeartbeats 8000000 in
theorem reg_Rt (w0 : World) (ab qb rb : Nat) (wb : Nat) (nb : Bool) (a1 : Option Addr) (l1 c1 : Nat) (SA SQ SM Z : Array Value) (c : Int)     (b_ab : w0.heap[ab]? = some (.cells SA 53 (0, 0))) (hS_ab : SA.size = 81) (b_qb : w0.heap[qb]? = some (.cells SQ 53 (0, 0))) (hS_qb : SQ.size = 81) (b_rb : w0.heap[rb]? = some (.cells Z 53 (0, 0))) (hS_rb : Z.size = 81) (b_wb : w0.heap[wb]? = some (.cells #[.bool nb, .slice a1 l1 c1] 30 (0, 0))) (hZ_SA : (SA).size = 81 ∧ (SA).all (·.oneCell') = true)
    
    (KF : ∀ W, Old w0 W → Calls Tryz.prog 58 #[.agg #[.bool nb, .slice a1 l1 c1]] W fun e w' => e = .returned (.bool true) ∧ Old W w')
    (KM : ∀ W, Old w0 W → Calls Tryz.prog 59 #[.agg SQ, .agg SQ] W fun e w' => e = .returned (.agg SM) ∧ Old W w')
    (KC : ∀ W, Old w0 W → Calls Tryz.prog 20 #[.agg SA, .agg SM] W fun e w' => e = .returned (.int .i64 c) ∧ Old W w')
    (Q : Exit → Act → World → Prop) (b0 : Act) (hsz : b0.tmps.size = 24) (ha3 : b0.eval (.tmp 3) = .pointer (some ⟨wb, 0, none⟩)) (ha4 : b0.eval (.tmp 4) = .pointer (some ⟨rb, 0, none⟩)) (ha6 : b0.eval (.tmp 6) = .pointer (some ⟨ab, 0, none⟩)) (ha7 : b0.eval (.tmp 7) = .pointer (some ⟨qb, 0, none⟩))
    (HK : Hid (∀ (us : Nat → Value) (W : World) , Old w0 W → Q .normal ((putAll b0 ((List.range 11).map fun i => (slotRt i, us i))).put (some 5) (.bool (decide (c ≤ 0)))) (W.setRow rb SA))) :
    Code.wp Tryz.prog ((Tryz.f29.body.bind (regionAtmul 2)).getD .skip) Q b0 w0 := by
  conv => arg 2; whnf
  have px_ab : ∀ W, Old w0 W → W.heap[ab]? = some (.cells SA 53 (0, 0)) := fun W g => (g.block ab (lt_of_some b_ab)).trans b_ab
  have px_qb : ∀ W, Old w0 W → W.heap[qb]? = some (.cells SQ 53 (0, 0)) := fun W g => (g.block qb (lt_of_some b_qb)).trans b_qb
  have px_rb : ∀ W, Old w0 W → W.heap[rb]? = some (.cells Z 53 (0, 0)) := fun W g => (g.block rb (lt_of_some b_rb)).trans b_rb
  have px_wb : ∀ W, Old w0 W → W.heap[wb]? = some (.cells #[.bool nb, .slice a1 l1 c1] 30 (0, 0)) := fun W g => (g.block wb (lt_of_some b_wb)).trans b_wb
  refine wp_region_mid 11 rfl rfl rfl (by kernel_rfl) (by kernel_rfl) rfl rfl [9, 10] (by kernel_rfl) (by kernel_rfl) slotRt (fun i hi => by rw [hsz]; exact slotRt_lt i hi) (fun i j hi hj => slotRt_inj i hi j hj) (qRt ab qb rb wb nb a1 l1 c1 SA SQ SM Z c) (fun W => ∃ W1, Old w0 W1 ∧ W = W1.setRow rb SA) ?_ ?_ ?_
  · refine ⟨?_, ?_, ?_, ?_, ?_, ?_, ?_, ?_, ?_, ?_, ?_, trivial⟩
    · intro a W g0 hF hd
      have g := g0 rfl
      refine ⟨fun _ => ?_, fun h => by rw [wanted_none rfl] at h; cases h⟩
      have e6 := (hF.same 6 slotRt_no6).trans ha6
      refine op_load (k := ab) e6 (px_ab W g) Tryz.underlying53 rfl (by rw [hS_ab]; exact infoSz) ?_
      exact ⟨_, rfl, Old.refl _, (fun h => absurd h (by decide)), rfl⟩
    · intro a W g0 hF hd
      have g := g0 rfl
      refine ⟨fun _ => ?_, fun h => by rw [wanted_none rfl] at h; cases h⟩
      have e3 := (hF.same 3 slotRt_no3).trans ha3
      refine op_load (k := wb) e3 (px_wb W g) Tryz.underlying30 rfl (by kernel_rfl) ?_
      exact ⟨_, rfl, Old.refl _, (fun h => absurd h (by decide)), rfl⟩
    · intro a W g0 hF hd
      have g := g0 rfl
      refine ⟨fun _ => ?_, fun h => by rw [wanted_none rfl] at h; cases h⟩
      have h1 : a.eval (.tmp 14) = .agg #[.bool nb, .slice a1 l1 c1] := hd ⟨1, .data⟩ (by simp) rfl
      refine op_call_ret (R := fun v w' => v = .bool true ∧ Old W w') Tryz.call58 (vs := #[.agg #[.bool nb, .slice a1 l1 c1]]) (by simp [h1]) ((KF W g).mono fun e w' h => ⟨_, h.1, rfl, h.2⟩) ?_
      rintro x w' ⟨rfl, g'⟩
      exact ⟨_, rfl, g', (fun h => absurd h (by decide)), rfl⟩
    · intro a W g0 hF hd
      have g := g0 rfl
      refine ⟨fun _ => ?_, fun h => by rw [wanted_none rfl] at h; cases h⟩
      refine op_move ?_
      exact ⟨_, rfl, Old.refl _, (fun h => absurd h (by decide)), hd ⟨2, .data⟩ (by simp) rfl⟩
    · intro a W g0 hF hd
      have g := g0 rfl
      refine ⟨fun _ => ?_, fun h => ?_⟩
      rotate_left
      · rw [wanted_of (j := 3) (s := 16) (want := true) (b := true) rfl rfl (by rw [hF.size, hsz]; decide) (hd ⟨3, .guard⟩ (by simp) rfl)] at h
        cases h
      refine op_guard ?_
      have e6 := (hF.same 6 slotRt_no6).trans ha6
      refine op_load (k := ab) e6 (px_ab W g) Tryz.underlying53 rfl (by rw [hS_ab]; exact infoSz) ?_
      exact ⟨_, rfl, Old.refl _, (fun h => absurd h (by decide)), rfl⟩
    · intro a W g0 hF hd
      have g := g0 rfl
      refine ⟨fun _ => ?_, fun h => ?_⟩
      rotate_left
      · rw [wanted_of (j := 3) (s := 16) (want := true) (b := true) rfl rfl (by rw [hF.size, hsz]; decide) (hd ⟨3, .guard⟩ (by simp) rfl)] at h
        cases h
      refine op_guard ?_
      have e7 := (hF.same 7 slotRt_no7).trans ha7
      refine op_load (k := qb) e7 (px_qb W g) Tryz.underlying53 rfl (by rw [hS_qb]; exact infoSz) ?_
      exact ⟨_, rfl, Old.refl _, (fun h => absurd h (by decide)), rfl⟩
    · intro a W g0 hF hd
      have g := g0 rfl
      refine ⟨fun _ => ?_, fun h => ?_⟩
      rotate_left
      · rw [wanted_of (j := 3) (s := 16) (want := true) (b := true) rfl rfl (by rw [hF.size, hsz]; decide) (hd ⟨3, .guard⟩ (by simp) rfl)] at h
        cases h
      refine op_guard ?_
      have e7 := (hF.same 7 slotRt_no7).trans ha7
      refine op_load (k := qb) e7 (px_qb W g) Tryz.underlying53 rfl (by rw [hS_qb]; exact infoSz) ?_
      exact ⟨_, rfl, Old.refl _, (fun h => absurd h (by decide)), rfl⟩
    · intro a W g0 hF hd
      have g := g0 rfl
      refine ⟨fun _ => ?_, fun h => ?_⟩
      rotate_left
      · rw [wanted_of (j := 3) (s := 16) (want := true) (b := true) rfl rfl (by rw [hF.size, hsz]; decide) (hd ⟨3, .guard⟩ (by simp) rfl)] at h
        cases h
      refine op_guard ?_
      have h5 : a.eval (.tmp 18) = .agg SQ := hd ⟨5, .data⟩ (by simp) rfl
      have h6 : a.eval (.tmp 19) = .agg SQ := hd ⟨6, .data⟩ (by simp) rfl
      refine op_call_ret (R := fun v w' => v = .agg SM ∧ Old W w') Tryz.call59 (vs := #[.agg SQ, .agg SQ]) (by simp [h5, h6]) ((KM W g).mono fun e w' h => ⟨_, h.1, rfl, h.2⟩) ?_
      rintro x w' ⟨rfl, g'⟩
      exact ⟨_, rfl, g', (fun h => absurd h (by decide)), rfl⟩
    · intro a W g0 hF hd
      have g := g0 rfl
      refine ⟨fun _ => ?_, fun h => ?_⟩
      rotate_left
      · rw [wanted_of (j := 3) (s := 16) (want := true) (b := true) rfl rfl (by rw [hF.size, hsz]; decide) (hd ⟨3, .guard⟩ (by simp) rfl)] at h
        cases h
      refine op_guard ?_
      have h4 : a.eval (.tmp 17) = .agg SA := hd ⟨4, .data⟩ (by simp) rfl
      have h7 : a.eval (.tmp 20) = .agg SM := hd ⟨7, .data⟩ (by simp) rfl
      refine op_call_ret (R := fun v w' => v = .int .i64 c ∧ Old W w') Tryz.call20 (vs := #[.agg SA, .agg SM]) (by simp [h4, h7]) ((KC W g).mono fun e w' h => ⟨_, h.1, rfl, h.2⟩) ?_
      rintro x w' ⟨rfl, g'⟩
      exact ⟨_, rfl, g', (fun h => absurd h (by decide)), rfl⟩
    · intro a W g0 hF hd
      refine ⟨fun _ => ?_, fun h => ?_⟩
      rotate_left
      · rw [wanted_of (j := 3) (s := 16) (want := true) (b := true) rfl rfl (by rw [hF.size, hsz]; decide) (hd ⟨3, .guard⟩ (by simp) rfl)] at h
        cases h
      refine op_guard ?_
      have h8 : a.eval (.tmp 21) = .int .i64 c := hd ⟨8, .data⟩ (by simp) rfl
      have c1 : a.eval (.const (.int .i64 0)) = .int .i64 0 := rfl
      obtain ⟨ρ, hρ⟩ : ∃ ρ, a.eval = ρ := ⟨_, rfl⟩
      rw [hρ] at h8 c1
      refine op_val ρ hρ (.bool (decide (c ≤ 0))) ?_ ⟨_, rfl, Old.refl _, (fun _ => rfl), rfl⟩
      clear g0 hF hd hρ HK KF KM KC ha3 ha4 ha6 ha7 px_ab b_ab px_qb b_qb px_rb b_rb px_wb b_wb  
      go_simp
      all_goals (first | (rw [IntKind.wrap_i64]; omega) | (rw [IntKind.wrap_u64]; omega) | omega)
    · intro a W g0 hF hd
      refine ⟨fun _ => ?_, fun h => by rw [wanted_none rfl] at h; cases h⟩
      have h3 : a.eval (.tmp 16) = .bool true := hd ⟨3, .data⟩ (by simp) rfl
      have h9 : a.eval (.tmp 22) = .bool (decide (c ≤ 0)) := hd ⟨9, .data⟩ (by simp) rfl
      obtain ⟨ρ, hρ⟩ : ∃ ρ, a.eval = ρ := ⟨_, rfl⟩
      rw [hρ] at h3 h9
      refine op_val ρ hρ (.bool (decide (c ≤ 0))) ?_ ⟨_, rfl, Old.refl _, (fun _ => rfl), rfl⟩
      clear g0 hF hd hρ HK KF KM KC ha3 ha4 ha6 ha7 px_ab b_ab px_qb b_qb px_rb b_rb px_wb b_wb  
      go_simp
      all_goals (first | (rw [IntKind.wrap_i64]; omega) | (rw [IntKind.wrap_u64]; omega) | omega)
  · intro a W g hF hq
    refine op_store (k := rb) ((hF.same 4 slotRt_no4).trans ha4) (show a.eval (.tmp 13) = .agg SA from hq 0 (by decide) (by decide)) (px_rb W g) (by rw [hZ_SA.1]; exact infoSz) (by rw [hZ_SA.1]; exact hS_rb) hZ_SA.2 ?_
    exact ⟨rfl, W, g, rfl⟩
  · intro a W hT hF hq
    obtain ⟨W1, g, rfl⟩ := hT
    have hput := fram_put (show Fram 11 slotRt b0 a from hF) (fun i j hi hj => slotRt_inj i hi j hj)
    have hk := HK.out (fun i => a.eval (.tmp (slotRt i))) W1 g 
    rw [← hput] at hk
    refine op_assign ?_
    rw [show a.eval (.tmp 23) = .bool (decide (c ≤ 0)) from hq 10 (by decide)]
    exact hk
def slotRf (i : Nat) : Nat := [13, 14, 15, 16, 17, 18, 19, 20, 21, 22, 23].getD i 0
theorem slotRf_lt : ∀ i, i < 11 → slotRf i < 24 := by decide
theorem slotRf_inj : ∀ i, i < 11 → ∀ j, j < 11 → slotRf i = slotRf j → i = j := by decide
theorem slotRf_no3 : ∀ i, i < 11 → slotRf i ≠ 3 := by decide
theorem slotRf_no4 : ∀ i, i < 11 → slotRf i ≠ 4 := by decide
theorem slotRf_no6 : ∀ i, i < 11 → slotRf i ≠ 6 := by decide
def qRf (ab qb rb : Nat) (wb : Nat) (nb : Bool) (a1 : Option Addr) (l1 c1 : Nat) (SA SQ SM Z : Array Value) (c : Int) (i : Nat) (x : Value) : Prop :=
  match i with
  | 0 => x = .agg SA
  | 1 => x = .agg #[.bool nb, .slice a1 l1 c1]
  | 2 => x = .bool false
  | 3 => x = .bool false
  | 4 => True
  | 5 => True
  | 6 => True
  | 7 => True
  | 8 => True
  | 9 => True
  | 10 => x = .bool false
  | _ => True
set_option maxRecDepth 100000 in
set_option maxHeartbeats 8000000 in
theorem reg_Rf (w0 : World) (ab qb rb : Nat) (wb : Nat) (nb : Bool) (a1 : Option Addr) (l1 c1 : Nat) (SA SQ SM Z : Array Value) (c : Int)     (b_ab : w0.heap[ab]? = some (.cells SA 53 (0, 0))) (hS_ab : SA.size = 81) (b_rb : w0.heap[rb]? = some (.cells Z 53 (0, 0))) (hS_rb : Z.size = 81) (b_wb : w0.heap[wb]? = some (.cells #[.bool nb, .slice a1 l1 c1] 30 (0, 0))) (hZ_SA : (SA).size = 81 ∧ (SA).all (·.oneCell') = true)
    
    (KF : ∀ W, Old w0 W → Calls Tryz.prog 58 #[.agg #[.bool nb, .slice a1 l1 c1]] W fun e w' => e = .returned (.bool false) ∧ Old W w')
    (Q : Exit → Act → World → Prop) (b0 : Act) (hsz : b0.tmps.size = 24) (ha3 : b0.eval (.tmp 3) = .pointer (some ⟨wb, 0, none⟩)) (ha4 : b0.eval (.tmp 4) = .pointer (some ⟨rb, 0, none⟩)) (ha6 : b0.eval (.tmp 6) = .pointer (some ⟨ab, 0, none⟩))
    (HK : Hid (∀ (us : Nat → Value) (W : World) , Old w0 W → Q .normal ((putAll b0 ((List.range 11).map fun i => (slotRf i, us i))).put (some 5) (.bool false)) (W.setRow rb SA))) :
    Code.wp Tryz.prog ((Tryz.f29.body.bind (regionAtmul 2)).getD .skip) Q b0 w0 := by
  conv => arg 2; whnf
  have px_ab : ∀ W, Old w0 W → W.heap[ab]? = some (.cells SA 53 (0, 0)) := fun W g => (g.block ab (lt_of_some b_ab)).trans b_ab
  have px_rb : ∀ W, Old w0 W → W.heap[rb]? = some (.cells Z 53 (0, 0)) := fun W g => (g.block rb (lt_of_some b_rb)).trans b_rb
  have px_wb : ∀ W, Old w0 W → W.heap[wb]? = some (.cells #[.bool nb, .slice a1 l1 c1] 30 (0, 0)) := fun W g => (g.block wb (lt_of_some b_wb)).trans b_wb
  refine wp_region_mid 11 rfl rfl rfl (by kernel_rfl) (by kernel_rfl) rfl rfl [9, 10] (by kernel_rfl) (by kernel_rfl) slotRf (fun i hi => by rw [hsz]; exact slotRf_lt i hi) (fun i j hi hj => slotRf_inj i hi j hj) (qRf ab qb rb wb nb a1 l1 c1 SA SQ SM Z c) (fun W => ∃ W1, Old w0 W1 ∧ W = W1.setRow rb SA) ?_ ?_ ?_
  · refine ⟨?_, ?_, ?_, ?_, ?_, ?_, ?_, ?_, ?_, ?_, ?_, trivial⟩
    · intro a W g0 hF hd
      have g := g0 rfl
      refine ⟨fun _ => ?_, fun h => by rw [wanted_none rfl] at h; cases h⟩
      have e6 := (hF.same 6 slotRf_no6).trans ha6
      refine op_load (k := ab) e6 (px_ab W g) Tryz.underlying53 rfl (by rw [hS_ab]; exact infoSz) ?_
      exact ⟨_, rfl, Old.refl _, (fun h => absurd h (by decide)), rfl⟩
    · intro a W g0 hF hd
      have g := g0 rfl
      refine ⟨fun _ => ?_, fun h => by rw [wanted_none rfl] at h; cases h⟩
      have e3 := (hF.same 3 slotRf_no3).trans ha3
      refine op_load (k := wb) e3 (px_wb W g) Tryz.underlying30 rfl (by kernel_rfl) ?_
      exact ⟨_, rfl, Old.refl _, (fun h => absurd h (by decide)), rfl⟩
    · intro a W g0 hF hd
      have g := g0 rfl
      refine ⟨fun _ => ?_, fun h => by rw [wanted_none rfl] at h; cases h⟩
      have h1 : a.eval (.tmp 14) = .agg #[.bool nb, .slice a1 l1 c1] := hd ⟨1, .data⟩ (by simp) rfl
      refine op_call_ret (R := fun v w' => v = .bool false ∧ Old W w') Tryz.call58 (vs := #[.agg #[.bool nb, .slice a1 l1 c1]]) (by simp [h1]) ((KF W g).mono fun e w' h => ⟨_, h.1, rfl, h.2⟩) ?_
      rintro x w' ⟨rfl, g'⟩
      exact ⟨_, rfl, g', (fun h => absurd h (by decide)), rfl⟩
    · intro a W g0 hF hd
      have g := g0 rfl
      refine ⟨fun _ => ?_, fun h => by rw [wanted_none rfl] at h; cases h⟩
      refine op_move ?_
      exact ⟨_, rfl, Old.refl _, (fun h => absurd h (by decide)), hd ⟨2, .data⟩ (by simp) rfl⟩
    · intro a W g0 hF hd
      have g := g0 rfl
      refine ⟨fun h => ?_, fun _ => ⟨rfl, trivial⟩⟩
      rw [wanted_of (j := 3) (s := 16) (want := true) (b := false) rfl rfl (by rw [hF.size, hsz]; decide) (hd ⟨3, .guard⟩ (by simp) rfl)] at h
      cases h
    · intro a W g0 hF hd
      have g := g0 rfl
      refine ⟨fun h => ?_, fun _ => ⟨rfl, trivial⟩⟩
      rw [wanted_of (j := 3) (s := 16) (want := true) (b := false) rfl rfl (by rw [hF.size, hsz]; decide) (hd ⟨3, .guard⟩ (by simp) rfl)] at h
      cases h
    · intro a W g0 hF hd
      have g := g0 rfl
      refine ⟨fun h => ?_, fun _ => ⟨rfl, trivial⟩⟩
      rw [wanted_of (j := 3) (s := 16) (want := true) (b := false) rfl rfl (by rw [hF.size, hsz]; decide) (hd ⟨3, .guard⟩ (by simp) rfl)] at h
      cases h
    · intro a W g0 hF hd
      have g := g0 rfl
      refine ⟨fun h => ?_, fun _ => ⟨rfl, trivial⟩⟩
      rw [wanted_of (j := 3) (s := 16) (want := true) (b := false) rfl rfl (by rw [hF.size, hsz]; decide) (hd ⟨3, .guard⟩ (by simp) rfl)] at h
      cases h
    · intro a W g0 hF hd
      have g := g0 rfl
      refine ⟨fun h => ?_, fun _ => ⟨rfl, trivial⟩⟩
      rw [wanted_of (j := 3) (s := 16) (want := true) (b := false) rfl rfl (by rw [hF.size, hsz]; decide) (hd ⟨3, .guard⟩ (by simp) rfl)] at h
      cases h
    · intro a W g0 hF hd
      refine ⟨fun h => ?_, fun _ => ⟨rfl, trivial⟩⟩
      rw [wanted_of (j := 3) (s := 16) (want := true) (b := false) rfl rfl (by rw [hF.size, hsz]; decide) (hd ⟨3, .guard⟩ (by simp) rfl)] at h
      cases h
    · intro a W g0 hF hd
      refine ⟨fun _ => ?_, fun h => by rw [wanted_none rfl] at h; cases h⟩
      have h3 : a.eval (.tmp 16) = .bool false := hd ⟨3, .data⟩ (by simp) rfl
      have c1 : a.eval (.const (.bool false)) = .bool false := rfl
      obtain ⟨ρ, hρ⟩ : ∃ ρ, a.eval = ρ := ⟨_, rfl⟩
      rw [hρ] at h3 c1
      refine op_val ρ hρ (.bool false) ?_ ⟨_, rfl, Old.refl _, (fun _ => rfl), rfl⟩
      clear g0 hF hd hρ HK KF ha3 ha4 ha6 px_ab b_ab px_rb b_rb px_wb b_wb  
      go_simp
      all_goals (first | (rw [IntKind.wrap_i64]; omega) | (rw [IntKind.wrap_u64]; omega) | omega)
  · intro a W g hF hq
    refine op_store (k := rb) ((hF.same 4 slotRf_no4).trans ha4) (show a.eval (.tmp 13) = .agg SA from hq 0 (by decide) (by decide)) (px_rb W g) (by rw [hZ_SA.1]; exact infoSz) (by rw [hZ_SA.1]; exact hS_rb) hZ_SA.2 ?_
    exact ⟨rfl, W, g, rfl⟩
  · intro a W hT hF hq
    obtain ⟨W1, g, rfl⟩ := hT
    have hput := fram_put (show Fram 11 slotRf b0 a from hF) (fun i j hi hj => slotRf_inj i hi j hj)
    have hk := HK.out (fun i => a.eval (.tmp (slotRf i))) W1 g 
    rw [← hput] at hk
    refine op_assign ?_
    rw [show a.eval (.tmp 23) = .bool false from hq 10 (by decide)]
    exact hk
end Go.Proofs.YtihjndakgncdaaaGreatDoor
