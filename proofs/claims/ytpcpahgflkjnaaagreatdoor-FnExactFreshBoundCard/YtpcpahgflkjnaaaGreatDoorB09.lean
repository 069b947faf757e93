/- Proved: several texts in one: what each proves is said ahead of it. -/
import Derived.Test.YtpcpahgflkjnaaaGreatDoorB05
import Derived.Test.YtpcpahgflkjnaaaGreatDoorMlr
import Derived.Test.YtpcpahgflkjnaaaGreatDoorB07
import Derived.KernelRfl
import Derived.Test.YtpcpahgflkjnaaaGreatDoorB08
/- Proved: drawn regions of the model's bounds. -/
namespace Go.Proofs.YtpcpahgflkjnaaaGreatDoor
open Go.ChangeShapes Go.WideShapes Go.ChangeAt Go.RowKit
set_option linter.unusedVariables false
set_option linter.unusedSimpArgs false
def slotMd (i : Nat) : Nat := [3, 4, 5, 6, 7, 8, 9, 10, 11, 12, 13, 14, 15, 16, 17, 18, 19, 20, 21, 2].getD i 0
theorem slotMd_lt : ∀ i, i < 20 → slotMd i < 22 := by decide
theorem slotMd_inj : ∀ i, i < 20 → ∀ j, j < 20 → slotMd i = slotMd j → i = j := by decide
theorem slotMd_no1 : ∀ i, i < 20 → slotMd i ≠ 1 := by decide
def qMd (N T E : Int) (a0 : Option Addr) (l0 c0 pb : Nat) (r : Int) (PO : World → Value → Prop) (PE : World → Value → Prop) (PS : World → Value → Prop) (i : Nat) (W : World) (x : Value) : Prop :=
  match i with
  | 0 => x = .agg #[.int .i64 N, .int .i64 T, .int .i64 E, .slice a0 l0 c0]
  | 1 => x = .int .i64 r
  | 2 => x = .pointer (some ⟨pb, 1, none⟩)
  | 3 => x = .int .i64 T
  | 4 => x = .int .i64 (T - 1)
  | 5 => x = .int .i64 (r * (T - 1))
  | 6 => PO W x
  | 7 => x = .pointer (some ⟨pb, 1, none⟩)
  | 8 => x = .int .i64 T
  | 9 => x = .pointer (some ⟨pb, 2, none⟩)
  | 10 => x = .int .i64 E
  | 11 => x = .int .i64 (T * E)
  | 12 => x = .pointer (some ⟨pb, 0, none⟩)
  | 13 => x = .int .i64 N
  | 14 => x = .int .i64 (2 * N)
  | 15 => x = .int .i64 ((2 * N) + 1)
  | 16 => x = .int .i64 ((T * E) * ((2 * N) + 1))
  | 17 => PE W x
  | 18 => PS W x
  | 19 => PS W x
  | _ => True
theorem qMd_old (N T E : Int) (a0 : Option Addr) (l0 c0 pb : Nat) (r : Int) (PO : World → Value → Prop) (PE : World → Value → Prop) (PS : World → Value → Prop) (hM_PO : ∀ W W' v, PO W v → Old W W' → PO W' v) (hM_PE : ∀ W W' v, PE W v → Old W W' → PE W' v) (hM_PS : ∀ W W' v, PS W v → Old W W' → PS W' v) (i : Nat) (W W' : World) (x : Value) (h : qMd N T E a0 l0 c0 pb r PO PE PS i W x) (qo : Old W W') : qMd N T E a0 l0 c0 pb r PO PE PS i W' x := by
  unfold qMd at h ⊢
  split at h
  case h_7 => exact hM_PO _ _ _ h qo
  case h_18 => exact hM_PE _ _ _ h qo
  case h_19 => exact hM_PS _ _ _ h qo
  case h_20 => exact hM_PS _ _ _ h qo
  all_goals first | exact h | trivial
set_option maxRecDepth 100000 in
set_option maxHeartbeats 8000000 in
theorem reg_Md (w0 : World) (N T E : Int) (a0 : Option Addr) (l0 c0 pb : Nat) (r : Int) (PO : World → Value → Prop) (PE : World → Value → Prop) (PS : World → Value → Prop) (hM_PO : ∀ W W' v, PO W v → Old W W' → PO W' v) (hM_PE : ∀ W W' v, PE W v → Old W W' → PE W' v) (hM_PS : ∀ W W' v, PS W v → Old W W' → PS W' v)   (b_pb : w0.heap[pb]? = some (.cells #[.int .i64 N, .int .i64 T, .int .i64 E, .slice a0 l0 c0] 34 (0, 0))) 
    (hN : 2 ≤ N ∧ N ≤ 16) (hT : 2 ≤ T ∧ T ≤ 65536) (hm : 0 ≤ r * (T - 1) ∧ r * (T - 1) ≤ 4611686018427387904) (hTE : 0 ≤ T * E ∧ T * E ≤ 1048576) (hX : 0 ≤ T * E * (2 * N + 1) ∧ T * E * (2 * N + 1) ≤ 34603008)
    (KR : ∀ W, Old w0 W → Calls Tryz.prog 87 #[.agg #[.int .i64 N, .int .i64 T, .int .i64 E, .slice a0 l0 c0]] W fun e w' => e = .returned (.int .i64 r) ∧ Old W w')
    (KO : ∀ W, Old w0 W → Calls Tryz.prog 86 #[.int .i64 (r * (T - 1))] W fun e w' => ∃ v, e = .returned v ∧ Old W w' ∧ PO w' v)
    (KE : ∀ W, Old w0 W → Calls Tryz.prog 86 #[.int .i64 ((T * E) * ((2 * N) + 1))] W fun e w' => ∃ v, e = .returned v ∧ Old W w' ∧ PE w' v)
    (KA : ∀ W, Old w0 W → ∀ (u6 : Value) (u17 : Value), PO W u6 → PE W u17 → Calls Tryz.prog 85 #[u6, u17] W fun e w' => ∃ v, e = .returned v ∧ Old W w' ∧ PS w' v)
    (Q : Exit → Act → World → Prop) (b0 : Act) (hsz : b0.tmps.size = 22) (ha1 : b0.eval (.tmp 1) = .pointer (some ⟨pb, 0, none⟩))
    (HK : Hid (∀ (us : Nat → Value) (W : World) , Old w0 W → PS W (us 19) → Q .normal (putAll b0 ((List.range 20).map fun i => (slotMd i, us i))) W)) :
    Code.wp Tryz.prog ((Tryz.f82.body.bind (regionAtmul 1)).getD .skip) Q b0 w0 := by
  conv => arg 2; whnf
  have px_pb : ∀ W, Old w0 W → W.heap[pb]? = some (.cells #[.int .i64 N, .int .i64 T, .int .i64 E, .slice a0 l0 c0] 34 (0, 0)) := fun W g => (g.block pb (lt_of_some b_pb)).trans b_pb
  have pc_pb_0 : ∀ W, Old w0 W → W.cell? ⟨pb, 0, none⟩ = some (.int .i64 N) := fun W g => cell_of_row W pb 0 _ _ (0, 0) (px_pb W g)
  have pc_pb_1 : ∀ W, Old w0 W → W.cell? ⟨pb, 1, none⟩ = some (.int .i64 T) := fun W g => cell_of_row W pb 1 _ _ (0, 0) (px_pb W g)
  have pc_pb_2 : ∀ W, Old w0 W → W.cell? ⟨pb, 2, none⟩ = some (.int .i64 E) := fun W g => cell_of_row W pb 2 _ _ (0, 0) (px_pb W g)
  refine wp_region_old (by kernel_rfl) (by kernel_rfl) (by kernel_rfl) slotMd (fun i hi => by rw [hsz]; exact slotMd_lt i hi) (fun i j hi hj => slotMd_inj i hi j hj) (qMd N T E a0 l0 c0 pb r PO PE PS ) (qMd_old N T E a0 l0 c0 pb r PO PE PS hM_PO hM_PE hM_PS) ?_ ?_
  · refine ⟨?_, ?_, ?_, ?_, ?_, ?_, ?_, ?_, ?_, ?_, ?_, ?_, ?_, ?_, ?_, ?_, ?_, ?_, ?_, ?_, trivial⟩
    · intro a W g hF hd
      have e1 := (hF.same 1 slotMd_no1).trans ha1
      refine op_load (k := pb) e1 (px_pb W g) Tryz.underlying34 rfl (by kernel_rfl) ?_
      exact ⟨_, rfl, Old.refl _, rfl⟩
    · intro a W g hF hd
      have h0 : a.eval (.tmp 3) = .agg #[.int .i64 N, .int .i64 T, .int .i64 E, .slice a0 l0 c0] := hd ⟨0, .data⟩ (by simp) rfl
      refine op_call_ret (R := fun v w' => v = .int .i64 r ∧ Old W w') Tryz.call87 (vs := #[.agg #[.int .i64 N, .int .i64 T, .int .i64 E, .slice a0 l0 c0]]) (by simp [h0]) ((KR W g).mono fun e w' h => ⟨_, h.1, rfl, h.2⟩) ?_
      rintro x w' ⟨rfl, g'⟩
      exact ⟨_, rfl, g', rfl⟩
    · intro a W g hF hd
      have e1 := (hF.same 1 slotMd_no1).trans ha1
      obtain ⟨ρ, hρ⟩ : ∃ ρ, a.eval = ρ := ⟨_, rfl⟩
      rw [hρ] at e1
      refine op_val ρ hρ (.pointer (some ⟨pb, 1, none⟩)) ?_ ⟨_, rfl, Old.refl _, rfl⟩
      clear g hF hd hρ HK KR KO KE KA ha1 px_pb b_pb pc_pb_0 pc_pb_1 pc_pb_2 
      go_simp
      all_goals (first | (rw [IntKind.wrap_i64]; omega) | (rw [IntKind.wrap_u64]; omega) | omega)
    · intro a W g hF hd
      have h2 : a.eval (.tmp 5) = .pointer (some ⟨pb, 1, none⟩) := hd ⟨2, .data⟩ (by simp) rfl
      have kk0 := pc_pb_1 W g
      obtain ⟨ρ, hρ⟩ : ∃ ρ, a.eval = ρ := ⟨_, rfl⟩
      rw [hρ] at h2
      refine op_val ρ hρ (.int .i64 T) ?_ ⟨_, rfl, Old.refl _, rfl⟩
      clear g hF hd hρ HK KR KO KE KA ha1 px_pb b_pb pc_pb_0 pc_pb_1 pc_pb_2 
      go_simp
      all_goals (first | (rw [IntKind.wrap_i64]; omega) | (rw [IntKind.wrap_u64]; omega) | omega)
    · intro a W g hF hd
      have h3 : a.eval (.tmp 6) = .int .i64 T := hd ⟨3, .data⟩ (by simp) rfl
      have c1 : a.eval (.const (.int .i64 1)) = .int .i64 1 := rfl
      obtain ⟨ρ, hρ⟩ : ∃ ρ, a.eval = ρ := ⟨_, rfl⟩
      rw [hρ] at h3 c1
      refine op_val ρ hρ (.int .i64 (T - 1)) ?_ ⟨_, rfl, Old.refl _, rfl⟩
      clear g hF hd hρ HK KR KO KE KA ha1 px_pb b_pb pc_pb_0 pc_pb_1 pc_pb_2 
      go_simp
      all_goals (first | (rw [IntKind.wrap_i64]; omega) | (rw [IntKind.wrap_u64]; omega) | omega)
    · intro a W g hF hd
      have h1 : a.eval (.tmp 4) = .int .i64 r := hd ⟨1, .data⟩ (by simp) rfl
      have h4 : a.eval (.tmp 7) = .int .i64 (T - 1) := hd ⟨4, .data⟩ (by simp) rfl
      obtain ⟨ρ, hρ⟩ : ∃ ρ, a.eval = ρ := ⟨_, rfl⟩
      rw [hρ] at h1 h4
      refine op_val ρ hρ (.int .i64 (r * (T - 1))) ?_ ⟨_, rfl, Old.refl _, rfl⟩
      clear g hF hd hρ HK KR KO KE KA ha1 px_pb b_pb pc_pb_0 pc_pb_1 pc_pb_2 
      go_simp
      all_goals (first | (rw [IntKind.wrap_i64]; omega) | (rw [IntKind.wrap_u64]; omega) | omega)
    · intro a W g hF hd
      have h5 : a.eval (.tmp 8) = .int .i64 (r * (T - 1)) := hd ⟨5, .data⟩ (by simp) rfl
      refine op_call_ret (R := fun v w' => Old W w' ∧ PO w' v) Tryz.call86 (vs := #[.int .i64 (r * (T - 1))]) (by simp [h5]) (KO W g) ?_
      rintro x w' ⟨g', hp⟩
      exact ⟨_, rfl, g', hp⟩
    · intro a W g hF hd
      have e1 := (hF.same 1 slotMd_no1).trans ha1
      obtain ⟨ρ, hρ⟩ : ∃ ρ, a.eval = ρ := ⟨_, rfl⟩
      rw [hρ] at e1
      refine op_val ρ hρ (.pointer (some ⟨pb, 1, none⟩)) ?_ ⟨_, rfl, Old.refl _, rfl⟩
      clear g hF hd hρ HK KR KO KE KA ha1 px_pb b_pb pc_pb_0 pc_pb_1 pc_pb_2 
      go_simp
      all_goals (first | (rw [IntKind.wrap_i64]; omega) | (rw [IntKind.wrap_u64]; omega) | omega)
    · intro a W g hF hd
      have h7 : a.eval (.tmp 10) = .pointer (some ⟨pb, 1, none⟩) := hd ⟨7, .data⟩ (by simp) rfl
      have kk0 := pc_pb_1 W g
      obtain ⟨ρ, hρ⟩ : ∃ ρ, a.eval = ρ := ⟨_, rfl⟩
      rw [hρ] at h7
      refine op_val ρ hρ (.int .i64 T) ?_ ⟨_, rfl, Old.refl _, rfl⟩
      clear g hF hd hρ HK KR KO KE KA ha1 px_pb b_pb pc_pb_0 pc_pb_1 pc_pb_2 
      go_simp
      all_goals (first | (rw [IntKind.wrap_i64]; omega) | (rw [IntKind.wrap_u64]; omega) | omega)
    · intro a W g hF hd
      have e1 := (hF.same 1 slotMd_no1).trans ha1
      obtain ⟨ρ, hρ⟩ : ∃ ρ, a.eval = ρ := ⟨_, rfl⟩
      rw [hρ] at e1
      refine op_val ρ hρ (.pointer (some ⟨pb, 2, none⟩)) ?_ ⟨_, rfl, Old.refl _, rfl⟩
      clear g hF hd hρ HK KR KO KE KA ha1 px_pb b_pb pc_pb_0 pc_pb_1 pc_pb_2 
      go_simp
      all_goals (first | (rw [IntKind.wrap_i64]; omega) | (rw [IntKind.wrap_u64]; omega) | omega)
    · intro a W g hF hd
      have h9 : a.eval (.tmp 12) = .pointer (some ⟨pb, 2, none⟩) := hd ⟨9, .data⟩ (by simp) rfl
      have kk0 := pc_pb_2 W g
      obtain ⟨ρ, hρ⟩ : ∃ ρ, a.eval = ρ := ⟨_, rfl⟩
      rw [hρ] at h9
      refine op_val ρ hρ (.int .i64 E) ?_ ⟨_, rfl, Old.refl _, rfl⟩
      clear g hF hd hρ HK KR KO KE KA ha1 px_pb b_pb pc_pb_0 pc_pb_1 pc_pb_2 
      go_simp
      all_goals (first | (rw [IntKind.wrap_i64]; omega) | (rw [IntKind.wrap_u64]; omega) | omega)
    · intro a W g hF hd
      have h8 : a.eval (.tmp 11) = .int .i64 T := hd ⟨8, .data⟩ (by simp) rfl
      have h10 : a.eval (.tmp 13) = .int .i64 E := hd ⟨10, .data⟩ (by simp) rfl
      obtain ⟨ρ, hρ⟩ : ∃ ρ, a.eval = ρ := ⟨_, rfl⟩
      rw [hρ] at h8 h10
      refine op_val ρ hρ (.int .i64 (T * E)) ?_ ⟨_, rfl, Old.refl _, rfl⟩
      clear g hF hd hρ HK KR KO KE KA ha1 px_pb b_pb pc_pb_0 pc_pb_1 pc_pb_2 
      go_simp
      all_goals (first | (rw [IntKind.wrap_i64]; omega) | (rw [IntKind.wrap_u64]; omega) | omega)
    · intro a W g hF hd
      have e1 := (hF.same 1 slotMd_no1).trans ha1
      obtain ⟨ρ, hρ⟩ : ∃ ρ, a.eval = ρ := ⟨_, rfl⟩
      rw [hρ] at e1
      refine op_val ρ hρ (.pointer (some ⟨pb, 0, none⟩)) ?_ ⟨_, rfl, Old.refl _, rfl⟩
      clear g hF hd hρ HK KR KO KE KA ha1 px_pb b_pb pc_pb_0 pc_pb_1 pc_pb_2 
      go_simp
      all_goals (first | (rw [IntKind.wrap_i64]; omega) | (rw [IntKind.wrap_u64]; omega) | omega)
    · intro a W g hF hd
      have h12 : a.eval (.tmp 15) = .pointer (some ⟨pb, 0, none⟩) := hd ⟨12, .data⟩ (by simp) rfl
      have kk0 := pc_pb_0 W g
      obtain ⟨ρ, hρ⟩ : ∃ ρ, a.eval = ρ := ⟨_, rfl⟩
      rw [hρ] at h12
      refine op_val ρ hρ (.int .i64 N) ?_ ⟨_, rfl, Old.refl _, rfl⟩
      clear g hF hd hρ HK KR KO KE KA ha1 px_pb b_pb pc_pb_0 pc_pb_1 pc_pb_2 
      go_simp
      all_goals (first | (rw [IntKind.wrap_i64]; omega) | (rw [IntKind.wrap_u64]; omega) | omega)
    · intro a W g hF hd
      have c0 : a.eval (.const (.int .i64 2)) = .int .i64 2 := rfl
      have h13 : a.eval (.tmp 16) = .int .i64 N := hd ⟨13, .data⟩ (by simp) rfl
      obtain ⟨ρ, hρ⟩ : ∃ ρ, a.eval = ρ := ⟨_, rfl⟩
      rw [hρ] at c0 h13
      refine op_val ρ hρ (.int .i64 (2 * N)) ?_ ⟨_, rfl, Old.refl _, rfl⟩
      clear g hF hd hρ HK KR KO KE KA ha1 px_pb b_pb pc_pb_0 pc_pb_1 pc_pb_2 
      go_simp
      all_goals (first | (rw [IntKind.wrap_i64]; omega) | (rw [IntKind.wrap_u64]; omega) | omega)
    · intro a W g hF hd
      have h14 : a.eval (.tmp 17) = .int .i64 (2 * N) := hd ⟨14, .data⟩ (by simp) rfl
      have c1 : a.eval (.const (.int .i64 1)) = .int .i64 1 := rfl
      obtain ⟨ρ, hρ⟩ : ∃ ρ, a.eval = ρ := ⟨_, rfl⟩
      rw [hρ] at h14 c1
      refine op_val ρ hρ (.int .i64 ((2 * N) + 1)) ?_ ⟨_, rfl, Old.refl _, rfl⟩
      clear g hF hd hρ HK KR KO KE KA ha1 px_pb b_pb pc_pb_0 pc_pb_1 pc_pb_2 
      go_simp
      all_goals (first | (rw [IntKind.wrap_i64]; omega) | (rw [IntKind.wrap_u64]; omega) | omega)
    · intro a W g hF hd
      have h11 : a.eval (.tmp 14) = .int .i64 (T * E) := hd ⟨11, .data⟩ (by simp) rfl
      have h15 : a.eval (.tmp 18) = .int .i64 ((2 * N) + 1) := hd ⟨15, .data⟩ (by simp) rfl
      obtain ⟨ρ, hρ⟩ : ∃ ρ, a.eval = ρ := ⟨_, rfl⟩
      rw [hρ] at h11 h15
      refine op_val ρ hρ (.int .i64 ((T * E) * ((2 * N) + 1))) ?_ ⟨_, rfl, Old.refl _, rfl⟩
      clear g hF hd hρ HK KR KO KE KA ha1 px_pb b_pb pc_pb_0 pc_pb_1 pc_pb_2 
      go_simp
      all_goals (first | (rw [IntKind.wrap_i64]; omega) | (rw [IntKind.wrap_u64]; omega) | omega)
    · intro a W g hF hd
      have h16 : a.eval (.tmp 19) = .int .i64 ((T * E) * ((2 * N) + 1)) := hd ⟨16, .data⟩ (by simp) rfl
      refine op_call_ret (R := fun v w' => Old W w' ∧ PE w' v) Tryz.call86 (vs := #[.int .i64 ((T * E) * ((2 * N) + 1))]) (by simp [h16]) (KE W g) ?_
      rintro x w' ⟨g', hp⟩
      exact ⟨_, rfl, g', hp⟩
    · intro a W g hF hd
      have p6 : PO W (a.eval (.tmp 9)) := hd ⟨6, .data⟩ (by simp) rfl
      have p17 : PE W (a.eval (.tmp 20)) := hd ⟨17, .data⟩ (by simp) rfl
      refine op_call_ret (R := fun v w' => Old W w' ∧ PS w' v) Tryz.call85 (vs := #[a.eval (.tmp 9), a.eval (.tmp 20)]) (by simp) (KA W g _ _ p6 p17) ?_
      rintro x w' ⟨g', hp⟩
      exact ⟨_, rfl, g', hp⟩
    · intro a W g hF hd
      refine op_assign ?_
      exact ⟨_, rfl, Old.refl _, hd ⟨18, .data⟩ (by simp) rfl⟩
  · intro a W g hF hq
    have hput := fram_put (show Fram 20 slotMd b0 a from hF) (fun i j hi hj => slotMd_inj i hi j hj)
    have hk := HK.out (fun i => a.eval (.tmp (slotMd i))) W g  (hq 19 (by decide))
    rw [← hput] at hk
    exact hk
def slotMe (i : Nat) : Nat := [8, 9, 10, 11, 12, 13].getD i 0
theorem slotMe_lt : ∀ i, i < 6 → slotMe i < 14 := by decide
theorem slotMe_inj : ∀ i, i < 6 → ∀ j, j < 6 → slotMe i = slotMe j → i = j := by decide
theorem slotMe_no1 : ∀ i, i < 6 → slotMe i ≠ 1 := by decide
theorem slotMe_no2 : ∀ i, i < 6 → slotMe i ≠ 2 := by decide
def qMe (N T E : Int) (a0 : Option Addr) (l0 c0 pb : Nat) (rb : Nat) (PF : World → Value → Prop) (PW : World → Value → Prop) (PA : World → Value → Prop) (i : Nat) (W : World) (x : Value) : Prop :=
  match i with
  | 0 => x = .agg #[.int .i64 N, .int .i64 T, .int .i64 E, .slice a0 l0 c0]
  | 1 => x = .agg #[.int .i64 N, .int .i64 T, .int .i64 E, .slice a0 l0 c0]
  | 2 => PF W x
  | 3 => PW W x
  | 4 => PA W x
  | 5 => x = .bool true
  | _ => True
theorem qMe_old (N T E : Int) (a0 : Option Addr) (l0 c0 pb : Nat) (rb : Nat) (PF : World → Value → Prop) (PW : World → Value → Prop) (PA : World → Value → Prop) (hM_PF : ∀ W W' v, PF W v → Old W W' → PF W' v) (hM_PW : ∀ W W' v, PW W v → Old W W' → PW W' v) (hM_PA : ∀ W W' v, PA W v → Old W W' → PA W' v) (i : Nat) (W W' : World) (x : Value) (h : qMe N T E a0 l0 c0 pb rb PF PW PA i W x) (qo : Old W W') : qMe N T E a0 l0 c0 pb rb PF PW PA i W' x := by
  unfold qMe at h ⊢
  split at h
  case h_3 => exact hM_PF _ _ _ h qo
  case h_4 => exact hM_PW _ _ _ h qo
  case h_5 => exact hM_PA _ _ _ h qo
  all_goals first | exact h | trivial
set_option maxRecDepth 100000 in
set_option maxHeartbeats 8000000 in
theorem reg_Me (w0 : World) (N T E : Int) (a0 : Option Addr) (l0 c0 pb : Nat) (rb : Nat) (PF : World → Value → Prop) (PW : World → Value → Prop) (PA : World → Value → Prop) (hM_PF : ∀ W W' v, PF W v → Old W W' → PF W' v) (hM_PW : ∀ W W' v, PW W v → Old W W' → PW W' v) (hM_PA : ∀ W W' v, PA W v → Old W W' → PA W' v) (hT_PW : ∀ W x, PW W x → ∃ v1 v2, x = .tuple #[v1, v2] ∧ PA W v1 ∧ v2 = .bool true) (hA_PA : ∀ W x, PA W x → ∃ cs, x = .agg cs ∧ cs.size = 2 ∧ cs.all (·.oneCell') = true) (b_pb : w0.heap[pb]? = some (.cells #[.int .i64 N, .int .i64 T, .int .i64 E, .slice a0 l0 c0] 34 (0, 0))) (b_rb : w0.heap[rb]? = some (.cells #[.bool false, .slice none 0 0] 31 (0, 0))) 
    
    (KF : ∀ W, Old w0 W → Calls Tryz.prog 82 #[.agg #[.int .i64 N, .int .i64 T, .int .i64 E, .slice a0 l0 c0]] W fun e w' => ∃ v, e = .returned v ∧ Old W w' ∧ PF w' v)
    (KW : ∀ W, Old w0 W → ∀ (u2 : Value), PF W u2 → Calls Tryz.prog 81 #[.agg #[.int .i64 N, .int .i64 T, .int .i64 E, .slice a0 l0 c0], u2] W fun e w' => ∃ v, e = .returned v ∧ Old W w' ∧ PW w' v)
    (Q : Exit → Act → World → Prop) (b0 : Act) (hsz : b0.tmps.size = 14) (ha1 : b0.eval (.tmp 1) = .pointer (some ⟨pb, 0, none⟩)) (ha2 : b0.eval (.tmp 2) = .pointer (some ⟨rb, 0, none⟩))
    (HK : Hid (∀ (us : Nat → Value) (W : World) (cs : Array Value) , Old w0 W → PA W (.agg cs) → Q .normal ((putAll b0 ((List.range 6).map fun i => (slotMe i, us i))).put (some 3) (.bool true)) (W.setRow rb cs))) :
    Code.wp Tryz.prog ((Tryz.f31.body.bind (regionAtmul 3)).getD .skip) Q b0 w0 := by
  conv => arg 2; whnf
  have px_pb : ∀ W, Old w0 W → W.heap[pb]? = some (.cells #[.int .i64 N, .int .i64 T, .int .i64 E, .slice a0 l0 c0] 34 (0, 0)) := fun W g => (g.block pb (lt_of_some b_pb)).trans b_pb
  have px_rb : ∀ W, Old w0 W → W.heap[rb]? = some (.cells #[.bool false, .slice none 0 0] 31 (0, 0)) := fun W g => (g.block rb (lt_of_some b_rb)).trans b_rb
  refine wp_region_tailG 6 (by decide) (by kernel_rfl) (by kernel_rfl) (by kernel_rfl) (by kernel_rfl) (by kernel_rfl) slotMe (fun i hi => by rw [hsz]; exact slotMe_lt i hi) (fun i j hi hj => slotMe_inj i hi j hj) (qMe N T E a0 l0 c0 pb rb PF PW PA ) (qMe_old N T E a0 l0 c0 pb rb PF PW PA hM_PF hM_PW hM_PA) [] (fun i W v hi hq => by cases hi) ?_ ?_
  · refine ⟨?_, ?_, ?_, ?_, ?_, ?_, trivial⟩
    · intro a W g hF hd
      refine ⟨fun _ => ?_, fun h => by rw [wanted_none rfl] at h; cases h⟩
      have e1 := (hF.same 1 slotMe_no1).trans ha1
      refine op_load (k := pb) e1 (px_pb W g) Tryz.underlying34 rfl (by kernel_rfl) ?_
      exact ⟨_, rfl, Old.refl _, rfl, (fun h => absurd h (by decide))⟩
    · intro a W g hF hd
      refine ⟨fun _ => ?_, fun h => by rw [wanted_none rfl] at h; cases h⟩
      have e1 := (hF.same 1 slotMe_no1).trans ha1
      refine op_load (k := pb) e1 (px_pb W g) Tryz.underlying34 rfl (by kernel_rfl) ?_
      exact ⟨_, rfl, Old.refl _, rfl, (fun h => absurd h (by decide))⟩
    · intro a W g hF hd
      refine ⟨fun _ => ?_, fun h => by rw [wanted_none rfl] at h; cases h⟩
      have h1 : a.eval (.tmp 9) = .agg #[.int .i64 N, .int .i64 T, .int .i64 E, .slice a0 l0 c0] := hd ⟨1, .data⟩ (by simp) rfl
      refine op_call_ret (R := fun v w' => Old W w' ∧ PF w' v) Tryz.call82 (vs := #[.agg #[.int .i64 N, .int .i64 T, .int .i64 E, .slice a0 l0 c0]]) (by simp [h1]) (KF W g) ?_
      rintro x w' ⟨g', hp⟩
      exact ⟨_, rfl, g', hp, (fun h => absurd h (by decide))⟩
    · intro a W g hF hd
      refine ⟨fun _ => ?_, fun h => by rw [wanted_none rfl] at h; cases h⟩
      have h0 : a.eval (.tmp 8) = .agg #[.int .i64 N, .int .i64 T, .int .i64 E, .slice a0 l0 c0] := hd ⟨0, .data⟩ (by simp) rfl
      have p2 : PF W (a.eval (.tmp 10)) := hd ⟨2, .data⟩ (by simp) rfl
      refine op_call_ret (R := fun v w' => Old W w' ∧ PW w' v) Tryz.call81 (vs := #[.agg #[.int .i64 N, .int .i64 T, .int .i64 E, .slice a0 l0 c0], a.eval (.tmp 10)]) (by simp [h0]) (KW W g _ p2) ?_
      rintro x w' ⟨g', hp⟩
      exact ⟨_, rfl, g', hp, (fun h => absurd h (by decide))⟩
    · intro a W g hF hd
      refine ⟨fun _ => ?_, fun h => by rw [wanted_none rfl] at h; cases h⟩
      obtain ⟨v1, v2, ht, p1, p2⟩ := hT_PW W _ (hd ⟨3, .data⟩ (by simp) rfl)
      exact op_extract ht rfl ⟨_, rfl, Old.refl _, p1, (fun h => absurd h (by decide))⟩
    · intro a W g hF hd
      refine ⟨fun _ => ?_, fun h => by rw [wanted_none rfl] at h; cases h⟩
      obtain ⟨v1, v2, ht, p1, p2⟩ := hT_PW W _ (hd ⟨3, .data⟩ (by simp) rfl)
      exact op_extract ht rfl ⟨_, rfl, Old.refl _, p2, (fun h => absurd h (by decide))⟩
  · intro a W g hF hq hne
    have hput := fram_put (show Fram 6 slotMe b0 a from hF) (fun i j hi hj => slotMe_inj i hi j hj)
    obtain ⟨cs, ecs, hcs1, hcs2⟩ := hA_PA W _ (hq 4 (by decide))
    have hpc := hq 4 (by decide)
    rw [show a.eval (.tmp (slotMe 4)) = .agg cs from ecs] at hpc
    have hk := HK.out (fun i => a.eval (.tmp (slotMe i))) W cs g hpc 
    rw [← hput] at hk
    refine op_store (k := rb) ((hF.same 2 slotMe_no2).trans ha2) ecs (px_rb W g) (by rw [hcs1]; kernel_rfl) (by rw [hcs1]; rfl) hcs2 ?_
    show tailWp _ _ _ _ _
    refine op_assign ?_
    show tailWp _ _ _ _ _
    show tailWp _ _ _ (Act.put a (some 3) (a.eval (.tmp 13))) _
    rw [show a.eval (.tmp 13) = .bool true from hq 5 (by decide)]
    exact hk
end Go.Proofs.YtpcpahgflkjnaaaGreatDoor
/- Proved: drawn regions of the program's bounds. -/
namespace Go.Proofs.YtpcpahgflkjnaaaGreatDoor
open Go.ChangeShapes Go.WideShapes Go.ChangeAt Go.RowKit
set_option linter.unusedVariables false
set_option linter.unusedSimpArgs false
def slotFr (i : Nat) : Nat := [3, 4, 5, 6, 7, 8, 9, 10, 11, 12, 13, 14, 15, 16, 17, 18, 19, 20, 21].getD i 0
theorem slotFr_lt : ∀ i, i < 19 → slotFr i < 22 := by decide
theorem slotFr_inj : ∀ i, i < 19 → ∀ j, j < 19 → slotFr i = slotFr j → i = j := by decide
theorem slotFr_no1 : ∀ i, i < 19 → slotFr i ≠ 1 := by decide
theorem slotFr_no2 : ∀ i, i < 19 → slotFr i ≠ 2 := by decide
def qFr (N T E : Int) (a3 : Option Addr) (l3 c3 : Nat) (a4 : Option Addr) (l4 c4 : Nat) (a6 : Option Addr) (l6 c6 bx : Nat) (rb : Nat) (S1 SR Z : Array Value) (m : Int)  (i : Nat) (W : World) (x : Value) : Prop :=
  match i with
  | 0 => x = .agg #[.int .i64 N, .int .i64 T, .int .i64 E, .slice a3 l3 c3, .slice a4 l4 c4, .bool false, .slice a6 l6 c6]
  | 1 => x = .agg #[.int .i64 N, .int .i64 T, .int .i64 E, .slice a3 l3 c3, .slice a4 l4 c4, .bool false, .slice a6 l6 c6]
  | 2 => x = .int .i64 m
  | 3 => x = .int .u64 m
  | 4 => x = .agg S1
  | 5 => x = .pointer (some ⟨bx, 0, none⟩)
  | 6 => x = .pointer (some ⟨bx, 1, none⟩)
  | 7 => x = .int .i64 T
  | 8 => x = .pointer (some ⟨bx, 0, none⟩)
  | 9 => x = .pointer (some ⟨bx, 2, none⟩)
  | 10 => x = .int .i64 E
  | 11 => x = .int .i64 (T * E)
  | 12 => x = .pointer (some ⟨bx, 0, none⟩)
  | 13 => x = .pointer (some ⟨bx, 0, none⟩)
  | 14 => x = .int .i64 N
  | 15 => x = .int .i64 (2 * N)
  | 16 => x = .int .i64 ((2 * N) + 1)
  | 17 => x = .int .i64 ((T * E) * ((2 * N) + 1))
  | 18 => x = .agg SR
  | _ => True
theorem qFr_old (N T E : Int) (a3 : Option Addr) (l3 c3 : Nat) (a4 : Option Addr) (l4 c4 : Nat) (a6 : Option Addr) (l6 c6 bx : Nat) (rb : Nat) (S1 SR Z : Array Value) (m : Int)   (i : Nat) (W W' : World) (x : Value) (h : qFr N T E a3 l3 c3 a4 l4 c4 a6 l6 c6 bx rb S1 SR Z m  i W x) (qo : Old W W') : qFr N T E a3 l3 c3 a4 l4 c4 a6 l6 c6 bx rb S1 SR Z m  i W' x := by
  unfold qFr at h ⊢
  split at h
  all_goals first | exact h | trivial
set_option maxRecDepth 100000 in
set_option maxHeartbeats 8000000 in
theorem reg_Fr (w0 : World) (N T E : Int) (a3 : Option Addr) (l3 c3 : Nat) (a4 : Option Addr) (l4 c4 : Nat) (a6 : Option Addr) (l6 c6 bx : Nat) (rb : Nat) (S1 SR Z : Array Value) (m : Int)     (b_bx : w0.heap[bx]? = some (.cells #[.int .i64 N, .int .i64 T, .int .i64 E, .slice a3 l3 c3, .slice a4 l4 c4, .bool false, .slice a6 l6 c6] 87 (0, 0))) (b_rb : w0.heap[rb]? = some (.cells Z 113 (0, 0))) (hS_rb : Z.size = 81) (hZ_SR : (SR).size = 81 ∧ (SR).all (·.oneCell') = true)
    (hN : 2 ≤ N ∧ N ≤ 16) (hm : 0 ≤ m ∧ m ≤ 4611686018427387904) (hTE : 0 ≤ T * E ∧ T * E ≤ 1048576) (hX : 0 ≤ T * E * (2 * N + 1) ∧ T * E * (2 * N + 1) ≤ 34603008)
    (KP : ∀ W, Old w0 W → Calls Tryz.prog 143 #[.agg #[.int .i64 N, .int .i64 T, .int .i64 E, .slice a3 l3 c3, .slice a4 l4 c4, .bool false, .slice a6 l6 c6]] W fun e w' => e = .returned (.int .i64 m) ∧ Old W w')
    (KO : ∀ W, Old w0 W → Calls Tryz.prog 138 #[.int .u64 m] W fun e w' => e = .returned (.agg S1) ∧ Old W w')
    (KR : ∀ W, Old w0 W → Calls Tryz.prog 142 #[.agg #[.int .i64 N, .int .i64 T, .int .i64 E, .slice a3 l3 c3, .slice a4 l4 c4, .bool false, .slice a6 l6 c6], .agg S1, .int .i64 ((T * E) * ((2 * N) + 1))] W fun e w' => e = .returned (.agg SR) ∧ Old W w')
    (Q : Exit → Act → World → Prop) (b0 : Act) (hsz : b0.tmps.size = 22) (ha1 : b0.eval (.tmp 1) = .pointer (some ⟨bx, 0, none⟩)) (ha2 : b0.eval (.tmp 2) = .pointer (some ⟨rb, 0, none⟩))
    (HK : Hid (∀ (us : Nat → Value) (W : World) , Old w0 W → Q .normal (putAll b0 ((List.range 19).map fun i => (slotFr i, us i))) (W.setRow rb SR))) :
    Code.wp Tryz.prog ((Tryz.f83.body.bind (regionAtmul 1)).getD .skip) Q b0 w0 := by
  conv => arg 2; whnf
  have px_bx : ∀ W, Old w0 W → W.heap[bx]? = some (.cells #[.int .i64 N, .int .i64 T, .int .i64 E, .slice a3 l3 c3, .slice a4 l4 c4, .bool false, .slice a6 l6 c6] 87 (0, 0)) := fun W g => (g.block bx (lt_of_some b_bx)).trans b_bx
  have px_rb : ∀ W, Old w0 W → W.heap[rb]? = some (.cells Z 113 (0, 0)) := fun W g => (g.block rb (lt_of_some b_rb)).trans b_rb
  have pc_bx_0 : ∀ W, Old w0 W → W.cell? ⟨bx, 0, none⟩ = some (.int .i64 N) := fun W g => cell_of_row W bx 0 _ _ (0, 0) (px_bx W g)
  have pc_bx_1 : ∀ W, Old w0 W → W.cell? ⟨bx, 1, none⟩ = some (.int .i64 T) := fun W g => cell_of_row W bx 1 _ _ (0, 0) (px_bx W g)
  have pc_bx_2 : ∀ W, Old w0 W → W.cell? ⟨bx, 2, none⟩ = some (.int .i64 E) := fun W g => cell_of_row W bx 2 _ _ (0, 0) (px_bx W g)
  refine wp_region_tailG 19 (by decide) (by kernel_rfl) (by kernel_rfl) (by kernel_rfl) (by kernel_rfl) (by kernel_rfl) slotFr (fun i hi => by rw [hsz]; exact slotFr_lt i hi) (fun i j hi hj => slotFr_inj i hi j hj) (qFr N T E a3 l3 c3 a4 l4 c4 a6 l6 c6 bx rb S1 SR Z m  ) (qFr_old N T E a3 l3 c3 a4 l4 c4 a6 l6 c6 bx rb S1 SR Z m  ) [] (fun i W v hi hq => by cases hi) ?_ ?_
  · refine ⟨?_, ?_, ?_, ?_, ?_, ?_, ?_, ?_, ?_, ?_, ?_, ?_, ?_, ?_, ?_, ?_, ?_, ?_, ?_, trivial⟩
    · intro a W g hF hd
      refine ⟨fun _ => ?_, fun h => by rw [wanted_none rfl] at h; cases h⟩
      have e1 := (hF.same 1 slotFr_no1).trans ha1
      refine op_load (k := bx) e1 (px_bx W g) Tryz.underlying87 rfl (by kernel_rfl) ?_
      exact ⟨_, rfl, Old.refl _, rfl, (fun h => absurd h (by decide))⟩
    · intro a W g hF hd
      refine ⟨fun _ => ?_, fun h => by rw [wanted_none rfl] at h; cases h⟩
      have e1 := (hF.same 1 slotFr_no1).trans ha1
      refine op_load (k := bx) e1 (px_bx W g) Tryz.underlying87 rfl (by kernel_rfl) ?_
      exact ⟨_, rfl, Old.refl _, rfl, (fun h => absurd h (by decide))⟩
    · intro a W g hF hd
      refine ⟨fun _ => ?_, fun h => by rw [wanted_none rfl] at h; cases h⟩
      have h1 : a.eval (.tmp 4) = .agg #[.int .i64 N, .int .i64 T, .int .i64 E, .slice a3 l3 c3, .slice a4 l4 c4, .bool false, .slice a6 l6 c6] := hd ⟨1, .data⟩ (by simp) rfl
      refine op_call_ret (R := fun v w' => v = .int .i64 m ∧ Old W w') Tryz.call143 (vs := #[.agg #[.int .i64 N, .int .i64 T, .int .i64 E, .slice a3 l3 c3, .slice a4 l4 c4, .bool false, .slice a6 l6 c6]]) (by simp [h1]) ((KP W g).mono fun e w' h => ⟨_, h.1, rfl, h.2⟩) ?_
      rintro x w' ⟨rfl, g'⟩
      exact ⟨_, rfl, g', rfl, (fun h => absurd h (by decide))⟩
    · intro a W g hF hd
      refine ⟨fun _ => ?_, fun h => by rw [wanted_none rfl] at h; cases h⟩
      have h2 : a.eval (.tmp 5) = .int .i64 m := hd ⟨2, .data⟩ (by simp) rfl
      obtain ⟨ρ, hρ⟩ : ∃ ρ, a.eval = ρ := ⟨_, rfl⟩
      rw [hρ] at h2
      refine op_val ρ hρ (.int .u64 m) ?_ ⟨_, rfl, Old.refl _, rfl, (fun h => absurd h (by decide))⟩
      clear g hF hd hρ HK KP KO KR ha1 ha2 px_bx b_bx px_rb b_rb pc_bx_0 pc_bx_1 pc_bx_2 
      go_simp
      all_goals (first | (rw [IntKind.wrap_i64]; omega) | (rw [IntKind.wrap_u64]; omega) | omega)
    · intro a W g hF hd
      refine ⟨fun _ => ?_, fun h => by rw [wanted_none rfl] at h; cases h⟩
      have h3 : a.eval (.tmp 6) = .int .u64 m := hd ⟨3, .data⟩ (by simp) rfl
      refine op_call_ret (R := fun v w' => v = .agg S1 ∧ Old W w') Tryz.call138 (vs := #[.int .u64 m]) (by simp [h3]) ((KO W g).mono fun e w' h => ⟨_, h.1, rfl, h.2⟩) ?_
      rintro x w' ⟨rfl, g'⟩
      exact ⟨_, rfl, g', rfl, (fun h => absurd h (by decide))⟩
    · intro a W g hF hd
      refine ⟨fun _ => ?_, fun h => by rw [wanted_none rfl] at h; cases h⟩
      have e1 := (hF.same 1 slotFr_no1).trans ha1
      obtain ⟨ρ, hρ⟩ : ∃ ρ, a.eval = ρ := ⟨_, rfl⟩
      rw [hρ] at e1
      refine op_val ρ hρ (.pointer (some ⟨bx, 0, none⟩)) ?_ ⟨_, rfl, Old.refl _, rfl, (fun h => absurd h (by decide))⟩
      clear g hF hd hρ HK KP KO KR ha1 ha2 px_bx b_bx px_rb b_rb pc_bx_0 pc_bx_1 pc_bx_2 
      go_simp
      all_goals (first | (rw [IntKind.wrap_i64]; omega) | (rw [IntKind.wrap_u64]; omega) | omega)
    · intro a W g hF hd
      refine ⟨fun _ => ?_, fun h => by rw [wanted_none rfl] at h; cases h⟩
      have h5 : a.eval (.tmp 8) = .pointer (some ⟨bx, 0, none⟩) := hd ⟨5, .data⟩ (by simp) rfl
      obtain ⟨ρ, hρ⟩ : ∃ ρ, a.eval = ρ := ⟨_, rfl⟩
      rw [hρ] at h5
      refine op_val ρ hρ (.pointer (some ⟨bx, 1, none⟩)) ?_ ⟨_, rfl, Old.refl _, rfl, (fun h => absurd h (by decide))⟩
      clear g hF hd hρ HK KP KO KR ha1 ha2 px_bx b_bx px_rb b_rb pc_bx_0 pc_bx_1 pc_bx_2 
      go_simp
      all_goals (first | (rw [IntKind.wrap_i64]; omega) | (rw [IntKind.wrap_u64]; omega) | omega)
    · intro a W g hF hd
      refine ⟨fun _ => ?_, fun h => by rw [wanted_none rfl] at h; cases h⟩
      have h6 : a.eval (.tmp 9) = .pointer (some ⟨bx, 1, none⟩) := hd ⟨6, .data⟩ (by simp) rfl
      have kk0 := pc_bx_1 W g
      obtain ⟨ρ, hρ⟩ : ∃ ρ, a.eval = ρ := ⟨_, rfl⟩
      rw [hρ] at h6
      refine op_val ρ hρ (.int .i64 T) ?_ ⟨_, rfl, Old.refl _, rfl, (fun h => absurd h (by decide))⟩
      clear g hF hd hρ HK KP KO KR ha1 ha2 px_bx b_bx px_rb b_rb pc_bx_0 pc_bx_1 pc_bx_2 
      go_simp
      all_goals (first | (rw [IntKind.wrap_i64]; omega) | (rw [IntKind.wrap_u64]; omega) | omega)
    · intro a W g hF hd
      refine ⟨fun _ => ?_, fun h => by rw [wanted_none rfl] at h; cases h⟩
      have e1 := (hF.same 1 slotFr_no1).trans ha1
      obtain ⟨ρ, hρ⟩ : ∃ ρ, a.eval = ρ := ⟨_, rfl⟩
      rw [hρ] at e1
      refine op_val ρ hρ (.pointer (some ⟨bx, 0, none⟩)) ?_ ⟨_, rfl, Old.refl _, rfl, (fun h => absurd h (by decide))⟩
      clear g hF hd hρ HK KP KO KR ha1 ha2 px_bx b_bx px_rb b_rb pc_bx_0 pc_bx_1 pc_bx_2 
      go_simp
      all_goals (first | (rw [IntKind.wrap_i64]; omega) | (rw [IntKind.wrap_u64]; omega) | omega)
    · intro a W g hF hd
      refine ⟨fun _ => ?_, fun h => by rw [wanted_none rfl] at h; cases h⟩
      have h8 : a.eval (.tmp 11) = .pointer (some ⟨bx, 0, none⟩) := hd ⟨8, .data⟩ (by simp) rfl
      obtain ⟨ρ, hρ⟩ : ∃ ρ, a.eval = ρ := ⟨_, rfl⟩
      rw [hρ] at h8
      refine op_val ρ hρ (.pointer (some ⟨bx, 2, none⟩)) ?_ ⟨_, rfl, Old.refl _, rfl, (fun h => absurd h (by decide))⟩
      clear g hF hd hρ HK KP KO KR ha1 ha2 px_bx b_bx px_rb b_rb pc_bx_0 pc_bx_1 pc_bx_2 
      go_simp
      all_goals (first | (rw [IntKind.wrap_i64]; omega) | (rw [IntKind.wrap_u64]; omega) | omega)
    · intro a W g hF hd
      refine ⟨fun _ => ?_, fun h => by rw [wanted_none rfl] at h; cases h⟩
      have h9 : a.eval (.tmp 12) = .pointer (some ⟨bx, 2, none⟩) := hd ⟨9, .data⟩ (by simp) rfl
      have kk0 := pc_bx_2 W g
      obtain ⟨ρ, hρ⟩ : ∃ ρ, a.eval = ρ := ⟨_, rfl⟩
      rw [hρ] at h9
      refine op_val ρ hρ (.int .i64 E) ?_ ⟨_, rfl, Old.refl _, rfl, (fun h => absurd h (by decide))⟩
      clear g hF hd hρ HK KP KO KR ha1 ha2 px_bx b_bx px_rb b_rb pc_bx_0 pc_bx_1 pc_bx_2 
      go_simp
      all_goals (first | (rw [IntKind.wrap_i64]; omega) | (rw [IntKind.wrap_u64]; omega) | omega)
    · intro a W g hF hd
      refine ⟨fun _ => ?_, fun h => by rw [wanted_none rfl] at h; cases h⟩
      have h7 : a.eval (.tmp 10) = .int .i64 T := hd ⟨7, .data⟩ (by simp) rfl
      have h10 : a.eval (.tmp 13) = .int .i64 E := hd ⟨10, .data⟩ (by simp) rfl
      obtain ⟨ρ, hρ⟩ : ∃ ρ, a.eval = ρ := ⟨_, rfl⟩
      rw [hρ] at h7 h10
      refine op_val ρ hρ (.int .i64 (T * E)) ?_ ⟨_, rfl, Old.refl _, rfl, (fun h => absurd h (by decide))⟩
      clear g hF hd hρ HK KP KO KR ha1 ha2 px_bx b_bx px_rb b_rb pc_bx_0 pc_bx_1 pc_bx_2 
      go_simp
      all_goals (first | (rw [IntKind.wrap_i64]; omega) | (rw [IntKind.wrap_u64]; omega) | omega)
    · intro a W g hF hd
      refine ⟨fun _ => ?_, fun h => by rw [wanted_none rfl] at h; cases h⟩
      have e1 := (hF.same 1 slotFr_no1).trans ha1
      obtain ⟨ρ, hρ⟩ : ∃ ρ, a.eval = ρ := ⟨_, rfl⟩
      rw [hρ] at e1
      refine op_val ρ hρ (.pointer (some ⟨bx, 0, none⟩)) ?_ ⟨_, rfl, Old.refl _, rfl, (fun h => absurd h (by decide))⟩
      clear g hF hd hρ HK KP KO KR ha1 ha2 px_bx b_bx px_rb b_rb pc_bx_0 pc_bx_1 pc_bx_2 
      go_simp
      all_goals (first | (rw [IntKind.wrap_i64]; omega) | (rw [IntKind.wrap_u64]; omega) | omega)
    · intro a W g hF hd
      refine ⟨fun _ => ?_, fun h => by rw [wanted_none rfl] at h; cases h⟩
      have h12 : a.eval (.tmp 15) = .pointer (some ⟨bx, 0, none⟩) := hd ⟨12, .data⟩ (by simp) rfl
      obtain ⟨ρ, hρ⟩ : ∃ ρ, a.eval = ρ := ⟨_, rfl⟩
      rw [hρ] at h12
      refine op_val ρ hρ (.pointer (some ⟨bx, 0, none⟩)) ?_ ⟨_, rfl, Old.refl _, rfl, (fun h => absurd h (by decide))⟩
      clear g hF hd hρ HK KP KO KR ha1 ha2 px_bx b_bx px_rb b_rb pc_bx_0 pc_bx_1 pc_bx_2 
      go_simp
      all_goals (first | (rw [IntKind.wrap_i64]; omega) | (rw [IntKind.wrap_u64]; omega) | omega)
    · intro a W g hF hd
      refine ⟨fun _ => ?_, fun h => by rw [wanted_none rfl] at h; cases h⟩
      have h13 : a.eval (.tmp 16) = .pointer (some ⟨bx, 0, none⟩) := hd ⟨13, .data⟩ (by simp) rfl
      have kk0 := pc_bx_0 W g
      obtain ⟨ρ, hρ⟩ : ∃ ρ, a.eval = ρ := ⟨_, rfl⟩
      rw [hρ] at h13
      refine op_val ρ hρ (.int .i64 N) ?_ ⟨_, rfl, Old.refl _, rfl, (fun h => absurd h (by decide))⟩
      clear g hF hd hρ HK KP KO KR ha1 ha2 px_bx b_bx px_rb b_rb pc_bx_0 pc_bx_1 pc_bx_2 
      go_simp
      all_goals (first | (rw [IntKind.wrap_i64]; omega) | (rw [IntKind.wrap_u64]; omega) | omega)
    · intro a W g hF hd
      refine ⟨fun _ => ?_, fun h => by rw [wanted_none rfl] at h; cases h⟩
      have c0 : a.eval (.const (.int .i64 2)) = .int .i64 2 := rfl
      have h14 : a.eval (.tmp 17) = .int .i64 N := hd ⟨14, .data⟩ (by simp) rfl
      obtain ⟨ρ, hρ⟩ : ∃ ρ, a.eval = ρ := ⟨_, rfl⟩
      rw [hρ] at c0 h14
      refine op_val ρ hρ (.int .i64 (2 * N)) ?_ ⟨_, rfl, Old.refl _, rfl, (fun h => absurd h (by decide))⟩
      clear g hF hd hρ HK KP KO KR ha1 ha2 px_bx b_bx px_rb b_rb pc_bx_0 pc_bx_1 pc_bx_2 
      go_simp
      all_goals (first | (rw [IntKind.wrap_i64]; omega) | (rw [IntKind.wrap_u64]; omega) | omega)
    · intro a W g hF hd
      refine ⟨fun _ => ?_, fun h => by rw [wanted_none rfl] at h; cases h⟩
      have h15 : a.eval (.tmp 18) = .int .i64 (2 * N) := hd ⟨15, .data⟩ (by simp) rfl
      have c1 : a.eval (.const (.int .i64 1)) = .int .i64 1 := rfl
      obtain ⟨ρ, hρ⟩ : ∃ ρ, a.eval = ρ := ⟨_, rfl⟩
      rw [hρ] at h15 c1
      refine op_val ρ hρ (.int .i64 ((2 * N) + 1)) ?_ ⟨_, rfl, Old.refl _, rfl, (fun h => absurd h (by decide))⟩
      clear g hF hd hρ HK KP KO KR ha1 ha2 px_bx b_bx px_rb b_rb pc_bx_0 pc_bx_1 pc_bx_2 
      go_simp
      all_goals (first | (rw [IntKind.wrap_i64]; omega) | (rw [IntKind.wrap_u64]; omega) | omega)
    · intro a W g hF hd
      refine ⟨fun _ => ?_, fun h => by rw [wanted_none rfl] at h; cases h⟩
      have h11 : a.eval (.tmp 14) = .int .i64 (T * E) := hd ⟨11, .data⟩ (by simp) rfl
      have h16 : a.eval (.tmp 19) = .int .i64 ((2 * N) + 1) := hd ⟨16, .data⟩ (by simp) rfl
      obtain ⟨ρ, hρ⟩ : ∃ ρ, a.eval = ρ := ⟨_, rfl⟩
      rw [hρ] at h11 h16
      refine op_val ρ hρ (.int .i64 ((T * E) * ((2 * N) + 1))) ?_ ⟨_, rfl, Old.refl _, rfl, (fun h => absurd h (by decide))⟩
      clear g hF hd hρ HK KP KO KR ha1 ha2 px_bx b_bx px_rb b_rb pc_bx_0 pc_bx_1 pc_bx_2 
      go_simp
      all_goals (first | (rw [IntKind.wrap_i64]; omega) | (rw [IntKind.wrap_u64]; omega) | omega)
    · intro a W g hF hd
      refine ⟨fun _ => ?_, fun h => by rw [wanted_none rfl] at h; cases h⟩
      have h0 : a.eval (.tmp 3) = .agg #[.int .i64 N, .int .i64 T, .int .i64 E, .slice a3 l3 c3, .slice a4 l4 c4, .bool false, .slice a6 l6 c6] := hd ⟨0, .data⟩ (by simp) rfl
      have h4 : a.eval (.tmp 7) = .agg S1 := hd ⟨4, .data⟩ (by simp) rfl
      have h17 : a.eval (.tmp 20) = .int .i64 ((T * E) * ((2 * N) + 1)) := hd ⟨17, .data⟩ (by simp) rfl
      refine op_call_ret (R := fun v w' => v = .agg SR ∧ Old W w') Tryz.call142 (vs := #[.agg #[.int .i64 N, .int .i64 T, .int .i64 E, .slice a3 l3 c3, .slice a4 l4 c4, .bool false, .slice a6 l6 c6], .agg S1, .int .i64 ((T * E) * ((2 * N) + 1))]) (by simp [h0, h4, h17]) ((KR W g).mono fun e w' h => ⟨_, h.1, rfl, h.2⟩) ?_
      rintro x w' ⟨rfl, g'⟩
      exact ⟨_, rfl, g', rfl, (fun h => absurd h (by decide))⟩
  · intro a W g hF hq hne
    have hput := fram_put (show Fram 19 slotFr b0 a from hF) (fun i j hi hj => slotFr_inj i hi j hj)
    have hk := HK.out (fun i => a.eval (.tmp (slotFr i))) W g  
    rw [← hput] at hk
    refine op_store (k := rb) ((hF.same 2 slotFr_no2).trans ha2) (show a.eval (.tmp 21) = .agg SR from hq 18 (by decide)) (px_rb W g) (by rw [hZ_SR.1]; exact infoSz) (by rw [hZ_SR.1]; exact hS_rb) hZ_SR.2 ?_
    show tailWp _ _ _ _ _
    exact hk
end Go.Proofs.YtpcpahgflkjnaaaGreatDoor
