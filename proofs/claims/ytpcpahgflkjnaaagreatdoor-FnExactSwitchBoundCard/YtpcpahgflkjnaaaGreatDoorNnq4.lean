/- Proved: drawn regions of the model's bounds. -/
import Derived.Test.YtpcpahgflkjnaaaGreatDoorB05
import Derived.Test.YtpcpahgflkjnaaaGreatDoorMlr
import Derived.Test.YtpcpahgflkjnaaaGreatDoorB07
import Derived.KernelRfl
namespace Go.Proofs.YtpcpahgflkjnaaaGreatDoor
open Go.ChangeShapes Go.WideShapes Go.ChangeAt Go.RowKit
set_option linter.unusedVariables false
set_option linter.unusedSimpArgs false
def slotMh (i : Nat) : Nat := [11, 12, 13, 14, 15, 16, 17, 18].getD i 0
theorem slotMh_lt : ∀ i, i < 8 → slotMh i < 19 := by decide
theorem slotMh_inj : ∀ i, i < 8 → ∀ j, j < 8 → slotMh i = slotMh j → i = j := by decide
theorem slotMh_no2 : ∀ i, i < 8 → slotMh i ≠ 2 := by decide
theorem slotMh_no3 : ∀ i, i < 8 → slotMh i ≠ 3 := by decide
theorem slotMh_no4 : ∀ i, i < 8 → slotMh i ≠ 4 := by decide
def qMh (N T E : Int) (a0 : Option Addr) (l0 c0 pb : Nat) (wb : Nat) (nb : Bool) (a1 : Option Addr) (l1 c1 : Nat) (rb : Nat) (PS : World → Value → Prop) (PW : World → Value → Prop) (PA : World → Value → Prop) (i : Nat) (W : World) (x : Value) : Prop :=
  match i with
  | 0 => x = .agg #[.int .i64 N, .int .i64 T, .int .i64 E, .slice a0 l0 c0]
  | 1 => x = .agg #[.int .i64 N, .int .i64 T, .int .i64 E, .slice a0 l0 c0]
  | 2 => x = .pointer (some ⟨wb, 1, none⟩)
  | 3 => x = .slice a1 l1 c1
  | 4 => PS W x
  | 5 => PW W x
  | 6 => PA W x
  | 7 => x = .bool true
  | _ => True
theorem qMh_old (N T E : Int) (a0 : Option Addr) (l0 c0 pb : Nat) (wb : Nat) (nb : Bool) (a1 : Option Addr) (l1 c1 : Nat) (rb : Nat) (PS : World → Value → Prop) (PW : World → Value → Prop) (PA : World → Value → Prop) (hM_PS : ∀ W W' v, PS W v → Old W W' → PS W' v) (hM_PW : ∀ W W' v, PW W v → Old W W' → PW W' v) (hM_PA : ∀ W W' v, PA W v → Old W W' → PA W' v) (i : Nat) (W W' : World) (x : Value) (h : qMh N T E a0 l0 c0 pb wb nb a1 l1 c1 rb PS PW PA i W x) (qo : Old W W') : qMh N T E a0 l0 c0 pb wb nb a1 l1 c1 rb PS PW PA i W' x := by
  unfold qMh at h ⊢
  split at h
  case h_5 => exact hM_PS _ _ _ h qo
  case h_6 => exact hM_PW _ _ _ h qo
  case h_7 => exact hM_PA _ _ _ h qo
  all_goals first | exact h | trivial
set_option maxRecDepth 100000 in
set_option maxHeartbeats 8000000 in
theorem reg_Mh (w0 : World) (N T E : Int) (a0 : Option Addr) (l0 c0 pb : Nat) (wb : Nat) (nb : Bool) (a1 : Option Addr) (l1 c1 : Nat) (rb : Nat) (PS : World → Value → Prop) (PW : World → Value → Prop) (PA : World → Value → Prop) (hM_PS : ∀ W W' v, PS W v → Old W W' → PS W' v) (hM_PW : ∀ W W' v, PW W v → Old W W' → PW W' v) (hM_PA : ∀ W W' v, PA W v → Old W W' → PA W' v) (hT_PW : ∀ W x, PW W x → ∃ v1 v2, x = .tuple #[v1, v2] ∧ PA W v1 ∧ v2 = .bool true) (hA_PA : ∀ W x, PA W x → ∃ cs, x = .agg cs ∧ cs.size = 2 ∧ cs.all (·.oneCell') = true) (b_pb : w0.heap[pb]? = some (.cells #[.int .i64 N, .int .i64 T, .int .i64 E, .slice a0 l0 c0] 34 (0, 0))) (b_rb : w0.heap[rb]? = some (.cells #[.bool false, .slice none 0 0] 31 (0, 0))) (b_wb : w0.heap[wb]? = some (.cells #[.bool nb, .slice a1 l1 c1] 31 (0, 0))) 
    
    (KS : ∀ W, Old w0 W → Calls Tryz.prog 95 #[.agg #[.int .i64 N, .int .i64 T, .int .i64 E, .slice a0 l0 c0], .slice a1 l1 c1] W fun e w' => ∃ v, e = .returned v ∧ Old W w' ∧ PS w' v)
    (KW : ∀ W, Old w0 W → ∀ (u4 : Value), PS W u4 → Calls Tryz.prog 81 #[.agg #[.int .i64 N, .int .i64 T, .int .i64 E, .slice a0 l0 c0], u4] W fun e w' => ∃ v, e = .returned v ∧ Old W w' ∧ PW w' v)
    (Q : Exit → Act → World → Prop) (b0 : Act) (hsz : b0.tmps.size = 19) (ha2 : b0.eval (.tmp 2) = .pointer (some ⟨pb, 0, none⟩)) (ha3 : b0.eval (.tmp 3) = .pointer (some ⟨wb, 0, none⟩)) (ha4 : b0.eval (.tmp 4) = .pointer (some ⟨rb, 0, none⟩))
    (HK : Hid (∀ (us : Nat → Value) (W : World) (cs : Array Value) , Old w0 W → PA W (.agg cs) → Q .normal ((putAll b0 ((List.range 8).map fun i => (slotMh i, us i))).put (some 5) (.bool true)) (W.setRow rb cs))) :
    Code.wp Tryz.prog ((Tryz.f41.body.bind (regionAtmul 3)).getD .skip) Q b0 w0 := by
  conv => arg 2; whnf
  have px_pb : ∀ W, Old w0 W → W.heap[pb]? = some (.cells #[.int .i64 N, .int .i64 T, .int .i64 E, .slice a0 l0 c0] 34 (0, 0)) := fun W g => (g.block pb (lt_of_some b_pb)).trans b_pb
  have px_rb : ∀ W, Old w0 W → W.heap[rb]? = some (.cells #[.bool false, .slice none 0 0] 31 (0, 0)) := fun W g => (g.block rb (lt_of_some b_rb)).trans b_rb
  have px_wb : ∀ W, Old w0 W → W.heap[wb]? = some (.cells #[.bool nb, .slice a1 l1 c1] 31 (0, 0)) := fun W g => (g.block wb (lt_of_some b_wb)).trans b_wb
  have pc_wb_1 : ∀ W, Old w0 W → W.cell? ⟨wb, 1, none⟩ = some (.slice a1 l1 c1) := fun W g => cell_of_row W wb 1 _ _ (0, 0) (px_wb W g)
  refine wp_region_tailG 8 (by decide) (by kernel_rfl) (by kernel_rfl) (by kernel_rfl) (by kernel_rfl) (by kernel_rfl) slotMh (fun i hi => by rw [hsz]; exact slotMh_lt i hi) (fun i j hi hj => slotMh_inj i hi j hj) (qMh N T E a0 l0 c0 pb wb nb a1 l1 c1 rb PS PW PA ) (qMh_old N T E a0 l0 c0 pb wb nb a1 l1 c1 rb PS PW PA hM_PS hM_PW hM_PA) [] (fun i W v hi hq => by cases hi) ?_ ?_
  · refine ⟨?_, ?_, ?_, ?_, ?_, ?_, ?_, ?_, trivial⟩
    · intro a W g hF hd
      refine ⟨fun _ => ?_, fun h => by rw [wanted_none rfl] at h; cases h⟩
      have e2 := (hF.same 2 slotMh_no2).trans ha2
      refine op_load (k := pb) e2 (px_pb W g) Tryz.underlying34 rfl (by kernel_rfl) ?_
      exact ⟨_, rfl, Old.refl _, rfl, (fun h => absurd h (by decide))⟩
    · intro a W g hF hd
      refine ⟨fun _ => ?_, fun h => by rw [wanted_none rfl] at h; cases h⟩
      have e2 := (hF.same 2 slotMh_no2).trans ha2
      refine op_load (k := pb) e2 (px_pb W g) Tryz.underlying34 rfl (by kernel_rfl) ?_
      exact ⟨_, rfl, Old.refl _, rfl, (fun h => absurd h (by decide))⟩
    · intro a W g hF hd
      refine ⟨fun _ => ?_, fun h => by rw [wanted_none rfl] at h; cases h⟩
      have e3 := (hF.same 3 slotMh_no3).trans ha3
      obtain ⟨ρ, hρ⟩ : ∃ ρ, a.eval = ρ := ⟨_, rfl⟩
      rw [hρ] at e3
      refine op_val ρ hρ (.pointer (some ⟨wb, 1, none⟩)) ?_ ⟨_, rfl, Old.refl _, rfl, (fun h => absurd h (by decide))⟩
      clear g hF hd hρ HK KS KW ha2 ha3 ha4 px_pb b_pb px_rb b_rb px_wb b_wb pc_wb_1 
      go_simp
      all_goals (first | (rw [IntKind.wrap_i64]; omega) | (rw [IntKind.wrap_u64]; omega) | omega)
    · intro a W g hF hd
      refine ⟨fun _ => ?_, fun h => by rw [wanted_none rfl] at h; cases h⟩
      have h2 : a.eval (.tmp 13) = .pointer (some ⟨wb, 1, none⟩) := hd ⟨2, .data⟩ (by simp) rfl
      have kk0 := pc_wb_1 W g
      obtain ⟨ρ, hρ⟩ : ∃ ρ, a.eval = ρ := ⟨_, rfl⟩
      rw [hρ] at h2
      refine op_val ρ hρ (.slice a1 l1 c1) ?_ ⟨_, rfl, Old.refl _, rfl, (fun h => absurd h (by decide))⟩
      clear g hF hd hρ HK KS KW ha2 ha3 ha4 px_pb b_pb px_rb b_rb px_wb b_wb pc_wb_1 
      go_simp
      all_goals (first | (rw [IntKind.wrap_i64]; omega) | (rw [IntKind.wrap_u64]; omega) | omega)
    · intro a W g hF hd
      refine ⟨fun _ => ?_, fun h => by rw [wanted_none rfl] at h; cases h⟩
      have h1 : a.eval (.tmp 12) = .agg #[.int .i64 N, .int .i64 T, .int .i64 E, .slice a0 l0 c0] := hd ⟨1, .data⟩ (by simp) rfl
      have h3 : a.eval (.tmp 14) = .slice a1 l1 c1 := hd ⟨3, .data⟩ (by simp) rfl
      refine op_call_ret (R := fun v w' => Old W w' ∧ PS w' v) Tryz.call95 (vs := #[.agg #[.int .i64 N, .int .i64 T, .int .i64 E, .slice a0 l0 c0], .slice a1 l1 c1]) (by simp [h1, h3]) (KS W g) ?_
      rintro x w' ⟨g', hp⟩
      exact ⟨_, rfl, g', hp, (fun h => absurd h (by decide))⟩
    · intro a W g hF hd
      refine ⟨fun _ => ?_, fun h => by rw [wanted_none rfl] at h; cases h⟩
      have h0 : a.eval (.tmp 11) = .agg #[.int .i64 N, .int .i64 T, .int .i64 E, .slice a0 l0 c0] := hd ⟨0, .data⟩ (by simp) rfl
      have p4 : PS W (a.eval (.tmp 15)) := hd ⟨4, .data⟩ (by simp) rfl
      refine op_call_ret (R := fun v w' => Old W w' ∧ PW w' v) Tryz.call81 (vs := #[.agg #[.int .i64 N, .int .i64 T, .int .i64 E, .slice a0 l0 c0], a.eval (.tmp 15)]) (by simp [h0]) (KW W g _ p4) ?_
      rintro x w' ⟨g', hp⟩
      exact ⟨_, rfl, g', hp, (fun h => absurd h (by decide))⟩
    · intro a W g hF hd
      refine ⟨fun _ => ?_, fun h => by rw [wanted_none rfl] at h; cases h⟩
      obtain ⟨v1, v2, ht, p1, p2⟩ := hT_PW W _ (hd ⟨5, .data⟩ (by simp) rfl)
      exact op_extract ht rfl ⟨_, rfl, Old.refl _, p1, (fun h => absurd h (by decide))⟩
    · intro a W g hF hd
      refine ⟨fun _ => ?_, fun h => by rw [wanted_none rfl] at h; cases h⟩
      obtain ⟨v1, v2, ht, p1, p2⟩ := hT_PW W _ (hd ⟨5, .data⟩ (by simp) rfl)
      exact op_extract ht rfl ⟨_, rfl, Old.refl _, p2, (fun h => absurd h (by decide))⟩
  · intro a W g hF hq hne
    have hput := fram_put (show Fram 8 slotMh b0 a from hF) (fun i j hi hj => slotMh_inj i hi j hj)
    obtain ⟨cs, ecs, hcs1, hcs2⟩ := hA_PA W _ (hq 6 (by decide))
    have hpc := hq 6 (by decide)
    rw [show a.eval (.tmp (slotMh 6)) = .agg cs from ecs] at hpc
    have hk := HK.out (fun i => a.eval (.tmp (slotMh i))) W cs g hpc 
    rw [← hput] at hk
    refine op_store (k := rb) ((hF.same 4 slotMh_no4).trans ha4) ecs (px_rb W g) (by rw [hcs1]; kernel_rfl) (by rw [hcs1]; rfl) hcs2 ?_
    show tailWp _ _ _ _ _
    refine op_assign ?_
    show tailWp _ _ _ _ _
    show tailWp _ _ _ (Act.put a (some 5) (a.eval (.tmp 18))) _
    rw [show a.eval (.tmp 18) = .bool true from hq 7 (by decide)]
    exact hk
end Go.Proofs.YtpcpahgflkjnaaaGreatDoor
