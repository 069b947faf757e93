/- Proved: drawn regions of the program's ReadWhole. -/
import Derived.Test.YtjedpceiimceoaaDoorV03
import Derived.Test.YtjedpceiimceoaaDoorV04
import Derived.Test.YtjedpceiimceoaaDoorV08
import Derived.KernelRfl
import Derived.Test.YtjedpceiimceoaaDoorV17
namespace Go.Proofs.YtjedpceiimceoaaDoor
open Go.ChangeShapes Go.WideShapes Go.ChangeAt Go.RowKit
set_option linter.unusedVariables false
set_option linter.unusedSimpArgs false
def slotRw (i : Nat) : Nat := [29, 30, 31, 32, 33, 34, 35].getD i 0
theorem slotRw_lt : ∀ i, i < 7 → slotRw i < 44 := by decide
theorem slotRw_inj : ∀ i, i < 7 → ∀ j, j < 7 → slotRw i = slotRw j → i = j := by decide
theorem slotRw_no4 : ∀ i, i < 7 → slotRw i ≠ 4 := by decide
theorem slotRw_no6 : ∀ i, i < 7 → slotRw i ≠ 6 := by decide
theorem slotRw_no7 : ∀ i, i < 7 → slotRw i ≠ 7 := by decide
def qRw (DD : ByteArray) (k b m : Int) (sb : Nat) (S0 S1 : Array Value)  (i : Nat) (W : World) (x : Value) : Prop :=
  match i with
  | 0 => x = .agg S0
  | 1 => x = .string DD
  | 2 => x = .int .i64 k
  | 3 => x = .int .u8 b
  | 4 => x = .int .u8 m
  | 5 => x = .int .i64 m
  | 6 => x = .agg S1
  | _ => True
theorem qRw_old (DD : ByteArray) (k b m : Int) (sb : Nat) (S0 S1 : Array Value)   (i : Nat) (W W' : World) (x : Value) (h : qRw DD k b m sb S0 S1  i W x) (qo : Old W W') : qRw DD k b m sb S0 S1  i W' x := by
  unfold qRw at h ⊢
  split at h
  all_goals first | exact h | trivial
set_option maxRecDepth 100000 in
set_option maxHeartbeats 8000000 in
theorem reg_Rw (w0 : World) (DD : ByteArray) (k b m : Int) (sb : Nat) (S0 S1 : Array Value)     (b_sb : w0.heap[sb]? = some (.cells S0 50 (0, 0))) (hS_sb : S0.size = 81) (hZ_S1 : (S1).size = 81 ∧ (S1).all (·.oneCell') = true)
    (hix : ∀ W, (Instr.index 9 (.string DD) (.int .i64 k)).run Tryd.prog W = .ok (.int .u8 b) W) (h8 : IntKind.u8.wrap (b - 48) = m) (hm : 0 ≤ m ∧ m ≤ 9)
    (KX : ∀ W, Old w0 W → Calls Tryd.prog 44 #[.agg S0, .int .i64 10, .int .i64 m] W fun e w' => e = .returned (.agg S1) ∧ Old W w')
    (Q : Exit → Act → World → Prop) (b0 : Act) (hsz : b0.tmps.size = 44) (ha4 : b0.eval (.tmp 4) = .string DD) (ha6 : b0.eval (.tmp 6) = .pointer (some ⟨sb, 0, none⟩)) (ha7 : b0.eval (.tmp 7) = .int .i64 k)
    (HK : Hid (∀ (us : Nat → Value) (W : World) , Old w0 W → Q .normal (putAll b0 ((List.range 7).map fun i => (slotRw i, us i))) (W.setRow sb S1))) :
    Code.wp Tryd.prog ((Tryd.f15.body.bind (regionAtmul 8)).getD .skip) Q b0 w0 := by
  conv => arg 2; whnf
  have px_sb : ∀ W, Old w0 W → W.heap[sb]? = some (.cells S0 50 (0, 0)) := fun W g => (g.block sb (lt_of_some b_sb)).trans b_sb
  refine wp_region_tailG 7 (by decide) (by kernel_rfl) (by kernel_rfl) (by kernel_rfl) (by kernel_rfl) (by kernel_rfl) slotRw (fun i hi => by rw [hsz]; exact slotRw_lt i hi) (fun i j hi hj => slotRw_inj i hi j hj) (qRw DD k b m sb S0 S1  ) (qRw_old DD k b m sb S0 S1  ) [] (fun i W v hi hq => by cases hi) ?_ ?_
  · refine ⟨?_, ?_, ?_, ?_, ?_, ?_, ?_, trivial⟩
    · intro a W g hF hd
      refine ⟨fun _ => ?_, fun h => by rw [wanted_none rfl] at h; cases h⟩
      have e6 := (hF.same 6 slotRw_no6).trans ha6
      refine op_load (k := sb) e6 (px_sb W g) Tryd.underlying50 rfl (by rw [hS_sb]; exact infoSz) ?_
      exact ⟨_, rfl, Old.refl _, rfl, (fun h => absurd h (by decide))⟩
    · intro a W g hF hd
      refine ⟨fun _ => ?_, fun h => by rw [wanted_none rfl] at h; cases h⟩
      have e4 := (hF.same 4 slotRw_no4).trans ha4
      refine op_move ?_
      exact ⟨_, rfl, Old.refl _, e4, (fun h => absurd h (by decide))⟩
    · intro a W g hF hd
      refine ⟨fun _ => ?_, fun h => by rw [wanted_none rfl] at h; cases h⟩
      have e7 := (hF.same 7 slotRw_no7).trans ha7
      refine op_move ?_
      exact ⟨_, rfl, Old.refl _, e7, (fun h => absurd h (by decide))⟩
    · intro a W g hF hd
      refine ⟨fun _ => ?_, fun h => by rw [wanted_none rfl] at h; cases h⟩
      have h1 : a.eval (.tmp 30) = .string DD := hd ⟨1, .data⟩ (by simp) rfl
      have h2 : a.eval (.tmp 31) = .int .i64 k := hd ⟨2, .data⟩ (by simp) rfl
      have kx := hix W
      obtain ⟨ρ, hρ⟩ : ∃ ρ, a.eval = ρ := ⟨_, rfl⟩
      rw [hρ] at h1 h2
      refine op_val ρ hρ (.int .u8 b) ?_ ⟨_, rfl, Old.refl _, rfl, (fun h => absurd h (by decide))⟩
      clear g hF hd hρ HK KX ha4 ha6 ha7 px_sb b_sb  
      go_simp
      all_goals (first | (rw [IntKind.wrap_i64]; omega) | (rw [IntKind.wrap_u64]; omega) | omega)
    · intro a W g hF hd
      refine ⟨fun _ => ?_, fun h => by rw [wanted_none rfl] at h; cases h⟩
      have h3 : a.eval (.tmp 32) = .int .u8 b := hd ⟨3, .data⟩ (by simp) rfl
      have c1 : a.eval (.const (.int .u8 48)) = .int .u8 48 := rfl
      obtain ⟨ρ, hρ⟩ : ∃ ρ, a.eval = ρ := ⟨_, rfl⟩
      rw [hρ] at h3 c1
      refine op_val ρ hρ (.int .u8 m) ?_ ⟨_, rfl, Old.refl _, rfl, (fun h => absurd h (by decide))⟩
      clear g hF hd hρ HK KX ha4 ha6 ha7 px_sb b_sb  
      go_simp
      all_goals (first | (rw [IntKind.wrap_i64]; omega) | (rw [IntKind.wrap_u64]; omega) | omega)
    · intro a W g hF hd
      refine ⟨fun _ => ?_, fun h => by rw [wanted_none rfl] at h; cases h⟩
      have h4 : a.eval (.tmp 33) = .int .u8 m := hd ⟨4, .data⟩ (by simp) rfl
      obtain ⟨ρ, hρ⟩ : ∃ ρ, a.eval = ρ := ⟨_, rfl⟩
      rw [hρ] at h4
      refine op_val ρ hρ (.int .i64 m) ?_ ⟨_, rfl, Old.refl _, rfl, (fun h => absurd h (by decide))⟩
      clear g hF hd hρ HK KX ha4 ha6 ha7 px_sb b_sb  
      go_simp
      all_goals (first | (rw [IntKind.wrap_i64]; omega) | (rw [IntKind.wrap_u64]; omega) | omega)
    · intro a W g hF hd
      refine ⟨fun _ => ?_, fun h => by rw [wanted_none rfl] at h; cases h⟩
      have h0 : a.eval (.tmp 29) = .agg S0 := hd ⟨0, .data⟩ (by simp) rfl
      have c1 : a.eval (.const (.int .i64 10)) = .int .i64 10 := rfl
      have h5 : a.eval (.tmp 34) = .int .i64 m := hd ⟨5, .data⟩ (by simp) rfl
      refine op_call_ret (R := fun v w' => v = .agg S1 ∧ Old W w') Tryd.call44 (vs := #[.agg S0, .int .i64 10, .int .i64 m]) (by simp [h0, c1, h5]) ((KX W g).mono fun e w' h => ⟨_, h.1, rfl, h.2⟩) ?_
      rintro x w' ⟨rfl, g'⟩
      exact ⟨_, rfl, g', rfl, (fun h => absurd h (by decide))⟩
  · intro a W g hF hq hne
    have hput := fram_put (show Fram 7 slotRw b0 a from hF) (fun i j hi hj => slotRw_inj i hi j hj)
    have hk := HK.out (fun i => a.eval (.tmp (slotRw i))) W g  
    rw [← hput] at hk
    refine op_store (k := sb) ((hF.same 6 slotRw_no6).trans ha6) (show a.eval (.tmp 35) = .agg S1 from hq 6 (by decide)) (px_sb W g) (by rw [hZ_S1.1]; exact infoSz) (by rw [hZ_S1.1]; exact hS_sb) hZ_S1.2 ?_
    show tailWp _ _ _ _ _
    exact hk
end Go.Proofs.YtjedpceiimceoaaDoor
