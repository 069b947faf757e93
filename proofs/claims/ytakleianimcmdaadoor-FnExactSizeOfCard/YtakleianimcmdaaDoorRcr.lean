/- Proved: the drawn region of the program's reckonerOf: params, rings and their product laid in a box. -/
import Derived.Test.YtakleianimcmdaaDoorZ15
import Derived.Test.YtakleianimcmdaaDoorZ05
import Derived.Test.YtakleianimcmdaaDoorMlr
namespace Go.Proofs.YtakleianimcmdaaDoor
open Go.ChangeShapes Go.WideShapes Go.ChangeAt Go.RowKit
set_option linter.unusedVariables false
set_option linter.unusedSimpArgs false
abbrev rk0 : Array Value := #[.int .i64 0, .int .i64 0, .int .i64 0, .slice none 0 0, .slice none 0 0, .bool false, .slice none 0 0]
def slotRk (i : Nat) : Nat := [14, 15, 16, 17, 18, 19, 20].getD i 0
theorem slotRk_lt : ∀ i, i < 7 → slotRk i < 21 := by decide
theorem slotRk_inj : ∀ i, i < 7 → ∀ j, j < 7 → slotRk i = slotRk j → i = j := by decide
theorem slotRk_no : ∀ s, s < 14 → ∀ i, i < 7 → slotRk i ≠ s := by decide
def qRk (N T E : Int) (v3 R : Value) (SZ : Array Value) (ds : List Int) (k base : Nat) (i : Nat) (W : World) (x : Value) : Prop :=
  match i with
  | 0 => x = .agg #[.int .i64 N, .int .i64 T, .int .i64 E, v3]
  | 1 => x = R
  | 2 => x = .pointer (some ⟨k, 3, none⟩)
  | 3 => x = v3
  | 4 => x = .agg SZ
  | 5 => ∃ a c, x = .agg #[.bool false, .slice a ds.length c] ∧ Own W base (.slice a ds.length c) ds
  | 6 => ∃ a c, x = .agg #[.int .i64 N, .int .i64 T, .int .i64 E, v3, R, .bool false, .slice a ds.length c] ∧ Own W base (.slice a ds.length c) ds
  | _ => True
theorem qRk_old (N T E : Int) (v3 R : Value) (SZ : Array Value) (ds : List Int) (k base : Nat) (i : Nat) (W W' : World) (x : Value) (h : qRk N T E v3 R SZ ds k base i W x) (q : Old W W') : qRk N T E v3 R SZ ds k base i W' x := by
  unfold qRk at h ⊢
  split at h
  case h_6 =>
    obtain ⟨a, c, e, o⟩ := h
    exact ⟨a, c, e, o.old q⟩
  case h_7 =>
    obtain ⟨a, c, e, o⟩ := h
    exact ⟨a, c, e, o.old q⟩
  all_goals first | exact h | trivial
set_option maxRecDepth 100000 in
set_option maxHeartbeats 8000000 in
theorem reg_rk4 (w0 : World) (k kr : Nat) (N T E : Int) (a3 : Option Addr) (l3 c3 : Nat) (ar : Option Addr) (lr cr : Nat) (SZ : Array Value) (ds : List Int) (bA : w0.heap[k]? = some (.cells #[.int .i64 N, .int .i64 T, .int .i64 E, .slice a3 l3 c3] 28 (0, 0))) (bK : w0.heap[kr]? = some (.cells rk0 49 (0, 0)))
    (KP : ∀ W, Old w0 W → Calls Tryd.prog 35 #[.slice a3 l3 c3] W fun e w' => ∃ v, e = .returned v ∧ v = .agg SZ ∧ Old W w')
    (KW : ∀ W, Calls Tryd.prog 34 #[.bool false, .agg SZ] W fun e w' => ∃ v, e = .returned v ∧ ∃ a c, v = .agg #[.bool false, .slice a ds.length c] ∧ Old W w' ∧ Own w' W.heap.size (.slice a ds.length c) ds)
    (Q : Exit → Act → World → Prop) (a0 : Act) (hsz : a0.tmps.size = 21)
    (ha1 : a0.eval (.tmp 1) = .pointer (some ⟨k, 0, none⟩)) (ha2 : a0.eval (.tmp 2) = .pointer (some ⟨kr, 0, none⟩)) (ha4 : a0.eval (.tmp 4) = .slice ar lr cr)
    (HK : Hid (∀ (us : Nat → Value) W a c, Old w0 W → Own W w0.heap.size (.slice a ds.length c) ds → Q .normal ((putAll a0 ((List.range 7).map fun i => (slotRk i, us i))).put (some 3) (.bool true)) (W.setRow kr #[.int .i64 N, .int .i64 T, .int .i64 E, .slice a3 l3 c3, .slice ar lr cr, .bool false, .slice a ds.length c]))) :
    Code.wp Tryd.prog ((Tryd.f19.body.bind (regionAtmul 4)).getD .skip) Q a0 w0 := by
  conv => arg 2; whnf
  have un := slotRk_no
  have pa : ∀ W, Old w0 W → W.heap[k]? = some (.cells #[.int .i64 N, .int .i64 T, .int .i64 E, .slice a3 l3 c3] 28 (0, 0)) := fun W g => (g.block k (lt_of_some bA)).trans bA
  have pk : ∀ W, Old w0 W → W.heap[kr]? = some (.cells rk0 49 (0, 0)) := fun W g => (g.block kr (lt_of_some bK)).trans bK
  have iA : (Tryd.prog.info? 28).map (·.size) = some 4 := by kernel_rfl
  refine wp_region_stas 7 rfl rfl rfl (by kernel_rfl) (by kernel_rfl) (by kernel_rfl) (by kernel_rfl) (by kernel_rfl) slotRk (fun i hi => by rw [hsz]; exact slotRk_lt i hi) (fun i j hi hj => slotRk_inj i hi j hj) (qRk N T E (.slice a3 l3 c3) (.slice ar lr cr) SZ ds k w0.heap.size) (qRk_old N T E (.slice a3 l3 c3) (.slice ar lr cr) SZ ds k w0.heap.size) ?_ ?_
  · refine ⟨?_, ?_, ?_, ?_, ?_, ?_, ?_, trivial⟩
    · intro a W g hF hd
      refine op_load (k := k) ((hF.same 1 (un 1 (by decide))).trans ha1) (pa W g) Tryd.underlying28 rfl iA ?_
      exact ⟨_, rfl, Old.refl _, rfl⟩
    · intro a W g hF hd
      refine op_move ?_
      exact ⟨_, rfl, Old.refl _, (hF.same 4 (un 4 (by decide))).trans ha4⟩
    · intro a W g hF hd
      have h1 : a.eval (.tmp 1) = .pointer (some ⟨k, 0, none⟩) := (hF.same 1 (un 1 (by decide))).trans ha1
      obtain ⟨ρ, hρ⟩ : ∃ ρ, a.eval = ρ := ⟨_, rfl⟩
      rw [hρ] at h1
      refine op_val ρ hρ (.pointer (some ⟨k, 3, none⟩)) ?_ ⟨_, rfl, Old.refl _, rfl⟩
      clear g hF hd hρ ha1 ha2 ha4 HK un KP KW bA bK pa pk
      go_simp
    · intro a W g hF hd
      have h1 : a.eval (.tmp 16) = .pointer (some ⟨k, 3, none⟩) := hd ⟨2, .data⟩ (by simp) rfl
      have hc : W.cell? ⟨k, 3, none⟩ = some (.slice a3 l3 c3) := by rw [cell_of_row _ _ _ _ _ _ (pa W g)]; rfl
      obtain ⟨ρ, hρ⟩ : ∃ ρ, a.eval = ρ := ⟨_, rfl⟩
      rw [hρ] at h1
      refine op_val ρ hρ (.slice a3 l3 c3) ?_ ⟨_, rfl, Old.refl _, rfl⟩
      clear g hF hd hρ ha1 ha2 ha4 HK un KP KW bA bK pa pk
      go_simp
    · intro a W g hF hd
      have h1 : a.eval (.tmp 17) = .slice a3 l3 c3 := hd ⟨3, .data⟩ (by simp) rfl
      refine op_call_ret Tryd.call35 (vs := #[.slice a3 l3 c3]) (by simp [h1]) (KP W g) ?_
      rintro x w' ⟨rfl, g'⟩
      exact ⟨_, rfl, g', rfl⟩
    · intro a W g hF hd
      have h1 : a.eval (.tmp 18) = .agg SZ := hd ⟨4, .data⟩ (by simp) rfl
      refine op_call_ret Tryd.call34 (vs := #[.bool false, .agg SZ]) (by simp [h1]; rfl) (KW W) ?_
      rintro x w' ⟨a6, c6, rfl, g', o'⟩
      exact ⟨_, rfl, g', a6, c6, rfl, o'.low g.size⟩
    · intro a W g hF hd
      have h0 : a.eval (.tmp 14) = .agg #[.int .i64 N, .int .i64 T, .int .i64 E, .slice a3 l3 c3] := hd ⟨0, .data⟩ (by simp) rfl
      have h1 : a.eval (.tmp 15) = .slice ar lr cr := hd ⟨1, .data⟩ (by simp) rfl
      obtain ⟨a6, c6, h5, o6⟩ : ∃ a6 c6, a.eval (.tmp 19) = .agg #[.bool false, .slice a6 ds.length c6] ∧ Own W w0.heap.size (.slice a6 ds.length c6) ds := hd ⟨5, .data⟩ (by simp) rfl
      obtain ⟨ρ, hρ⟩ : ∃ ρ, a.eval = ρ := ⟨_, rfl⟩
      rw [hρ] at h0 h1 h5
      refine op_val ρ hρ (.agg #[.int .i64 N, .int .i64 T, .int .i64 E, .slice a3 l3 c3, .slice ar lr cr, .bool false, .slice a6 ds.length c6]) ?_ ⟨_, rfl, Old.refl _, a6, c6, rfl, o6⟩
      clear g hF hd hρ ha1 ha2 ha4 HK un KP KW bA bK pa pk o6
      go_simp
  · intro a W g hF hq
    obtain ⟨a6, c6, h6, o6⟩ : ∃ a6 c6, a.eval (.tmp 20) = .agg #[.int .i64 N, .int .i64 T, .int .i64 E, .slice a3 l3 c3, .slice ar lr cr, .bool false, .slice a6 ds.length c6] ∧ Own W w0.heap.size (.slice a6 ds.length c6) ds := hq 6 (by decide)
    have h2 : a.eval (.tmp 2) = .pointer (some ⟨kr, 0, none⟩) := (hF.same 2 (un 2 (by decide))).trans ha2
    have hp := fram_put hF (fun i j hi hj => slotRk_inj i hi j hj)
    have hk2 := HK.out (fun i => a.eval (.tmp (slotRk i))) W a6 c6 g o6
    rw [← hp] at hk2
    refine op_store (k := kr) h2 h6 (pk W g) (by kernel_rfl) rfl (by simp [Value.oneCell']) ?_
    exact op_assign hk2
end Go.Proofs.YtakleianimcmdaaDoor
