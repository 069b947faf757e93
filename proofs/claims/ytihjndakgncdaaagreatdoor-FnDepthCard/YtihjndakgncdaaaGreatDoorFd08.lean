/- Proved: several texts in one: what each proves is said ahead of it. -/
import Derived.Test.YtihjndakgncdaaaGreatDoorFd01
import Derived.Test.YtihjndakgncdaaaGreatDoorFd04
import Derived.Test.YtihjndakgncdaaaGreatDoorFd03
import Derived.KernelRfl
/- Proved: drawn regions of the program's productBound and deeperBounds. -/
namespace Go.Proofs.YtihjndakgncdaaaGreatDoor
open Go.ChangeShapes Go.WideShapes Go.ChangeAt Go.RowKit
set_option linter.unusedVariables false
set_option linter.unusedSimpArgs false
def slotP2 (i : Nat) : Nat := [22, 23, 24, 25, 26, 27, 28, 29, 30, 8].getD i 0
theorem slotP2_lt : ∀ i, i < 10 → slotP2 i < 70 := by decide
theorem slotP2_inj : ∀ i, i < 10 → ∀ j, j < 10 → slotP2 i = slotP2 j → i = j := by decide
theorem slotP2_no3 : ∀ i, i < 10 → slotP2 i ≠ 3 := by decide
theorem slotP2_no4 : ∀ i, i < 10 → slotP2 i ≠ 4 := by decide
theorem slotP2_no5 : ∀ i, i < 10 → slotP2 i ≠ 5 := by decide
theorem slotP2_no7 : ∀ i, i < 10 → slotP2 i ≠ 7 := by decide
def qP2 (N T E : Int) (a3 : Option Addr) (l3 c3 : Nat) (a4 : Option Addr) (l4 c4 : Nat) (a6 : Option Addr) (l6 c6 bx : Nat) (ab bb : Nat) (SA SB SS SE : Array Value) (o : Int)  (base : Nat) (i : Nat) (W : World) (x : Value) : Prop :=
  match i with
  | 0 => x = .agg SA
  | 1 => x = .agg SB
  | 2 => x = .agg SS
  | 3 => x = .pointer (some ⟨bx, 0, none⟩)
  | 4 => x = .pointer (some ⟨bx, 0, none⟩)
  | 5 => x = .int .i64 N
  | 6 => x = .int .i64 o
  | 7 => x = .int .i64 (N * o)
  | 8 => x = .agg SE
  | 9 => ∃ (g : Nat) (cs : Array Value), x = .pointer (some ⟨g, 0, none⟩) ∧ base ≤ g ∧ g < W.heap.size ∧ W.heap[g]? = some (.cells cs 53 (0, 0)) ∧ cs.size = 81
  | _ => True
theorem qP2_old (N T E : Int) (a3 : Option Addr) (l3 c3 : Nat) (a4 : Option Addr) (l4 c4 : Nat) (a6 : Option Addr) (l6 c6 bx : Nat) (ab bb : Nat) (SA SB SS SE : Array Value) (o : Int)  (base : Nat)  (i : Nat) (W W' : World) (x : Value) (h : qP2 N T E a3 l3 c3 a4 l4 c4 a6 l6 c6 bx ab bb SA SB SS SE o  base i W x) (qo : Old W W') : qP2 N T E a3 l3 c3 a4 l4 c4 a6 l6 c6 bx ab bb SA SB SS SE o  base i W' x := by
  unfold qP2 at h ⊢
  split at h
  case h_10 =>
    obtain ⟨g, cs, e, h1, h2, h3, h4⟩ := h
    exact ⟨g, cs, e, h1, Nat.lt_of_lt_of_le h2 qo.size, (qo.block g h2).trans h3, h4⟩
  all_goals first | exact h | trivial
set_option maxRecDepth 100000 in
set_option maxHeartbeats 8000000 in
theorem reg_P2 (w0 : World) (N T E : Int) (a3 : Option Addr) (l3 c3 : Nat) (a4 : Option Addr) (l4 c4 : Nat) (a6 : Option Addr) (l6 c6 bx : Nat) (ab bb : Nat) (SA SB SS SE : Array Value) (o : Int)     (b_ab : w0.heap[ab]? = some (.cells SA 53 (0, 0))) (hS_ab : SA.size = 81) (b_bb : w0.heap[bb]? = some (.cells SB 53 (0, 0))) (hS_bb : SB.size = 81) (b_bx : w0.heap[bx]? = some (.cells #[.int .i64 N, .int .i64 T, .int .i64 E, .slice a3 l3 c3, .slice a4 l4 c4, .bool false, .slice a6 l6 c6] 48 (0, 0))) (hZ_SE : (SE).size = 81 ∧ (SE).all (·.oneCell') = true)
    (hX : 0 ≤ N * o ∧ N * o ≤ 4611686018427387904)
    (KA : ∀ W, Old w0 W → Calls Tryz.prog 62 #[.agg SA, .agg SB] W fun e w' => e = .returned (.agg SS) ∧ Old W w')
    (KX : ∀ W, Old w0 W → Calls Tryz.prog 61 #[.agg SS, .int .i64 (N * o), .int .i64 0] W fun e w' => e = .returned (.agg SE) ∧ Old W w')
    (Q : Exit → Act → World → Prop) (b0 : Act) (hsz : b0.tmps.size = 70) (ha3 : b0.eval (.tmp 3) = .pointer (some ⟨bx, 0, none⟩)) (ha4 : b0.eval (.tmp 4) = .pointer (some ⟨ab, 0, none⟩)) (ha5 : b0.eval (.tmp 5) = .pointer (some ⟨bb, 0, none⟩)) (ha7 : b0.eval (.tmp 7) = .int .i64 o)
    (HK : Hid (∀ (us : Nat → Value) (W : World) (g9 : Nat), Old w0 W → us 9 = .pointer (some ⟨g9, 0, none⟩) → w0.heap.size ≤ g9 → W.heap[g9]? = some (.cells SE 53 (0, 0)) → Q .normal (putAll b0 ((List.range 10).map fun i => (slotP2 i, us i))) W)) :
    Code.wp Tryz.prog ((Tryz.f31.body.bind (regionAtmul 2)).getD .skip) Q b0 w0 := by
  conv => arg 2; whnf
  have px_ab : ∀ W, Old w0 W → W.heap[ab]? = some (.cells SA 53 (0, 0)) := fun W g => (g.block ab (lt_of_some b_ab)).trans b_ab
  have px_bb : ∀ W, Old w0 W → W.heap[bb]? = some (.cells SB 53 (0, 0)) := fun W g => (g.block bb (lt_of_some b_bb)).trans b_bb
  have px_bx : ∀ W, Old w0 W → W.heap[bx]? = some (.cells #[.int .i64 N, .int .i64 T, .int .i64 E, .slice a3 l3 c3, .slice a4 l4 c4, .bool false, .slice a6 l6 c6] 48 (0, 0)) := fun W g => (g.block bx (lt_of_some b_bx)).trans b_bx
  have pc_bx_0 : ∀ W, Old w0 W → W.cell? ⟨bx, 0, none⟩ = some (.int .i64 N) := fun W g => cell_of_row W bx 0 _ _ (0, 0) (px_bx W g)
  obtain ⟨z_impl_size, hz_impl_size, hzs_impl_size⟩ : ∃ z, (Tryz.prog.info? 53).bind (·.zero) = some z ∧ z.cells.size = 81 := ⟨_, rfl, by kernel_rfl⟩
  refine wp_region_tailG 10 (by decide) (by kernel_rfl) (by kernel_rfl) (by kernel_rfl) (by kernel_rfl) (by kernel_rfl) slotP2 (fun i hi => by rw [hsz]; exact slotP2_lt i hi) (fun i j hi hj => slotP2_inj i hi j hj) (qP2 N T E a3 l3 c3 a4 l4 c4 a6 l6 c6 bx ab bb SA SB SS SE o  w0.heap.size ) (qP2_old N T E a3 l3 c3 a4 l4 c4 a6 l6 c6 bx ab bb SA SB SS SE o  w0.heap.size ) [9] (fun i W v hi hq => by
    have hi2 : i = 9 := by simpa using hi
    rcases hi2 with rfl
    all_goals (obtain ⟨g, cs, e, _, h2, _⟩ := hq; exact ⟨g, e, h2⟩)) ?_ ?_
  · refine ⟨?_, ?_, ?_, ?_, ?_, ?_, ?_, ?_, ?_, ?_, trivial⟩
    · intro a W g hF hd
      refine ⟨fun _ => ?_, fun h => by rw [wanted_none rfl] at h; cases h⟩
      have e4 := (hF.same 4 slotP2_no4).trans ha4
      refine op_load (k := ab) e4 (px_ab W g) Tryz.underlying53 rfl (by rw [hS_ab]; exact infoSz) ?_
      exact ⟨_, rfl, Old.refl _, rfl, (fun h => absurd h (by decide))⟩
    · intro a W g hF hd
      refine ⟨fun _ => ?_, fun h => by rw [wanted_none rfl] at h; cases h⟩
      have e5 := (hF.same 5 slotP2_no5).trans ha5
      refine op_load (k := bb) e5 (px_bb W g) Tryz.underlying53 rfl (by rw [hS_bb]; exact infoSz) ?_
      exact ⟨_, rfl, Old.refl _, rfl, (fun h => absurd h (by decide))⟩
    · intro a W g hF hd
      refine ⟨fun _ => ?_, fun h => by rw [wanted_none rfl] at h; cases h⟩
      have h0 : a.eval (.tmp 22) = .agg SA := hd ⟨0, .data⟩ (by simp) rfl
      have h1 : a.eval (.tmp 23) = .agg SB := hd ⟨1, .data⟩ (by simp) rfl
      refine op_call_ret (R := fun v w' => v = .agg SS ∧ Old W w') Tryz.call62 (vs := #[.agg SA, .agg SB]) (by simp [h0, h1]) ((KA W g).mono fun e w' h => ⟨_, h.1, rfl, h.2⟩) ?_
      rintro x w' ⟨rfl, g'⟩
      exact ⟨_, rfl, g', rfl, (fun h => absurd h (by decide))⟩
    · intro a W g hF hd
      refine ⟨fun _ => ?_, fun h => by rw [wanted_none rfl] at h; cases h⟩
      have e3 := (hF.same 3 slotP2_no3).trans ha3
      obtain ⟨ρ, hρ⟩ : ∃ ρ, a.eval = ρ := ⟨_, rfl⟩
      rw [hρ] at e3
      refine op_val ρ hρ (.pointer (some ⟨bx, 0, none⟩)) ?_ ⟨_, rfl, Old.refl _, rfl, (fun h => absurd h (by decide))⟩
      clear g hF hd hρ HK KA KX ha3 ha4 ha5 ha7 px_ab b_ab px_bb b_bb px_bx b_bx pc_bx_0 
      go_simp
      all_goals (first | (rw [IntKind.wrap_i64]; omega) | (rw [IntKind.wrap_u64]; omega) | omega)
    · intro a W g hF hd
      refine ⟨fun _ => ?_, fun h => by rw [wanted_none rfl] at h; cases h⟩
      have h3 : a.eval (.tmp 25) = .pointer (some ⟨bx, 0, none⟩) := hd ⟨3, .data⟩ (by simp) rfl
      obtain ⟨ρ, hρ⟩ : ∃ ρ, a.eval = ρ := ⟨_, rfl⟩
      rw [hρ] at h3
      refine op_val ρ hρ (.pointer (some ⟨bx, 0, none⟩)) ?_ ⟨_, rfl, Old.refl _, rfl, (fun h => absurd h (by decide))⟩
      clear g hF hd hρ HK KA KX ha3 ha4 ha5 ha7 px_ab b_ab px_bb b_bb px_bx b_bx pc_bx_0 
      go_simp
      all_goals (first | (rw [IntKind.wrap_i64]; omega) | (rw [IntKind.wrap_u64]; omega) | omega)
    · intro a W g hF hd
      refine ⟨fun _ => ?_, fun h => by rw [wanted_none rfl] at h; cases h⟩
      have h4 : a.eval (.tmp 26) = .pointer (some ⟨bx, 0, none⟩) := hd ⟨4, .data⟩ (by simp) rfl
      have kk0 := pc_bx_0 W g
      obtain ⟨ρ, hρ⟩ : ∃ ρ, a.eval = ρ := ⟨_, rfl⟩
      rw [hρ] at h4
      refine op_val ρ hρ (.int .i64 N) ?_ ⟨_, rfl, Old.refl _, rfl, (fun h => absurd h (by decide))⟩
      clear g hF hd hρ HK KA KX ha3 ha4 ha5 ha7 px_ab b_ab px_bb b_bb px_bx b_bx pc_bx_0 
      go_simp
      all_goals (first | (rw [IntKind.wrap_i64]; omega) | (rw [IntKind.wrap_u64]; omega) | omega)
    · intro a W g hF hd
      refine ⟨fun _ => ?_, fun h => by rw [wanted_none rfl] at h; cases h⟩
      have e7 := (hF.same 7 slotP2_no7).trans ha7
      refine op_move ?_
      exact ⟨_, rfl, Old.refl _, e7, (fun h => absurd h (by decide))⟩
    · intro a W g hF hd
      refine ⟨fun _ => ?_, fun h => by rw [wanted_none rfl] at h; cases h⟩
      have h5 : a.eval (.tmp 27) = .int .i64 N := hd ⟨5, .data⟩ (by simp) rfl
      have h6 : a.eval (.tmp 28) = .int .i64 o := hd ⟨6, .data⟩ (by simp) rfl
      obtain ⟨ρ, hρ⟩ : ∃ ρ, a.eval = ρ := ⟨_, rfl⟩
      rw [hρ] at h5 h6
      refine op_val ρ hρ (.int .i64 (N * o)) ?_ ⟨_, rfl, Old.refl _, rfl, (fun h => absurd h (by decide))⟩
      clear g hF hd hρ HK KA KX ha3 ha4 ha5 ha7 px_ab b_ab px_bb b_bb px_bx b_bx pc_bx_0 
      go_simp
      all_goals (first | (rw [IntKind.wrap_i64]; omega) | (rw [IntKind.wrap_u64]; omega) | omega)
    · intro a W g hF hd
      refine ⟨fun _ => ?_, fun h => by rw [wanted_none rfl] at h; cases h⟩
      have h2 : a.eval (.tmp 24) = .agg SS := hd ⟨2, .data⟩ (by simp) rfl
      have h7 : a.eval (.tmp 29) = .int .i64 (N * o) := hd ⟨7, .data⟩ (by simp) rfl
      have c2 : a.eval (.const (.int .i64 0)) = .int .i64 0 := rfl
      refine op_call_ret (R := fun v w' => v = .agg SE ∧ Old W w') Tryz.call61 (vs := #[.agg SS, .int .i64 (N * o), .int .i64 0]) (by simp [h2, h7, c2]) ((KX W g).mono fun e w' h => ⟨_, h.1, rfl, h.2⟩) ?_
      rintro x w' ⟨rfl, g'⟩
      exact ⟨_, rfl, g', rfl, (fun h => absurd h (by decide))⟩
    · intro a W g hF hd
      refine ⟨fun _ => ?_, fun h => by rw [wanted_none rfl] at h; cases h⟩
      refine op_alloc hz_impl_size ?_
      exact ⟨_, rfl, (Old.refl _).alloc _, ⟨W.heap.size, z_impl_size.cells, rfl, g.size, by simp, heap_newA W _, hzs_impl_size⟩, (fun _ => rfl)⟩
  · intro a W g hF hq hne
    obtain ⟨g9, cs9, hp9, hb9, hl9, hc9, hz9⟩ := hq 9 (by decide)
    have hput := fram_put (show Fram 10 slotP2 b0 a from hF) (fun i j hi hj => slotP2_inj i hi j hj)
    have hO : Old w0 (W.setRow g9 SE) := (old_setRow g (by omega) _)
    have hk := HK.out (fun i => a.eval (.tmp (slotP2 i))) (W.setRow g9 SE) g9 hO hp9 hb9 (heap_setRow_same hc9) 
    rw [← hput] at hk
    refine op_store (k := g9) hp9 (show a.eval (.tmp 30) = .agg SE from hq 8 (by decide)) hc9 (by rw [hZ_SE.1]; exact infoSz) (by rw [hZ_SE.1]; exact hz9) hZ_SE.2 ?_
    show tailWp _ _ _ _ _
    exact hk
def slotP3 (i : Nat) : Nat := [32, 33, 34, 35, 36, 37, 38, 39, 40, 41, 42, 31, 43, 44, 9, 10].getD i 0
theorem slotP3_lt : ∀ i, i < 16 → slotP3 i < 70 := by decide
theorem slotP3_inj : ∀ i, i < 16 → ∀ j, j < 16 → slotP3 i = slotP3 j → i = j := by decide
theorem slotP3_no3 : ∀ i, i < 16 → slotP3 i ≠ 3 := by decide
theorem slotP3_no4 : ∀ i, i < 16 → slotP3 i ≠ 4 := by decide
theorem slotP3_no5 : ∀ i, i < 16 → slotP3 i ≠ 5 := by decide
def qP3 (N T E : Int) (a3 : Option Addr) (l3 c3 : Nat) (a4 : Option Addr) (l4 c4 : Nat) (a6 : Option Addr) (l6 c6 bx : Nat) (ab bb : Nat) (SA SB SM SN SQ SD SZ : Array Value)  (base : Nat) (i : Nat) (W : World) (x : Value) : Prop :=
  match i with
  | 0 => x = .agg SA
  | 1 => x = .agg SB
  | 2 => x = .agg SM
  | 3 => x = .pointer (some ⟨bx, 0, none⟩)
  | 4 => x = .pointer (some ⟨bx, 0, none⟩)
  | 5 => x = .int .i64 N
  | 6 => x = .agg SN
  | 7 => x = .pointer (some ⟨bx, 5, none⟩)
  | 8 => x = .agg #[.bool false, .slice a6 l6 c6]
  | 9 => x = .agg SQ
  | 10 => x = .tuple #[.agg SD, .agg SZ]
  | 11 => x = .tuple #[.agg SD, .agg SZ]
  | 12 => x = .agg SD
  | 13 => x = .agg SZ
  | 14 => ∃ (g : Nat) (cs : Array Value), x = .pointer (some ⟨g, 0, none⟩) ∧ base ≤ g ∧ g < W.heap.size ∧ W.heap[g]? = some (.cells cs 53 (0, 0)) ∧ cs.size = 81
  | 15 => ∃ (g : Nat) (cs : Array Value), x = .pointer (some ⟨g, 0, none⟩) ∧ base ≤ g ∧ g < W.heap.size ∧ W.heap[g]? = some (.cells cs 53 (0, 0)) ∧ cs.size = 81
  | _ => True
theorem qP3_old (N T E : Int) (a3 : Option Addr) (l3 c3 : Nat) (a4 : Option Addr) (l4 c4 : Nat) (a6 : Option Addr) (l6 c6 bx : Nat) (ab bb : Nat) (SA SB SM SN SQ SD SZ : Array Value)  (base : Nat)  (i : Nat) (W W' : World) (x : Value) (h : qP3 N T E a3 l3 c3 a4 l4 c4 a6 l6 c6 bx ab bb SA SB SM SN SQ SD SZ  base i W x) (qo : Old W W') : qP3 N T E a3 l3 c3 a4 l4 c4 a6 l6 c6 bx ab bb SA SB SM SN SQ SD SZ  base i W' x := by
  unfold qP3 at h ⊢
  split at h
  case h_15 =>
    obtain ⟨g, cs, e, h1, h2, h3, h4⟩ := h
    exact ⟨g, cs, e, h1, Nat.lt_of_lt_of_le h2 qo.size, (qo.block g h2).trans h3, h4⟩
  case h_16 =>
    obtain ⟨g, cs, e, h1, h2, h3, h4⟩ := h
    exact ⟨g, cs, e, h1, Nat.lt_of_lt_of_le h2 qo.size, (qo.block g h2).trans h3, h4⟩
  all_goals first | exact h | trivial
def eP3 (k : Nat) : List Nat := match k with | 0 => [0, 1, 2, 3, 4, 5, 6, 7, 8, 9, 10, 11, 12, 14, 15] | _ => []
theorem qP3_box (N T E : Int) (a3 : Option Addr) (l3 c3 : Nat) (a4 : Option Addr) (l4 c4 : Nat) (a6 : Option Addr) (l6 c6 bx : Nat) (ab bb : Nat) (SA SB SM SN SQ SD SZ : Array Value) (base : Nat) (i : Nat) (W W' : World) (x : Value) (h : qP3 N T E a3 l3 c3 a4 l4 c4 a6 l6 c6 bx ab bb SA SB SM SN SQ SD SZ base i W x) (qo : boxS base W W') : qP3 N T E a3 l3 c3 a4 l4 c4 a6 l6 c6 bx ab bb SA SB SM SN SQ SD SZ base i W' x := by
  unfold qP3 at h ⊢
  split at h
  case h_15 =>
    obtain ⟨g, cs, e, h1, h2, h3, h4⟩ := h
    obtain ⟨g', cs', A, b', h', sA, rfl⟩ := qo
    by_cases hg : g = g'
    · subst hg
      exact ⟨g, A, e, h1, by rw [size_setRow]; exact h2, heap_setRow_same h', sA⟩
    · exact ⟨g, cs, e, h1, by rw [size_setRow]; exact h2, (heap_setRow_other _ _ _ _ hg).trans h3, h4⟩
  case h_16 =>
    obtain ⟨g, cs, e, h1, h2, h3, h4⟩ := h
    obtain ⟨g', cs', A, b', h', sA, rfl⟩ := qo
    by_cases hg : g = g'
    · subst hg
      exact ⟨g, A, e, h1, by rw [size_setRow]; exact h2, heap_setRow_same h', sA⟩
    · exact ⟨g, cs, e, h1, by rw [size_setRow]; exact h2, (heap_setRow_other _ _ _ _ hg).trans h3, h4⟩
  all_goals first | exact h | trivial
def tP3 (S1 : Array Value) (base : Nat) (k : Nat) (W : World) (vs : Nat → Value) : Prop := match k with | 0 => True | 1 => ∃ g g' : Nat, vs 14 = .pointer (some ⟨g, 0, none⟩) ∧ vs 15 = .pointer (some ⟨g', 0, none⟩) ∧ g ≠ g' ∧ base ≤ g ∧ base ≤ g' ∧ g < W.heap.size ∧ W.heap[g]? = some (.cells S1 53 (0, 0)) | _ => True
theorem tP3_oldA (S1 : Array Value) (base k : Nat) (W W' : World) (vs vs' : Nat → Value) (h : tP3 S1 base (k + 1) W vs) (q : Old W W') (he : ∀ i ∈ eP3 k, vs' i = vs i) : tP3 S1 base (k + 1) W' vs' := by
  cases k with
  | zero =>
    obtain ⟨g, g', h1, h2, h3, h4, h5, h6, h7⟩ := h
    exact ⟨g, g', (he 14 (by decide)).trans h1, (he 15 (by decide)).trans h2, h3, h4, h5, Nat.lt_of_lt_of_le h6 q.size, (q.block g h6).trans h7⟩
  | succ k => exact trivial
set_option maxRecDepth 100000 in
set_option maxHeartbeats 8000000 in
theorem reg_P3 (w0 : World) (N T E : Int) (a3 : Option Addr) (l3 c3 : Nat) (a4 : Option Addr) (l4 c4 : Nat) (a6 : Option Addr) (l6 c6 bx : Nat) (ab bb : Nat) (SA SB SM SN SQ SD SZ : Array Value)     (b_ab : w0.heap[ab]? = some (.cells SA 53 (0, 0))) (hS_ab : SA.size = 81) (b_bb : w0.heap[bb]? = some (.cells SB 53 (0, 0))) (hS_bb : SB.size = 81) (b_bx : w0.heap[bx]? = some (.cells #[.int .i64 N, .int .i64 T, .int .i64 E, .slice a3 l3 c3, .slice a4 l4 c4, .bool false, .slice a6 l6 c6] 48 (0, 0))) (hZ_SD : (SD).size = 81 ∧ (SD).all (·.oneCell') = true) (hZ_SZ : (SZ).size = 81 ∧ (SZ).all (·.oneCell') = true)
    
    (KM : ∀ W, Old w0 W → Calls Tryz.prog 59 #[.agg SA, .agg SB] W fun e w' => e = .returned (.agg SM) ∧ Old W w')
    (KX : ∀ W, Old w0 W → Calls Tryz.prog 61 #[.agg SM, .int .i64 N, .int .i64 0] W fun e w' => e = .returned (.agg SN) ∧ Old W w')
    (KZ : ∀ W, Old w0 W → Calls Tryz.prog 35 #[.agg #[.bool false, .slice a6 l6 c6]] W fun e w' => e = .returned (.agg SQ) ∧ Old W w')
    (KD : ∀ W, Old w0 W → Calls Tryz.prog 63 #[.agg SN, .agg SQ] W fun e w' => e = .returned (.tuple #[.agg SD, .agg SZ]) ∧ Old W w')
    (Q : Exit → Act → World → Prop) (b0 : Act) (hsz : b0.tmps.size = 70) (ha3 : b0.eval (.tmp 3) = .pointer (some ⟨bx, 0, none⟩)) (ha4 : b0.eval (.tmp 4) = .pointer (some ⟨ab, 0, none⟩)) (ha5 : b0.eval (.tmp 5) = .pointer (some ⟨bb, 0, none⟩))
    (HK : Hid (∀ (us : Nat → Value) (W : World) (g14 g15 : Nat), Old w0 W → us 14 = .pointer (some ⟨g14, 0, none⟩) → w0.heap.size ≤ g14 → us 15 = .pointer (some ⟨g15, 0, none⟩) → w0.heap.size ≤ g15 → W.heap[g14]? = some (.cells SD 53 (0, 0)) → W.heap[g15]? = some (.cells SZ 53 (0, 0)) → Q .normal (putAll b0 ((List.range 16).map fun i => (slotP3 i, us i))) W)) :
    Code.wp Tryz.prog ((Tryz.f31.body.bind (regionAtmul 3)).getD .skip) Q b0 w0 := by
  conv => arg 2; whnf
  have px_ab : ∀ W, Old w0 W → W.heap[ab]? = some (.cells SA 53 (0, 0)) := fun W g => (g.block ab (lt_of_some b_ab)).trans b_ab
  have px_bb : ∀ W, Old w0 W → W.heap[bb]? = some (.cells SB 53 (0, 0)) := fun W g => (g.block bb (lt_of_some b_bb)).trans b_bb
  have px_bx : ∀ W, Old w0 W → W.heap[bx]? = some (.cells #[.int .i64 N, .int .i64 T, .int .i64 E, .slice a3 l3 c3, .slice a4 l4 c4, .bool false, .slice a6 l6 c6] 48 (0, 0)) := fun W g => (g.block bx (lt_of_some b_bx)).trans b_bx
  have pc_bx_0 : ∀ W, Old w0 W → W.cell? ⟨bx, 0, none⟩ = some (.int .i64 N) := fun W g => cell_of_row W bx 0 _ _ (0, 0) (px_bx W g)
  have pc_bx_5 : ∀ W, Old w0 W → W.cell? ⟨bx, 5, none⟩ = some (.bool false) := fun W g => cell_of_row W bx 5 _ _ (0, 0) (px_bx W g)
  have pc_bx_6 : ∀ W, Old w0 W → W.cell? ⟨bx, 6, none⟩ = some (.slice a6 l6 c6) := fun W g => cell_of_row W bx 6 _ _ (0, 0) (px_bx W g)
  obtain ⟨z_impl_size, hz_impl_size, hzs_impl_size⟩ : ∃ z, (Tryz.prog.info? 53).bind (·.zero) = some z ∧ z.cells.size = 81 := ⟨_, rfl, by kernel_rfl⟩
  refine wp_region_boxes 16 1 rfl rfl (by kernel_rfl) (by kernel_rfl) (by kernel_rfl) (by kernel_rfl) (by kernel_rfl) eP3 (by kernel_rfl) slotP3 (fun i hi => by rw [hsz]; exact slotP3_lt i hi) (fun i j hi hj => slotP3_inj i hi j hj) (qP3 N T E a3 l3 c3 a4 l4 c4 a6 l6 c6 bx ab bb SA SB SM SN SQ SD SZ w0.heap.size ) (boxS w0.heap.size) (qP3_old N T E a3 l3 c3 a4 l4 c4 a6 l6 c6 bx ab bb SA SB SM SN SQ SD SZ w0.heap.size ) (qP3_box N T E a3 l3 c3 a4 l4 c4 a6 l6 c6 bx ab bb SA SB SM SN SQ SD SZ w0.heap.size ) [14, 15] (fun i W v hi hq => ?_) (fun k => tP3 (SD) w0.heap.size k) (fun _ _ => trivial) (fun k W W' vs vs' h q he => ?_) ?_ ?_ ?_
  · have hi2 : i = 14 ∨ i = 15 := by simpa using hi
    rcases hi2 with rfl | rfl
    all_goals (obtain ⟨g, cs, e, _, h2, _⟩ := hq; exact ⟨g, e, h2⟩)
  · exact tP3_oldA (SD) w0.heap.size k W W' vs vs' h q he
  · refine ⟨?_, ?_, ?_, ?_, ?_, ?_, ?_, ?_, ?_, ?_, ?_, ?_, ?_, ?_, ?_, ?_, trivial⟩
    · intro a W g hF hd
      have e4 := (hF.same 4 slotP3_no4).trans ha4
      refine op_load (k := ab) e4 (px_ab W g) Tryz.underlying53 rfl (by rw [hS_ab]; exact infoSz) ?_
      exact ⟨_, rfl, Old.refl _, rfl, (fun h => absurd h (by decide))⟩
    · intro a W g hF hd
      have e5 := (hF.same 5 slotP3_no5).trans ha5
      refine op_load (k := bb) e5 (px_bb W g) Tryz.underlying53 rfl (by rw [hS_bb]; exact infoSz) ?_
      exact ⟨_, rfl, Old.refl _, rfl, (fun h => absurd h (by decide))⟩
    · intro a W g hF hd
      have h0 : a.eval (.tmp 32) = .agg SA := hd ⟨0, .data⟩ (by simp) rfl
      have h1 : a.eval (.tmp 33) = .agg SB := hd ⟨1, .data⟩ (by simp) rfl
      refine op_call_ret (R := fun v w' => v = .agg SM ∧ Old W w') Tryz.call59 (vs := #[.agg SA, .agg SB]) (by simp [h0, h1]) ((KM W g).mono fun e w' h => ⟨_, h.1, rfl, h.2⟩) ?_
      rintro x w' ⟨rfl, g'⟩
      exact ⟨_, rfl, g', rfl, (fun h => absurd h (by decide))⟩
    · intro a W g hF hd
      have e3 := (hF.same 3 slotP3_no3).trans ha3
      obtain ⟨ρ, hρ⟩ : ∃ ρ, a.eval = ρ := ⟨_, rfl⟩
      rw [hρ] at e3
      refine op_val ρ hρ (.pointer (some ⟨bx, 0, none⟩)) ?_ ⟨_, rfl, Old.refl _, rfl, (fun h => absurd h (by decide))⟩
      clear g hF hd hρ HK KM KX KZ KD ha3 ha4 ha5 px_ab b_ab px_bb b_bb px_bx b_bx pc_bx_0 pc_bx_5 pc_bx_6 
      go_simp
      all_goals (first | (rw [IntKind.wrap_i64]; omega) | (rw [IntKind.wrap_u64]; omega) | omega)
    · intro a W g hF hd
      have h3 : a.eval (.tmp 35) = .pointer (some ⟨bx, 0, none⟩) := hd ⟨3, .data⟩ (by simp) rfl
      obtain ⟨ρ, hρ⟩ : ∃ ρ, a.eval = ρ := ⟨_, rfl⟩
      rw [hρ] at h3
      refine op_val ρ hρ (.pointer (some ⟨bx, 0, none⟩)) ?_ ⟨_, rfl, Old.refl _, rfl, (fun h => absurd h (by decide))⟩
      clear g hF hd hρ HK KM KX KZ KD ha3 ha4 ha5 px_ab b_ab px_bb b_bb px_bx b_bx pc_bx_0 pc_bx_5 pc_bx_6 
      go_simp
      all_goals (first | (rw [IntKind.wrap_i64]; omega) | (rw [IntKind.wrap_u64]; omega) | omega)
    · intro a W g hF hd
      have h4 : a.eval (.tmp 36) = .pointer (some ⟨bx, 0, none⟩) := hd ⟨4, .data⟩ (by simp) rfl
      have kk0 := pc_bx_0 W g
      obtain ⟨ρ, hρ⟩ : ∃ ρ, a.eval = ρ := ⟨_, rfl⟩
      rw [hρ] at h4
      refine op_val ρ hρ (.int .i64 N) ?_ ⟨_, rfl, Old.refl _, rfl, (fun h => absurd h (by decide))⟩
      clear g hF hd hρ HK KM KX KZ KD ha3 ha4 ha5 px_ab b_ab px_bb b_bb px_bx b_bx pc_bx_0 pc_bx_5 pc_bx_6 
      go_simp
      all_goals (first | (rw [IntKind.wrap_i64]; omega) | (rw [IntKind.wrap_u64]; omega) | omega)
    · intro a W g hF hd
      have h2 : a.eval (.tmp 34) = .agg SM := hd ⟨2, .data⟩ (by simp) rfl
      have h5 : a.eval (.tmp 37) = .int .i64 N := hd ⟨5, .data⟩ (by simp) rfl
      have c2 : a.eval (.const (.int .i64 0)) = .int .i64 0 := rfl
      refine op_call_ret (R := fun v w' => v = .agg SN ∧ Old W w') Tryz.call61 (vs := #[.agg SM, .int .i64 N, .int .i64 0]) (by simp [h2, h5, c2]) ((KX W g).mono fun e w' h => ⟨_, h.1, rfl, h.2⟩) ?_
      rintro x w' ⟨rfl, g'⟩
      exact ⟨_, rfl, g', rfl, (fun h => absurd h (by decide))⟩
    · intro a W g hF hd
      have e3 := (hF.same 3 slotP3_no3).trans ha3
      obtain ⟨ρ, hρ⟩ : ∃ ρ, a.eval = ρ := ⟨_, rfl⟩
      rw [hρ] at e3
      refine op_val ρ hρ (.pointer (some ⟨bx, 5, none⟩)) ?_ ⟨_, rfl, Old.refl _, rfl, (fun h => absurd h (by decide))⟩
      clear g hF hd hρ HK KM KX KZ KD ha3 ha4 ha5 px_ab b_ab px_bb b_bb px_bx b_bx pc_bx_0 pc_bx_5 pc_bx_6 
      go_simp
      all_goals (first | (rw [IntKind.wrap_i64]; omega) | (rw [IntKind.wrap_u64]; omega) | omega)
    · intro a W g hF hd
      have h7 : a.eval (.tmp 39) = .pointer (some ⟨bx, 5, none⟩) := hd ⟨7, .data⟩ (by simp) rfl
      have kk0 := pc_bx_5 W g
      have kk1 := pc_bx_6 W g
      obtain ⟨ρ, hρ⟩ : ∃ ρ, a.eval = ρ := ⟨_, rfl⟩
      rw [hρ] at h7
      refine op_val ρ hρ (.agg #[.bool false, .slice a6 l6 c6]) ?_ ⟨_, rfl, Old.refl _, rfl, (fun h => absurd h (by decide))⟩
      clear g hF hd hρ HK KM KX KZ KD ha3 ha4 ha5 px_ab b_ab px_bb b_bb px_bx b_bx pc_bx_0 pc_bx_5 pc_bx_6 
      go_simp
      all_goals (first | (rw [IntKind.wrap_i64]; omega) | (rw [IntKind.wrap_u64]; omega) | omega)
    · intro a W g hF hd
      have h8 : a.eval (.tmp 40) = .agg #[.bool false, .slice a6 l6 c6] := hd ⟨8, .data⟩ (by simp) rfl
      refine op_call_ret (R := fun v w' => v = .agg SQ ∧ Old W w') Tryz.call35 (vs := #[.agg #[.bool false, .slice a6 l6 c6]]) (by simp [h8]) ((KZ W g).mono fun e w' h => ⟨_, h.1, rfl, h.2⟩) ?_
      rintro x w' ⟨rfl, g'⟩
      exact ⟨_, rfl, g', rfl, (fun h => absurd h (by decide))⟩
    · intro a W g hF hd
      have h6 : a.eval (.tmp 38) = .agg SN := hd ⟨6, .data⟩ (by simp) rfl
      have h9 : a.eval (.tmp 41) = .agg SQ := hd ⟨9, .data⟩ (by simp) rfl
      refine op_call_ret (R := fun v w' => v = .tuple #[.agg SD, .agg SZ] ∧ Old W w') Tryz.call63 (vs := #[.agg SN, .agg SQ]) (by simp [h6, h9]) ((KD W g).mono fun e w' h => ⟨_, h.1, rfl, h.2⟩) ?_
      rintro x w' ⟨rfl, g'⟩
      exact ⟨_, rfl, g', rfl, (fun h => absurd h (by decide))⟩
    · intro a W g hF hd
      refine op_move ?_
      exact ⟨_, rfl, Old.refl _, hd ⟨10, .data⟩ (by simp) rfl, (fun h => absurd h (by decide))⟩
    · intro a W g hF hd
      have h11 : a.eval (.tmp 31) = .tuple #[.agg SD, .agg SZ] := hd ⟨11, .data⟩ (by simp) rfl
      exact op_extract h11 rfl ⟨_, rfl, Old.refl _, rfl, (fun h => absurd h (by decide))⟩
    · intro a W g hF hd
      have h11 : a.eval (.tmp 31) = .tuple #[.agg SD, .agg SZ] := hd ⟨11, .data⟩ (by simp) rfl
      exact op_extract h11 rfl ⟨_, rfl, Old.refl _, rfl, (fun h => absurd h (by decide))⟩
    · intro a W g hF hd
      refine op_alloc hz_impl_size ?_
      exact ⟨_, rfl, (Old.refl _).alloc _, ⟨W.heap.size, z_impl_size.cells, rfl, g.size, by simp, heap_newA W _, hzs_impl_size⟩, (fun _ => rfl)⟩
    · intro a W g hF hd
      refine op_alloc hz_impl_size ?_
      exact ⟨_, rfl, (Old.refl _).alloc _, ⟨W.heap.size, z_impl_size.cells, rfl, g.size, by simp, heap_newA W _, hzs_impl_size⟩, (fun _ => rfl)⟩
  · refine ⟨?_, trivial⟩
    intro a W g hF _ hq hne
    obtain ⟨g1, cs1, hp1, hb1, hl1, hc1, hz1⟩ := hq 14 (by decide)
    obtain ⟨g2, cs2, hp2, hb2, hl2, hc2, hz2⟩ := hq 15 (by decide)
    have ne12 : g1 ≠ g2 := fun e => hne 14 (by decide) 15 (by decide) (by decide) (by decide) (by decide) (by rw [hp1, hp2, e])
    refine op_store (k := g1) hp1 (show a.eval (.tmp 43) = .agg (SD) from hq 12 (by decide)) hc1 (by rw [hZ_SD.1]; exact infoSz) (by rw [hZ_SD.1]; exact hz1) hZ_SD.2 ?_
    exact ⟨rfl, old_setRow g hb1 _, ⟨g1, cs1, _, hb1, hc1, hZ_SD.1, rfl⟩, ⟨g1, g2, hp1, hp2, ne12, hb1, hb2, by rw [size_setRow]; exact hl1, heap_setRow_same hc1⟩⟩
  · intro a W g hF hq ht
    obtain ⟨g1, g2, hp1, hp2, ne12, hb1, hb2, hl1, hc1⟩ := ht
    obtain ⟨g2', cs2, hp2', _, hl2, hc2, hz2⟩ := hq 15 (by decide)
    obtain rfl : g2' = g2 := by
      have := hp2'.symm.trans hp2
      simpa using this
    have hput := fram_put (show Fram 16 slotP3 b0 a from hF) (fun i j hi hj => slotP3_inj i hi j hj)
    have hk := HK.out (fun i => a.eval (.tmp (slotP3 i))) (W.setRow g2' (SZ)) g1 g2' (old_setRow g hb2 _) hp1 hb1 hp2 hb2 ((heap_setRow_other _ _ _ _ ne12).trans hc1) (heap_setRow_same hc2)
    rw [← hput] at hk
    refine op_store (k := g2') hp2' (show a.eval (.tmp 44) = .agg (SZ) from hq 13 (by decide)) hc2 (by rw [hZ_SZ.1]; exact infoSz) (by rw [hZ_SZ.1]; exact hz2) hZ_SZ.2 ?_
    exact hk
def slotP5 (i : Nat) : Nat := [63, 64, 65, 66, 67, 68, 69].getD i 0
theorem slotP5_lt : ∀ i, i < 7 → slotP5 i < 70 := by decide
theorem slotP5_inj : ∀ i, i < 7 → ∀ j, j < 7 → slotP5 i = slotP5 j → i = j := by decide
theorem slotP5_no3 : ∀ i, i < 7 → slotP5 i ≠ 3 := by decide
theorem slotP5_no6 : ∀ i, i < 7 → slotP5 i ≠ 6 := by decide
theorem slotP5_no8 : ∀ i, i < 7 → slotP5 i ≠ 8 := by decide
theorem slotP5_no9 : ∀ i, i < 7 → slotP5 i ≠ 9 := by decide
theorem slotP5_no11 : ∀ i, i < 7 → slotP5 i ≠ 11 := by decide
def qP5 (N T E : Int) (a3 : Option Addr) (l3 c3 : Nat) (a4 : Option Addr) (l4 c4 : Nat) (a6 : Option Addr) (l6 c6 bx : Nat) (eb db rb : Nat) (SE SD SS SR Z : Array Value) (q : Int)  (i : Nat) (W : World) (x : Value) : Prop :=
  match i with
  | 0 => x = .agg #[.int .i64 N, .int .i64 T, .int .i64 E, .slice a3 l3 c3, .slice a4 l4 c4, .bool false, .slice a6 l6 c6]
  | 1 => x = .agg SE
  | 2 => x = .agg SD
  | 3 => x = .agg SS
  | 4 => x = .int .i64 q
  | 5 => x = .int .i64 (1 + q)
  | 6 => x = .agg SR
  | _ => True
theorem qP5_old (N T E : Int) (a3 : Option Addr) (l3 c3 : Nat) (a4 : Option Addr) (l4 c4 : Nat) (a6 : Option Addr) (l6 c6 bx : Nat) (eb db rb : Nat) (SE SD SS SR Z : Array Value) (q : Int)   (i : Nat) (W W' : World) (x : Value) (h : qP5 N T E a3 l3 c3 a4 l4 c4 a6 l6 c6 bx eb db rb SE SD SS SR Z q  i W x) (qo : Old W W') : qP5 N T E a3 l3 c3 a4 l4 c4 a6 l6 c6 bx eb db rb SE SD SS SR Z q  i W' x := by
  unfold qP5 at h ⊢
  split at h
  all_goals first | exact h | trivial
set_option maxRecDepth 100000 in
set_option maxHeartbeats 8000000 in
theorem reg_P5 (w0 : World) (N T E : Int) (a3 : Option Addr) (l3 c3 : Nat) (a4 : Option Addr) (l4 c4 : Nat) (a6 : Option Addr) (l6 c6 bx : Nat) (eb db rb : Nat) (SE SD SS SR Z : Array Value) (q : Int)     (b_bx : w0.heap[bx]? = some (.cells #[.int .i64 N, .int .i64 T, .int .i64 E, .slice a3 l3 c3, .slice a4 l4 c4, .bool false, .slice a6 l6 c6] 48 (0, 0))) (b_db : w0.heap[db]? = some (.cells SD 53 (0, 0))) (hS_db : SD.size = 81) (b_eb : w0.heap[eb]? = some (.cells SE 53 (0, 0))) (hS_eb : SE.size = 81) (b_rb : w0.heap[rb]? = some (.cells Z 53 (0, 0))) (hS_rb : Z.size = 81) (hZ_SR : (SR).size = 81 ∧ (SR).all (·.oneCell') = true)
    (hq : 0 ≤ q ∧ q ≤ 4611686018427387904)
    (KA : ∀ W, Old w0 W → Calls Tryz.prog 62 #[.agg SE, .agg SD] W fun e w' => e = .returned (.agg SS) ∧ Old W w')
    (KR : ∀ W, Old w0 W → Calls Tryz.prog 56 #[.agg #[.int .i64 N, .int .i64 T, .int .i64 E, .slice a3 l3 c3, .slice a4 l4 c4, .bool false, .slice a6 l6 c6], .agg SS, .int .i64 (1 + q)] W fun e w' => e = .returned (.agg SR) ∧ Old W w')
    (Q : Exit → Act → World → Prop) (b0 : Act) (hsz : b0.tmps.size = 70) (ha3 : b0.eval (.tmp 3) = .pointer (some ⟨bx, 0, none⟩)) (ha6 : b0.eval (.tmp 6) = .pointer (some ⟨rb, 0, none⟩)) (ha8 : b0.eval (.tmp 8) = .pointer (some ⟨eb, 0, none⟩)) (ha9 : b0.eval (.tmp 9) = .pointer (some ⟨db, 0, none⟩)) (ha11 : b0.eval (.tmp 11) = .int .i64 q)
    (HK : Hid (∀ (us : Nat → Value) (W : World) , Old w0 W → Q .normal (putAll b0 ((List.range 7).map fun i => (slotP5 i, us i))) (W.setRow rb SR))) :
    Code.wp Tryz.prog ((Tryz.f31.body.bind (regionAtmul 5)).getD .skip) Q b0 w0 := by
  conv => arg 2; whnf
  have px_bx : ∀ W, Old w0 W → W.heap[bx]? = some (.cells #[.int .i64 N, .int .i64 T, .int .i64 E, .slice a3 l3 c3, .slice a4 l4 c4, .bool false, .slice a6 l6 c6] 48 (0, 0)) := fun W g => (g.block bx (lt_of_some b_bx)).trans b_bx
  have px_db : ∀ W, Old w0 W → W.heap[db]? = some (.cells SD 53 (0, 0)) := fun W g => (g.block db (lt_of_some b_db)).trans b_db
  have px_eb : ∀ W, Old w0 W → W.heap[eb]? = some (.cells SE 53 (0, 0)) := fun W g => (g.block eb (lt_of_some b_eb)).trans b_eb
  have px_rb : ∀ W, Old w0 W → W.heap[rb]? = some (.cells Z 53 (0, 0)) := fun W g => (g.block rb (lt_of_some b_rb)).trans b_rb
  refine wp_region_tailG 7 (by decide) (by kernel_rfl) (by kernel_rfl) (by kernel_rfl) (by kernel_rfl) (by kernel_rfl) slotP5 (fun i hi => by rw [hsz]; exact slotP5_lt i hi) (fun i j hi hj => slotP5_inj i hi j hj) (qP5 N T E a3 l3 c3 a4 l4 c4 a6 l6 c6 bx eb db rb SE SD SS SR Z q  ) (qP5_old N T E a3 l3 c3 a4 l4 c4 a6 l6 c6 bx eb db rb SE SD SS SR Z q  ) [] (fun i W v hi hq => by cases hi) ?_ ?_
  · refine ⟨?_, ?_, ?_, ?_, ?_, ?_, ?_, trivial⟩
    · intro a W g hF hd
      refine ⟨fun _ => ?_, fun h => by rw [wanted_none rfl] at h; cases h⟩
      have e3 := (hF.same 3 slotP5_no3).trans ha3
      refine op_load (k := bx) e3 (px_bx W g) Tryz.underlying48 rfl (by kernel_rfl) ?_
      exact ⟨_, rfl, Old.refl _, rfl, (fun h => absurd h (by decide))⟩
    · intro a W g hF hd
      refine ⟨fun _ => ?_, fun h => by rw [wanted_none rfl] at h; cases h⟩
      have e8 := (hF.same 8 slotP5_no8).trans ha8
      refine op_load (k := eb) e8 (px_eb W g) Tryz.underlying53 rfl (by rw [hS_eb]; exact infoSz) ?_
      exact ⟨_, rfl, Old.refl _, rfl, (fun h => absurd h (by decide))⟩
    · intro a W g hF hd
      refine ⟨fun _ => ?_, fun h => by rw [wanted_none rfl] at h; cases h⟩
      have e9 := (hF.same 9 slotP5_no9).trans ha9
      refine op_load (k := db) e9 (px_db W g) Tryz.underlying53 rfl (by rw [hS_db]; exact infoSz) ?_
      exact ⟨_, rfl, Old.refl _, rfl, (fun h => absurd h (by decide))⟩
    · intro a W g hF hd
      refine ⟨fun _ => ?_, fun h => by rw [wanted_none rfl] at h; cases h⟩
      have h1 : a.eval (.tmp 64) = .agg SE := hd ⟨1, .data⟩ (by simp) rfl
      have h2 : a.eval (.tmp 65) = .agg SD := hd ⟨2, .data⟩ (by simp) rfl
      refine op_call_ret (R := fun v w' => v = .agg SS ∧ Old W w') Tryz.call62 (vs := #[.agg SE, .agg SD]) (by simp [h1, h2]) ((KA W g).mono fun e w' h => ⟨_, h.1, rfl, h.2⟩) ?_
      rintro x w' ⟨rfl, g'⟩
      exact ⟨_, rfl, g', rfl, (fun h => absurd h (by decide))⟩
    · intro a W g hF hd
      refine ⟨fun _ => ?_, fun h => by rw [wanted_none rfl] at h; cases h⟩
      have e11 := (hF.same 11 slotP5_no11).trans ha11
      refine op_move ?_
      exact ⟨_, rfl, Old.refl _, e11, (fun h => absurd h (by decide))⟩
    · intro a W g hF hd
      refine ⟨fun _ => ?_, fun h => by rw [wanted_none rfl] at h; cases h⟩
      have c0 : a.eval (.const (.int .i64 1)) = .int .i64 1 := rfl
      have h4 : a.eval (.tmp 67) = .int .i64 q := hd ⟨4, .data⟩ (by simp) rfl
      obtain ⟨ρ, hρ⟩ : ∃ ρ, a.eval = ρ := ⟨_, rfl⟩
      rw [hρ] at c0 h4
      refine op_val ρ hρ (.int .i64 (1 + q)) ?_ ⟨_, rfl, Old.refl _, rfl, (fun h => absurd h (by decide))⟩
      clear g hF hd hρ HK KA KR ha3 ha6 ha8 ha9 ha11 px_bx b_bx px_db b_db px_eb b_eb px_rb b_rb  
      go_simp
      all_goals (first | (rw [IntKind.wrap_i64]; omega) | (rw [IntKind.wrap_u64]; omega) | omega)
    · intro a W g hF hd
      refine ⟨fun _ => ?_, fun h => by rw [wanted_none rfl] at h; cases h⟩
      have h0 : a.eval (.tmp 63) = .agg #[.int .i64 N, .int .i64 T, .int .i64 E, .slice a3 l3 c3, .slice a4 l4 c4, .bool false, .slice a6 l6 c6] := hd ⟨0, .data⟩ (by simp) rfl
      have h3 : a.eval (.tmp 66) = .agg SS := hd ⟨3, .data⟩ (by simp) rfl
      have h5 : a.eval (.tmp 68) = .int .i64 (1 + q) := hd ⟨5, .data⟩ (by simp) rfl
      refine op_call_ret (R := fun v w' => v = .agg SR ∧ Old W w') Tryz.call56 (vs := #[.agg #[.int .i64 N, .int .i64 T, .int .i64 E, .slice a3 l3 c3, .slice a4 l4 c4, .bool false, .slice a6 l6 c6], .agg SS, .int .i64 (1 + q)]) (by simp [h0, h3, h5]) ((KR W g).mono fun e w' h => ⟨_, h.1, rfl, h.2⟩) ?_
      rintro x w' ⟨rfl, g'⟩
      exact ⟨_, rfl, g', rfl, (fun h => absurd h (by decide))⟩
  · intro a W g hF hq hne
    have hput := fram_put (show Fram 7 slotP5 b0 a from hF) (fun i j hi hj => slotP5_inj i hi j hj)
    have hk := HK.out (fun i => a.eval (.tmp (slotP5 i))) W g  
    rw [← hput] at hk
    refine op_store (k := rb) ((hF.same 6 slotP5_no6).trans ha6) (show a.eval (.tmp 69) = .agg SR from hq 6 (by decide)) (px_rb W g) (by rw [hZ_SR.1]; exact infoSz) (by rw [hZ_SR.1]; exact hS_rb) hZ_SR.2 ?_
    show tailWp _ _ _ _ _
    exact hk
def slotDb (i : Nat) : Nat := [9, 10, 11, 12, 13, 14].getD i 0
theorem slotDb_lt : ∀ i, i < 6 → slotDb i < 15 := by decide
theorem slotDb_inj : ∀ i, i < 6 → ∀ j, j < 6 → slotDb i = slotDb j → i = j := by decide
theorem slotDb_no1 : ∀ i, i < 6 → slotDb i ≠ 1 := by decide
theorem slotDb_no3 : ∀ i, i < 6 → slotDb i ≠ 3 := by decide
def qDb (N T E : Int) (a3 : Option Addr) (l3 c3 : Nat) (a4 : Option Addr) (l4 c4 : Nat) (a6 : Option Addr) (l6 c6 bx : Nat) (sb : Nat) (S0 SP SW : Array Value)  (i : Nat) (W : World) (x : Value) : Prop :=
  match i with
  | 0 => x = .agg #[.int .i64 N, .int .i64 T, .int .i64 E, .slice a3 l3 c3, .slice a4 l4 c4, .bool false, .slice a6 l6 c6]
  | 1 => x = .agg #[.int .i64 N, .int .i64 T, .int .i64 E, .slice a3 l3 c3, .slice a4 l4 c4, .bool false, .slice a6 l6 c6]
  | 2 => x = .agg S0
  | 3 => x = .agg S0
  | 4 => x = .agg SP
  | 5 => x = .agg SW
  | _ => True
theorem qDb_old (N T E : Int) (a3 : Option Addr) (l3 c3 : Nat) (a4 : Option Addr) (l4 c4 : Nat) (a6 : Option Addr) (l6 c6 bx : Nat) (sb : Nat) (S0 SP SW : Array Value)   (i : Nat) (W W' : World) (x : Value) (h : qDb N T E a3 l3 c3 a4 l4 c4 a6 l6 c6 bx sb S0 SP SW  i W x) (qo : Old W W') : qDb N T E a3 l3 c3 a4 l4 c4 a6 l6 c6 bx sb S0 SP SW  i W' x := by
  unfold qDb at h ⊢
  split at h
  all_goals first | exact h | trivial
set_option maxRecDepth 100000 in
set_option maxHeartbeats 8000000 in
theorem reg_Db (w0 : World) (N T E : Int) (a3 : Option Addr) (l3 c3 : Nat) (a4 : Option Addr) (l4 c4 : Nat) (a6 : Option Addr) (l6 c6 bx : Nat) (sb : Nat) (S0 SP SW : Array Value)     (b_bx : w0.heap[bx]? = some (.cells #[.int .i64 N, .int .i64 T, .int .i64 E, .slice a3 l3 c3, .slice a4 l4 c4, .bool false, .slice a6 l6 c6] 48 (0, 0))) (b_sb : w0.heap[sb]? = some (.cells S0 53 (0, 0))) (hS_sb : S0.size = 81) (hZ_SW : (SW).size = 81 ∧ (SW).all (·.oneCell') = true)
    
    (KP : ∀ W, Old w0 W → Calls Tryz.prog 31 #[.agg #[.int .i64 N, .int .i64 T, .int .i64 E, .slice a3 l3 c3, .slice a4 l4 c4, .bool false, .slice a6 l6 c6], .agg S0, .agg S0] W fun e w' => e = .returned (.agg SP) ∧ Old W w')
    (KW : ∀ W, Old w0 W → Calls Tryz.prog 33 #[.agg #[.int .i64 N, .int .i64 T, .int .i64 E, .slice a3 l3 c3, .slice a4 l4 c4, .bool false, .slice a6 l6 c6], .agg SP] W fun e w' => e = .returned (.agg SW) ∧ Old W w')
    (Q : Exit → Act → World → Prop) (b0 : Act) (hsz : b0.tmps.size = 15) (ha1 : b0.eval (.tmp 1) = .pointer (some ⟨bx, 0, none⟩)) (ha3 : b0.eval (.tmp 3) = .pointer (some ⟨sb, 0, none⟩))
    (HK : Hid (∀ (us : Nat → Value) (W : World) , Old w0 W → Q .normal (putAll b0 ((List.range 6).map fun i => (slotDb i, us i))) (W.setRow sb SW))) :
    Code.wp Tryz.prog ((Tryz.f43.body.bind (regionAtmul 2)).getD .skip) Q b0 w0 := by
  conv => arg 2; whnf
  have px_bx : ∀ W, Old w0 W → W.heap[bx]? = some (.cells #[.int .i64 N, .int .i64 T, .int .i64 E, .slice a3 l3 c3, .slice a4 l4 c4, .bool false, .slice a6 l6 c6] 48 (0, 0)) := fun W g => (g.block bx (lt_of_some b_bx)).trans b_bx
  have px_sb : ∀ W, Old w0 W → W.heap[sb]? = some (.cells S0 53 (0, 0)) := fun W g => (g.block sb (lt_of_some b_sb)).trans b_sb
  refine wp_region_tailG 6 (by decide) (by kernel_rfl) (by kernel_rfl) (by kernel_rfl) (by kernel_rfl) (by kernel_rfl) slotDb (fun i hi => by rw [hsz]; exact slotDb_lt i hi) (fun i j hi hj => slotDb_inj i hi j hj) (qDb N T E a3 l3 c3 a4 l4 c4 a6 l6 c6 bx sb S0 SP SW  ) (qDb_old N T E a3 l3 c3 a4 l4 c4 a6 l6 c6 bx sb S0 SP SW  ) [] (fun i W v hi hq => by cases hi) ?_ ?_
  · refine ⟨?_, ?_, ?_, ?_, ?_, ?_, trivial⟩
    · intro a W g hF hd
      refine ⟨fun _ => ?_, fun h => by rw [wanted_none rfl] at h; cases h⟩
      have e1 := (hF.same 1 slotDb_no1).trans ha1
      refine op_load (k := bx) e1 (px_bx W g) Tryz.underlying48 rfl (by kernel_rfl) ?_
      exact ⟨_, rfl, Old.refl _, rfl, (fun h => absurd h (by decide))⟩
    · intro a W g hF hd
      refine ⟨fun _ => ?_, fun h => by rw [wanted_none rfl] at h; cases h⟩
      have e1 := (hF.same 1 slotDb_no1).trans ha1
      refine op_load (k := bx) e1 (px_bx W g) Tryz.underlying48 rfl (by kernel_rfl) ?_
      exact ⟨_, rfl, Old.refl _, rfl, (fun h => absurd h (by decide))⟩
    · intro a W g hF hd
      refine ⟨fun _ => ?_, fun h => by rw [wanted_none rfl] at h; cases h⟩
      have e3 := (hF.same 3 slotDb_no3).trans ha3
      refine op_load (k := sb) e3 (px_sb W g) Tryz.underlying53 rfl (by rw [hS_sb]; exact infoSz) ?_
      exact ⟨_, rfl, Old.refl _, rfl, (fun h => absurd h (by decide))⟩
    · intro a W g hF hd
      refine ⟨fun _ => ?_, fun h => by rw [wanted_none rfl] at h; cases h⟩
      have e3 := (hF.same 3 slotDb_no3).trans ha3
      refine op_load (k := sb) e3 (px_sb W g) Tryz.underlying53 rfl (by rw [hS_sb]; exact infoSz) ?_
      exact ⟨_, rfl, Old.refl _, rfl, (fun h => absurd h (by decide))⟩
    · intro a W g hF hd
      refine ⟨fun _ => ?_, fun h => by rw [wanted_none rfl] at h; cases h⟩
      have h1 : a.eval (.tmp 10) = .agg #[.int .i64 N, .int .i64 T, .int .i64 E, .slice a3 l3 c3, .slice a4 l4 c4, .bool false, .slice a6 l6 c6] := hd ⟨1, .data⟩ (by simp) rfl
      have h2 : a.eval (.tmp 11) = .agg S0 := hd ⟨2, .data⟩ (by simp) rfl
      have h3 : a.eval (.tmp 12) = .agg S0 := hd ⟨3, .data⟩ (by simp) rfl
      refine op_call_ret (R := fun v w' => v = .agg SP ∧ Old W w') Tryz.call31 (vs := #[.agg #[.int .i64 N, .int .i64 T, .int .i64 E, .slice a3 l3 c3, .slice a4 l4 c4, .bool false, .slice a6 l6 c6], .agg S0, .agg S0]) (by simp [h1, h2, h3]) ((KP W g).mono fun e w' h => ⟨_, h.1, rfl, h.2⟩) ?_
      rintro x w' ⟨rfl, g'⟩
      exact ⟨_, rfl, g', rfl, (fun h => absurd h (by decide))⟩
    · intro a W g hF hd
      refine ⟨fun _ => ?_, fun h => by rw [wanted_none rfl] at h; cases h⟩
      have h0 : a.eval (.tmp 9) = .agg #[.int .i64 N, .int .i64 T, .int .i64 E, .slice a3 l3 c3, .slice a4 l4 c4, .bool false, .slice a6 l6 c6] := hd ⟨0, .data⟩ (by simp) rfl
      have h4 : a.eval (.tmp 13) = .agg SP := hd ⟨4, .data⟩ (by simp) rfl
      refine op_call_ret (R := fun v w' => v = .agg SW ∧ Old W w') Tryz.call33 (vs := #[.agg #[.int .i64 N, .int .i64 T, .int .i64 E, .slice a3 l3 c3, .slice a4 l4 c4, .bool false, .slice a6 l6 c6], .agg SP]) (by simp [h0, h4]) ((KW W g).mono fun e w' h => ⟨_, h.1, rfl, h.2⟩) ?_
      rintro x w' ⟨rfl, g'⟩
      exact ⟨_, rfl, g', rfl, (fun h => absurd h (by decide))⟩
  · intro a W g hF hq hne
    have hput := fram_put (show Fram 6 slotDb b0 a from hF) (fun i j hi hj => slotDb_inj i hi j hj)
    have hk := HK.out (fun i => a.eval (.tmp (slotDb i))) W g  
    rw [← hput] at hk
    refine op_store (k := sb) ((hF.same 3 slotDb_no3).trans ha3) (show a.eval (.tmp 14) = .agg SW from hq 5 (by decide)) (px_sb W g) (by rw [hZ_SW.1]; exact infoSz) (by rw [hZ_SW.1]; exact hS_sb) hZ_SW.2 ?_
    show tailWp _ _ _ _ _
    exact hk
end Go.Proofs.YtihjndakgncdaaaGreatDoor
/- Proved: drawn regions of the model's bounds. -/
namespace Go.Proofs.YtihjndakgncdaaaGreatDoor
open Go.ChangeShapes Go.WideShapes Go.ChangeAt Go.RowKit
set_option linter.unusedVariables false
set_option linter.unusedSimpArgs false
def slotMj (i : Nat) : Nat := [29, 30, 31, 32, 33, 34, 35, 36, 37, 38, 28, 39, 40, 9, 10].getD i 0
theorem slotMj_lt : ∀ i, i < 15 → slotMj i < 63 := by decide
theorem slotMj_inj : ∀ i, i < 15 → ∀ j, j < 15 → slotMj i = slotMj j → i = j := by decide
theorem slotMj_no1 : ∀ i, i < 15 → slotMj i ≠ 1 := by decide
theorem slotMj_no2 : ∀ i, i < 15 → slotMj i ≠ 2 := by decide
theorem slotMj_no3 : ∀ i, i < 15 → slotMj i ≠ 3 := by decide
def qMj (N T E : Int) (a0 : Option Addr) (l0 c0 pb : Nat) (a1 : Option Addr) (l1 c1 : Nat) (a2 : Option Addr) (l2 c2 : Nat) (PN : World → Value → Prop) (PM : World → Value → Prop) (PX : World → Value → Prop) (PQ : World → Value → Prop) (PD : World → Value → Prop) (PDa : World → Value → Prop) (PDb : World → Value → Prop) (i : Nat) (W : World) (x : Value) : Prop :=
  match i with
  | 0 => x = .pointer (some ⟨pb, 0, none⟩)
  | 1 => x = .int .i64 N
  | 2 => PN W x
  | 3 => x = .slice a1 l1 c1
  | 4 => x = .slice a2 l2 c2
  | 5 => PM W x
  | 6 => PX W x
  | 7 => x = .agg #[.int .i64 N, .int .i64 T, .int .i64 E, .slice a0 l0 c0]
  | 8 => PQ W x
  | 9 => PD W x
  | 10 => PD W x
  | 11 => PDa W x
  | 12 => PDb W x
  | 13 => PDa W x
  | 14 => PDb W x
  | _ => True
theorem qMj_old (N T E : Int) (a0 : Option Addr) (l0 c0 pb : Nat) (a1 : Option Addr) (l1 c1 : Nat) (a2 : Option Addr) (l2 c2 : Nat) (PN : World → Value → Prop) (PM : World → Value → Prop) (PX : World → Value → Prop) (PQ : World → Value → Prop) (PD : World → Value → Prop) (PDa : World → Value → Prop) (PDb : World → Value → Prop) (hM_PN : ∀ W W' v, PN W v → Old W W' → PN W' v) (hM_PM : ∀ W W' v, PM W v → Old W W' → PM W' v) (hM_PX : ∀ W W' v, PX W v → Old W W' → PX W' v) (hM_PQ : ∀ W W' v, PQ W v → Old W W' → PQ W' v) (hM_PD : ∀ W W' v, PD W v → Old W W' → PD W' v) (hM_PDa : ∀ W W' v, PDa W v → Old W W' → PDa W' v) (hM_PDb : ∀ W W' v, PDb W v → Old W W' → PDb W' v) (i : Nat) (W W' : World) (x : Value) (h : qMj N T E a0 l0 c0 pb a1 l1 c1 a2 l2 c2 PN PM PX PQ PD PDa PDb i W x) (qo : Old W W') : qMj N T E a0 l0 c0 pb a1 l1 c1 a2 l2 c2 PN PM PX PQ PD PDa PDb i W' x := by
  unfold qMj at h ⊢
  split at h
  case h_3 => exact hM_PN _ _ _ h qo
  case h_6 => exact hM_PM _ _ _ h qo
  case h_7 => exact hM_PX _ _ _ h qo
  case h_9 => exact hM_PQ _ _ _ h qo
  case h_10 => exact hM_PD _ _ _ h qo
  case h_11 => exact hM_PD _ _ _ h qo
  case h_12 => exact hM_PDa _ _ _ h qo
  case h_13 => exact hM_PDb _ _ _ h qo
  case h_14 => exact hM_PDa _ _ _ h qo
  case h_15 => exact hM_PDb _ _ _ h qo
  all_goals first | exact h | trivial
set_option maxRecDepth 100000 in
set_option maxHeartbeats 8000000 in
theorem reg_Mj (w0 : World) (N T E : Int) (a0 : Option Addr) (l0 c0 pb : Nat) (a1 : Option Addr) (l1 c1 : Nat) (a2 : Option Addr) (l2 c2 : Nat) (PN : World → Value → Prop) (PM : World → Value → Prop) (PX : World → Value → Prop) (PQ : World → Value → Prop) (PD : World → Value → Prop) (PDa : World → Value → Prop) (PDb : World → Value → Prop) (hM_PN : ∀ W W' v, PN W v → Old W W' → PN W' v) (hM_PM : ∀ W W' v, PM W v → Old W W' → PM W' v) (hM_PX : ∀ W W' v, PX W v → Old W W' → PX W' v) (hM_PQ : ∀ W W' v, PQ W v → Old W W' → PQ W' v) (hM_PD : ∀ W W' v, PD W v → Old W W' → PD W' v) (hM_PDa : ∀ W W' v, PDa W v → Old W W' → PDa W' v) (hM_PDb : ∀ W W' v, PDb W v → Old W W' → PDb W' v) (hT_PD : ∀ W x, PD W x → ∃ v1 v2, x = .tuple #[v1, v2] ∧ PDa W v1 ∧ PDb W v2)  (b_pb : w0.heap[pb]? = some (.cells #[.int .i64 N, .int .i64 T, .int .i64 E, .slice a0 l0 c0] 25 (0, 0))) 
    
    (KN : ∀ W, Old w0 W → Calls Tryz.prog 51 #[.int .i64 N] W fun e w' => ∃ v, e = .returned v ∧ Old W w' ∧ PN w' v)
    (KM : ∀ W, Old w0 W → Calls Tryz.prog 50 #[.slice a1 l1 c1, .slice a2 l2 c2] W fun e w' => ∃ v, e = .returned v ∧ Old W w' ∧ PM w' v)
    (KX : ∀ W, Old w0 W → ∀ (u2 : Value) (u5 : Value), PN W u2 → PM W u5 → Calls Tryz.prog 50 #[u2, u5] W fun e w' => ∃ v, e = .returned v ∧ Old W w' ∧ PX w' v)
    (KQ : ∀ W, Old w0 W → Calls Tryz.prog 49 #[.agg #[.int .i64 N, .int .i64 T, .int .i64 E, .slice a0 l0 c0]] W fun e w' => ∃ v, e = .returned v ∧ Old W w' ∧ PQ w' v)
    (KD : ∀ W, Old w0 W → ∀ (u6 : Value) (u8 : Value), PX W u6 → PQ W u8 → Calls Tryz.prog 53 #[u6, u8] W fun e w' => ∃ v, e = .returned v ∧ Old W w' ∧ PD w' v)
    (Q : Exit → Act → World → Prop) (b0 : Act) (hsz : b0.tmps.size = 63) (ha1 : b0.eval (.tmp 1) = .slice a1 l1 c1) (ha2 : b0.eval (.tmp 2) = .slice a2 l2 c2) (ha3 : b0.eval (.tmp 3) = .pointer (some ⟨pb, 0, none⟩))
    (HK : Hid (∀ (us : Nat → Value) (W : World) , Old w0 W → PDa W (us 13) → Q .normal (putAll b0 ((List.range 15).map fun i => (slotMj i, us i))) W)) :
    Code.wp Tryz.prog ((Tryz.f26.body.bind (regionAtmul 3)).getD .skip) Q b0 w0 := by
  conv => arg 2; whnf
  have px_pb : ∀ W, Old w0 W → W.heap[pb]? = some (.cells #[.int .i64 N, .int .i64 T, .int .i64 E, .slice a0 l0 c0] 25 (0, 0)) := fun W g => (g.block pb (lt_of_some b_pb)).trans b_pb
  have pc_pb_0 : ∀ W, Old w0 W → W.cell? ⟨pb, 0, none⟩ = some (.int .i64 N) := fun W g => cell_of_row W pb 0 _ _ (0, 0) (px_pb W g)
  refine wp_region_old (by kernel_rfl) (by kernel_rfl) (by kernel_rfl) slotMj (fun i hi => by rw [hsz]; exact slotMj_lt i hi) (fun i j hi hj => slotMj_inj i hi j hj) (qMj N T E a0 l0 c0 pb a1 l1 c1 a2 l2 c2 PN PM PX PQ PD PDa PDb ) (qMj_old N T E a0 l0 c0 pb a1 l1 c1 a2 l2 c2 PN PM PX PQ PD PDa PDb hM_PN hM_PM hM_PX hM_PQ hM_PD hM_PDa hM_PDb) ?_ ?_
  · refine ⟨?_, ?_, ?_, ?_, ?_, ?_, ?_, ?_, ?_, ?_, ?_, ?_, ?_, ?_, ?_, trivial⟩
    · intro a W g hF hd
      have e3 := (hF.same 3 slotMj_no3).trans ha3
      obtain ⟨ρ, hρ⟩ : ∃ ρ, a.eval = ρ := ⟨_, rfl⟩
      rw [hρ] at e3
      refine op_val ρ hρ (.pointer (some ⟨pb, 0, none⟩)) ?_ ⟨_, rfl, Old.refl _, rfl⟩
      clear g hF hd hρ HK KN KM KX KQ KD ha1 ha2 ha3 px_pb b_pb pc_pb_0 
      go_simp
      all_goals (first | (rw [IntKind.wrap_i64]; omega) | (rw [IntKind.wrap_u64]; omega) | omega)
    · intro a W g hF hd
      have h0 : a.eval (.tmp 29) = .pointer (some ⟨pb, 0, none⟩) := hd ⟨0, .data⟩ (by simp) rfl
      have kk0 := pc_pb_0 W g
      obtain ⟨ρ, hρ⟩ : ∃ ρ, a.eval = ρ := ⟨_, rfl⟩
      rw [hρ] at h0
      refine op_val ρ hρ (.int .i64 N) ?_ ⟨_, rfl, Old.refl _, rfl⟩
      clear g hF hd hρ HK KN KM KX KQ KD ha1 ha2 ha3 px_pb b_pb pc_pb_0 
      go_simp
      all_goals (first | (rw [IntKind.wrap_i64]; omega) | (rw [IntKind.wrap_u64]; omega) | omega)
    · intro a W g hF hd
      have h1 : a.eval (.tmp 30) = .int .i64 N := hd ⟨1, .data⟩ (by simp) rfl
      refine op_call_ret (R := fun v w' => Old W w' ∧ PN w' v) Tryz.call51 (vs := #[.int .i64 N]) (by simp [h1]) (KN W g) ?_
      rintro x w' ⟨g', hp⟩
      exact ⟨_, rfl, g', hp⟩
    · intro a W g hF hd
      have e1 := (hF.same 1 slotMj_no1).trans ha1
      refine op_move ?_
      exact ⟨_, rfl, Old.refl _, e1⟩
    · intro a W g hF hd
      have e2 := (hF.same 2 slotMj_no2).trans ha2
      refine op_move ?_
      exact ⟨_, rfl, Old.refl _, e2⟩
    · intro a W g hF hd
      have h3 : a.eval (.tmp 32) = .slice a1 l1 c1 := hd ⟨3, .data⟩ (by simp) rfl
      have h4 : a.eval (.tmp 33) = .slice a2 l2 c2 := hd ⟨4, .data⟩ (by simp) rfl
      refine op_call_ret (R := fun v w' => Old W w' ∧ PM w' v) Tryz.call50 (vs := #[.slice a1 l1 c1, .slice a2 l2 c2]) (by simp [h3, h4]) (KM W g) ?_
      rintro x w' ⟨g', hp⟩
      exact ⟨_, rfl, g', hp⟩
    · intro a W g hF hd
      have p2 : PN W (a.eval (.tmp 31)) := hd ⟨2, .data⟩ (by simp) rfl
      have p5 : PM W (a.eval (.tmp 34)) := hd ⟨5, .data⟩ (by simp) rfl
      refine op_call_ret (R := fun v w' => Old W w' ∧ PX w' v) Tryz.call50 (vs := #[a.eval (.tmp 31), a.eval (.tmp 34)]) (by simp) (KX W g _ _ p2 p5) ?_
      rintro x w' ⟨g', hp⟩
      exact ⟨_, rfl, g', hp⟩
    · intro a W g hF hd
      have e3 := (hF.same 3 slotMj_no3).trans ha3
      refine op_load (k := pb) e3 (px_pb W g) Tryz.underlying25 rfl (by kernel_rfl) ?_
      exact ⟨_, rfl, Old.refl _, rfl⟩
    · intro a W g hF hd
      have h7 : a.eval (.tmp 36) = .agg #[.int .i64 N, .int .i64 T, .int .i64 E, .slice a0 l0 c0] := hd ⟨7, .data⟩ (by simp) rfl
      refine op_call_ret (R := fun v w' => Old W w' ∧ PQ w' v) Tryz.call49 (vs := #[.agg #[.int .i64 N, .int .i64 T, .int .i64 E, .slice a0 l0 c0]]) (by simp [h7]) (KQ W g) ?_
      rintro x w' ⟨g', hp⟩
      exact ⟨_, rfl, g', hp⟩
    · intro a W g hF hd
      have p6 : PX W (a.eval (.tmp 35)) := hd ⟨6, .data⟩ (by simp) rfl
      have p8 : PQ W (a.eval (.tmp 37)) := hd ⟨8, .data⟩ (by simp) rfl
      refine op_call_ret (R := fun v w' => Old W w' ∧ PD w' v) Tryz.call53 (vs := #[a.eval (.tmp 35), a.eval (.tmp 37)]) (by simp) (KD W g _ _ p6 p8) ?_
      rintro x w' ⟨g', hp⟩
      exact ⟨_, rfl, g', hp⟩
    · intro a W g hF hd
      refine op_move ?_
      exact ⟨_, rfl, Old.refl _, hd ⟨9, .data⟩ (by simp) rfl⟩
    · intro a W g hF hd
      obtain ⟨v1, v2, ht, p1, p2⟩ := hT_PD W _ (hd ⟨10, .data⟩ (by simp) rfl)
      exact op_extract ht rfl ⟨_, rfl, Old.refl _, p1⟩
    · intro a W g hF hd
      obtain ⟨v1, v2, ht, p1, p2⟩ := hT_PD W _ (hd ⟨10, .data⟩ (by simp) rfl)
      exact op_extract ht rfl ⟨_, rfl, Old.refl _, p2⟩
    · intro a W g hF hd
      refine op_assign ?_
      exact ⟨_, rfl, Old.refl _, hd ⟨11, .data⟩ (by simp) rfl⟩
    · intro a W g hF hd
      refine op_assign ?_
      exact ⟨_, rfl, Old.refl _, hd ⟨12, .data⟩ (by simp) rfl⟩
  · intro a W g hF hq
    have hput := fram_put (show Fram 15 slotMj b0 a from hF) (fun i j hi hj => slotMj_inj i hi j hj)
    have hk := HK.out (fun i => a.eval (.tmp (slotMj i))) W g  (hq 13 (by decide))
    rw [← hput] at hk
    exact hk
end Go.Proofs.YtihjndakgncdaaaGreatDoor
/- Proved: drawn regions of the model's BudgetOf and DepthOf, and of the program's BudgetOf. -/
namespace Go.Proofs.YtihjndakgncdaaaGreatDoor
open Go.ChangeShapes Go.WideShapes Go.ChangeAt Go.RowKit
set_option linter.unusedVariables false
set_option linter.unusedSimpArgs false
def slotMl (i : Nat) : Nat := [22, 23, 24, 25, 26, 27].getD i 0
theorem slotMl_lt : ∀ i, i < 6 → slotMl i < 33 := by decide
theorem slotMl_inj : ∀ i, i < 6 → ∀ j, j < 6 → slotMl i = slotMl j → i = j := by decide
theorem slotMl_no1 : ∀ i, i < 6 → slotMl i ≠ 1 := by decide
theorem slotMl_no5 : ∀ i, i < 6 → slotMl i ≠ 5 := by decide
def qMl (N T E : Int) (a0 : Option Addr) (l0 c0 pb : Nat) (sv : Value) (PM : World → Value → Prop) (PS : World → Value → Prop) (i : Nat) (W : World) (x : Value) : Prop :=
  match i with
  | 0 => x = .agg #[.int .i64 N, .int .i64 T, .int .i64 E, .slice a0 l0 c0]
  | 1 => x = .agg #[.int .i64 N, .int .i64 T, .int .i64 E, .slice a0 l0 c0]
  | 2 => x = sv
  | 3 => x = sv
  | 4 => PM W x
  | 5 => PS W x
  | _ => True
theorem qMl_old (N T E : Int) (a0 : Option Addr) (l0 c0 pb : Nat) (sv : Value) (PM : World → Value → Prop) (PS : World → Value → Prop) (hM_PM : ∀ W W' v, PM W v → Old W W' → PM W' v) (hM_PS : ∀ W W' v, PS W v → Old W W' → PS W' v) (i : Nat) (W W' : World) (x : Value) (h : qMl N T E a0 l0 c0 pb sv PM PS i W x) (qo : Old W W') : qMl N T E a0 l0 c0 pb sv PM PS i W' x := by
  unfold qMl at h ⊢
  split at h
  case h_5 => exact hM_PM _ _ _ h qo
  case h_6 => exact hM_PS _ _ _ h qo
  all_goals first | exact h | trivial
set_option maxRecDepth 100000 in
set_option maxHeartbeats 8000000 in
theorem reg_Ml (w0 : World) (N T E : Int) (a0 : Option Addr) (l0 c0 pb : Nat) (sv : Value) (PM : World → Value → Prop) (PS : World → Value → Prop) (hM_PM : ∀ W W' v, PM W v → Old W W' → PM W' v) (hM_PS : ∀ W W' v, PS W v → Old W W' → PS W' v)   (b_pb : w0.heap[pb]? = some (.cells #[.int .i64 N, .int .i64 T, .int .i64 E, .slice a0 l0 c0] 25 (0, 0))) 
    
    (KM : ∀ W, Old w0 W → Calls Tryz.prog 26 #[.agg #[.int .i64 N, .int .i64 T, .int .i64 E, .slice a0 l0 c0], sv, sv] W fun e w' => ∃ v, e = .returned v ∧ Old W w' ∧ PM w' v)
    (KS : ∀ W, Old w0 W → ∀ (u4 : Value), PM W u4 → Calls Tryz.prog 25 #[.agg #[.int .i64 N, .int .i64 T, .int .i64 E, .slice a0 l0 c0], u4] W fun e w' => ∃ v, e = .returned v ∧ Old W w' ∧ PS w' v)
    (Q : Exit → Act → World → Prop) (b0 : Act) (hsz : b0.tmps.size = 33) (ha1 : b0.eval (.tmp 1) = .pointer (some ⟨pb, 0, none⟩)) (ha5 : b0.eval (.tmp 5) = sv)
    (HK : Hid (∀ (us : Nat → Value) (W : World) , Old w0 W → PS W (us 5) → Q .normal ((putAll b0 ((List.range 6).map fun i => (slotMl i, us i))).put (some 5) (us 5)) W)) :
    Code.wp Tryz.prog ((Tryz.f6.body.bind (regionAtmul 10)).getD .skip) Q b0 w0 := by
  conv => arg 2; whnf
  have px_pb : ∀ W, Old w0 W → W.heap[pb]? = some (.cells #[.int .i64 N, .int .i64 T, .int .i64 E, .slice a0 l0 c0] 25 (0, 0)) := fun W g => (g.block pb (lt_of_some b_pb)).trans b_pb
  refine wp_region_tailG 6 (by decide) (by kernel_rfl) (by kernel_rfl) (by kernel_rfl) (by kernel_rfl) (by kernel_rfl) slotMl (fun i hi => by rw [hsz]; exact slotMl_lt i hi) (fun i j hi hj => slotMl_inj i hi j hj) (qMl N T E a0 l0 c0 pb sv PM PS ) (qMl_old N T E a0 l0 c0 pb sv PM PS hM_PM hM_PS) [] (fun i W v hi hq => by cases hi) ?_ ?_
  · refine ⟨?_, ?_, ?_, ?_, ?_, ?_, trivial⟩
    · intro a W g hF hd
      refine ⟨fun _ => ?_, fun h => by rw [wanted_none rfl] at h; cases h⟩
      have e1 := (hF.same 1 slotMl_no1).trans ha1
      refine op_load (k := pb) e1 (px_pb W g) Tryz.underlying25 rfl (by kernel_rfl) ?_
      exact ⟨_, rfl, Old.refl _, rfl, (fun h => absurd h (by decide))⟩
    · intro a W g hF hd
      refine ⟨fun _ => ?_, fun h => by rw [wanted_none rfl] at h; cases h⟩
      have e1 := (hF.same 1 slotMl_no1).trans ha1
      refine op_load (k := pb) e1 (px_pb W g) Tryz.underlying25 rfl (by kernel_rfl) ?_
      exact ⟨_, rfl, Old.refl _, rfl, (fun h => absurd h (by decide))⟩
    · intro a W g hF hd
      refine ⟨fun _ => ?_, fun h => by rw [wanted_none rfl] at h; cases h⟩
      have e5 := (hF.same 5 slotMl_no5).trans ha5
      refine op_move ?_
      exact ⟨_, rfl, Old.refl _, e5, (fun h => absurd h (by decide))⟩
    · intro a W g hF hd
      refine ⟨fun _ => ?_, fun h => by rw [wanted_none rfl] at h; cases h⟩
      have e5 := (hF.same 5 slotMl_no5).trans ha5
      refine op_move ?_
      exact ⟨_, rfl, Old.refl _, e5, (fun h => absurd h (by decide))⟩
    · intro a W g hF hd
      refine ⟨fun _ => ?_, fun h => by rw [wanted_none rfl] at h; cases h⟩
      have h1 : a.eval (.tmp 23) = .agg #[.int .i64 N, .int .i64 T, .int .i64 E, .slice a0 l0 c0] := hd ⟨1, .data⟩ (by simp) rfl
      have h2 : a.eval (.tmp 24) = sv := hd ⟨2, .data⟩ (by simp) rfl
      have h3 : a.eval (.tmp 25) = sv := hd ⟨3, .data⟩ (by simp) rfl
      refine op_call_ret (R := fun v w' => Old W w' ∧ PM w' v) Tryz.call26 (vs := #[.agg #[.int .i64 N, .int .i64 T, .int .i64 E, .slice a0 l0 c0], sv, sv]) (by simp [h1, h2, h3]) (KM W g) ?_
      rintro x w' ⟨g', hp⟩
      exact ⟨_, rfl, g', hp, (fun h => absurd h (by decide))⟩
    · intro a W g hF hd
      refine ⟨fun _ => ?_, fun h => by rw [wanted_none rfl] at h; cases h⟩
      have h0 : a.eval (.tmp 22) = .agg #[.int .i64 N, .int .i64 T, .int .i64 E, .slice a0 l0 c0] := hd ⟨0, .data⟩ (by simp) rfl
      have p4 : PM W (a.eval (.tmp 26)) := hd ⟨4, .data⟩ (by simp) rfl
      refine op_call_ret (R := fun v w' => Old W w' ∧ PS w' v) Tryz.call25 (vs := #[.agg #[.int .i64 N, .int .i64 T, .int .i64 E, .slice a0 l0 c0], a.eval (.tmp 26)]) (by simp [h0]) (KS W g _ p4) ?_
      rintro x w' ⟨g', hp⟩
      exact ⟨_, rfl, g', hp, (fun h => absurd h (by decide))⟩
  · intro a W g hF hq hne
    have hput := fram_put (show Fram 6 slotMl b0 a from hF) (fun i j hi hj => slotMl_inj i hi j hj)
    have hk := HK.out (fun i => a.eval (.tmp (slotMl i))) W g  (hq 5 (by decide))
    rw [← hput] at hk
    refine op_assign ?_
    show tailWp _ _ _ _ _
    exact hk
def slotBo (i : Nat) : Nat := [27, 28, 29, 30, 31, 32, 33, 34, 4, 5].getD i 0
theorem slotBo_lt : ∀ i, i < 10 → slotBo i < 35 := by decide
theorem slotBo_inj : ∀ i, i < 10 → ∀ j, j < 10 → slotBo i = slotBo j → i = j := by decide
theorem slotBo_no3 : ∀ i, i < 10 → slotBo i ≠ 3 := by decide
theorem slotBo_no6 : ∀ i, i < 10 → slotBo i ≠ 6 := by decide
def qBo (N T E : Int) (a3 : Option Addr) (l3 c3 : Nat) (a4 : Option Addr) (l4 c4 : Nat) (a6 : Option Addr) (l6 c6 bx : Nat) (wb : Nat) (nb : Bool) (a1 : Option Addr) (l1 c1 : Nat) (SL : Array Value) (xa ya : Int) (PW : World → Value → Prop) (i : Nat) (W : World) (x : Value) : Prop :=
  match i with
  | 0 => x = .agg #[.int .i64 N, .int .i64 T, .int .i64 E, .slice a3 l3 c3, .slice a4 l4 c4, .bool false, .slice a6 l6 c6]
  | 1 => x = .agg SL
  | 2 => PW W x
  | 3 => x = .int .i64 xa
  | 4 => x = .agg #[.bool nb, .slice a1 l1 c1]
  | 5 => x = .int .i64 ya
  | 6 => x = .int .i64 (xa - ya)
  | 7 => x = .int .i64 (if 0 < xa - ya then xa - ya else 0)
  | 8 => x = .int .i64 (if 0 < xa - ya then xa - ya else 0)
  | 9 => x = .bool true
  | _ => True
theorem qBo_old (N T E : Int) (a3 : Option Addr) (l3 c3 : Nat) (a4 : Option Addr) (l4 c4 : Nat) (a6 : Option Addr) (l6 c6 bx : Nat) (wb : Nat) (nb : Bool) (a1 : Option Addr) (l1 c1 : Nat) (SL : Array Value) (xa ya : Int) (PW : World → Value → Prop) (hM_PW : ∀ W W' v, PW W v → Old W W' → PW W' v) (i : Nat) (W W' : World) (x : Value) (h : qBo N T E a3 l3 c3 a4 l4 c4 a6 l6 c6 bx wb nb a1 l1 c1 SL xa ya PW i W x) (qo : Old W W') : qBo N T E a3 l3 c3 a4 l4 c4 a6 l6 c6 bx wb nb a1 l1 c1 SL xa ya PW i W' x := by
  unfold qBo at h ⊢
  split at h
  case h_3 => exact hM_PW _ _ _ h qo
  all_goals first | exact h | trivial
set_option maxRecDepth 100000 in
set_option maxHeartbeats 8000000 in
theorem reg_Bo (w0 : World) (N T E : Int) (a3 : Option Addr) (l3 c3 : Nat) (a4 : Option Addr) (l4 c4 : Nat) (a6 : Option Addr) (l6 c6 bx : Nat) (wb : Nat) (nb : Bool) (a1 : Option Addr) (l1 c1 : Nat) (SL : Array Value) (xa ya : Int) (PW : World → Value → Prop) (hM_PW : ∀ W W' v, PW W v → Old W W' → PW W' v)   (b_bx : w0.heap[bx]? = some (.cells #[.int .i64 N, .int .i64 T, .int .i64 E, .slice a3 l3 c3, .slice a4 l4 c4, .bool false, .slice a6 l6 c6] 48 (0, 0))) (b_wb : w0.heap[wb]? = some (.cells #[.bool nb, .slice a1 l1 c1] 30 (0, 0))) 
    (hx : 0 ≤ xa ∧ xa ≤ 1048576) (hy : 0 ≤ ya ∧ ya ≤ 1048576)
    (KL : ∀ W, Old w0 W → Calls Tryz.prog 18 #[.agg #[.int .i64 N, .int .i64 T, .int .i64 E, .slice a3 l3 c3, .slice a4 l4 c4, .bool false, .slice a6 l6 c6]] W fun e w' => e = .returned (.agg SL) ∧ Old W w')
    (KW : ∀ W, Old w0 W → Calls Tryz.prog 27 #[.bool false, .agg SL] W fun e w' => ∃ v, e = .returned v ∧ Old W w' ∧ PW w' v)
    (KX : ∀ W, Old w0 W → ∀ (u2 : Value), PW W u2 → Calls Tryz.prog 30 #[u2] W fun e w' => e = .returned (.int .i64 xa) ∧ Old W w')
    (KY : ∀ W, Old w0 W → Calls Tryz.prog 30 #[.agg #[.bool nb, .slice a1 l1 c1]] W fun e w' => e = .returned (.int .i64 ya) ∧ Old W w')
    (Q : Exit → Act → World → Prop) (b0 : Act) (hsz : b0.tmps.size = 35) (ha3 : b0.eval (.tmp 3) = .pointer (some ⟨wb, 0, none⟩)) (ha6 : b0.eval (.tmp 6) = .pointer (some ⟨bx, 0, none⟩))
    (HK : Hid (∀ (us : Nat → Value) (W : World) , Old w0 W → us 8 = .int .i64 (if 0 < xa - ya then xa - ya else 0) → us 9 = .bool true → Q .normal (putAll b0 ((List.range 10).map fun i => (slotBo i, us i))) W)) :
    Code.wp Tryz.prog ((Tryz.f9.body.bind (regionAtmul 5)).getD .skip) Q b0 w0 := by
  conv => arg 2; whnf
  have px_bx : ∀ W, Old w0 W → W.heap[bx]? = some (.cells #[.int .i64 N, .int .i64 T, .int .i64 E, .slice a3 l3 c3, .slice a4 l4 c4, .bool false, .slice a6 l6 c6] 48 (0, 0)) := fun W g => (g.block bx (lt_of_some b_bx)).trans b_bx
  have px_wb : ∀ W, Old w0 W → W.heap[wb]? = some (.cells #[.bool nb, .slice a1 l1 c1] 30 (0, 0)) := fun W g => (g.block wb (lt_of_some b_wb)).trans b_wb
  refine wp_region_old (by kernel_rfl) (by kernel_rfl) (by kernel_rfl) slotBo (fun i hi => by rw [hsz]; exact slotBo_lt i hi) (fun i j hi hj => slotBo_inj i hi j hj) (qBo N T E a3 l3 c3 a4 l4 c4 a6 l6 c6 bx wb nb a1 l1 c1 SL xa ya PW ) (qBo_old N T E a3 l3 c3 a4 l4 c4 a6 l6 c6 bx wb nb a1 l1 c1 SL xa ya PW hM_PW) ?_ ?_
  · refine ⟨?_, ?_, ?_, ?_, ?_, ?_, ?_, ?_, ?_, ?_, trivial⟩
    · intro a W g hF hd
      have e6 := (hF.same 6 slotBo_no6).trans ha6
      refine op_load (k := bx) e6 (px_bx W g) Tryz.underlying48 rfl (by kernel_rfl) ?_
      exact ⟨_, rfl, Old.refl _, rfl⟩
    · intro a W g hF hd
      have h0 : a.eval (.tmp 27) = .agg #[.int .i64 N, .int .i64 T, .int .i64 E, .slice a3 l3 c3, .slice a4 l4 c4, .bool false, .slice a6 l6 c6] := hd ⟨0, .data⟩ (by simp) rfl
      refine op_call_ret (R := fun v w' => v = .agg SL ∧ Old W w') Tryz.call18 (vs := #[.agg #[.int .i64 N, .int .i64 T, .int .i64 E, .slice a3 l3 c3, .slice a4 l4 c4, .bool false, .slice a6 l6 c6]]) (by simp [h0]) ((KL W g).mono fun e w' h => ⟨_, h.1, rfl, h.2⟩) ?_
      rintro x w' ⟨rfl, g'⟩
      exact ⟨_, rfl, g', rfl⟩
    · intro a W g hF hd
      have c0 : a.eval (.const (.bool false)) = .bool false := rfl
      have h1 : a.eval (.tmp 28) = .agg SL := hd ⟨1, .data⟩ (by simp) rfl
      refine op_call_ret (R := fun v w' => Old W w' ∧ PW w' v) Tryz.call27 (vs := #[.bool false, .agg SL]) (by simp [c0, h1]) (KW W g) ?_
      rintro x w' ⟨g', hp⟩
      exact ⟨_, rfl, g', hp⟩
    · intro a W g hF hd
      have p2 : PW W (a.eval (.tmp 29)) := hd ⟨2, .data⟩ (by simp) rfl
      refine op_call_ret (R := fun v w' => v = .int .i64 xa ∧ Old W w') Tryz.call30 (vs := #[a.eval (.tmp 29)]) (by simp) ((KX W g _ p2).mono fun e w' h => ⟨_, h.1, rfl, h.2⟩) ?_
      rintro x w' ⟨rfl, g'⟩
      exact ⟨_, rfl, g', rfl⟩
    · intro a W g hF hd
      have e3 := (hF.same 3 slotBo_no3).trans ha3
      refine op_load (k := wb) e3 (px_wb W g) Tryz.underlying30 rfl (by kernel_rfl) ?_
      exact ⟨_, rfl, Old.refl _, rfl⟩
    · intro a W g hF hd
      have h4 : a.eval (.tmp 31) = .agg #[.bool nb, .slice a1 l1 c1] := hd ⟨4, .data⟩ (by simp) rfl
      refine op_call_ret (R := fun v w' => v = .int .i64 ya ∧ Old W w') Tryz.call30 (vs := #[.agg #[.bool nb, .slice a1 l1 c1]]) (by simp [h4]) ((KY W g).mono fun e w' h => ⟨_, h.1, rfl, h.2⟩) ?_
      rintro x w' ⟨rfl, g'⟩
      exact ⟨_, rfl, g', rfl⟩
    · intro a W g hF hd
      have h3 : a.eval (.tmp 30) = .int .i64 xa := hd ⟨3, .data⟩ (by simp) rfl
      have h5 : a.eval (.tmp 32) = .int .i64 ya := hd ⟨5, .data⟩ (by simp) rfl
      obtain ⟨ρ, hρ⟩ : ∃ ρ, a.eval = ρ := ⟨_, rfl⟩
      rw [hρ] at h3 h5
      refine op_val ρ hρ (.int .i64 (xa - ya)) ?_ ⟨_, rfl, Old.refl _, rfl⟩
      clear g hF hd hρ HK KL KW KX KY ha3 ha6 px_bx b_bx px_wb b_wb  
      go_simp
      all_goals (first | (rw [IntKind.wrap_i64]; omega) | (rw [IntKind.wrap_u64]; omega) | omega)
    · intro a W g hF hd
      have c0 : a.eval (.const (.int .i64 0)) = .int .i64 0 := rfl
      have h6 : a.eval (.tmp 33) = .int .i64 (xa - ya) := hd ⟨6, .data⟩ (by simp) rfl
      obtain ⟨ρ, hρ⟩ : ∃ ρ, a.eval = ρ := ⟨_, rfl⟩
      rw [hρ] at c0 h6
      refine op_val ρ hρ (.int .i64 (if 0 < xa - ya then xa - ya else 0)) ?_ ⟨_, rfl, Old.refl _, rfl⟩
      clear g hF hd hρ HK KL KW KX KY ha3 ha6 px_bx b_bx px_wb b_wb  
      go_simp
      all_goals (first | (rw [IntKind.wrap_i64]; omega) | (rw [IntKind.wrap_u64]; omega) | omega)
    · intro a W g hF hd
      refine op_assign ?_
      exact ⟨_, rfl, Old.refl _, hd ⟨7, .data⟩ (by simp) rfl⟩
    · intro a W g hF hd
      have c0 : a.eval (.const (.bool true)) = .bool true := rfl
      refine op_assign ?_
      exact ⟨_, rfl, Old.refl _, c0⟩
  · intro a W g hF hq
    have hput := fram_put (show Fram 10 slotBo b0 a from hF) (fun i j hi hj => slotBo_inj i hi j hj)
    have hk := HK.out (fun i => a.eval (.tmp (slotBo i))) W g  (hq 8 (by decide)) (hq 9 (by decide))
    rw [← hput] at hk
    exact hk
end Go.Proofs.YtihjndakgncdaaaGreatDoor
