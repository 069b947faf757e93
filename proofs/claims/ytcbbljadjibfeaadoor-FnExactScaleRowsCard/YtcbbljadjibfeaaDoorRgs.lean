/- Proved: the rings of a space, as the program makes them. -/
import Derived.Test.YtcbbljadjibfeaaDoorSpc
import Derived.OwnWalk
namespace Go.Proofs.YtcbbljadjibfeaaDoor
open Go.ChangeShapes Go.WideShapes Go.ChangeAt Go.RowKit
open M1
set_option linter.unusedVariables false
set_option linter.unusedSimpArgs false
theorem Tryd.infoRing : (Tryd.prog.info? 108).map (fun i => (i.zero, i.size, i.bytes)) = some (some (.agg #[.int .i64 0, .int .i64 0, .int .i64 0]), 3, 24) := by kernel_rfl
/-- the first k rings lie in block g -/
def Rgs (W : World) (g : Nat) (N : Int) (xs : List Int) (Rf : Nat → Int) (k : Nat) : Prop :=
  ∃ ys : List Int, ys.length = 3 * xs.length ∧ W.ownsRow g 108 3 (.slice (some ⟨g, 0, none⟩) xs.length xs.length) xs.length (ys.map (Value.int .i64)) ∧ ∀ i, i < k → ys.getD (i * 3) 0 = xs.getD i 0 ∧ ys.getD (i * 3 + 1) 0 = N ∧ ys.getD (i * 3 + 2) 0 = Rf i
theorem Rgs.lt {W : World} {g : Nat} {N : Int} {xs : List Int} {Rf : Nat → Int} {k : Nat} (h : Rgs W g N xs Rf k) : g < W.heap.size := by
  obtain ⟨ys, _, ho, _⟩ := h
  exact (ho.lt g rfl).2
theorem Rgs.old {W W' : World} {g : Nat} {N : Int} {xs : List Int} {Rf : Nat → Int} {k : Nat} (h : Rgs W g N xs Rf k) (q : Old W W') : Rgs W' g N xs Rf k := by
  obtain ⟨ys, hl, ho, hy⟩ := h
  refine ⟨ys, hl, ⟨ho.1, ?_⟩, hy⟩
  rcases ho.2 with hn | ⟨p, cap, cur, e, hb, hgg, rest⟩
  · exact .inl hn
  · refine .inr ⟨p, cap, cur, e, hb, ?_, rest⟩
    rw [q.block p (Array.getElem?_eq_some_iff.1 hgg).1]
    exact hgg
theorem Rgs.cell {W : World} {g : Nat} {N : Int} {xs : List Int} {Rf : Nat → Int} {k : Nat} (h : Rgs W g N xs Rf k) (j : Nat) (hj : j < 3 * xs.length) : ∃ y : Int, W.cell? ⟨g, j, none⟩ = some (.int .i64 y) := by
  obtain ⟨ys, hl, ho, hy⟩ := h
  refine ⟨ys.getD j 0, ?_⟩
  rw [World.ownsRow.cellAt ho j (by omega)]
  simp [List.getD, hl, hj]
theorem Rgs.free {W : World} {g : Nat} {N : Int} {xs : List Int} {Rf : Nat → Int} {k : Nat} (h : Rgs W g N xs Rf k) (j : Nat) : W.frozen? ⟨g, j, none⟩ = false := by
  obtain ⟨ys, hl, ho, hy⟩ := h
  exact World.ownsRow.frozenAt ho j
theorem Rgs.at {W : World} {g : Nat} {N : Int} {xs : List Int} {Rf : Nat → Int} {k : Nat} (h : Rgs W g N xs Rf k) (i : Nat) (hi : i < k) (hx : i < xs.length) : W.cell? ⟨g, i * 3, none⟩ = some (.int .i64 (xs.getD i 0)) ∧ W.cell? ⟨g, i * 3 + 1, none⟩ = some (.int .i64 N) ∧ W.cell? ⟨g, i * 3 + 2, none⟩ = some (.int .i64 (Rf i)) := by
  obtain ⟨ys, hl, ho, hy⟩ := h
  obtain ⟨h0, h1, h2⟩ := hy i hi
  refine ⟨?_, ?_, ?_⟩
  · rw [World.ownsRow.cellAt ho (i * 3) (by omega), ← h0]
    simp [List.getD, hl, show i * 3 < 3 * xs.length by omega]
  · rw [World.ownsRow.cellAt ho (i * 3 + 1) (by omega), ← h1]
    simp [List.getD, hl, show i * 3 + 1 < 3 * xs.length by omega]
  · rw [World.ownsRow.cellAt ho (i * 3 + 2) (by omega), ← h2]
    simp [List.getD, hl, show i * 3 + 2 < 3 * xs.length by omega]
theorem getD_set_same (ys : List Int) (j : Nat) (y : Int) (h : j < ys.length) : (ys.set j y).getD j 0 = y := by simp [List.getD, h]
theorem getD_set_other (ys : List Int) (j i : Nat) (y : Int) (h : i ≠ j) : (ys.set j y).getD i 0 = ys.getD i 0 := by simp [List.getD, List.getElem?_set, Ne.symm h]
theorem Rgs.put {W : World} {g : Nat} {N : Int} {xs : List Int} {Rf : Nat → Int} {k : Nat} (h : Rgs W g N xs Rf k) (hk : k < xs.length) :
    Rgs (((W.setCell ⟨g, k * 3, none⟩ (.int .i64 (xs.getD k 0))).setCell ⟨g, k * 3 + 1, none⟩ (.int .i64 N)).setCell ⟨g, k * 3 + 2, none⟩ (.int .i64 (Rf k))) g N xs Rf (k + 1) := by
  obtain ⟨ys, hl, ho, hy⟩ := h
  have h1 := (World.ownsRow.stored ho (k * 3) (.int .i64 (xs.getD k 0))).1
  have h2 := (World.ownsRow.stored h1 (k * 3 + 1) (.int .i64 N)).1
  have h3 := (World.ownsRow.stored h2 (k * 3 + 2) (.int .i64 (Rf k))).1
  rw [← List.map_set, ← List.map_set, ← List.map_set] at h3
  refine ⟨_, by simp [hl], h3, fun i hi => ?_⟩
  rcases Nat.lt_or_ge i k with hlt | hge
  · obtain ⟨q0, q1, q2⟩ := hy i hlt
    refine ⟨?_, ?_, ?_⟩
    · rw [getD_set_other _ _ _ _ (by omega), getD_set_other _ _ _ _ (by omega), getD_set_other _ _ _ _ (by omega)]; exact q0
    · rw [getD_set_other _ _ _ _ (by omega), getD_set_other _ _ _ _ (by omega), getD_set_other _ _ _ _ (by omega)]; exact q1
    · rw [getD_set_other _ _ _ _ (by omega), getD_set_other _ _ _ _ (by omega), getD_set_other _ _ _ _ (by omega)]; exact q2
  · obtain rfl : i = k := by omega
    refine ⟨?_, ?_, ?_⟩
    · rw [getD_set_other _ _ _ _ (by omega), getD_set_other _ _ _ _ (by omega), getD_set_same _ _ _ (by omega)]
    · rw [getD_set_other _ _ _ _ (by omega), getD_set_same _ _ _ (by simp; omega)]
    · rw [getD_set_same _ _ _ (by simp; omega)]
theorem made_rings (n : Nat) : ∃ ys : List Int, ys.length = 3 * n ∧ (madeCells (Value.agg #[.int .i64 0, .int .i64 0, .int .i64 0]).cells (n * 3)).toList = ys.map (Value.int .i64) := by
  refine ⟨List.replicate (3 * n) 0, by simp, ?_⟩
  have hz : ∀ i : Nat, (#[Value.int .i64 0, Value.int .i64 0, Value.int .i64 0] : Array Value)[i % 3]! = Value.int .i64 0 := fun i => by
    have h3 : i % 3 = 0 ∨ i % 3 = 1 ∨ i % 3 = 2 := by omega
    rcases h3 with h | h | h <;> rw [h] <;> rfl
  rw [List.map_replicate]
  refine List.eq_replicate_iff.2 ⟨by simp [size_madeCells]; omega, fun b hb => ?_⟩
  unfold madeCells at hb
  simp only [Array.toList_map, List.mem_map] at hb
  obtain ⟨x, _, rfl⟩ := hb
  exact hz x
theorem Rings_roots (N : Int) (xs : List Int) : ∃ Rf : Nat → Int, ∀ k, RingOk (xs.getD k 0) N → (0 ≤ Rf k ∧ Rf k < xs.getD k 0) ∧ (∀ W, PrsW W → TabW W → Calls Tryd.prog 112 #[.int .i64 (xs.getD k 0), .int .i64 N] W fun e w' => e = .returned (.tuple #[.agg #[.int .i64 (xs.getD k 0), .int .i64 N, .int .i64 (Rf k)], .bool true]) ∧ Old W w') := by
  have h : ∀ k, ∃ R : Int, RingOk (xs.getD k 0) N → (0 ≤ R ∧ R < xs.getD k 0) ∧ (∀ W, PrsW W → TabW W → Calls Tryd.prog 112 #[.int .i64 (xs.getD k 0), .int .i64 N] W fun e w' => e = .returned (.tuple #[.agg #[.int .i64 (xs.getD k 0), .int .i64 N, .int .i64 R], .bool true]) ∧ Old W w') := fun k => by
    by_cases hk : RingOk (xs.getD k 0) N
    · obtain ⟨R, h1, h2⟩ := Ring_impl _ _ hk
      exact ⟨R, fun _ => ⟨h1, h2⟩⟩
    · exact ⟨0, fun h => absurd h hk⟩
  exact Classical.skolem.1 h
end Go.Proofs.YtcbbljadjibfeaaDoor
