/- Proved: contracts of slices.Grow of no slice and of slices.Concat of two slices of ints. -/
import Derived.Test.YtplaaglckbfklaaDoorProdS
import Derived.Lib.AppendZeros
namespace Go.Proofs.YtplaaglckbfklaaDoor
open Go.ChangeShapes Go.WideShapes Go.ChangeAt Go.RowKit
set_option linter.unusedVariables false
set_option linter.unusedSimpArgs false
theorem zeros_size (n : Nat) : (Builtin.zeroCells (Value.int .i64 0).cells n).size = n := by simp [Builtin.zeroCells, Value.cells]
theorem room_own (w : World) (n c : Nat) (h1 : n ≤ c) (h2 : c ≤ maxLen) : Own (w.drew.alloc (.cells (Builtin.zeroCells (Value.int .i64 0).cells n ++ Builtin.zeroCells (Value.int .i64 0).cells (c - n)) 3)) w.heap.size (.slice (some ⟨w.heap.size, 0, none⟩) 0 c) [] := by
  refine ⟨rfl, Or.inr ⟨w.heap.size, c, _, rfl, Nat.le_refl _, heap_alloc_new w.drew _, Nat.zero_le _, h2, ?_, by simp⟩⟩
  rw [Array.size_append, zeros_size, zeros_size]
  omega
set_option maxHeartbeats 1000000 in
theorem grow_any (n : Nat) (w : World) (hn : n ≤ 100) :
    Calls Tryd.prog 201 #[.slice none 0 0, .int .i64 n] w fun e w' => ∃ v', e = .returned v' ∧ Old w w' ∧ Own w' w.heap.size v' [] := by
  obtain ⟨i0, hi, hz0, hz1, hz2⟩ := info_parts Tryd.infoInt
  have d0 : decide ((n : Int) < 0) = false := decide_eq_false (by omega)
  rcases Nat.eq_zero_or_pos n with h0 | h0
  · subst h0
    go_enter Tryd.func201, Tryd.ntmps201
    go_wp2_with fail
    go_ret
    exact ⟨_, rfl, Old.refl _, ⟨rfl, Or.inl ⟨rfl, rfl⟩⟩⟩
  · have d1 : decide ((0 : Int) < (n : Int)) = true := decide_eq_true (by omega)
    have hr := Lib.run_append_nil_zeros (P := Tryd.prog) w 23 3 23 3 i0 (.int .i64 0) .i64 .i64 Tryd.underlying23 Tryd.underlying3 hi hz0 n h0 (by omega) (by omega) (by rw [hz2]; omega)
    have hc1 := grownCap_ge w n 0 3
    have hc2 := grownCap_le_maxLen w n 0 3 (by unfold maxLen; omega)
    have HO : Hid (Own (w.drew.alloc (.cells (Builtin.zeroCells (Value.int .i64 0).cells n ++ Builtin.zeroCells (Value.int .i64 0).cells (grownCap w n 0 3 - n)) 3)) w.heap.size (.slice (some ⟨w.heap.size, 0, none⟩) 0 (grownCap w n 0 3)) []) := room_own w n _ hc1 hc2
    have HG : Hid (Old w (w.drew.alloc (.cells (Builtin.zeroCells (Value.int .i64 0).cells n ++ Builtin.zeroCells (Value.int .i64 0).cells (grownCap w n 0 3 - n)) 3))) := Old.alloc (Below.drew (Old.refl w)) _
    generalize grownCap w n 0 3 = c at *
    generalize w.drew.alloc (.cells (Builtin.zeroCells (Value.int .i64 0).cells n ++ Builtin.zeroCells (Value.int .i64 0).cells (c - n)) 3) = w2 at *
    have HR : Hid ((Builtin.append_ #[23, 3] 23 #[.slice none 0 0, .int .i64 n]).run Tryd.prog w = .ok (.slice (some ⟨w.heap.size, 0, none⟩) n c) w2) := hr
    clear hr
    go_enter Tryd.func201, Tryd.ntmps201
    go_wp2_with (at_builtin; refine Lib.wpList_append_run _ rfl _ _ 23 3 rfl _ _ rfl rfl _ _ HR.out ?_)
    go_ret
    exact ⟨_, rfl, HG.out, HO.out⟩
/-- numbers lie at an address -/
def Lie (w : World) (ad : Addr) (xs : List Int) : Prop := ∀ j u, (xs.map (Value.int .i64))[j]? = some u → w.cell? (ad.add j) = some u
theorem Lie.old {w w' : World} {ad : Addr} {xs : List Int} (h : Lie w ad xs) (g : Old w w') : Lie w' ad xs := fun j u hj => by
  have h1 := h j u hj
  rw [g.cell (block_lt_of_cell h1)]
  exact h1
theorem Lie.nil (w : World) (ad : Addr) : Lie w ad [] := fun j u hj => by simp at hj
theorem ints_one (xs : List Int) : ∀ u ∈ xs.map (Value.int .i64), u.oneCell' = true := by
  intro u hu
  obtain ⟨x, _, rfl⟩ := List.mem_map.1 hu
  rfl
end Go.Proofs.YtplaaglckbfklaaDoor
