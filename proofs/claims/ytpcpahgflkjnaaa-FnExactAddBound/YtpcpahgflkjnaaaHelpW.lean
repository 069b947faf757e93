/- Proved: contracts of the statements' own helpers over whole numbers: sizes, copies, comparisons, marks. -/
import Derived.Test.YtpcpahgflkjnaaaHelp
namespace Go.Proofs.Ytpcpahgflkjnaaa
open Go.ChangeShapes Go.WideShapes Go.ChangeAt Go.RowKit
set_option linter.unusedVariables false
set_option linter.unusedSimpArgs false
theorem szInts_any (a : Option Addr) (len cap : Nat) (left : Int) (w : World) (hl : len ≤ 9223372036854775807) (h0 : 0 ≤ left) (h1 : left ≤ 1048576) :
    Calls Try.prog 11 #[.slice a len cap, .int .i64 left] w fun e w' => e = .returned (.int .i64 (if left < (len : Int) then -1 else left - len)) ∧ w' = w := by
  by_cases h : left < (len : Int)
  · have d : decide (left - (len : Int) < 0) = true := by simp; omega
    rw [if_pos h]
    go_enter Try.func11, Try.ntmps11
    go_wp2_with fail
    go_ret
    exact ⟨rfl, rfl⟩
  · have d : decide (left - (len : Int) < 0) = false := by simp; omega
    rw [if_neg h]
    go_enter Try.func11, Try.ntmps11
    go_wp2_with fail
    go_ret
    exact ⟨rfl, rfl⟩
theorem szWhole_no (neg : Bool) (a : Option Addr) (len cap : Nat) (left : Int) (w : World) (hl : len ≤ 9223372036854775807) (h0 : 0 ≤ left) (h1 : left ≤ 1048576) (h : left < (len : Int)) :
    Calls Try.prog 4 #[.agg #[.bool neg, .slice a len cap], .int .i64 left] w fun e w' => e = .returned (.int .i64 (-1)) ∧ Old w w' := by
  have c := fun W => szInts_any a len cap left W hl h0 h1
  rw [if_pos h] at c
  go_enter Try.func4, Try.ntmps4
  go_wp2_with fail
  refine (c _).mono ?_
  rintro e w' ⟨rfl, rfl⟩
  go_wp2_with fail
  go_ret
  exact ⟨rfl, (Old.refl _).alloc _⟩
theorem szWhole_yes (neg : Bool) (a : Option Addr) (len cap : Nat) (left : Int) (w : World) (hl : len ≤ 9223372036854775807) (h0 : 0 ≤ left) (h1 : left ≤ 1048576) (h : ¬ left < (len : Int)) :
    Calls Try.prog 4 #[.agg #[.bool neg, .slice a len cap], .int .i64 left] w fun e w' => e = .returned (.int .i64 (left - len)) ∧ Old w w' := by
  have c := fun W => szInts_any a len cap left W hl h0 h1
  rw [if_neg h] at c
  have d : decide (left - (len : Int) < 0) = false := by simp; omega
  go_enter Try.func4, Try.ntmps4
  go_wp2_with fail
  refine (c _).mono ?_
  rintro e w' ⟨rfl, rfl⟩
  go_wp2_with fail
  go_ret
  exact ⟨rfl, (Old.refl _).alloc _⟩
set_option maxHeartbeats 1000000 in
theorem toWhole_any (neg : Bool) (xs : List Int) (v : Value) (w : World) (h : Row w v xs) (hl : xs.length ≤ 1048576) :
    Calls Try.prog 6 #[.agg #[.bool neg, v]] w fun e w' => ∃ v', e = .returned (.agg #[.bool neg, v']) ∧ Old w w' ∧ Own w' w.heap.size v' xs := by
  have HR : Hid (Row w v xs) := h
  obtain ⟨a0, cap0, rfl⟩ := h.slice
  clear h
  go_enter Try.func6, Try.ntmps6
  go_wp2_with fail
  refine (toInts_any xs _ _ (HR.out.old (((Old.refl w).alloc _).alloc _ |>.alloc _)) hl).mono ?_
  rintro e w1 ⟨rfl, g1, o1⟩
  have q20 : w1.cell? ⟨w.heap.size + 1 + 1, 0, none⟩ = some (Value.bool neg) := (g1.cell (p := ⟨w.heap.size + 1 + 1, 0, none⟩) (by simp; try omega)).trans (by simp [cell_at, cell_lt, fro_at, fro_lt])
  have q21 : w1.cell? ⟨w.heap.size + 1 + 1, 1, none⟩ = some (Value.slice none 0 0) := (g1.cell (p := ⟨w.heap.size + 1 + 1, 1, none⟩) (by simp; try omega)).trans (by simp [cell_at, cell_lt, fro_at, fro_lt])
  have q10 : w1.cell? ⟨w.heap.size + 1, 0, none⟩ = some (Value.bool false) := (g1.cell (p := ⟨w.heap.size + 1, 0, none⟩) (by simp; try omega)).trans (by simp [cell_at, cell_lt, fro_at, fro_lt])
  have q11 : w1.cell? ⟨w.heap.size + 1, 1, none⟩ = some (Value.slice none 0 0) := (g1.cell (p := ⟨w.heap.size + 1, 1, none⟩) (by simp; try omega)).trans (by simp [cell_at, cell_lt, fro_at, fro_lt])
  have f21 : w1.frozen? ⟨w.heap.size + 1 + 1, 1, none⟩ = false := (g1.frozen (p := ⟨w.heap.size + 1 + 1, 1, none⟩) (by simp; try omega)).trans (by simp [cell_at, cell_lt, fro_at, fro_lt])
  have f10 : w1.frozen? ⟨w.heap.size + 1, 0, none⟩ = false := (g1.frozen (p := ⟨w.heap.size + 1, 0, none⟩) (by simp; try omega)).trans (by simp [cell_at, cell_lt, fro_at, fro_lt])
  have f11 : w1.frozen? ⟨w.heap.size + 1, 1, none⟩ = false := (g1.frozen (p := ⟨w.heap.size + 1, 1, none⟩) (by simp; try omega)).trans (by simp [cell_at, cell_lt, fro_at, fro_lt])
  have HG : Hid (Old w w1) := Old.trans (((Old.refl w).alloc _).alloc _ |>.alloc _) g1
  have HO : Hid (Own w1 w.heap.size (.slice (some ⟨w.heap.size + 1 + 1 + 1, 0, none⟩) xs.length xs.length) xs) := by
    have := Own.low o1 (base' := w.heap.size) (by simp; omega)
    simp at this
    exact this
  clear g1 o1 HR
  go_wp2_with fail
  refine bodyPost_ret (v := .agg #[.bool neg, .slice (some ⟨w.heap.size + 1 + 1 + 1, 0, none⟩) xs.length xs.length]) (by simp [results, Try.results6, go_sem, q10, q11]) rfl ⟨_, rfl, ?_, ?_⟩
  · exact ((HG.out.own (p := ⟨w.heap.size + 1 + 1, 1, none⟩) (by simp; omega) _).own (p := ⟨w.heap.size + 1, 0, none⟩) (by simp) _).own (p := ⟨w.heap.size + 1, 1, none⟩) (by simp) _
  · exact ownsRow_setCell_other (ownsRow_setCell_other (ownsRow_setCell_other HO.out (by simp [Value.ownBlock]) _) (by simp [Value.ownBlock]; omega) _) (by simp [Value.ownBlock]; omega) _
set_option maxHeartbeats 1000000 in
theorem eqWhole_yes (neg : Bool) (xs : List Int) (v u : Value) (w : World) (h : Row w v xs) (k : Row w u xs) (hl : xs.length ≤ 1073741824) :
    Calls Try.prog 8 #[.agg #[.bool neg, v], .agg #[.bool neg, u]] w fun e w' => e = .returned (.bool true) ∧ Old w w' := by
  have HR : Hid (Row w v xs) := h
  have HK : Hid (Row w u xs) := k
  obtain ⟨a0, cap0, rfl⟩ := h.slice
  obtain ⟨a1, cap1, rfl⟩ := k.slice
  clear h k
  have dn : (neg != neg) = false := by simp
  go_enter Try.func8, Try.ntmps8
  go_wp2_with fail
  refine (eqInts_yes xs _ _ _ (HR.out.old (((Old.refl w).alloc _).alloc _)) (HK.out.old (((Old.refl w).alloc _).alloc _)) hl).mono ?_
  rintro e w1 ⟨rfl, g1⟩
  have HG : Hid (Old w w1) := Old.trans (((Old.refl w).alloc _).alloc _) g1
  clear g1
  go_wp2_with fail
  go_ret
  exact ⟨rfl, HG.out⟩
set_option maxHeartbeats 1000000 in
theorem markWhole_any (neg : Bool) (xs : List Int) (v : Value) (k : Int) (base : Nat) (w : World) (h : Own w base v xs) (hl : xs.length ≤ 1073741824) (hk : 0 ≤ k) (hk' : k ≤ 1073741824) :
    Calls Try.prog 9 #[.agg #[.bool neg, v], .int .i64 k] w fun e w' => e = .returned (.int .i64 (k + xs.length)) ∧ w.grownBy w' v.ownBlock ∧ Own w' base v (marks k xs.length) := by
  have HR : Hid (Own w base v xs) := h
  obtain ⟨a0, cap0, rfl⟩ := (Own.row h).slice
  clear h
  go_enter Try.func9, Try.ntmps9
  go_wp2_with fail
  refine (markInts_any xs _ k base _ (HR.out.alloc _) hl hk hk').mono ?_
  rintro e w1 ⟨rfl, g1, o1⟩
  have HG : Hid (w.grownBy w1 (Value.slice a0 xs.length cap0).ownBlock) := ⟨g1.os, g1.tape, g1.output, Nat.le_trans (by simp) g1.size, fun p hp hne => (g1.block p (by simp; omega) hne).trans (heap_alloc_old _ _ hp)⟩
  have HO : Hid (Own w1 base (.slice a0 xs.length cap0) (marks k xs.length)) := o1
  clear g1 o1
  go_wp2_with fail
  go_ret
  exact ⟨rfl, HG.out, HO.out⟩
set_option maxHeartbeats 1000000 in
theorem heldWhole_yes (neg : Bool) (n : Nat) (v : Value) (k : Int) (w : World) (h : Row w v (marks k n)) (hl : n ≤ 1073741824) (hk : 0 ≤ k) (hk' : k ≤ 1073741824) :
    Calls Try.prog 10 #[.agg #[.bool neg, v], .int .i64 k] w fun e w' => e = .returned (.int .i64 (k + n)) ∧ Old w w' := by
  have HR : Hid (Row w v (marks k n)) := h
  obtain ⟨a0, cap0, rfl⟩ := h.slice
  clear h
  rw [marks_len] at *
  go_enter Try.func10, Try.ntmps10
  go_wp2_with fail
  refine (heldInts_yes n _ k _ (HR.out.old ((Old.refl w).alloc _)) hl hk hk').mono ?_
  rintro e w1 ⟨rfl, g1⟩
  have HG : Hid (Old w w1) := Old.trans ((Old.refl w).alloc _) g1
  clear g1
  go_wp2_with fail
  go_ret
  exact ⟨rfl, HG.out⟩
end Go.Proofs.Ytpcpahgflkjnaaa
