/- Proved: several texts in one: what each proves is said ahead of it. -/
import Derived.Test.YtpebikjckhcgfaaDoorQ02
import Derived.Test.YtpebikjckhcgfaaDoorQ12
import Derived.Test.YtpebikjckhcgfaaDoorQ13
/- Proved: spaces as a law carries them: what its functions on them do. -/
namespace Go.Proofs.YtpebikjckhcgfaaDoor
open Go.ChangeShapes Go.WideShapes Go.ChangeAt Go.RowKit
set_option linter.unusedVariables false
set_option linter.unusedSimpArgs false
set_option maxHeartbeats 1000000 in
theorem szSpace_no (N : Int) (a : Option Addr) (len cap : Nat) (left : Int) (w : World) (hl : len ≤ 9223372036854775807) (h0 : 0 ≤ left) (h1 : left ≤ 1048576) (h : left < (len : Int)) :
    Calls Tryd.prog 38 #[.agg #[.int .i64 N, .slice a len cap], .int .i64 left] w fun e w' => e = .returned (.int .i64 (-1)) ∧ Old w w' := by
  have c := fun W => szInts_any a len cap left W hl h0 h1
  rw [if_pos h] at c
  go_enter Tryd.func38, Tryd.ntmps38
  go_wp2_with fail
  refine (c _).mono ?_
  rintro e w' ⟨rfl, rfl⟩
  go_wp2_with fail
  go_ret
  exact ⟨rfl, (Old.refl _).alloc _⟩
theorem szSpace_yes (N : Int) (a : Option Addr) (len cap : Nat) (left : Int) (w : World) (hl : len ≤ 9223372036854775807) (h0 : 0 ≤ left) (h1 : left ≤ 1048576) (h : ¬ left < (len : Int)) :
    Calls Tryd.prog 38 #[.agg #[.int .i64 N, .slice a len cap], .int .i64 left] w fun e w' => e = .returned (.int .i64 (left - len)) ∧ Old w w' := by
  have c := fun W => szInts_any a len cap left W hl h0 h1
  rw [if_neg h] at c
  have d : decide (left - (len : Int) < 0) = false := by simp; omega
  go_enter Tryd.func38, Tryd.ntmps38
  go_wp2_with fail
  refine (c _).mono ?_
  rintro e w' ⟨rfl, rfl⟩
  go_wp2_with fail
  go_ret
  exact ⟨rfl, (Old.refl _).alloc _⟩
set_option maxHeartbeats 1000000 in
theorem toSpace_any (N : Int) (xs : List Int) (v : Value) (w : World) (h : Row w v xs) (hl : xs.length ≤ 1048576) :
    Calls Tryd.prog 41 #[.agg #[.int .i64 N, v]] w fun e w' => ∃ v', e = .returned (.agg #[.int .i64 N, v']) ∧ Old w w' ∧ Own w' w.heap.size v' xs ∧ Fit v' := by
  have HR : Hid (Row w v xs) := h
  obtain ⟨a0, cap0, rfl⟩ := h.slice
  clear h
  go_enter Tryd.func41, Tryd.ntmps41
  go_wp2_with fail
  refine (toInts_any xs _ _ (HR.out.old (((Old.refl w).alloc _).alloc _ |>.alloc _)) hl).mono ?_
  rintro e w1 ⟨rfl, g1, o1⟩
  have q20 : w1.cell? ⟨w.heap.size + 1 + 1, 0, none⟩ = some (Value.int .i64 N) := (g1.cell (p := ⟨w.heap.size + 1 + 1, 0, none⟩) (by simp; try omega)).trans (by simp [cell_at, cell_lt, fro_at, fro_lt])
  have q21 : w1.cell? ⟨w.heap.size + 1 + 1, 1, none⟩ = some (Value.slice none 0 0) := (g1.cell (p := ⟨w.heap.size + 1 + 1, 1, none⟩) (by simp; try omega)).trans (by simp [cell_at, cell_lt, fro_at, fro_lt])
  have q10 : w1.cell? ⟨w.heap.size + 1, 0, none⟩ = some (Value.int .i64 0) := (g1.cell (p := ⟨w.heap.size + 1, 0, none⟩) (by simp; try omega)).trans (by simp [cell_at, cell_lt, fro_at, fro_lt])
  have q11 : w1.cell? ⟨w.heap.size + 1, 1, none⟩ = some (Value.slice none 0 0) := (g1.cell (p := ⟨w.heap.size + 1, 1, none⟩) (by simp; try omega)).trans (by simp [cell_at, cell_lt, fro_at, fro_lt])
  have f21 : w1.frozen? ⟨w.heap.size + 1 + 1, 1, none⟩ = false := (g1.frozen (p := ⟨w.heap.size + 1 + 1, 1, none⟩) (by simp; try omega)).trans (by simp [cell_at, cell_lt, fro_at, fro_lt])
  have f10 : w1.frozen? ⟨w.heap.size + 1, 0, none⟩ = false := (g1.frozen (p := ⟨w.heap.size + 1, 0, none⟩) (by simp; try omega)).trans (by simp [cell_at, cell_lt, fro_at, fro_lt])
  have f11 : w1.frozen? ⟨w.heap.size + 1, 1, none⟩ = false := (g1.frozen (p := ⟨w.heap.size + 1, 1, none⟩) (by simp; try omega)).trans (by simp [cell_at, cell_lt, fro_at, fro_lt])
  have HG : Hid (Old w w1) := Old.trans (((Old.refl w).alloc _).alloc _ |>.alloc _) g1
  have HO : Hid (Own w1 w.heap.size (.slice (some ⟨w.heap.size + 1 + 1 + 1, 0, none⟩) xs.length xs.length) xs) := by
    have := Own.low o1 (base' := w.heap.size) (by simp; omega)
    simp at this
    exact this
  clear g1 o1 HR
  go_wp2_with fail
  refine bodyPost_ret (v := .agg #[.int .i64 N, .slice (some ⟨w.heap.size + 1 + 1 + 1, 0, none⟩) xs.length xs.length]) (by simp [results, Tryd.results41, go_sem, q10, q11]) rfl ⟨_, rfl, ?_, ?_, Nat.le_refl _⟩
  · exact ((HG.out.own (p := ⟨w.heap.size + 1 + 1, 1, none⟩) (by simp; omega) _).own (p := ⟨w.heap.size + 1, 0, none⟩) (by simp) _).own (p := ⟨w.heap.size + 1, 1, none⟩) (by simp) _
  · exact ownsRow_setCell_other (ownsRow_setCell_other (ownsRow_setCell_other HO.out (by simp [Value.ownBlock]) _) (by simp [Value.ownBlock]; omega) _) (by simp [Value.ownBlock]; omega) _
set_option maxHeartbeats 1000000 in
theorem eqSpace_yes (N : Int) (xs : List Int) (v u : Value) (w : World) (h : Row w v xs) (k : Row w u xs) (hl : xs.length ≤ 1073741824) :
    Calls Tryd.prog 45 #[.agg #[.int .i64 N, v], .agg #[.int .i64 N, u]] w fun e w' => e = .returned (.bool true) ∧ Old w w' := by
  have HR : Hid (Row w v xs) := h
  have HK : Hid (Row w u xs) := k
  obtain ⟨a0, cap0, rfl⟩ := h.slice
  obtain ⟨a1, cap1, rfl⟩ := k.slice
  clear h k
  have dn : (N != N) = false := by simp
  go_enter Tryd.func45, Tryd.ntmps45
  go_wp2_with fail
  refine (eqInts_yes xs _ _ _ (HR.out.old (((Old.refl w).alloc _).alloc _)) (HK.out.old (((Old.refl w).alloc _).alloc _)) hl).mono ?_
  rintro e w1 ⟨rfl, g1⟩
  have HG : Hid (Old w w1) := Old.trans (((Old.refl w).alloc _).alloc _) g1
  clear g1
  go_wp2_with fail
  go_ret
  exact ⟨rfl, HG.out⟩
set_option maxHeartbeats 1000000 in
theorem markSpace_any (N : Int) (xs : List Int) (v : Value) (k : Int) (base : Nat) (w : World) (h : Own w base v xs) (hl : xs.length ≤ 1073741824) (hk : 0 ≤ k) (hk' : k ≤ 1073741824) :
    Calls Tryd.prog 46 #[.agg #[.int .i64 N, v], .int .i64 k] w fun e w' => e = .returned (.int .i64 (k + xs.length)) ∧ w.grownBy w' v.ownBlock ∧ Own w' base v (marks k xs.length) := by
  have HR : Hid (Own w base v xs) := h
  obtain ⟨a0, cap0, rfl⟩ := (Own.row h).slice
  clear h
  go_enter Tryd.func46, Tryd.ntmps46
  go_wp2_with fail
  refine (markInts_any xs _ k base _ (HR.out.alloc _) hl hk hk').mono ?_
  rintro e w1 ⟨rfl, g1, o1⟩
  have HG : Hid (w.grownBy w1 (Value.slice a0 xs.length cap0).ownBlock) := ⟨g1.os, g1.tape, g1.output, Nat.le_trans (by simp) g1.size, fun p hp hne => (g1.block p (by simp; omega) hne).trans (heap_alloc_old _ _ hp)⟩
  have HO : Hid (Own w1 base (.slice a0 xs.length cap0) (marks k xs.length)) := o1
  clear g1 o1
  go_wp2_with fail
  go_ret
  exact ⟨rfl, HG.out, HO.out⟩
/-- a space's copy -/
def XS (n : Int) (xs : List Int) (W : World) (lo hi : Nat) (g : Array Value) : Prop := ∃ a c, g = #[.int .i64 n, .slice a xs.length c] ∧ OwI xs W lo hi (.slice a xs.length c) ∧ xs.length ≤ c
theorem far_XS (n : Int) (xs : List Int) : Far (XS n xs) := fun W W' lo hi v h hf hs => by
  obtain ⟨a, c, e, o, f⟩ := h
  exact ⟨a, c, e, far_OwI xs W W' lo hi _ o hf hs, f⟩
theorem shape_XS {n : Int} {xs : List Int} (W : World) (lo hi : Nat) (g : Array Value) (h : XS n xs W lo hi g) : ∃ a c, g = #[.int .i64 n, .slice a xs.length c] := by
  obtain ⟨a, c, e, o, f⟩ := h
  exact ⟨a, c, e⟩
theorem ks_sz (n : Int) (a : Option Addr) (len cap : Nat) (left : Int) (W : World) (hl : len ≤ 9223372036854775807) (h0 : 0 ≤ left) (h1 : left ≤ 1048576) :
    Calls Tryd.prog 38 #[.agg #[.int .i64 n, .slice a len cap], .int .i64 left] W fun e w' => e = .returned (.int .i64 (leftN left len)) ∧ Old W w' := by
  unfold leftN
  split
  · rename_i h
    exact szSpace_no n a len cap left W hl h0 h1 h
  · rename_i h
    exact szSpace_yes n a len cap left W hl h0 h1 h
theorem ks_to (n : Int) (xs : List Int) (v : Value) (W : World) (h : Row W v xs) (hl : xs.length ≤ 1048576) :
    Calls Tryd.prog 41 #[.agg #[.int .i64 n, v]] W fun e w' => ∃ g, e = .returned (.agg g) ∧ Old W w' ∧ XS n xs w' W.heap.size w'.heap.size g := by
  refine (toSpace_any n xs v W h hl).mono ?_
  rintro e w' ⟨v', rfl, g, o, f⟩
  obtain ⟨a, c, rfl⟩ := (Own.row o).slice
  exact ⟨_, rfl, g, a, c, rfl, OwI.of o, f⟩
theorem ks_eq (n : Int) (xs : List Int) (W : World) (lo hi : Nat) (g : Array Value) (lo' hi' : Nat) (g' : Array Value) (h : XS n xs W lo hi g) (h' : XS n xs W lo' hi' g') (hl : xs.length ≤ 1073741824) :
    Calls Tryd.prog 45 #[.agg g, .agg g'] W fun e w' => e = .returned (.bool true) ∧ Old W w' := by
  obtain ⟨a, c, rfl, o, f⟩ := h
  obtain ⟨a', c', rfl, o', f'⟩ := h'
  exact eqSpace_yes n xs _ _ W o.row o'.row hl
theorem ks_mark (n : Int) (xs : List Int) (k : Int) (W : World) (lo hi : Nat) (g : Array Value) (h : XS n xs W lo hi g) (hl : xs.length ≤ 1048576) (hk : 0 ≤ k) (hk' : k ≤ 1073741824) :
    Calls Tryd.prog 46 #[.agg g, .int .i64 k] W fun e w' => e = .returned (.int .i64 (k + xs.length)) ∧ Chg W w' lo hi := by
  obtain ⟨a, c, rfl, o, f⟩ := h
  refine (markSpace_any n xs _ k lo W o.1 (by omega) hk hk').mono ?_
  rintro e w' ⟨rfl, gr, ow⟩
  exact ⟨rfl, (o.mark gr ow).1⟩
end Go.Proofs.YtpebikjckhcgfaaDoor
