/- Proved: several texts in one: what each proves is said ahead of it. -/
import Derived.Test.YtpebikjckhcgfaaDoorZ02
import Derived.Test.YtpebikjckhcgfaaDoorZ12
import Derived.Test.YtpebikjckhcgfaaDoorZ14
/- Proved: spaces as a law carries them: what its functions on them do. -/
namespace Go.Proofs.YtpebikjckhcgfaaDoor
open Go.ChangeShapes Go.WideShapes Go.ChangeAt Go.RowKit
set_option linter.unusedVariables false
set_option linter.unusedSimpArgs false
set_option maxHeartbeats 1000000 in
theorem szSpace_no (N : Int) (a : Option Addr) (len cap : Nat) (left : Int) (w : World) (hl : len ≤ 9223372036854775807) (h0 : 0 ≤ left) (h1 : left ≤ 1048576) (h : left < (len : Int)) :
    Calls Tryd.prog 38 #[.agg #[.int .i64 N, .slice a len cap], .int .i64 left] w fun e w' => e = .returned (.int .i64 (-1)) ∧ Old w w' := by
  have c := fun W => szInts_any a len cap left W hl h0 h1
  rw [if_pos h] at c
  go_enter Tryd.func38, Tryd.ntmps38
  go_wp2_with fail
  refine (c _).mono ?_
  rintro e w' ⟨rfl, rfl⟩
  go_wp2_with fail
  go_ret
  exact ⟨rfl, (Old.refl _).alloc _⟩
theorem szSpace_yes (N : Int) (a : Option Addr) (len cap : Nat) (left : Int) (w : World) (hl : len ≤ 9223372036854775807) (h0 : 0 ≤ left) (h1 : left ≤ 1048576) (h : ¬ left < (len : Int)) :
    Calls Tryd.prog 38 #[.agg #[.int .i64 N, .slice a len cap], .int .i64 left] w fun e w' => e = .returned (.int .i64 (left - len)) ∧ Old w w' := by
  have c := fun W => szInts_any a len cap left W hl h0 h1
  rw [if_neg h] at c
  have d : decide (left - (len : Int) < 0) = false := by simp; omega
  go_enter Tryd.func38, Tryd.ntmps38
  go_wp2_with fail
  refine (c _).mono ?_
  rintro e w' ⟨rfl, rfl⟩
  go_wp2_with fail
  go_ret
  exact ⟨rfl, (Old.refl _).alloc _⟩
set_option maxHeartbeats 1000000 in
theorem toSpace_any (N : Int) (xs : List Int) (v : Value) (w : World) (h : Row w v xs) (hl : xs.length ≤ 1048576) :
    Calls Tryd.prog 41 #[.agg #[.int .i64 N, v]] w fun e w' => ∃ v', e = .returned (.agg #[.int .i64 N, v']) ∧ Old w w' ∧ Own w' w.heap.size v' xs ∧ Fit v' := by
  have HR : Hid (Row w v xs) := h
  obtain ⟨a0, cap0, rfl⟩ := h.slice
  clear h
  go_enter Tryd.func41, Tryd.ntmps41
  go_wp2_with fail
  refine (toInts_any xs _ _ (HR.out.old (((Old.refl w).alloc _).alloc _ |>.alloc _)) hl).mono ?_
  rintro e w1 ⟨rfl, g1, o1⟩
  have q20 : w1.cell? ⟨w.heap.size + 1 + 1, 0, none⟩ = some (Value.int .i64 N) := (g1.cell (p := ⟨w.heap.size + 1 + 1, 0, none⟩) (by simp; try omega)).trans (by simp [cell_at, cell_lt, fro_at, fro_lt])
  have q21 : w1.cell? ⟨w.heap.size + 1 + 1, 1, none⟩ = some (Value.slice none 0 0) := (g1.cell (p := ⟨w.heap.size + 1 + 1, 1, none⟩) (by simp; try omega)).trans (by simp [cell_at, cell_lt, fro_at, fro_lt])
  have q10 : w1.cell? ⟨w.heap.size + 1, 0, none⟩ = some (Value.int .i64 0) := (g1.cell (p := ⟨w.heap.size + 1, 0, none⟩) (by simp; try omega)).trans (by simp [cell_at, cell_lt, fro_at, fro_lt])
  have q11 : w1.cell? ⟨w.heap.size + 1, 1, none⟩ = some (Value.slice none 0 0) := (g1.cell (p := ⟨w.heap.size + 1, 1, none⟩) (by simp; try omega)).trans (by simp [cell_at, cell_lt, fro_at, fro_lt])
  have f21 : w1.frozen? ⟨w.heap.size + 1 + 1, 1, none⟩ = false := (g1.frozen (p := ⟨w.heap.size + 1 + 1, 1, none⟩) (by simp; try omega)).trans (by simp [cell_at, cell_lt, fro_at, fro_lt])
  have f10 : w1.frozen? ⟨w.heap.size + 1, 0, none⟩ = false := (g1.frozen (p := ⟨w.heap.size + 1, 0, none⟩) (by simp; try omega)).trans (by simp [cell_at, cell_lt, fro_at, fro_lt])
  have f11 : w1.frozen? ⟨w.heap.size + 1, 1, none⟩ = false := (g1.frozen (p := ⟨w.heap.size + 1, 1, none⟩) (by simp; try omega)).trans (by simp [cell_at, cell_lt, fro_at, fro_lt])
  have HG : Hid (Old w w1) := Old.trans (((Old.refl w).alloc _).alloc _ |>.alloc _) g1
  have HO : Hid (Own w1 w.heap.size (.slice (some ⟨w.heap.size + 1 + 1 + 1, 0, none⟩) xs.length xs.length) xs) := by
    have := Own.low o1 (base' := w.heap.size) (by simp; omega)
    simp at this
    exact this
  clear g1 o1 HR
  go_wp2_with fail
  refine bodyPost_ret (v := .agg #[.int .i64 N, .slice (some ⟨w.heap.size + 1 + 1 + 1, 0, none⟩) xs.length xs.length]) (by simp [results, Tryd.results41, go_sem, q10, q11]) rfl ⟨_, rfl, ?_, ?_, Nat.le_refl _⟩
  · exact ((HG.out.own (p := ⟨w.heap.size + 1 + 1, 1, none⟩) (by simp; omega) _).own (p := ⟨w.heap.size + 1, 0, none⟩) (by simp) _).own (p := ⟨w.heap.size + 1, 1, none⟩) (by simp) _
  · exact ownsRow_setCell_other (ownsRow_setCell_other (ownsRow_setCell_other HO.out (by simp [Value.ownBlock]) _) (by simp [Value.ownBlock]; omega) _) (by simp [Value.ownBlock]; omega) _
set_option maxHeartbeats 1000000 in
theorem eqSpace_yes (N : Int) (xs : List Int) (v u : Value) (w : World) (h : Row w v xs) (k : Row w u xs) (hl : xs.length ≤ 1073741824) :
    Calls Tryd.prog 45 #[.agg #[.int .i64 N, v], .agg #[.int .i64 N, u]] w fun e w' => e = .returned (.bool true) ∧ Old w w' := by
  have HR : Hid (Row w v xs) := h
  have HK : Hid (Row w u xs) := k
  obtain ⟨a0, cap0, rfl⟩ := h.slice
  obtain ⟨a1, cap1, rfl⟩ := k.slice
  clear h k
  have dn : (N != N) = false := by simp
  go_enter Tryd.func45, Tryd.ntmps45
  go_wp2_with fail
  refine (eqInts_yes xs _ _ _ (HR.out.old (((Old.refl w).alloc _).alloc _)) (HK.out.old (((Old.refl w).alloc _).alloc _)) hl).mono ?_
  rintro e w1 ⟨rfl, g1⟩
  have HG : Hid (Old w w1) := Old.trans (((Old.refl w).alloc _).alloc _) g1
  clear g1
  go_wp2_with fail
  go_ret
  exact ⟨rfl, HG.out⟩
set_option maxHeartbeats 1000000 in
theorem markSpace_any (N : Int) (xs : List Int) (v : Value) (k : Int) (base : Nat) (w : World) (h : Own w base v xs) (hl : xs.length ≤ 1073741824) (hk : 0 ≤ k) (hk' : k ≤ 1073741824) :
    Calls Tryd.prog 46 #[.agg #[.int .i64 N, v], .int .i64 k] w fun e w' => e = .returned (.int .i64 (k + xs.length)) ∧ w.grownBy w' v.ownBlock ∧ Own w' base v (marks k xs.length) := by
  have HR : Hid (Own w base v xs) := h
  obtain ⟨a0, cap0, rfl⟩ := (Own.row h).slice
  clear h
  go_enter Tryd.func46, Tryd.ntmps46
  go_wp2_with fail
  refine (markInts_any xs _ k base _ (HR.out.alloc _) hl hk hk').mono ?_
  rintro e w1 ⟨rfl, g1, o1⟩
  have HG : Hid (w.grownBy w1 (Value.slice a0 xs.length cap0).ownBlock) := ⟨g1.os, g1.tape, g1.output, Nat.le_trans (by simp) g1.size, fun p hp hne => (g1.block p (by simp; omega) hne).trans (heap_alloc_old _ _ hp)⟩
  have HO : Hid (Own w1 base (.slice a0 xs.length cap0) (marks k xs.length)) := o1
  clear g1 o1
  go_wp2_with fail
  go_ret
  exact ⟨rfl, HG.out, HO.out⟩
/-- a space's copy -/
def XS (n : Int) (xs : List Int) (W : World) (lo hi : Nat) (g : Array Value) : Prop := ∃ a c, g = #[.int .i64 n, .slice a xs.length c] ∧ OwI xs W lo hi (.slice a xs.length c) ∧ xs.length ≤ c
theorem far_XS (n : Int) (xs : List Int) : Far (XS n xs) := fun W W' lo hi v h hf hs => by
  obtain ⟨a, c, e, o, f⟩ := h
  exact ⟨a, c, e, far_OwI xs W W' lo hi _ o hf hs, f⟩
theorem shape_XS {n : Int} {xs : List Int} (W : World) (lo hi : Nat) (g : Array Value) (h : XS n xs W lo hi g) : ∃ a c, g = #[.int .i64 n, .slice a xs.length c] := by
  obtain ⟨a, c, e, o, f⟩ := h
  exact ⟨a, c, e⟩
theorem ks_sz (n : Int) (a : Option Addr) (len cap : Nat) (left : Int) (W : World) (hl : len ≤ 9223372036854775807) (h0 : 0 ≤ left) (h1 : left ≤ 1048576) :
    Calls Tryd.prog 38 #[.agg #[.int .i64 n, .slice a len cap], .int .i64 left] W fun e w' => e = .returned (.int .i64 (leftN left len)) ∧ Old W w' := by
  unfold leftN
  split
  · rename_i h
    exact szSpace_no n a len cap left W hl h0 h1 h
  · rename_i h
    exact szSpace_yes n a len cap left W hl h0 h1 h
theorem ks_to (n : Int) (xs : List Int) (v : Value) (W : World) (h : Row W v xs) (hl : xs.length ≤ 1048576) :
    Calls Tryd.prog 41 #[.agg #[.int .i64 n, v]] W fun e w' => ∃ g, e = .returned (.agg g) ∧ Old W w' ∧ XS n xs w' W.heap.size w'.heap.size g := by
  refine (toSpace_any n xs v W h hl).mono ?_
  rintro e w' ⟨v', rfl, g, o, f⟩
  obtain ⟨a, c, rfl⟩ := (Own.row o).slice
  exact ⟨_, rfl, g, a, c, rfl, OwI.of o, f⟩
theorem ks_eq (n : Int) (xs : List Int) (W : World) (lo hi : Nat) (g : Array Value) (lo' hi' : Nat) (g' : Array Value) (h : XS n xs W lo hi g) (h' : XS n xs W lo' hi' g') (hl : xs.length ≤ 1073741824) :
    Calls Tryd.prog 45 #[.agg g, .agg g'] W fun e w' => e = .returned (.bool true) ∧ Old W w' := by
  obtain ⟨a, c, rfl, o, f⟩ := h
  obtain ⟨a', c', rfl, o', f'⟩ := h'
  exact eqSpace_yes n xs _ _ W o.row o'.row hl
theorem ks_mark (n : Int) (xs : List Int) (k : Int) (W : World) (lo hi : Nat) (g : Array Value) (h : XS n xs W lo hi g) (hl : xs.length ≤ 1048576) (hk : 0 ≤ k) (hk' : k ≤ 1073741824) :
    Calls Tryd.prog 46 #[.agg g, .int .i64 k] W fun e w' => e = .returned (.int .i64 (k + xs.length)) ∧ Chg W w' lo hi := by
  obtain ⟨a, c, rfl, o, f⟩ := h
  refine (markSpace_any n xs _ k lo W o.1 (by omega) hk hk').mono ?_
  rintro e w' ⟨rfl, gr, ow⟩
  exact ⟨rfl, (o.mark gr ow).1⟩
end Go.Proofs.YtpebikjckhcgfaaDoor
/- Proved: what model and program tell of params (GoodParams) and of secrets (GoodSecret). -/
namespace Go.Proofs.YtpebikjckhcgfaaDoor
open Go.ChangeShapes Go.WideShapes Go.ChangeAt Go.RowKit
set_option linter.unusedVariables false
set_option linter.unusedSimpArgs false
/-- T is below each -/
def belB (T : Int) (xs : List Int) (k : Nat) : Bool := decide (∀ i, i < xs.length → k ≤ i → T < xs.getD i 0)
theorem belB_end {T : Int} {xs : List Int} {k : Nat} (h : xs.length ≤ k) : belB T xs k = true := decide_eq_true (fun i h1 h2 => by omega)
theorem belB_no {T : Int} {xs : List Int} {k : Nat} (h : k < xs.length) (hk : ¬ T < xs.getD k 0) : belB T xs k = false :=
  decide_eq_false (fun hh => hk (hh k h (Nat.le_refl _)))
theorem belB_yes {T : Int} {xs : List Int} {k : Nat} (hk : T < xs.getD k 0) : belB T xs k = belB T xs (k + 1) := by
  unfold belB
  congr 1
  apply propext
  constructor
  · intro h i h1 h2
    exact h i h1 (by omega)
  · intro h i h1 h2
    rcases Nat.lt_or_ge k i with h3 | h3
    · exact h i h1 (by omega)
    · obtain rfl : i = k := by omega
      exact hk
/-- params are good -/
def prB (N T E : Int) (xs : List Int) : Bool := spB N xs && (decide (xs.length ≤ 4) && (inQ T 2 65536 && (inQ E 1 16 && belB T xs 0)))
/-- as many as n, each within -m .. m -/
def winB (m : Int) (ss : List Int) (k : Nat) : Bool := decide (∀ i, i < ss.length → k ≤ i → -m ≤ ss.getD i 0 ∧ ss.getD i 0 ≤ m)
theorem winB_end {m : Int} {ss : List Int} {k : Nat} (h : ss.length ≤ k) : winB m ss k = true := decide_eq_true (fun i h1 h2 => by omega)
theorem winB_no {m : Int} {ss : List Int} {k : Nat} (h : k < ss.length) (hk : ¬ (-m ≤ ss.getD k 0 ∧ ss.getD k 0 ≤ m)) : winB m ss k = false :=
  decide_eq_false (fun hh => hk (hh k h (Nat.le_refl _)))
theorem winB_yes {m : Int} {ss : List Int} {k : Nat} (hk : -m ≤ ss.getD k 0 ∧ ss.getD k 0 ≤ m) : winB m ss k = winB m ss (k + 1) := by
  unfold winB
  congr 1
  apply propext
  constructor
  · intro h i h1 h2
    exact h i h1 (by omega)
  · intro h i h1 h2
    rcases Nat.lt_or_ge k i with h3 | h3
    · exact h i h1 (by omega)
    · obtain rfl : i = k := by omega
      exact hk
def wiB (n m : Int) (ss : List Int) : Bool := decide ((ss.length : Int) = n) && winB m ss 0
theorem ret_ij {a b : Int} (h : a = b) : Ending.returned (.int .i64 a) = .returned (.int .i64 b) := by rw [h]
/-- the least of the first k + 1 numbers -/
def mnK (xs : List Int) : Nat → Int
  | 0 => xs.getD 0 0
  | k + 1 => min (mnK xs k) (xs.getD (k + 1) 0)
theorem mnK_lt (xs : List Int) (T : Int) : ∀ k, T < mnK xs k ↔ ∀ i, i < k + 1 → T < xs.getD i 0
  | 0 => by
    constructor
    · intro h i hi
      obtain rfl : i = 0 := by omega
      exact h
    · intro h
      exact h 0 (by omega)
  | k + 1 => by
    have ih := mnK_lt xs T k
    have hm : T < mnK xs (k + 1) ↔ T < mnK xs k ∧ T < xs.getD (k + 1) 0 := by
      show T < min _ _ ↔ _
      omega
    rw [hm, ih]
    constructor
    · rintro ⟨h1, h2⟩ i hi
      rcases Nat.lt_or_ge i (k + 1) with h3 | h3
      · exact h1 i h3
      · obtain rfl : i = k + 1 := by omega
        exact h2
    · intro h
      exact ⟨fun i hi => h i (by omega), h (k + 1) (by omega)⟩
theorem mnK_bel (xs : List Int) (T : Int) (h : 0 < xs.length) : decide (T < mnK xs (xs.length - 1)) = belB T xs 0 := by
  unfold belB
  congr 1
  apply propext
  rw [mnK_lt]
  constructor
  · intro h1 i h2 _
    exact h1 i (by omega)
  · intro h1 i h2
    exact h1 i (by omega) (by omega)
end Go.Proofs.YtpebikjckhcgfaaDoor
/- Proved: contracts of the program's ringsOfParams and GoodParams. -/
namespace Go.Proofs.YtpebikjckhcgfaaDoor
open Go.ChangeShapes Go.WideShapes Go.ChangeAt Go.RowKit
set_option linter.unusedVariables false
set_option linter.unusedSimpArgs false
end Go.Proofs.YtpebikjckhcgfaaDoor
