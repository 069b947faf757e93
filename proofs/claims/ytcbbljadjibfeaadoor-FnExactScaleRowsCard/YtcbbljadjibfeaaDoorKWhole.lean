/- Proved: whole numbers as a law carries them: what its functions on them do, by blocks of memory from one number up to another. -/
import Derived.Test.YtcbbljadjibfeaaDoorFar
import Derived.Test.YtcbbljadjibfeaaDoorKC
namespace Go.Proofs.YtcbbljadjibfeaaDoor
open Go.ChangeShapes Go.WideShapes Go.ChangeAt Go.RowKit
set_option linter.unusedVariables false
set_option linter.unusedSimpArgs false
/-- a row of numbers of one's own, in a block from lo up to hi -/
def OwI (xs : List Int) (W : World) (lo hi : Nat) (v : Value) : Prop := Own W lo v xs ∧ hi ≤ W.heap.size ∧ ∀ b, v.ownBlock = some b → b < hi
theorem OwI.of {W w' : World} {v : Value} {xs : List Int} (o : Own w' W.heap.size v xs) : OwI xs w' W.heap.size w'.heap.size v := ⟨o, Nat.le_refl _, fun b hb => (o.lt b hb).2⟩
theorem OwI.row {W : World} {lo hi : Nat} {v : Value} {xs : List Int} (h : OwI xs W lo hi v) : Row W v xs := Own.row h.1
theorem own_far {W W' : World} {lo hi : Nat} {v : Value} {xs : List Int} (h : Own W lo v xs) (hh : ∀ b, v.ownBlock = some b → b < hi) (hf : ∀ b, lo ≤ b → b < hi → W'.heap[b]? = W.heap[b]?) : Own W' lo v xs := by
  refine ⟨h.1, ?_⟩
  rcases h.2 with hn | ⟨p, cap, cur, rfl, hb, hgg, rest⟩
  · exact .inl hn
  · refine .inr ⟨p, cap, cur, rfl, hb, ?_, rest⟩
    rw [hf p hb (hh p rfl)]
    exact hgg
theorem far_OwI (xs : List Int) : Far (OwI xs) := fun W W' lo hi v h hf hs => ⟨own_far h.1 h.2.2 hf, Nat.le_trans h.2.1 hs, h.2.2⟩
theorem OwI.mark {W w' : World} {lo hi : Nat} {v : Value} {xs ys : List Int} (h : OwI xs W lo hi v) (g : W.grownBy w' v.ownBlock) (o : Own w' lo v ys) : Chg W w' lo hi ∧ OwI ys w' lo hi v :=
  ⟨chg_by g (fun b hb => ⟨(h.1.lt b hb).1, h.2.2 b hb⟩), o, Nat.le_trans h.2.1 g.size, h.2.2⟩
/-- a whole number's copy -/
def XW (n : Bool) (xs : List Int) (W : World) (lo hi : Nat) (g : Array Value) : Prop := ∃ a c, g = #[.bool n, .slice a xs.length c] ∧ OwI xs W lo hi (.slice a xs.length c)
theorem far_XW (n : Bool) (xs : List Int) : Far (XW n xs) := fun W W' lo hi v h hf hs => by
  obtain ⟨a, c, e, o⟩ := h
  exact ⟨a, c, e, far_OwI xs W W' lo hi _ o hf hs⟩
theorem shape_XW {n : Bool} {xs : List Int} (W : World) (lo hi : Nat) (g : Array Value) (h : XW n xs W lo hi g) : ∃ a c, g = #[.bool n, .slice a xs.length c] := by
  obtain ⟨a, c, e, o⟩ := h
  exact ⟨a, c, e⟩
/-- how many values are left of the bound -/
def leftN (left : Int) (len : Nat) : Int := if left < (len : Int) then -1 else left - len
theorem leftN_ok {left : Int} {len : Nat} (h : ¬ leftN left len < 0) (h0 : 0 ≤ left) : (len : Int) ≤ left ∧ leftN left len = left - len ∧ 0 ≤ leftN left len := by
  unfold leftN at *
  split at h
  · omega
  · rename_i h2
    rw [if_neg h2]
    omega
theorem kw_sz (n : Bool) (a : Option Addr) (len cap : Nat) (left : Int) (W : World) (hl : len ≤ 9223372036854775807) (h0 : 0 ≤ left) (h1 : left ≤ 1048576) :
    Calls Tryd.prog 45 #[.agg #[.bool n, .slice a len cap], .int .i64 left] W fun e w' => e = .returned (.int .i64 (leftN left len)) ∧ Old W w' := by
  unfold leftN
  split
  · rename_i h
    exact szWhole_no n a len cap left W hl h0 h1 h
  · rename_i h
    exact szWhole_yes n a len cap left W hl h0 h1 h
theorem kw_to (n : Bool) (xs : List Int) (v : Value) (W : World) (h : Row W v xs) (hl : xs.length ≤ 1048576) :
    Calls Tryd.prog 47 #[.agg #[.bool n, v]] W fun e w' => ∃ g, e = .returned (.agg g) ∧ Old W w' ∧ XW n xs w' W.heap.size w'.heap.size g := by
  refine (toWhole_any n xs v W h hl).mono ?_
  rintro e w' ⟨v', rfl, g, o⟩
  obtain ⟨a, c, rfl⟩ := (Own.row o).slice
  exact ⟨_, rfl, g, a, c, rfl, OwI.of o⟩
theorem kw_eq (n : Bool) (xs : List Int) (W : World) (lo hi : Nat) (g : Array Value) (lo' hi' : Nat) (g' : Array Value) (h : XW n xs W lo hi g) (h' : XW n xs W lo' hi' g') (hl : xs.length ≤ 1073741824) :
    Calls Tryd.prog 14 #[.agg g, .agg g'] W fun e w' => e = .returned (.bool true) ∧ Old W w' := by
  obtain ⟨a, c, rfl, o⟩ := h
  obtain ⟨a', c', rfl, o'⟩ := h'
  exact eqWhole_yes n xs _ _ W o.row o'.row hl
theorem kw_mark (n : Bool) (xs : List Int) (k : Int) (W : World) (lo hi : Nat) (g : Array Value) (h : XW n xs W lo hi g) (hl : xs.length ≤ 1048576) (hk : 0 ≤ k) (hk' : k ≤ 1073741824) :
    Calls Tryd.prog 17 #[.agg g, .int .i64 k] W fun e w' => e = .returned (.int .i64 (k + xs.length)) ∧ Chg W w' lo hi := by
  obtain ⟨a, c, rfl, o⟩ := h
  refine (markWhole_any n xs _ k lo W o.1 (by omega) hk hk').mono ?_
  rintro e w' ⟨rfl, gr, ow⟩
  exact ⟨rfl, (o.mark gr ow).1⟩
end Go.Proofs.YtcbbljadjibfeaaDoor
