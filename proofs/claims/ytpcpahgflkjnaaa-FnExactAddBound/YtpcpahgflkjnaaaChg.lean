/- Proved: what lies between two block numbers stays as it is where only others are written; no function of the program. -/
import Derived.Test.YtpcpahgflkjnaaaRow
namespace Go.Proofs.Ytpcpahgflkjnaaa
open Go.ChangeShapes Go.WideShapes Go.ChangeAt Go.RowKit
set_option linter.unusedVariables false
set_option linter.unusedSimpArgs false
/-- only blocks from lo up to hi (hi itself not) have been written, and new ones made -/
structure Chg (w w' : World) (lo hi : Nat) : Prop where
  os : w'.os = w.os
  tape : w'.tape = w.tape
  output : w'.output = w.output
  size : w.heap.size ≤ w'.heap.size
  block : ∀ b, b < w.heap.size → (b < lo ∨ hi ≤ b) → w'.heap[b]? = w.heap[b]?
theorem Old.toChg {w w' : World} (h : Old w w') (lo hi : Nat) : Chg w w' lo hi := ⟨h.os, h.tape, h.output, h.size, fun b hb _ => h.block b hb⟩
theorem Chg.trans {a b c : World} {lo hi : Nat} (h : Chg a b lo hi) (k : Chg b c lo hi) : Chg a c lo hi :=
  ⟨k.os.trans h.os, k.tape.trans h.tape, k.output.trans h.output, Nat.le_trans h.size k.size, fun i hi ho => (k.block i (Nat.lt_of_lt_of_le hi h.size) ho).trans (h.block i hi ho)⟩
theorem Chg.wide {w w' : World} {lo hi lo' hi' : Nat} (h : Chg w w' lo hi) (h1 : lo' ≤ lo) (h2 : hi ≤ hi') : Chg w w' lo' hi' :=
  ⟨h.os, h.tape, h.output, h.size, fun b hb ho => h.block b hb (by omega)⟩
theorem Old.chg {a w w' : World} {lo hi : Nat} (h : Old a w) (c : Chg w w' lo hi) (hlo : a.heap.size ≤ lo) : Old a w' :=
  ⟨c.os.trans h.os, c.tape.trans h.tape, c.output.trans h.output, Nat.le_trans h.size c.size, fun b hb => (c.block b (Nat.lt_of_lt_of_le hb h.size) (Or.inl (Nat.lt_of_lt_of_le hb hlo))).trans (h.block b hb)⟩
theorem chg_by {w w' : World} {ob : Option Nat} {lo hi : Nat} (g : w.grownBy w' ob) (hb : ∀ b, ob = some b → lo ≤ b ∧ b < hi) : Chg w w' lo hi :=
  ⟨g.os, g.tape, g.output, g.size, fun b hl ho => g.block b hl (fun h => by have := hb b h.symm; omega)⟩
/-- what a predicate says hangs on the blocks from lo up to hi alone -/
def Far {α : Type} (R : World → Nat → Nat → α → Prop) : Prop := ∀ W W' lo hi v, R W lo hi v → (∀ b, lo ≤ b → b < hi → W'.heap[b]? = W.heap[b]?) → W.heap.size ≤ W'.heap.size → R W' lo hi v
theorem Far.old {α : Type} {R : World → Nat → Nat → α → Prop} (f : Far R) {W W' : World} {lo hi : Nat} {v : α} (h : R W lo hi v) (g : Old W W') (hh : hi ≤ W.heap.size) : R W' lo hi v :=
  f W W' lo hi v h (fun b _ hb => g.block b (by omega)) g.size
theorem Far.chg {α : Type} {R : World → Nat → Nat → α → Prop} (f : Far R) {W W' : World} {lo hi lo' hi' : Nat} {v : α} (h : R W lo hi v) (c : Chg W W' lo' hi') (hh : hi ≤ W.heap.size) (hd : hi ≤ lo' ∨ hi' ≤ lo) : R W' lo hi v :=
  f W W' lo hi v h (fun b h1 h2 => c.block b (by omega) (by omega)) c.size
theorem Own.chg {w w' : World} {base lo hi : Nat} {v : Value} {xs : List Int} (h : Own w base v xs) (c : Chg w w' lo hi) (hne : ∀ g, v.ownBlock = some g → g < lo ∨ hi ≤ g) : Own w' base v xs := by
  refine ⟨h.1, ?_⟩
  rcases h.2 with hn | ⟨p, cap, cur, rfl, hb, hgg, rest⟩
  · exact .inl hn
  · refine .inr ⟨p, cap, cur, rfl, hb, ?_, rest⟩
    rw [c.block p (Array.getElem?_eq_some_iff.1 hgg).1 (hne p rfl)]
    exact hgg
theorem Row.chg {w w' : World} {lo hi : Nat} {v : Value} {xs : List Int} (h : Row w v xs) (c : Chg w w' lo hi) (hne : ∀ b o n cap, v = .slice (some ⟨b, o, none⟩) n cap → b < lo ∨ hi ≤ b) : Row w' v xs := by
  rcases h with h1 | ⟨b, o, cap, e, hb, h0, hc⟩
  · exact Or.inl h1
  · refine Or.inr ⟨b, o, cap, e, Nat.lt_of_lt_of_le hb c.size, h0, fun j hj => ?_⟩
    rw [← hc j hj]
    exact World.cell?_of_block (c.block b hb (hne b o _ cap e))
end Go.Proofs.Ytpcpahgflkjnaaa
