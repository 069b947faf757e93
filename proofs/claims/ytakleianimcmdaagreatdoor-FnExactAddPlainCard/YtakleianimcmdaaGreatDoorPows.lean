/- Proved: the powers of a root, once round, in an array of 32 numbers. -/
import Derived.Test.YtakleianimcmdaaGreatDoorSlB
import Derived.Deep.WholeRow
import Derived.Laws.ResultCell
namespace Go.Proofs.YtakleianimcmdaaGreatDoor
open Go.ChangeShapes Go.WideShapes Go.ChangeAt Go.RowKit
set_option linter.unusedVariables false
set_option linter.unusedSimpArgs false
def pwA (ls : List Nat) : Array Value := (ls.map (fun n : Nat => Value.int .i64 (n : Int))).toArray
theorem pwA_at {ls : List Nat} (h : ls.length = 32) {j : Nat} (hj : j < 32) : (pwA ls)[j]? = some (.int .i64 ((ls.getD j 0 : Nat) : Int)) := by
  simp [pwA, h, hj, List.getD]
theorem pwA_set {ls : List Nat} (h : ls.length = 32) {j : Nat} (hj : j < 32) (y : Nat) : (pwA ls).setIfInBounds j (.int .i64 (y : Int)) = pwA (ls.set j y) := by
  simp only [pwA, List.setIfInBounds_toArray]
  congr 1
  simp [List.map_set]
structure Pw (w : World) (g : Nat) (ls : List Nat) : Prop where
  blk : w.heap[g]? = some (.cells (pwA ls) 211 (0, 0))
  len : ls.length = 32
theorem Pw.lt {w : World} {g : Nat} {ls : List Nat} (h : Pw w g ls) : g < w.heap.size := (Array.getElem?_eq_some_iff.1 h.blk).1
theorem Pw.at {w : World} {g : Nat} {ls : List Nat} (h : Pw w g ls) {j : Nat} (hj : j < 32) : w.cell? ⟨g, j, none⟩ = some (.int .i64 ((ls.getD j 0 : Nat) : Int)) := by
  rw [cell_of_row _ _ _ _ _ _ h.blk, pwA_at h.len hj]
theorem Pw.fro {w : World} {g : Nat} {ls : List Nat} (h : Pw w g ls) (j : Nat) : w.frozen? ⟨g, j, none⟩ = false := frozen_of_row _ _ _ _ _ h.blk
theorem Pw.old {w w' : World} {g : Nat} {ls : List Nat} (h : Pw w g ls) (o : Old w w') : Pw w' g ls := ⟨by rw [o.block g h.lt]; exact h.blk, h.len⟩
theorem Pw.by_ {w w' : World} {g : Nat} {ls : List Nat} {ob : Option Nat} (h : Pw w g ls) (o : w.grownBy w' ob) (hne : ∀ k, ob = some k → k ≠ g) : Pw w' g ls := ⟨(o.block g h.lt (fun e => hne g e.symm rfl)).trans h.blk, h.len⟩
theorem Pw.set {w : World} {g : Nat} {ls : List Nat} (h : Pw w g ls) {j : Nat} (hj : j < 32) (y : Nat) : Pw (w.setCell ⟨g, j, none⟩ (.int .i64 (y : Int))) g (ls.set j y) :=
  ⟨by rw [heap_setCell_same w g j _ _ _ h.blk, pwA_set h.len hj y], by rw [List.length_set, h.len]⟩
theorem Pw.other {w : World} {g : Nat} {ls : List Nat} (h : Pw w g ls) (p : Addr) (hp : g ≠ p.block) (v : Value) : Pw (w.setCell p v) g ls :=
  ⟨by rw [heap_setCell_other w p g v hp]; exact h.blk, h.len⟩
theorem Pw.row {w : World} {g : Nat} {ls : List Nat} (h : Pw w g ls) (ls' : List Nat) (hl : ls'.length = 32) : Pw (w.setRow g (pwA ls')) g ls' :=
  ⟨setRow_heap w g _ _ _ _ h.blk, hl⟩
theorem Pw.new' (w : World) (ls : List Nat) (g : Nat) (hl : ls.length = 32) (hg : g = w.heap.size) : Pw (w.alloc (.cells (pwA ls) 211)) g ls := by subst hg; exact ⟨heap_alloc_new w _, hl⟩
section
variable {ops : Array Oper} {rest : List Oper} {a : Act} {w : World} {Q : Exit → Act → World → Prop} {ty : TypeId} {pos : String} {d : Option Tmp} {x y : Operand}
end
end Go.Proofs.YtakleianimcmdaaGreatDoor
