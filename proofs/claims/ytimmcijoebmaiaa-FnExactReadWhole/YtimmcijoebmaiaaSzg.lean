/- Proved: sizes as rows of cells of any content: how they are loaded, stored and answered whole; the program's sizeOf at any limbs; no other function of the program. -/
import Derived.Test.YtimmcijoebmaiaaSzIn
import Derived.Test.YtimmcijoebmaiaaS02
import Derived.Deep.RegionLawGrows
namespace Go.Proofs.Ytimmcijoebmaiaa
open Go.ChangeShapes Go.WideShapes Go.ChangeAt Go.RowKit
open M2
set_option linter.unusedVariables false
set_option linter.unusedSimpArgs false
def Sq (S : Array Value) : Prop := S.size = 81 ∧ S.all (·.oneCell') = true
theorem sq_v {n : Nat} (h : cnt n ≤ 80) : Sq (szV n) := ⟨by unfold szV; exact szA_size (pad_len (by unfold cnt at h; omega)) _, szA_one _ _⟩
structure Sg (w : World) (g : Nat) (A : Array Value) : Prop where
  blk : w.heap[g]? = some (.cells A 45 (0, 0))
  sq : Sq A
theorem Sg.lt {w : World} {g : Nat} {A : Array Value} (h : Sg w g A) : g < w.heap.size := (Array.getElem?_eq_some_iff.1 h.blk).1
theorem Sg.old {w w' : World} {g : Nat} {A : Array Value} (h : Sg w g A) (o : Old w w') : Sg w' g A := ⟨by rw [o.block g h.lt]; exact h.blk, h.sq⟩
theorem Sg.row {w : World} {g : Nat} {A : Array Value} (h : Sg w g A) (B : Array Value) (hB : Sq B) : Sg (w.setRow g B) g B := ⟨setRow_heap w g _ _ _ _ h.blk, hB⟩
theorem Sg.otherRow {w : World} {g : Nat} {A : Array Value} (h : Sg w g A) {g' : Nat} (hg : g ≠ g') (cs : Array Value) : Sg (w.setRow g' cs) g A := ⟨by rw [setRow_other w g' g cs hg]; exact h.blk, h.sq⟩
theorem Sg.alloc {w : World} {g : Nat} {A : Array Value} (h : Sg w g A) (o : Obj) : Sg (w.alloc o) g A := ⟨by rw [show (w.alloc o).heap[g]? = w.heap[g]? from heap_alloc_old w o h.lt]; exact h.blk, h.sq⟩
theorem Sg.new (w : World) (A : Array Value) (g : Nat) (hA : Sq A) (hg : g = w.heap.size) : Sg (w.alloc (.cells A 45)) g A := by subst hg; exact ⟨heap_alloc_new w _, hA⟩
theorem sq_zero : Sq Try.zeroCells45 := by rw [szZero]; exact ⟨szA_size (ext_len (by simp)) _, szA_one _ _⟩
theorem Sg.zero (w : World) (g : Nat) (hg : g = w.heap.size) : Sg (w.alloc (.cells Try.zeroCells45 45)) g Try.zeroCells45 := Sg.new w _ g sq_zero hg
theorem Bk.otherRow {w : World} {k : Nat} {vs : Array Value} {t : TypeId} (h : Bk w k vs t) {g : Nat} (hg : k ≠ g) (cs : Array Value) : Bk (w.setRow g cs) k vs t := (setRow_other w g k cs hg).trans h
section
variable {ops : Array Oper} {rest : List Oper} {a : Act} {w : World} {Q : Exit → Act → World → Prop} {ty : TypeId} {pos : String} {d : Option Tmp} {x y : Operand}
theorem load_sg {af : Array Edge} {g : Nat} {A : Array Value} (hs : Sg w g A) (hx : a.eval x = .pointer (some ⟨g, 0, none⟩))
    (h : wpList Try.prog ops Q rest (a.put d (.agg A)) w) : wpList Try.prog ops Q (⟨d, .load 45 x, ty, pos, af, none⟩ :: rest) a w :=
  wpList_load_row rfl 45 x rfl g hx 45 A (0, 0) _ hs.blk Try.underlying45 rfl (by rw [hs.sq.1]; exact infoSz) h
end
end Go.Proofs.Ytimmcijoebmaiaa
