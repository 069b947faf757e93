/- Proved: a struct in a block of its own stays where only others are written; no function of the program. -/
import Derived.Test.YtpcpahgflkjnaaaFar
namespace Go.Proofs.Ytpcpahgflkjnaaa
open Go.ChangeShapes Go.WideShapes Go.ChangeAt Go.RowKit
set_option linter.unusedVariables false
set_option linter.unusedSimpArgs false
/-- block k holds these cells -/
def Bk (w : World) (k : Nat) (cs : Array Value) (t : TypeId) : Prop := w.heap[k]? = some (.cells cs t (0, 0))
theorem Bk.lt {w : World} {k : Nat} {cs : Array Value} {t : TypeId} (h : Bk w k cs t) : k < w.heap.size := (Array.getElem?_eq_some_iff.1 h).1
theorem Bk.old {w w' : World} {k : Nat} {cs : Array Value} {t : TypeId} (h : Bk w k cs t) (g : Old w w') : Bk w' k cs t := (g.block k h.lt).trans h
theorem Bk.chg {w w' : World} {k : Nat} {cs : Array Value} {t : TypeId} {lo hi : Nat} (h : Bk w k cs t) (c : Chg w w' lo hi) (hk : k < lo ∨ hi ≤ k) : Bk w' k cs t := (c.block k h.lt hk).trans h
theorem Bk.new' (w : World) {k : Nat} (cs : Array Value) (t : TypeId) (hk : w.heap.size = k) : Bk (w.alloc (.cells cs t)) k cs t := by
  subst hk
  exact heap_alloc_new w _
theorem Bk.alloc {w : World} {k : Nat} {cs : Array Value} {t : TypeId} (h : Bk w k cs t) (o : Obj) : Bk (w.alloc o) k cs t := h.old ((Old.refl w).alloc o)
theorem Bk.c {w : World} {k : Nat} {cs : Array Value} {t : TypeId} (h : Bk w k cs t) {i : Nat} {v : Value} (hi : cs[i]? = some v) : w.cell? ⟨k, i, none⟩ = some v := by
  rw [← hi]
  exact cell_of_row w k i cs t (0, 0) h
end Go.Proofs.Ytpcpahgflkjnaaa
