/- Proved: several texts in one: what each proves is said ahead of it. -/
import Derived.Test.YtpebikjckhcgfaaDoorZ00
import Derived.Deep.RegionWith
/- Proved: the walk of the statement on GoodWhole, under the contract of the program's own function. -/
namespace Go.Proofs.YtpebikjckhcgfaaDoor
open Go.ChangeShapes Go.WideShapes Go.ChangeAt Go.RowKit
open M2
set_option linter.unusedVariables false
set_option linter.unusedSimpArgs false
/-- a struct of two cells in a block of its own -/
abbrev StW (w : World) (k : Nat) (x y : Value) (t : TypeId) : Prop := w.heap[k]? = some (.cells #[x, y] t (0, 0))
theorem StW.c0 {w : World} {k : Nat} {x y : Value} {t : TypeId} (h : StW w k x y t) : w.cell? ⟨k, 0, none⟩ = some x := cell_of_row w k 0 _ t (0, 0) h
theorem StW.c1 {w : World} {k : Nat} {x y : Value} {t : TypeId} (h : StW w k x y t) : w.cell? ⟨k, 1, none⟩ = some y := cell_of_row w k 1 _ t (0, 0) h
theorem StW.f0 {w : World} {k : Nat} {x y : Value} {t : TypeId} (h : StW w k x y t) : w.frozen? ⟨k, 0, none⟩ = false := frozen_of_row w k 0 _ t h
theorem StW.f1 {w : World} {k : Nat} {x y : Value} {t : TypeId} (h : StW w k x y t) : w.frozen? ⟨k, 1, none⟩ = false := frozen_of_row w k 1 _ t h
theorem StW.lt {w : World} {k : Nat} {x y : Value} {t : TypeId} (h : StW w k x y t) : k < w.heap.size := (Array.getElem?_eq_some_iff.1 h).1
theorem StW.old {w w' : World} {k : Nat} {x y : Value} {t : TypeId} (h : StW w k x y t) (g : Old w w') : StW w' k x y t := (g.block k h.lt).trans h
theorem StW.new (w : World) (x y : Value) (t : TypeId) : StW (w.alloc (.cells #[x, y] t)) w.heap.size x y t := heap_alloc_new w _
end Go.Proofs.YtpebikjckhcgfaaDoor
/- Proved: structs of two cells under writes into other blocks; no function of the program. -/
namespace Go.Proofs.YtpebikjckhcgfaaDoor
open Go.ChangeShapes Go.WideShapes Go.ChangeAt Go.RowKit
set_option linter.unusedVariables false
set_option linter.unusedSimpArgs false
theorem StW.at2 (w : World) (x y x' y' : Value) (t t' : TypeId) : StW ((w.alloc (.cells #[x, y] t)).alloc (.cells #[x', y'] t')) (w.heap.size + 1) x' y' t' := heap_alloc2_new w _ _
theorem StW.at1 (w : World) (x y x' y' : Value) (t t' : TypeId) : StW ((w.alloc (.cells #[x, y] t)).alloc (.cells #[x', y'] t')) w.heap.size x y t := heap_alloc2_old w _ _
theorem StW.byW_ {w w' : World} {k : Nat} {x y : Value} {t : TypeId} {ob : Option Nat} (h : StW w k x y t) (g : w.grownBy w' ob) (hne : ∀ b, ob = some b → b ≠ k) : StW w' k x y t :=
  (g.block k h.lt (fun e => hne k e.symm rfl)).trans h
theorem Own.byW_ {w w' : World} {base : Nat} {v : Value} {xs : List Int} {ob : Option Nat} (h : Own w base v xs) (g : w.grownBy w' ob) (hne : ∀ a b, v.ownBlock = some a → ob = some b → a ≠ b) : Own w' base v xs := by
  refine World.ownsRow.kept h g ?_
  cases hv : v.ownBlock with
  | none => exact Or.inl rfl
  | some a =>
    refine Or.inr (fun e => ?_)
    exact hne a a hv e.symm rfl
theorem Old.byW_ {a w w' : World} {ob : Option Nat} (h : Old a w) (g : w.grownBy w' ob) (hb : ∀ b, ob = some b → a.heap.size ≤ b) : Old a w' := Below.grown h g h.size hb
/-- since w0 a struct has been made in block k that tells a sign and limbs, which lie in a row that is new as well -/
structure Made (w0 : World) (rb : Bool) (rl : List Nat) (W : World) (k : Nat) (a : Option Addr) (cap : Nat) : Prop where
  old : Old w0 W
  st : StW W k (.bool rb) (.slice a (toI rl).length cap) 68
  own : Own W w0.heap.size (.slice a (toI rl).length cap) (toI rl)
  lo : w0.heap.size ≤ k
theorem two_last {w0 w5 : World} {rb : Bool} {rl : List Nat} {a : Option Addr} {cap base : Nat} (g : Old w0 w5) (o : Own w5 base (.slice a (toI rl).length cap) (toI rl)) (hb : w0.heap.size ≤ base) :
    Made w0 rb rl (w5.alloc (.cells #[.bool rb, .slice a (toI rl).length cap] 68)) w5.heap.size a cap :=
  ⟨g.alloc _, StW.new _ _ _ _, (Own.low o hb).alloc _, g.size⟩
theorem two_made {w0 w5 : World} {rb : Bool} {rl : List Nat} {a : Option Addr} {cap base k : Nat} (g : Old w0 w5) (o : Own w5 base (.slice a (toI rl).length cap) (toI rl)) (s : StW w5 k (.bool false) (.slice none 0 0) 68) (hb : w0.heap.size ≤ base) (hk : w0.heap.size ≤ k) (hne : k < base) :
    Made w0 rb rl ((w5.setCell ⟨k, 0, none⟩ (.bool rb)).setCell ⟨k, 1, none⟩ (.slice a (toI rl).length cap)) k a cap := by
  refine ⟨(g.own (p := ⟨k, 0, none⟩) hk _).own (p := ⟨k, 1, none⟩) hk _, ?_, ?_, hk⟩
  · have h1 := heap_setCell_same w5 k 0 _ _ (.bool rb) s
    have h2 := heap_setCell_same _ k 1 _ _ (.slice a (toI rl).length cap) h1
    exact h2
  · refine Own.low (base := base) (ownsRow_setCell_other (ownsRow_setCell_other o (fun e => ?_) _) (fun e => ?_) _) hb
    · have := (o.lt k e).1; omega
    · have := (o.lt k e).1; omega
end Go.Proofs.YtpebikjckhcgfaaDoor
/- Proved: a struct of two cells stays where only others are written; no function of the program. -/
namespace Go.Proofs.YtpebikjckhcgfaaDoor
open Go.ChangeShapes Go.WideShapes Go.ChangeAt Go.RowKit
set_option linter.unusedVariables false
set_option linter.unusedSimpArgs false
theorem StW.chg {w w' : World} {k : Nat} {x y : Value} {t : TypeId} {lo hi : Nat} (s : StW w k x y t) (c : Chg w w' lo hi) (hk : k < lo ∨ hi ≤ k) : StW w' k x y t := (c.block k s.lt hk).trans s
end Go.Proofs.YtpebikjckhcgfaaDoor
/- Proved: a struct in a block of its own stays where only others are written; no function of the program. -/
namespace Go.Proofs.YtpebikjckhcgfaaDoor
open Go.ChangeShapes Go.WideShapes Go.ChangeAt Go.RowKit
set_option linter.unusedVariables false
set_option linter.unusedSimpArgs false
/-- block k holds these cells -/
def Bk (w : World) (k : Nat) (cs : Array Value) (t : TypeId) : Prop := w.heap[k]? = some (.cells cs t (0, 0))
theorem Bk.lt {w : World} {k : Nat} {cs : Array Value} {t : TypeId} (h : Bk w k cs t) : k < w.heap.size := (Array.getElem?_eq_some_iff.1 h).1
theorem Bk.old {w w' : World} {k : Nat} {cs : Array Value} {t : TypeId} (h : Bk w k cs t) (g : Old w w') : Bk w' k cs t := (g.block k h.lt).trans h
theorem Bk.chg {w w' : World} {k : Nat} {cs : Array Value} {t : TypeId} {lo hi : Nat} (h : Bk w k cs t) (c : Chg w w' lo hi) (hk : k < lo ∨ hi ≤ k) : Bk w' k cs t := (c.block k h.lt hk).trans h
theorem Bk.new' (w : World) {k : Nat} (cs : Array Value) (t : TypeId) (hk : w.heap.size = k) : Bk (w.alloc (.cells cs t)) k cs t := by
  subst hk
  exact heap_alloc_new w _
theorem Bk.alloc {w : World} {k : Nat} {cs : Array Value} {t : TypeId} (h : Bk w k cs t) (o : Obj) : Bk (w.alloc o) k cs t := h.old ((Old.refl w).alloc o)
theorem Bk.c {w : World} {k : Nat} {cs : Array Value} {t : TypeId} (h : Bk w k cs t) {i : Nat} {v : Value} (hi : cs[i]? = some v) : w.cell? ⟨k, i, none⟩ = some v := by
  rw [← hi]
  exact cell_of_row w k i cs t (0, 0) h
end Go.Proofs.YtpebikjckhcgfaaDoor
