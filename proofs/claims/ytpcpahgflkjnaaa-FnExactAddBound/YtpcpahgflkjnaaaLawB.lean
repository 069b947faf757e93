/- Proved: structs of two cells under writes into other blocks; no function of the program. -/
import Derived.Test.YtpcpahgflkjnaaaLawA
import Derived.Test.YtpcpahgflkjnaaaLimbs
namespace Go.Proofs.Ytpcpahgflkjnaaa
open Go.ChangeShapes Go.WideShapes Go.ChangeAt Go.RowKit
set_option linter.unusedVariables false
set_option linter.unusedSimpArgs false
theorem StW.at2 (w : World) (x y x' y' : Value) (t t' : TypeId) : StW ((w.alloc (.cells #[x, y] t)).alloc (.cells #[x', y'] t')) (w.heap.size + 1) x' y' t' := heap_alloc2_new w _ _
theorem StW.at1 (w : World) (x y x' y' : Value) (t t' : TypeId) : StW ((w.alloc (.cells #[x, y] t)).alloc (.cells #[x', y'] t')) w.heap.size x y t := heap_alloc2_old w _ _
theorem StW.byW_ {w w' : World} {k : Nat} {x y : Value} {t : TypeId} {ob : Option Nat} (h : StW w k x y t) (g : w.grownBy w' ob) (hne : ∀ b, ob = some b → b ≠ k) : StW w' k x y t :=
  (g.block k h.lt (fun e => hne k e.symm rfl)).trans h
theorem Own.byW_ {w w' : World} {base : Nat} {v : Value} {xs : List Int} {ob : Option Nat} (h : Own w base v xs) (g : w.grownBy w' ob) (hne : ∀ a b, v.ownBlock = some a → ob = some b → a ≠ b) : Own w' base v xs := by
  refine World.ownsRow.kept h g ?_
  cases hv : v.ownBlock with
  | none => exact Or.inl rfl
  | some a =>
    refine Or.inr (fun e => ?_)
    exact hne a a hv e.symm rfl
theorem Old.byW_ {a w w' : World} {ob : Option Nat} (h : Old a w) (g : w.grownBy w' ob) (hb : ∀ b, ob = some b → a.heap.size ≤ b) : Old a w' := Below.grown h g h.size hb
/-- since w0 a struct has been made in block k that tells a sign and limbs, which lie in a row that is new as well -/
structure Made (w0 : World) (rb : Bool) (rl : List Nat) (W : World) (k : Nat) (a : Option Addr) (cap : Nat) : Prop where
  old : Old w0 W
  st : StW W k (.bool rb) (.slice a (toI rl).length cap) 26
  own : Own W w0.heap.size (.slice a (toI rl).length cap) (toI rl)
  lo : w0.heap.size ≤ k
theorem two_last {w0 w5 : World} {rb : Bool} {rl : List Nat} {a : Option Addr} {cap base : Nat} (g : Old w0 w5) (o : Own w5 base (.slice a (toI rl).length cap) (toI rl)) (hb : w0.heap.size ≤ base) :
    Made w0 rb rl (w5.alloc (.cells #[.bool rb, .slice a (toI rl).length cap] 26)) w5.heap.size a cap :=
  ⟨g.alloc _, StW.new _ _ _ _, (Own.low o hb).alloc _, g.size⟩
theorem two_made {w0 w5 : World} {rb : Bool} {rl : List Nat} {a : Option Addr} {cap base k : Nat} (g : Old w0 w5) (o : Own w5 base (.slice a (toI rl).length cap) (toI rl)) (s : StW w5 k (.bool false) (.slice none 0 0) 26) (hb : w0.heap.size ≤ base) (hk : w0.heap.size ≤ k) (hne : k < base) :
    Made w0 rb rl ((w5.setCell ⟨k, 0, none⟩ (.bool rb)).setCell ⟨k, 1, none⟩ (.slice a (toI rl).length cap)) k a cap := by
  refine ⟨(g.own (p := ⟨k, 0, none⟩) hk _).own (p := ⟨k, 1, none⟩) hk _, ?_, ?_, hk⟩
  · have h1 := heap_setCell_same w5 k 0 _ _ (.bool rb) s
    have h2 := heap_setCell_same _ k 1 _ _ (.slice a (toI rl).length cap) h1
    exact h2
  · refine Own.low (base := base) (ownsRow_setCell_other (ownsRow_setCell_other o (fun e => ?_) _) (fun e => ?_) _) hb
    · have := (o.lt k e).1; omega
    · have := (o.lt k e).1; omega
end Go.Proofs.Ytpcpahgflkjnaaa
