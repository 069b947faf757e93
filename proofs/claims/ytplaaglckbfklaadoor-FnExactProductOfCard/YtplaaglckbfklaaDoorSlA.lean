/- Proved: what is carried through a statement on lists: a ring's cells, rows of the call's own; and a ring's copy. -/
import Derived.Test.YtplaaglckbfklaaDoorHelp
import Derived.Test.YtplaaglckbfklaaDoorRingB
namespace Go.Proofs.YtplaaglckbfklaaDoor
open Go.ChangeShapes Go.WideShapes Go.ChangeAt Go.RowKit
set_option linter.unusedVariables false
theorem Own.by_ {w w' : World} {base : Nat} {v : Value} {xs : List Int} {ob : Option Nat} (h : Own w base v xs) (g : w.grownBy w' ob) (hne : ∀ a b, v.ownBlock = some a → ob = some b → a ≠ b) : Own w' base v xs := by
  refine World.ownsRow.kept h g ?_
  cases hv : v.ownBlock with
  | none => exact Or.inl rfl
  | some a =>
    refine Or.inr (fun e => ?_)
    exact hne a a hv e.symm rfl
theorem Old.by_ {a w w' : World} {ob : Option Nat} (h : Old a w) (g : w.grownBy w' ob) (hb : ∀ b, ob = some b → a.heap.size ≤ b) : Old a w' := Below.grown h g h.size hb
theorem own_lt {w : World} {base k n c : Nat} {xs : List Int} (h : Own w base (.slice (some ⟨k, 0, none⟩) n c) xs) : k < w.heap.size := by
  rcases h.2 with ⟨e, _⟩ | ⟨g, cap, cur, e, hb, hg, _⟩
  · cases e
  · injection e with e1 e2 e3
    injection e1 with e4
    injection e4 with e5
    rw [e5]
    exact (Array.getElem?_eq_some_iff.1 hg).1
/-- a ring's three cells in a block -/
structure Rc (w : World) (b : Nat) (p n r : Int) : Prop where
  lt : b < w.heap.size
  c0 : w.cell? ⟨b, 0, none⟩ = some (.int .i64 p)
  c1 : w.cell? ⟨b, 1, none⟩ = some (.int .i64 n)
  c2 : w.cell? ⟨b, 2, none⟩ = some (.int .i64 r)
theorem Rc.new (w : World) (p n r : Int) {t : TypeId} : Rc (w.alloc (.cells #[.int .i64 p, .int .i64 n, .int .i64 r] t)) w.heap.size p n r :=
  ⟨by simp, cell_at _ _ _ _ _ rfl, cell_at _ _ _ _ _ rfl, cell_at _ _ _ _ _ rfl⟩
theorem Rc.old {w w' : World} {b : Nat} {p n r : Int} (h : Rc w b p n r) (g : Old w w') : Rc w' b p n r :=
  ⟨Nat.lt_of_lt_of_le h.lt g.size, (g.cell (p := ⟨b, 0, none⟩) h.lt).trans h.c0, (g.cell (p := ⟨b, 1, none⟩) h.lt).trans h.c1, (g.cell (p := ⟨b, 2, none⟩) h.lt).trans h.c2⟩
theorem Rc.by_ {w w' : World} {b : Nat} {p n r : Int} {ob : Option Nat} (h : Rc w b p n r) (g : w.grownBy w' ob) (hne : ∀ k, ob = some k → k ≠ b) : Rc w' b p n r := by
  have hb := g.block b h.lt (fun e => hne b e.symm rfl)
  exact ⟨Nat.lt_of_lt_of_le h.lt g.size, (World.cell?_of_block (w := w) (a := ⟨b, 0, none⟩) hb).trans h.c0, (World.cell?_of_block (w := w) (a := ⟨b, 1, none⟩) hb).trans h.c1, (World.cell?_of_block (w := w) (a := ⟨b, 2, none⟩) hb).trans h.c2⟩
theorem toRing_any (a b c : Int) (w : World) :
    Calls Tryd.prog 43 #[.agg #[.int .i64 a, .int .i64 b, .int .i64 c]] w fun e w' => e = .returned (.agg #[.int .i64 a, .int .i64 b, .int .i64 c]) ∧ Old w w' := by
  go_enter Tryd.func43, Tryd.ntmps43
  go_wp2
  refine bodyPost_ret (v := .agg #[.int .i64 a, .int .i64 b, .int .i64 c]) (by simp [results, Tryd.results43, go_sem]) rfl ⟨rfl, ?_⟩
  repeat (first | exact Old.refl _ | apply Old.drewN | apply Old.alloc | (refine Old.own ?_ (by simp) _))
end Go.Proofs.YtplaaglckbfklaaDoor
