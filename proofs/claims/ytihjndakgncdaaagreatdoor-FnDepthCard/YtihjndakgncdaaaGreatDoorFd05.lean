/- Proved: several texts in one: what each proves is said ahead of it. -/
import Derived.Test.YtihjndakgncdaaaGreatDoorFd00
import Derived.Deep.RegionWith
/- Proved: the walk of the statement on GoodWhole, under the contract of the program's own function. -/
namespace Go.Proofs.YtihjndakgncdaaaGreatDoor
open Go.ChangeShapes Go.WideShapes Go.ChangeAt Go.RowKit
open M2
set_option linter.unusedVariables false
set_option linter.unusedSimpArgs false
abbrev StW (w : World) (k : Nat) (x y : Value) (t : TypeId) : Prop := w.heap[k]? = some (.cells #[x, y] t (0, 0))
theorem StW.c0 {w : World} {k : Nat} {x y : Value} {t : TypeId} (h : StW w k x y t) : w.cell? ⟨k, 0, none⟩ = some x := cell_of_row w k 0 _ t (0, 0) h
theorem StW.c1 {w : World} {k : Nat} {x y : Value} {t : TypeId} (h : StW w k x y t) : w.cell? ⟨k, 1, none⟩ = some y := cell_of_row w k 1 _ t (0, 0) h
theorem StW.f0 {w : World} {k : Nat} {x y : Value} {t : TypeId} (h : StW w k x y t) : w.frozen? ⟨k, 0, none⟩ = false := frozen_of_row w k 0 _ t h
theorem StW.f1 {w : World} {k : Nat} {x y : Value} {t : TypeId} (h : StW w k x y t) : w.frozen? ⟨k, 1, none⟩ = false := frozen_of_row w k 1 _ t h
theorem StW.lt {w : World} {k : Nat} {x y : Value} {t : TypeId} (h : StW w k x y t) : k < w.heap.size := (Array.getElem?_eq_some_iff.1 h).1
theorem StW.old {w w' : World} {k : Nat} {x y : Value} {t : TypeId} (h : StW w k x y t) (g : Old w w') : StW w' k x y t := (g.block k h.lt).trans h
theorem StW.new (w : World) (x y : Value) (t : TypeId) : StW (w.alloc (.cells #[x, y] t)) w.heap.size x y t := heap_alloc_new w _
end Go.Proofs.YtihjndakgncdaaaGreatDoor
/- Proved: structs of two cells under writes into other blocks; no function of the program. -/
namespace Go.Proofs.YtihjndakgncdaaaGreatDoor
open Go.ChangeShapes Go.WideShapes Go.ChangeAt Go.RowKit
set_option linter.unusedVariables false
set_option linter.unusedSimpArgs false
theorem StW.at2 (w : World) (x y x' y' : Value) (t t' : TypeId) : StW ((w.alloc (.cells #[x, y] t)).alloc (.cells #[x', y'] t')) (w.heap.size + 1) x' y' t' := heap_alloc2_new w _ _
theorem StW.at1 (w : World) (x y x' y' : Value) (t t' : TypeId) : StW ((w.alloc (.cells #[x, y] t)).alloc (.cells #[x', y'] t')) w.heap.size x y t := heap_alloc2_old w _ _
end Go.Proofs.YtihjndakgncdaaaGreatDoor
/- Proved: a struct in a block of its own stays where only others are written; no function of the program. -/
namespace Go.Proofs.YtihjndakgncdaaaGreatDoor
open Go.ChangeShapes Go.WideShapes Go.ChangeAt Go.RowKit
set_option linter.unusedVariables false
set_option linter.unusedSimpArgs false
def Bk (w : World) (k : Nat) (cs : Array Value) (t : TypeId) : Prop := w.heap[k]? = some (.cells cs t (0, 0))
theorem Bk.lt {w : World} {k : Nat} {cs : Array Value} {t : TypeId} (h : Bk w k cs t) : k < w.heap.size := (Array.getElem?_eq_some_iff.1 h).1
theorem Bk.old {w w' : World} {k : Nat} {cs : Array Value} {t : TypeId} (h : Bk w k cs t) (g : Old w w') : Bk w' k cs t := (g.block k h.lt).trans h
theorem Bk.chg {w w' : World} {k : Nat} {cs : Array Value} {t : TypeId} {lo hi : Nat} (h : Bk w k cs t) (c : Chg w w' lo hi) (hk : k < lo ∨ hi ≤ k) : Bk w' k cs t := (c.block k h.lt hk).trans h
theorem Bk.new' (w : World) {k : Nat} (cs : Array Value) (t : TypeId) (hk : w.heap.size = k) : Bk (w.alloc (.cells cs t)) k cs t := by
  subst hk
  exact heap_alloc_new w _
theorem Bk.alloc {w : World} {k : Nat} {cs : Array Value} {t : TypeId} (h : Bk w k cs t) (o : Obj) : Bk (w.alloc o) k cs t := h.old ((Old.refl w).alloc o)
theorem Bk.c {w : World} {k : Nat} {cs : Array Value} {t : TypeId} (h : Bk w k cs t) {i : Nat} {v : Value} (hi : cs[i]? = some v) : w.cell? ⟨k, i, none⟩ = some v := by
  rw [← hi]
  exact cell_of_row w k i cs t (0, 0) h
end Go.Proofs.YtihjndakgncdaaaGreatDoor
/- Proved: contracts of the model's functions on whole numbers of any length. -/
namespace Go.Proofs.YtihjndakgncdaaaGreatDoor
open Go.ChangeShapes Go.WideShapes Go.ChangeAt Go.RowKit
open M2
set_option linter.unusedVariables false
set_option linter.unusedSimpArgs false
def sv (neg : Bool) (xs : List Nat) : Int := if neg then -(val xs : Int) else (val xs : Int)
def Gw (neg : Bool) (xs : List Nat) : Prop := Nrm xs ∧ (neg = true → xs ≠ [])
def dg (z : Int) : List Nat := dig z.natAbs
theorem Gw.pos {neg : Bool} {xs : List Nat} (h : Gw neg xs) (hn : neg = true) : 0 < val xs := by
  rcases Nat.eq_zero_or_pos (val xs) with h0 | h0
  · exact absurd (val_zero_of h.1 h0) (h.2 hn)
  · exact h0
end Go.Proofs.YtihjndakgncdaaaGreatDoor
/- Proved: contracts of the model's sums, products and quotients of whole numbers, by what the numbers are worth. -/
namespace Go.Proofs.YtihjndakgncdaaaGreatDoor
open Go.ChangeShapes Go.WideShapes Go.ChangeAt Go.RowKit
open M2
set_option linter.unusedVariables false
set_option linter.unusedSimpArgs false
theorem div_any (xs ys : List Nat) (v u : Value) (w : World) (hv : Row w v (toI xs)) (hu : Row w u (toI ys)) (ha : Lim xs) (hb : Nrm ys) (hl : ys ≠ []) (la : xs.length ≤ 1048576) (lb : ys.length ≤ 1048000) :
    Calls Tryz.prog 53 #[v, u] w fun e w' => ∃ v1 v2, e = .returned (.tuple #[v1, v2]) ∧ Old w w' ∧ Own w' w.heap.size v1 (toI (dig (val xs / val ys))) ∧ Own w' w.heap.size v2 (toI (dig (val xs % val ys))) := by
  by_cases h1 : ys.length = 1
  · obtain ⟨d, rfl⟩ := List.length_eq_one_iff.1 h1
    have hd : d ≠ 0 := by have := hb.2 (by simp); simpa using this
    have hd2 := hb.1.head
    have e : val [d] = d := by simp [val]
    rw [e]
    exact div1_any xs d v u w hv hu ha (by omega) hd2 la
  · have h0 : ys.length ≠ 0 := fun h => hl (List.length_eq_zero_iff.1 h)
    exact div2_any xs ys v u w hv hu ha hb (by omega) la lb
end Go.Proofs.YtihjndakgncdaaaGreatDoor
/- Proved: contracts of the model's nearest quotient, of words as whole numbers, of what is left by a word and of comparing, by what the numbers are worth. -/
namespace Go.Proofs.YtihjndakgncdaaaGreatDoor
open Go.ChangeShapes Go.WideShapes Go.ChangeAt Go.RowKit
open M2
set_option linter.unusedVariables false
set_option linter.unusedSimpArgs false
def cmpI (x y : Int) : Int := if x < y then -1 else if y < x then 1 else 0
end Go.Proofs.YtihjndakgncdaaaGreatDoor
/- Proved: things made of blocks of memory (rows, structs of them, slices of these): what stays where other blocks are written; no function of the program. -/
namespace Go.Proofs.YtihjndakgncdaaaGreatDoor
open Go.ChangeShapes Go.WideShapes Go.ChangeAt Go.RowKit
set_option linter.unusedVariables false
set_option linter.unusedSimpArgs false
theorem own_farB {W W' : World} {base : Nat} {v : Value} {xs : List Int} (h : Own W base v xs) (hf : ∀ b, v.ownBlock = some b → W'.heap[b]? = W.heap[b]?) : Own W' base v xs := by
  refine ⟨h.1, ?_⟩
  rcases h.2 with hn | ⟨p, cap, cur, rfl, hb, hgg, rest⟩
  · exact .inl hn
  · exact .inr ⟨p, cap, cur, rfl, hb, (hf p rfl).trans hgg, rest⟩
end Go.Proofs.YtihjndakgncdaaaGreatDoor
