/- Proved: the contract of the draw of a whole number: some sign and at most 41 numbers are told, nothing panics, and nothing that was there changes but the cursor. -/
import Derived.Test.YtimmcijoebmaiaaDcu
import Derived.Deep.RegionHeld3
import Derived.Deep.DeepCutAuto
import Derived.Deep.CutRange
namespace Go.Proofs.Ytimmcijoebmaiaa
open Go.ChangeShapes Go.WideShapes Go.ChangeAt Go.RowKit
set_option linter.unusedVariables false
set_option linter.unusedSimpArgs false
theorem bk_put0W {w : World} {k : Nat} {x y : Value} {t : TypeId} (h : Bk w k #[x, y] t) (x' : Value) : Bk (w.setCell ⟨k, 0, none⟩ x') k #[x', y] t := (heap_setCell_same w k 0 _ _ x' h).trans rfl
theorem bk_put1W {w : World} {k : Nat} {x y : Value} {t : TypeId} (h : Bk w k #[x, y] t) (y' : Value) : Bk (w.setCell ⟨k, 1, none⟩ y') k #[x, y'] t := (heap_setCell_same w k 1 _ _ y' h).trans rfl
theorem row_far {w w' : World} {base n : Nat} {v : Value} {cs : List Value} (h : w.ownsRow base 3 1 v n cs) (hf : ∀ b, base ≤ b → b < w.heap.size → w'.heap[b]? = w.heap[b]?) : w'.ownsRow base 3 1 v n cs := by
  refine ⟨h.1, ?_⟩
  rcases h.2 with hn | ⟨p, cap, cur, rfl, hb, hgg, rest⟩
  · exact .inl hn
  · exact .inr ⟨p, cap, cur, rfl, hb, (hf p hb (Array.getElem?_eq_some_iff.1 hgg).1).trans hgg, rest⟩
theorem hid {P : Prop} (h : P) : Hid P := h
structure WSt (w : World) (code : Value) (len c kb n B : Nat) (nb : Bool) (a : Option Addr) (cp : Nat) (xs : List Int) (W : World) : Prop where
  hl : xs.length = n
  ho : W.ownsRow (kb + 1) 3 1 (.slice a n cp) n (xs.map (Value.int .i64))
  hk : Bk W kb #[.bool nb, .slice a n cp] 25
  hr : Bk W w.heap.size #[.bool false, .slice none 0 0] 25
  hc : Cu W code len c B
  hg : Chg w W c (c + 1)
  hlt : w.heap.size < kb
  hcl : c < w.heap.size
theorem WSt.neg {w W : World} {code : Value} {len c kb n B : Nat} {nb : Bool} {a : Option Addr} {cp : Nat} {xs : List Int} (h : WSt w code len c kb n B nb a cp xs W) (b : Bool) : WSt w code len c kb n B b a cp xs (W.setCell ⟨kb, 0, none⟩ (.bool b)) :=
  ⟨h.hl, row_far h.ho (fun b' hb _ => heap_setCell_other _ _ _ _ (by show b' ≠ kb; omega)), bk_put0W h.hk _, bk_other h.hr (by have := h.hlt; show w.heap.size ≠ kb; omega) _, cu_own h.hc (by have := h.hlt; have := h.hcl; show c < kb; omega) _, chg_own h.hg (by have := h.hlt; show w.heap.size ≤ kb; omega) _, h.hlt, h.hcl⟩
theorem WSt.cell {w W : World} {code : Value} {len c kb n B g : Nat} {nb : Bool} {cp : Nat} {xs : List Int} (h : WSt w code len c kb n B nb (some ⟨g, 0, none⟩) cp xs W) (i : Nat) (hi : i < n) : W.cell? ⟨g, i, none⟩ = some (.int .i64 (xs.getD i 0)) ∧ W.frozen? ⟨g, i, none⟩ = false := by
  have hx : i < xs.length := by rw [h.hl]; exact hi
  have h1 := World.ownsRow.cellAt h.ho i (by omega)
  have h2 := World.ownsRow.frozenAt h.ho i
  refine ⟨?_, by simpa using h2⟩
  have h3 : W.cell? ⟨g, i, none⟩ = (xs.map (Value.int .i64))[i]? := by simpa using h1
  rw [h3]
  simp [List.getD, hx]
end Go.Proofs.Ytimmcijoebmaiaa
