/- Proved: what a cursor's draws leave as it was; the draw out of a list that is written down. -/
import Derived.Test.YtimmcijoebmaiaaCux
import Derived.Test.YtimmcijoebmaiaaS02
namespace Go.Proofs.Ytimmcijoebmaiaa
open Go.ChangeShapes Go.WideShapes Go.ChangeAt Go.RowKit
set_option linter.unusedVariables false
set_option linter.unusedSimpArgs false
theorem chg_own {w W : World} {lo hi : Nat} (h : Chg w W lo hi) {p : Addr} (hp : w.heap.size ≤ p.block) (x : Value) : Chg w (W.setCell p x) lo hi :=
  ⟨h.os, h.tape, h.output, by rw [World.size_setCell]; exact h.size, fun b hb ho => by rw [heap_setCell_other _ _ _ _ (by show b ≠ p.block; omega)]; exact h.block b hb ho⟩
theorem bk_other {w : World} {k : Nat} {cs : Array Value} {t : TypeId} (h : Bk w k cs t) {p : Addr} (hp : k ≠ p.block) (x : Value) : Bk (w.setCell p x) k cs t :=
  (heap_setCell_other _ _ _ _ hp).trans h
theorem cu_own {w : World} {code : Value} {len c B : Nat} (h : Cu w code len c B) {p : Addr} (hp : c < p.block) (x : Value) : Cu (w.setCell p x) code len c B :=
  h.kept (by rw [World.size_setCell]; exact Nat.le_refl _) (fun b hb => heap_setCell_other _ _ _ _ (by show b ≠ p.block; omega))
theorem row_lit3 (w : World) (xs : List Int) (h : 0 < xs.length) (t : TypeId) : Row (w.alloc (.cells (xs.map (Value.int .i64)).toArray t)) (.slice (some ⟨w.heap.size, 0, none⟩) xs.length xs.length) xs :=
  Or.inr ⟨w.heap.size, 0, xs.length, rfl, by simp, h, fun j hj => by rw [Nat.zero_add, cell_at _ _ _ _ _ rfl]; simp [List.getD, hj]⟩
end Go.Proofs.Ytimmcijoebmaiaa
