/- Proved: what a cursor's draws leave as it was; the draw out of a list that is written down. -/
import Derived.Test.YtglbegbhekcddaaDoorCux
import Derived.Test.YtglbegbhekcddaaDoorRw13
namespace Go.Proofs.YtglbegbhekcddaaDoor
open Go.ChangeShapes Go.WideShapes Go.ChangeAt Go.RowKit
set_option linter.unusedVariables false
set_option linter.unusedSimpArgs false
theorem chg_alloc {a b : World} {lo hi : Nat} (h : Chg a b lo hi) (o : Obj) : Chg a (b.alloc o) lo hi := h.trans (((Old.refl b).alloc o).toChg lo hi)
theorem chg_own {w W : World} {lo hi : Nat} (h : Chg w W lo hi) {p : Addr} (hp : w.heap.size ≤ p.block) (x : Value) : Chg w (W.setCell p x) lo hi :=
  ⟨h.os, h.tape, h.output, by rw [World.size_setCell]; exact h.size, fun b hb ho => by rw [heap_setCell_other _ _ _ _ (by show b ≠ p.block; omega)]; exact h.block b hb ho⟩
theorem chg_grown {a b c : World} {lo hi : Nat} {ob : Option Nat} (h : Chg a b lo hi) (g : b.grownBy c ob) (hk : ∀ k, ob = some k → a.heap.size ≤ k) : Chg a c lo hi :=
  ⟨g.os.trans h.os, g.tape.trans h.tape, g.output.trans h.output, Nat.le_trans h.size g.size, fun k hk1 ho => (g.block k (Nat.lt_of_lt_of_le hk1 h.size) (fun e => by have := hk k e.symm; omega)).trans (h.block k hk1 ho)⟩
theorem bk_other {w : World} {k : Nat} {cs : Array Value} {t : TypeId} (h : Bk w k cs t) {p : Addr} (hp : k ≠ p.block) (x : Value) : Bk (w.setCell p x) k cs t :=
  (heap_setCell_other _ _ _ _ hp).trans h
theorem cu_own {w : World} {code : Value} {len c B : Nat} (h : Cu w code len c B) {p : Addr} (hp : c < p.block) (x : Value) : Cu (w.setCell p x) code len c B :=
  h.kept (by rw [World.size_setCell]; exact Nat.le_refl _) (fun b hb => heap_setCell_other _ _ _ _ (by show b ≠ p.block; omega))
theorem row_lit3 (w : World) (xs : List Int) (h : 0 < xs.length) (t : TypeId) : Row (w.alloc (.cells (xs.map (Value.int .i64)).toArray t)) (.slice (some ⟨w.heap.size, 0, none⟩) xs.length xs.length) xs :=
  Or.inr ⟨w.heap.size, 0, xs.length, rfl, by simp, h, fun j hj => by rw [Nat.zero_add, cell_at _ _ _ _ _ rfl]; simp [List.getD, hj]⟩
theorem among_lit3 {w : World} {code : Value} {len c B : Nat} (h : Cu w code len c B) (hB : B ≤ 274877906944) (hl : len ≤ 9223372036854775807) (xs : List Int) (hn : 2 ≤ xs.length) (hn' : xs.length ≤ 1000) (t : TypeId) :
    Calls Tryd.prog 43 #[.pointer (some ⟨c, 0, none⟩), .slice (some ⟨w.heap.size, 0, none⟩) xs.length xs.length] (w.alloc (.cells (xs.map (Value.int .i64)).toArray t)) fun e w' => CuP (fun x => x ∈ xs) w code len c (B + 2) e w' := by
  refine (among_c (h.old ((Old.refl w).alloc _)) hB hl _ xs hn hn' (row_lit3 w xs (by omega) t) (fun b o n cap e => ?_)).mono ?_
  · injection e with e1
    injection e1 with e2
    injection e2 with e3
    have := h.lt
    omega
  · rintro e w' ⟨h1, h2, h3⟩
    exact ⟨h1, ((((Old.refl w).alloc _).toChg c (c + 1)).trans h2), h3⟩
end Go.Proofs.YtglbegbhekcddaaDoor
