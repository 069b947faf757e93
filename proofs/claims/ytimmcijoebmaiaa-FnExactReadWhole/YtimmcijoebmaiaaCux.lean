/- Proved: contracts of the cursor that draws numbers out of bytes (next, pick, one, among, wide): some number in its range is told, nothing panics, and nothing but the cursor changes. -/
import Derived.Test.YtimmcijoebmaiaaS00
import Derived.Laws.Bits64b
namespace Go.Proofs.Ytimmcijoebmaiaa
open Go.ChangeShapes Go.WideShapes Go.ChangeAt Go.RowKit
set_option linter.unusedVariables false
set_option linter.unusedSimpArgs false
def Bys (w : World) (c : Nat) (v : Value) (len : Nat) : Prop :=
  (∃ a cap, v = .slice a 0 cap ∧ len = 0) ∨ ∃ b o cap, v = .slice (some ⟨b, o, none⟩) len cap ∧ (b < w.heap.size ∧ b < c) ∧ ∀ j, j < len → ∃ x : Int, (0 ≤ x ∧ x ≤ 255) ∧ w.cell? ⟨b, o + j, none⟩ = some (.int .u8 x)
structure Cu (w : World) (code : Value) (len c B : Nat) : Prop where
  cells : ∃ n s : Int, (0 ≤ n ∧ n ≤ (B : Int)) ∧ (0 ≤ s ∧ s ≤ 18446744073709551615) ∧ w.heap[c]? = some (.cells #[code, .int .i64 n, .int .u64 s] 39 (0, 0))
  bts : Bys w c code len
theorem Cu.lt {w : World} {code : Value} {len c B : Nat} (h : Cu w code len c B) : c < w.heap.size := by
  obtain ⟨n, s, _, _, e⟩ := h.cells
  exact (Array.getElem?_eq_some_iff.1 e).1
theorem Cu.mono {w : World} {code : Value} {len c B B' : Nat} (h : Cu w code len c B) (hB : B ≤ B') : Cu w code len c B' := by
  obtain ⟨n, s, h1, h2, e⟩ := h.cells
  exact ⟨⟨n, s, ⟨h1.1, by omega⟩, h2, e⟩, h.bts⟩
theorem Bys.kept {w w' : World} {c : Nat} {v : Value} {len : Nat} (h : Bys w c v len) (hs : w.heap.size ≤ w'.heap.size) (hk : ∀ b, b < w.heap.size → b < c → w'.heap[b]? = w.heap[b]?) : Bys w' c v len := by
  rcases h with h1 | ⟨b, o, cap, e, ⟨hb, hne⟩, hbt⟩
  · exact Or.inl h1
  · refine Or.inr ⟨b, o, cap, e, ⟨Nat.lt_of_lt_of_le hb hs, hne⟩, fun j hj => ?_⟩
    obtain ⟨x, hx, hxc⟩ := hbt j hj
    exact ⟨x, hx, (World.cell?_of_block (hk b hb hne)).trans hxc⟩
theorem Cu.kept {w w' : World} {code : Value} {len c B : Nat} (h : Cu w code len c B) (hs : w.heap.size ≤ w'.heap.size) (hk : ∀ b, b ≤ c → w'.heap[b]? = w.heap[b]?) : Cu w' code len c B := by
  obtain ⟨n, s, h1, h2, e⟩ := h.cells
  exact ⟨⟨n, s, h1, h2, (hk c (Nat.le_refl _)).trans e⟩, h.bts.kept hs (fun b _ hb => hk b (Nat.le_of_lt hb))⟩
theorem Cu.grown {w w' : World} {code : Value} {len c B : Nat} {ob : Option Nat} (h : Cu w code len c B) (g : w.grownBy w' ob) (hk : ∀ j, ob = some j → c < j) : Cu w' code len c B :=
  h.kept g.size (fun b hb => g.block b (Nat.lt_of_le_of_lt hb h.lt) (fun e => by have := hk b e.symm; omega))
theorem Cu.old {w w' : World} {code : Value} {len c B : Nat} (h : Cu w code len c B) (g : Old w w') : Cu w' code len c B := by
  obtain ⟨n, s, h1, h2, e⟩ := h.cells
  exact ⟨⟨n, s, h1, h2, (g.block c h.lt).trans e⟩, h.bts.kept g.size (fun b hb _ => g.block b hb)⟩
theorem Cu.drew {w : World} {code : Value} {len c B : Nat} (h : Cu w code len c B) (n : Nat) : Cu (w.drewN n) code len c B := h.old ((Old.refl w).drewN n)
theorem Cu.upd {w : World} {code : Value} {len c B B' : Nat} (h : Cu w code len c B) (n s : Int) (hn : 0 ≤ n) (hn' : n ≤ (B' : Int)) (hs : 0 ≤ s) (hs' : s ≤ 18446744073709551615) :
    Cu ((w.setCell ⟨c, 1, none⟩ (.int .i64 n)).setCell ⟨c, 2, none⟩ (.int .u64 s)) code len c B' := by
  obtain ⟨n0, s0, _, _, e⟩ := h.cells
  have e1 := heap_setCell_same w c 1 _ _ (.int .i64 n) e
  refine ⟨⟨n, s, ⟨hn, hn'⟩, ⟨hs, hs'⟩, ?_⟩, h.bts.kept ?_ ?_⟩
  · rw [heap_setCell_same _ c 2 _ _ _ e1]; rfl
  · rw [World.size_setCell, World.size_setCell]; exact Nat.le_refl _
  · intro b hb hne
    rw [heap_setCell_other _ _ _ _ (by show b ≠ c; omega), heap_setCell_other _ _ _ _ (by show b ≠ c; omega)]
def BysW (w : World) (v : Value) (len : Nat) : Prop :=
  (∃ a cap, v = .slice a 0 cap ∧ len = 0) ∨ ∃ b o cap, v = .slice (some ⟨b, o, none⟩) len cap ∧ b < w.heap.size ∧ ∀ j, j < len → ∃ x : Int, (0 ≤ x ∧ x ≤ 255) ∧ w.cell? ⟨b, o + j, none⟩ = some (.int .u8 x)
theorem Cu.new {w : World} {v : Value} {len : Nat} (h : BysW w v len) : Cu (w.alloc (.cells #[v, .int .i64 0, .int .u64 0] 39)) v len w.heap.size 0 := by
  refine ⟨⟨0, 0, ⟨by omega, by omega⟩, ⟨by omega, by omega⟩, heap_alloc_new _ _⟩, ?_⟩
  rcases h with h1 | ⟨b, o, cap, e, hb, hc⟩
  · exact Or.inl h1
  · refine Or.inr ⟨b, o, cap, e, ⟨by simp; omega, hb⟩, fun j hj => ?_⟩
    obtain ⟨x, hx, hxc⟩ := hc j hj
    exact ⟨x, hx, by rw [cell_lt _ _ _ _ hb]; exact hxc⟩
end Go.Proofs.Ytimmcijoebmaiaa
