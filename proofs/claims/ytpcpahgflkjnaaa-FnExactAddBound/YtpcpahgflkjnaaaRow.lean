/- Proved: rows of whole numbers in memory: how a slice that is read, one that is owned and one that is written lie; no function of the program. -/
import Derived.Test.YtpcpahgflkjnaaaRows
import Derived.WalkKit
import Derived.ProofKit
import Derived.OpenShut
import Derived.Handy
import Derived.ShutString
import Derived.ChangeOld
import Derived.Below
import Derived.Carry
import Derived.OwnWalk
import Derived.OneCell
import Derived.Deep.QuietTactic
import Derived.BigQuiet
namespace Go.Proofs.Ytpcpahgflkjnaaa
open Go.ChangeShapes Go.WideShapes Go.ChangeAt Go.RowKit
set_option linter.unusedVariables false
set_option linter.unusedSimpArgs false
/-- v is a slice of the numbers xs, which lie in w -/
def Row (w : World) (v : Value) (xs : List Int) : Prop :=
  (∃ a cap, v = .slice a 0 cap ∧ xs = []) ∨ ∃ b o cap, v = .slice (some ⟨b, o, none⟩) xs.length cap ∧ b < w.heap.size ∧ 0 < xs.length ∧ ∀ j, j < xs.length → w.cell? ⟨b, o + j, none⟩ = some (.int .i64 (xs.getD j 0))
/-- nothing that was there has turned -/
abbrev Old (w w' : World) : Prop := Below w.heap.size w w'
theorem Old.refl (w : World) : Old w w := Below.refl _ _
theorem Old.trans {a b c : World} (h : Old a b) (k : Old b c) : Old a c := Below.trans h (k.mono h.size)
theorem Old.drewN {a b : World} (h : Old a b) (n : Nat) : Old a (b.drewN n) := ⟨h.os, h.tape, h.output, h.size, h.block⟩
theorem Old.alloc {a b : World} (h : Old a b) (o : Obj) : Old a (b.alloc o) := Below.alloc h h.size o
theorem Old.own {a b : World} (h : Old a b) {p : Addr} (hp : a.heap.size ≤ p.block) (v : Value) : Old a (b.setCell p v) := Below.setCell h hp v
theorem Row.old {w w' : World} {v : Value} {xs : List Int} (h : Row w v xs) (g : Old w w') : Row w' v xs := by
  rcases h with h1 | ⟨b, o, cap, e, hb, h0, hc⟩
  · exact Or.inl h1
  · exact Or.inr ⟨b, o, cap, e, Nat.lt_of_lt_of_le hb g.size, h0, fun j hj => by rw [g.cell (p := ⟨b, o + j, none⟩) hb]; exact hc j hj⟩
theorem Row.slice {w : World} {v : Value} {xs : List Int} (h : Row w v xs) : ∃ a cap, v = .slice a xs.length cap := by
  rcases h with ⟨a, cap, e, e2⟩ | ⟨b, o, cap, e, _⟩
  · exact ⟨a, cap, by rw [e, e2]; rfl⟩
  · exact ⟨_, cap, e⟩
/-- a slice of the call's own, whose numbers are xs -/
abbrev Own (w : World) (base : Nat) (v : Value) (xs : List Int) : Prop := w.ownsRow base 3 1 v xs.length (xs.map (Value.int .i64))
theorem Own.row {w : World} {base : Nat} {v : Value} {xs : List Int} (h : Own w base v xs) : Row w v xs := by
  rcases h.2 with ⟨e, h0⟩ | ⟨g, cap, cur, e, hb, hg, h1, h2, h3, h4⟩
  · exact Or.inl ⟨none, 0, e, List.length_eq_zero_iff.1 h0⟩
  · subst e
    by_cases h0 : xs.length = 0
    · exact Or.inl ⟨_, cap, by rw [h0], List.length_eq_zero_iff.1 h0⟩
    · refine Or.inr ⟨g, 0, cap, rfl, (Array.getElem?_eq_some_iff.1 hg).1, by omega, fun j hj => ?_⟩
      have := World.ownsRow.cellAt h j (by omega)
      rw [Nat.zero_add, this]
      simp [List.getD, hj]
theorem Own.old {w w' : World} {base : Nat} {v : Value} {xs : List Int} (h : Own w base v xs) (g : Old w w') : Own w' base v xs := by
  refine ⟨h.1, ?_⟩
  rcases h.2 with hn | ⟨p, cap, cur, rfl, hb, hgg, rest⟩
  · exact .inl hn
  · refine .inr ⟨p, cap, cur, rfl, hb, ?_, rest⟩
    rw [g.block p (Array.getElem?_eq_some_iff.1 hgg).1]
    exact hgg
theorem Own.low {w : World} {base base' : Nat} {v : Value} {xs : List Int} (h : Own w base v xs) (hb : base' ≤ base) : Own w base' v xs := by
  refine ⟨h.1, ?_⟩
  rcases h.2 with hn | ⟨p, cap, cur, rfl, hb1, rest⟩
  · exact .inl hn
  · exact .inr ⟨p, cap, cur, rfl, Nat.le_trans hb hb1, rest⟩
/-- the first k numbers of a slice of the call's own -/
theorem Own.take {w : World} {base : Nat} {a : Option Addr} {cap : Nat} {xs : List Int} (h : Own w base (.slice a xs.length cap) xs) (k : Nat) (hk : k ≤ xs.length) : Own w base (.slice a k cap) (xs.take k) := by
  have e : (xs.take k).length = k := by rw [List.length_take, Nat.min_eq_left hk]
  unfold Own
  rw [e]
  refine ⟨by simp [Nat.min_eq_left hk], ?_⟩
  rcases h.2 with ⟨h1, h2⟩ | ⟨g, cap', cur, h1, hb, hg, h2, h3, h4, h5⟩
  · simp only [Value.slice.injEq] at h1
    obtain ⟨rfl, _, rfl⟩ := h1
    exact .inl ⟨by rw [show k = 0 by omega], by omega⟩
  · simp only [Value.slice.injEq] at h1
    obtain ⟨rfl, _, rfl⟩ := h1
    refine .inr ⟨g, cap, cur, rfl, hb, hg, by omega, h3, h4, ?_⟩
    rw [Nat.mul_one] at h5 ⊢
    rw [List.map_take, ← h5, List.take_take, Nat.min_eq_left hk]
theorem grownBy_old {a b : World} (h : a.grownBy b none) : Old a b := Below.grown (Below.refl _ _) h (Nat.le_refl _) (fun _ h => by cases h)
theorem cell_at (w : World) (xs : Array Value) (t : TypeId) (b j : Nat) (hb : b = w.heap.size) : (w.alloc (.cells xs t)).cell? ⟨b, j, none⟩ = xs[j]? := by
  subst hb
  exact cell_of_row _ _ _ _ _ (0, 0) (heap_alloc_new w _)
theorem cell_lt (w : World) (o : Obj) (b j : Nat) (hb : b < w.heap.size) : (w.alloc o).cell? ⟨b, j, none⟩ = w.cell? ⟨b, j, none⟩ := World.cell?_of_block (heap_alloc_old w o hb)
theorem fro_at (w : World) (xs : Array Value) (t : TypeId) (b j : Nat) (hb : b = w.heap.size) : (w.alloc (.cells xs t)).frozen? ⟨b, j, none⟩ = false := by
  subst hb
  exact frozen_of_row _ _ _ _ _ (heap_alloc_new w _)
theorem fro_lt (w : World) (o : Obj) (b j : Nat) (hb : b < w.heap.size) : (w.alloc o).frozen? ⟨b, j, none⟩ = w.frozen? ⟨b, j, none⟩ := World.frozen?_of_block (heap_alloc_old w o hb)
theorem c3_0 (w : World) (A B C : Array Value) (t u v : TypeId) (j : Nat) : (((w.alloc (.cells A t)).alloc (.cells B u)).alloc (.cells C v)).cell? ⟨w.heap.size, j, none⟩ = A[j]? := by
  rw [cell_lt _ _ _ _ (by simp; omega), cell_lt _ _ _ _ (by simp), cell_at _ _ _ _ _ rfl]
theorem c3_1 (w : World) (A B C : Array Value) (t u v : TypeId) (j : Nat) : (((w.alloc (.cells A t)).alloc (.cells B u)).alloc (.cells C v)).cell? ⟨w.heap.size + 1, j, none⟩ = B[j]? := by
  rw [cell_lt _ _ _ _ (by simp), cell_at _ _ _ _ _ (by simp)]
theorem c3_2 (w : World) (A B C : Array Value) (t u v : TypeId) (j : Nat) : (((w.alloc (.cells A t)).alloc (.cells B u)).alloc (.cells C v)).cell? ⟨w.heap.size + 1 + 1, j, none⟩ = C[j]? := by
  rw [cell_at _ _ _ _ _ (by simp)]
theorem c2_0 (w : World) (A B : Array Value) (t u : TypeId) (j : Nat) : ((w.alloc (.cells A t)).alloc (.cells B u)).cell? ⟨w.heap.size, j, none⟩ = A[j]? := by
  rw [cell_lt _ _ _ _ (by simp), cell_at _ _ _ _ _ rfl]
theorem c2_1 (w : World) (A B : Array Value) (t u : TypeId) (j : Nat) : ((w.alloc (.cells A t)).alloc (.cells B u)).cell? ⟨w.heap.size + 1, j, none⟩ = B[j]? := by
  rw [cell_at _ _ _ _ _ (by simp)]
theorem f3_1 (w : World) (A B C : Array Value) (t u v : TypeId) (j : Nat) : (((w.alloc (.cells A t)).alloc (.cells B u)).alloc (.cells C v)).frozen? ⟨w.heap.size + 1, j, none⟩ = false := by
  rw [fro_lt _ _ _ _ (by simp), fro_at _ _ _ _ _ (by simp)]
theorem f3_2 (w : World) (A B C : Array Value) (t u v : TypeId) (j : Nat) : (((w.alloc (.cells A t)).alloc (.cells B u)).alloc (.cells C v)).frozen? ⟨w.heap.size + 1 + 1, j, none⟩ = false := by
  rw [fro_at _ _ _ _ _ (by simp)]
theorem f2_1 (w : World) (A B : Array Value) (t u : TypeId) (j : Nat) : ((w.alloc (.cells A t)).alloc (.cells B u)).frozen? ⟨w.heap.size + 1, j, none⟩ = false := by
  rw [fro_at _ _ _ _ _ (by simp)]
end Go.Proofs.Ytpcpahgflkjnaaa
