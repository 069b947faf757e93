/- Proved: several texts in one: what each proves is said ahead of it. -/
import Derived.Test.YtpoogglplaeooaaDoorRows
import Derived.WalkKit
import Derived.ProofKit
import Derived.OpenShut
import Derived.Handy
import Derived.ShutString
import Derived.ChangeOld
import Derived.Below
import Derived.Carry
import Derived.OwnWalk
import Derived.OneCell
import Derived.Deep.QuietTactic
import Derived.BigQuiet
/- Proved: rows of whole numbers in memory: how a slice that is read, one that is owned and one that is written lie; no function of the program. -/
namespace Go.Proofs.YtpoogglplaeooaaDoor
open Go.ChangeShapes Go.WideShapes Go.ChangeAt Go.RowKit
set_option linter.unusedVariables false
set_option linter.unusedSimpArgs false
/-- v is a slice of the numbers xs, which lie in w -/
def Row (w : World) (v : Value) (xs : List Int) : Prop :=
  (∃ a cap, v = .slice a 0 cap ∧ xs = []) ∨ ∃ b o cap, v = .slice (some ⟨b, o, none⟩) xs.length cap ∧ b < w.heap.size ∧ 0 < xs.length ∧ ∀ j, j < xs.length → w.cell? ⟨b, o + j, none⟩ = some (.int .i64 (xs.getD j 0))
/-- nothing that was there has turned -/
abbrev Old (w w' : World) : Prop := Below w.heap.size w w'
theorem Old.refl (w : World) : Old w w := Below.refl _ _
theorem Old.trans {a b c : World} (h : Old a b) (k : Old b c) : Old a c := Below.trans h (k.mono h.size)
theorem Old.drewN {a b : World} (h : Old a b) (n : Nat) : Old a (b.drewN n) := ⟨h.os, h.tape, h.output, h.size, h.block⟩
theorem Old.alloc {a b : World} (h : Old a b) (o : Obj) : Old a (b.alloc o) := Below.alloc h h.size o
theorem Old.own {a b : World} (h : Old a b) {p : Addr} (hp : a.heap.size ≤ p.block) (v : Value) : Old a (b.setCell p v) := Below.setCell h hp v
theorem Row.old {w w' : World} {v : Value} {xs : List Int} (h : Row w v xs) (g : Old w w') : Row w' v xs := by
  rcases h with h1 | ⟨b, o, cap, e, hb, h0, hc⟩
  · exact Or.inl h1
  · exact Or.inr ⟨b, o, cap, e, Nat.lt_of_lt_of_le hb g.size, h0, fun j hj => by rw [g.cell (p := ⟨b, o + j, none⟩) hb]; exact hc j hj⟩
theorem Row.slice {w : World} {v : Value} {xs : List Int} (h : Row w v xs) : ∃ a cap, v = .slice a xs.length cap := by
  rcases h with ⟨a, cap, e, e2⟩ | ⟨b, o, cap, e, _⟩
  · exact ⟨a, cap, by rw [e, e2]; rfl⟩
  · exact ⟨_, cap, e⟩
/-- a slice of the call's own, whose numbers are xs -/
abbrev Own (w : World) (base : Nat) (v : Value) (xs : List Int) : Prop := w.ownsRow base 3 1 v xs.length (xs.map (Value.int .i64))
theorem Own.row {w : World} {base : Nat} {v : Value} {xs : List Int} (h : Own w base v xs) : Row w v xs := by
  rcases h.2 with ⟨e, h0⟩ | ⟨g, cap, cur, e, hb, hg, h1, h2, h3, h4⟩
  · exact Or.inl ⟨none, 0, e, List.length_eq_zero_iff.1 h0⟩
  · subst e
    by_cases h0 : xs.length = 0
    · exact Or.inl ⟨_, cap, by rw [h0], List.length_eq_zero_iff.1 h0⟩
    · refine Or.inr ⟨g, 0, cap, rfl, (Array.getElem?_eq_some_iff.1 hg).1, by omega, fun j hj => ?_⟩
      have := World.ownsRow.cellAt h j (by omega)
      rw [Nat.zero_add, this]
      simp [List.getD, hj]
theorem Own.old {w w' : World} {base : Nat} {v : Value} {xs : List Int} (h : Own w base v xs) (g : Old w w') : Own w' base v xs := by
  refine ⟨h.1, ?_⟩
  rcases h.2 with hn | ⟨p, cap, cur, rfl, hb, hgg, rest⟩
  · exact .inl hn
  · refine .inr ⟨p, cap, cur, rfl, hb, ?_, rest⟩
    rw [g.block p (Array.getElem?_eq_some_iff.1 hgg).1]
    exact hgg
theorem Own.low {w : World} {base base' : Nat} {v : Value} {xs : List Int} (h : Own w base v xs) (hb : base' ≤ base) : Own w base' v xs := by
  refine ⟨h.1, ?_⟩
  rcases h.2 with hn | ⟨p, cap, cur, rfl, hb1, rest⟩
  · exact .inl hn
  · exact .inr ⟨p, cap, cur, rfl, Nat.le_trans hb hb1, rest⟩
/-- the first k numbers of a slice of the call's own -/
theorem Own.take {w : World} {base : Nat} {a : Option Addr} {cap : Nat} {xs : List Int} (h : Own w base (.slice a xs.length cap) xs) (k : Nat) (hk : k ≤ xs.length) : Own w base (.slice a k cap) (xs.take k) := by
  have e : (xs.take k).length = k := by rw [List.length_take, Nat.min_eq_left hk]
  unfold Own
  rw [e]
  refine ⟨by simp [Nat.min_eq_left hk], ?_⟩
  rcases h.2 with ⟨h1, h2⟩ | ⟨g, cap', cur, h1, hb, hg, h2, h3, h4, h5⟩
  · simp only [Value.slice.injEq] at h1
    obtain ⟨rfl, _, rfl⟩ := h1
    exact .inl ⟨by rw [show k = 0 by omega], by omega⟩
  · simp only [Value.slice.injEq] at h1
    obtain ⟨rfl, _, rfl⟩ := h1
    refine .inr ⟨g, cap, cur, rfl, hb, hg, by omega, h3, h4, ?_⟩
    rw [Nat.mul_one] at h5 ⊢
    rw [List.map_take, ← h5, List.take_take, Nat.min_eq_left hk]
theorem cell_at (w : World) (xs : Array Value) (t : TypeId) (b j : Nat) (hb : b = w.heap.size) : (w.alloc (.cells xs t)).cell? ⟨b, j, none⟩ = xs[j]? := by
  subst hb
  exact cell_of_row _ _ _ _ _ (0, 0) (heap_alloc_new w _)
theorem cell_lt (w : World) (o : Obj) (b j : Nat) (hb : b < w.heap.size) : (w.alloc o).cell? ⟨b, j, none⟩ = w.cell? ⟨b, j, none⟩ := World.cell?_of_block (heap_alloc_old w o hb)
theorem fro_at (w : World) (xs : Array Value) (t : TypeId) (b j : Nat) (hb : b = w.heap.size) : (w.alloc (.cells xs t)).frozen? ⟨b, j, none⟩ = false := by
  subst hb
  exact frozen_of_row _ _ _ _ _ (heap_alloc_new w _)
end Go.Proofs.YtpoogglplaeooaaDoor
/- Proved: contracts of the statements' own helpers over slices of ints: sizes, copies, comparisons, marks. -/
namespace Go.Proofs.YtpoogglplaeooaaDoor
open Go.ChangeShapes Go.WideShapes Go.ChangeAt Go.RowKit
set_option linter.unusedVariables false
set_option linter.unusedSimpArgs false
theorem Tryd.infoInt : (Tryd.prog.info? 3).map (fun i => (i.zero, i.size, i.bytes)) = some (some (.int .i64 0), 1, 8) := by kernel_rfl
/-- the first k numbers, noughts behind -/
def fillN (xs : List Int) (k : Nat) : List Int := xs.take k ++ List.replicate (xs.length - k) 0
theorem fillN_len (xs : List Int) (k : Nat) (h : k ≤ xs.length) : (fillN xs k).length = xs.length := by simp [fillN]; omega
theorem fillN_zero (xs : List Int) : fillN xs 0 = List.replicate xs.length 0 := by simp [fillN]
theorem fillN_all (xs : List Int) : fillN xs xs.length = xs := by simp [fillN]
theorem take_succI (xs : List Int) (k : Nat) (h : k < xs.length) : xs.take (k + 1) = xs.take k ++ [xs.getD k 0] := by
  rw [List.take_add_one]
  congr 1
  simp [List.getD, h]
theorem fillN_set (xs : List Int) (k : Nat) (h : k < xs.length) : (fillN xs k).set k (xs.getD k 0) = fillN xs (k + 1) := by
  unfold fillN
  have e : xs.length - k = (xs.length - (k + 1)) + 1 := by omega
  rw [e, List.replicate_succ, List.set_append_right _ _ (by simp [Nat.min_eq_left (Nat.le_of_lt h)]), List.length_take, Nat.min_eq_left (Nat.le_of_lt h), Nat.sub_self, List.set_cons_zero, take_succI xs k h, List.append_assoc]
  rfl
theorem made_ints (n : Nat) : (madeCells (Value.int .i64 0).cells (n * 1)).toList = (List.replicate n (0 : Int)).map (Value.int .i64) := by
  rw [Nat.mul_one]
  have := toList_madeCells_one (.int .i64 0) n
  rw [List.map_replicate]
  exact this
end Go.Proofs.YtpoogglplaeooaaDoor
