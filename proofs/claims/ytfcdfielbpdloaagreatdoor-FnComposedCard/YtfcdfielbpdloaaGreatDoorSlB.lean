/- Proved: rows of the call's own that are filled one by one, rows of numbers read, rows appended to. -/
import Derived.Test.YtfcdfielbpdloaaGreatDoorC216
import Derived.RegionTactic
import Derived.ChangeAlike
import Derived.Deep.RegionLaw
import Derived.Deep.AppendLies
namespace Go.Proofs.YtfcdfielbpdloaaGreatDoor
open Go.ChangeShapes Go.WideShapes Go.ChangeAt Go.RowKit
set_option linter.unusedVariables false
theorem toZ_len (xs : List Nat) : (toZ xs).length = xs.length := by simp
theorem toZ_get (xs : List Nat) (j : Nat) : (toZ xs).getD j 0 = ((xs.getD j 0 : Nat) : Int) := by
  simp [List.getD, List.getElem?_map]
  cases xs[j]? <;> rfl
theorem Row.atZ {w : World} {v : Value} {xs : List Nat} (h : Row w v (toZ xs)) (h0 : 0 < xs.length) :
    ∃ b o cap, v = .slice (some ⟨b, o, none⟩) xs.length cap ∧ b < w.heap.size ∧ ∀ j, j < xs.length → w.cell? ⟨b, o + j, none⟩ = some (.int .i64 ((xs.getD j 0 : Nat) : Int)) := by
  rcases h with ⟨a, cap, e, e2⟩ | ⟨b, o, cap, e, hb, h1, hc⟩
  · have := congrArg List.length e2
    simp at this
    rw [this] at h0
    cases h0
  · rw [toZ_len] at e hc
    exact ⟨b, o, cap, e, hb, fun j hj => by rw [hc j hj, toZ_get]⟩
abbrev OwnI (w : World) (base g n : Nat) (xs : List Int) : Prop := w.ownsRow base 3 1 (.slice (some ⟨g, 0, none⟩) n n) n (xs.map (Value.int .i64))
theorem OwnI.get {w : World} {base g n : Nat} {xs : List Int} (h : OwnI w base g n xs) (hn : xs.length = n) (j : Nat) (hj : j < n) : w.cell? ⟨g, j, none⟩ = some (.int .i64 (xs.getD j 0)) := by
  rw [World.ownsRow.cellAt h j (by omega)]
  have : j < xs.length := by omega
  simp [List.getD, this]
theorem OwnI.free {w : World} {base g n : Nat} {xs : List Int} (h : OwnI w base g n xs) (j : Nat) : w.frozen? ⟨g, j, none⟩ = false := World.ownsRow.frozenAt h j
theorem OwnI.put {w : World} {base g n : Nat} {xs : List Int} (h : OwnI w base g n xs) (j : Nat) (y : Int) : OwnI (w.setCell ⟨g, j, none⟩ (.int .i64 y)) base g n (xs.set j y) := by
  have := (World.ownsRow.stored h j (.int .i64 y)).1
  unfold OwnI
  rw [List.map_set]
  exact this
theorem OwnI.own {w : World} {base g n : Nat} {xs : List Int} (h : OwnI w base g n xs) (hn : xs.length = n) : Own w base (.slice (some ⟨g, 0, none⟩) n n) xs := by
  unfold Own
  rw [hn]
  exact h
theorem OwnI.old {w w' : World} {base g n : Nat} {xs : List Int} (h : OwnI w base g n xs) (hg : Old w w') : OwnI w' base g n xs := by
  refine ⟨h.1, ?_⟩
  rcases h.2 with hn | ⟨p, cap, cur, e, hb, hgg, rest⟩
  · exact .inl hn
  · refine .inr ⟨p, cap, cur, e, hb, ?_, rest⟩
    rw [hg.block p (Array.getElem?_eq_some_iff.1 hgg).1]
    exact hgg
theorem one_cell (w : World) (x : Value) (t : TypeId) : ∀ j u, [x][j]? = some u → (w.alloc (.cells #[x] t)).cell? ((⟨w.heap.size, 0, none⟩ : Addr).add j) = some u := by
  intro j u h
  match j, h with
  | 0, h =>
    have : x = u := by simpa using h
    subst this
    exact cell_at w _ _ _ _ rfl
  | j + 1, h => simp at h
theorem one_one (x : Int) : ∀ u ∈ [Value.int .i64 x], u.oneCell' = true := by simp [Value.oneCell']
theorem Own.snoc {w : World} {base : Nat} {v : Value} {xs : List Int} {y : Int} (h : w.ownsRow base 3 1 v (xs.length + 1) (xs.map (Value.int .i64) ++ [.int .i64 y])) : Own w base v (xs ++ [y]) := by
  unfold Own
  rw [List.length_append, List.map_append]
  exact h
theorem Own.alloc {w : World} {base : Nat} {v : Value} {xs : List Int} (h : Own w base v xs) (o : Obj) : Own (w.alloc o) base v xs := h.old ((Old.refl _).alloc _)
end Go.Proofs.YtfcdfielbpdloaaGreatDoor
