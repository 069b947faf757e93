/- Proved: the contract of the model's product of limbs. -/
import Derived.Test.YtpcpahgflkjnaaaLimbsD
namespace Go.Proofs.Ytpcpahgflkjnaaa
open Go.ChangeShapes Go.WideShapes Go.ChangeAt Go.RowKit
open M2
set_option linter.unusedVariables false
set_option linter.unusedSimpArgs false
/-- a row of n numbers of the call's own, at its head -/
abbrev OwnAt (w : World) (base g n : Nat) (xs : List Nat) : Prop := w.ownsRow base 3 1 (.slice (some ⟨g, 0, none⟩) n n) n ((toI xs).map (Value.int .i64))
theorem OwnAt.get {w : World} {base g n : Nat} {xs : List Nat} (h : OwnAt w base g n xs) (hn : xs.length = n) (j : Nat) (hj : j < n) : w.cell? ⟨g, j, none⟩ = some (.int .i64 ((xs.getD j 0 : Nat) : Int)) := by
  rw [World.ownsRow.cellAt h j (by omega), ← toI_get]
  have : j < (toI xs).length := by rw [toI_len]; omega
  simp [List.getD, this]
theorem OwnAt.free {w : World} {base g n : Nat} {xs : List Nat} (h : OwnAt w base g n xs) (j : Nat) : w.frozen? ⟨g, j, none⟩ = false := World.ownsRow.frozenAt h j
theorem OwnAt.put {w : World} {base g n : Nat} {xs : List Nat} (h : OwnAt w base g n xs) (j y : Nat) : OwnAt (w.setCell ⟨g, j, none⟩ (.int .i64 (y : Int))) base g n (xs.set j y) := by
  have := (World.ownsRow.stored h j (.int .i64 (y : Int))).1
  unfold OwnAt
  have e : toI (xs.set j y) = (toI xs).set j (y : Int) := by simp [toI, List.map_set]
  rw [e, List.map_set]
  exact this
theorem OwnAt.own {w : World} {base g n : Nat} {xs : List Nat} (h : OwnAt w base g n xs) (hn : xs.length = n) : Own w base (.slice (some ⟨g, 0, none⟩) n n) (toI xs) := by
  unfold Own
  rw [toI_len, hn]
  exact h
theorem made_nats (n : Nat) : (madeCells (Value.int .i64 0).cells (n * 1)).toList = (toI (List.replicate n 0)).map (Value.int .i64) := by
  rw [made_ints]
  simp [toI]
end Go.Proofs.Ytpcpahgflkjnaaa
