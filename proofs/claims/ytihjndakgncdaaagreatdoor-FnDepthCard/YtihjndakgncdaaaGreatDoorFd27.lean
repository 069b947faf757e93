/- Proved: several texts in one: what each proves is said ahead of it. -/
import Derived.Test.YtihjndakgncdaaaGreatDoorFd26
import Derived.Deep.RegionHeld3
import Derived.Deep.DeepCutAuto
import Derived.Deep.CutRange
/- Proved: the contract of the draw of a whole number: some sign and at most 41 numbers are told, nothing panics, and nothing that was there changes but the cursor. -/
namespace Go.Proofs.YtihjndakgncdaaaGreatDoor
open Go.ChangeShapes Go.WideShapes Go.ChangeAt Go.RowKit
set_option linter.unusedVariables false
set_option linter.unusedSimpArgs false
theorem bk_grownW {w w' : World} {k : Nat} {cs : Array Value} {t : TypeId} {ob : Option Nat} (h : Bk w k cs t) (g : w.grownBy w' ob) (hk : ∀ j, ob = some j → k < j) : Bk w' k cs t :=
  (g.block k h.lt (fun e => by have := hk k e.symm; omega)).trans h
theorem sliceOfRowW {w : World} {base n : Nat} {v : Value} {cs : List Value} (h : w.ownsRow base 3 1 v n cs) : ∃ a c, v = .slice a n c := by
  rcases h.2 with ⟨h1, h2⟩ | ⟨g, cap, cur, h1, _⟩
  · exact ⟨none, 0, by rw [h1, h2]⟩
  · exact ⟨_, cap, h1⟩
theorem row_far {w w' : World} {base n : Nat} {v : Value} {cs : List Value} (h : w.ownsRow base 3 1 v n cs) (hf : ∀ b, base ≤ b → b < w.heap.size → w'.heap[b]? = w.heap[b]?) : w'.ownsRow base 3 1 v n cs := by
  refine ⟨h.1, ?_⟩
  rcases h.2 with hn | ⟨p, cap, cur, rfl, hb, hgg, rest⟩
  · exact .inl hn
  · exact .inr ⟨p, cap, cur, rfl, hb, (hf p hb (Array.getElem?_eq_some_iff.1 hgg).1).trans hgg, rest⟩
theorem hid {P : Prop} (h : P) : Hid P := h
end Go.Proofs.YtihjndakgncdaaaGreatDoor
/- Proved: contracts of the draws of two whole numbers: two signs and two lists of at most 41 numbers are told, nothing panics, and nothing that was there changes. -/
namespace Go.Proofs.YtihjndakgncdaaaGreatDoor
open Go.ChangeShapes Go.WideShapes Go.ChangeAt Go.RowKit
set_option linter.unusedVariables false
set_option linter.unusedSimpArgs false
theorem bysW_oldX {w w' : World} {v : Value} {len : Nat} (h : BysW w v len) (g : Old w w') : BysW w' v len := by
  rcases h with h1 | ⟨b, o, cap, e, hb, hc⟩
  · exact Or.inl h1
  · refine Or.inr ⟨b, o, cap, e, Nat.lt_of_lt_of_le hb g.size, fun j hj => ?_⟩
    obtain ⟨x, hx, hxc⟩ := hc j hj
    exact ⟨x, hx, (g.cell (p := ⟨b, o + j, none⟩) hb).trans hxc⟩
end Go.Proofs.YtihjndakgncdaaaGreatDoor
/- Proved: the contract of the draw of two bases: two lists of one to three numbers are told, nothing panics, and nothing that was there changes but the cursor. -/
namespace Go.Proofs.YtihjndakgncdaaaGreatDoor
open Go.ChangeShapes Go.WideShapes Go.ChangeAt Go.RowKit
set_option linter.unusedVariables false
set_option linter.unusedSimpArgs false
def AlF (W : World) (g L : Nat) (al : List Int) : Prop := g < W.heap.size ∧ ∀ i, i < L → W.cell? ⟨g, i, none⟩ = some (.int .i64 (al.getD i 0))
theorem AlF.chg {W W' : World} {g L c : Nat} {al : List Int} (h : AlF W g L al) (q : Chg W W' c (c + 1)) (hc : c < g) : AlF W' g L al :=
  ⟨Nat.lt_of_lt_of_le h.1 q.size, fun i hi => by
    rw [← h.2 i hi]
    unfold World.cell?
    simp only [q.block g h.1 (Or.inr (by omega))]⟩
set_option maxRecDepth 100000 in
set_option maxHeartbeats 8000000 in
theorem primes_c (w : World) : Calls Tryz.prog 15 #[] w fun e w' => e = .returned (.slice (some ⟨w.heap.size, 0, none⟩) 10 10) ∧ w' = w.alloc (.cells #[.int .i64 268435361, .int .i64 268435009, .int .i64 268434977, .int .i64 268434721, .int .i64 268434401, .int .i64 268433761, .int .i64 268433569, .int .i64 268433441, .int .i64 268433377, .int .i64 268433057] 3) := by
  go_enter Tryz.func15, Tryz.ntmps15
  go_wp2_with fail
  go_ret
  exact ⟨rfl, rfl⟩
end Go.Proofs.YtihjndakgncdaaaGreatDoor
