/- Proved: a whole number that comes in, opened: a sign, and a row of numbers. -/
import Derived.Test.YtpcpahgflkjnaaaRow
import Derived.Lib.SmallJoins
namespace Go.Proofs.Ytpcpahgflkjnaaa
open Go.ChangeShapes Go.WideShapes Go.ChangeAt Go.RowKit Go.Joins
set_option linter.unusedVariables false
set_option linter.unusedSimpArgs false
theorem laidOutW : laidOutB Try.prog = true := by kernel_rfl
theorem ownKnobNoneW : ownKnob Try.prog.godebug = none := by kernel_rfl
theorem cellsWhole : Try.prog.cellsOf 24 = 2 := by kernel_rfl
theorem cellsBool : Try.prog.cellsOf 4 = 1 := by kernel_rfl
theorem cellsInts : Try.prog.cellsOf 22 = 1 := by kernel_rfl
theorem cellsIntTW : Try.prog.cellsOf 3 = 1 := by kernel_rfl
theorem row_of_intsW {w : World} {a : Addr} {len cap : Nat} {zs : List Int} (hl : len ≤ cap) (hz : zs.length = cap) (hc : ∀ i, i < zs.length → w.cell? (a.add i) = some (.int .i64 (zs.getD i 0))) : Row w (.slice (some a) len cap) (zs.take len) := by
  have el : (zs.take len).length = len := by rw [List.length_take, Nat.min_eq_left (by omega)]
  rcases Nat.eq_zero_or_pos len with h0 | h0
  · subst h0
    exact Or.inl ⟨some a, cap, rfl, by simp⟩
  · obtain ⟨b, o, spot⟩ := a
    have hspot : spot = none := by simpa [Addr.add] using World.cell?_spot (hc 0 (by omega))
    subst hspot
    refine Or.inr ⟨b, o, cap, by rw [el], ?_, by omega, fun j hj => ?_⟩
    · have := block_lt_of_cell (hc 0 (by omega))
      simpa [Addr.add] using this
    · rw [el] at hj
      have h1 := hc j (by omega)
      have e1 : (zs.take len).getD j 0 = zs.getD j 0 := by simp [List.getD, List.getElem?_take, hj]
      rw [e1, ← h1]
      by_cases hj0 : j = 0
      · subst hj0; simp [Addr.add]
      · simp [Addr.add, hj0]
set_option maxRecDepth 100000 in
theorem open_whole {H : Type} {enc : TypeId × Value → H} {W : World} {base : Nat} {v : Value} {d : DataW H} {p : List MemPlace} (hok : Value.okWide Try.prog W .any base 24 v)
    (h : DataW.Trod enc Try.prog W 0 (fun _ => true) true 24 v d p) : ∃ n u xs, v = .agg #[.bool n, u] ∧ Row W u xs ∧ xs.length ≤ 9223372036854775807 := by
  obtain ⟨c0, c1, y0, y1, m, rfl, rfl, rfl, hy0, hy1⟩ := open_agg2 Try.underlying24 (by kernel_rfl) cellsWhole hok h
  obtain ⟨n, e0, _⟩ := DataW.trod_bool Try.underlying4 hy0
  simp at e0
  subst e0
  rcases open_ints Try.underlying22 Try.underlying3 cellsIntTW hy1 with ⟨hcs, _⟩ | ⟨x, l, c, zs, hcs, _, hl, hm, hz, _, hcell, hwz⟩
  · simp at hcs
    subst hcs
    exact ⟨n, _, [], rfl, Or.inl ⟨none, 0, rfl, rfl⟩, by simp⟩
  · simp at hcs
    subst hcs
    have hz' : zs.length = c := by simpa using hz
    refine ⟨n, _, zs.take l, rfl, row_of_intsW hl hz' hcell, ?_⟩
    rw [List.length_take]
    have : c ≤ 2 ^ 63 - 1 := hm
    omega
end Go.Proofs.Ytpcpahgflkjnaaa
