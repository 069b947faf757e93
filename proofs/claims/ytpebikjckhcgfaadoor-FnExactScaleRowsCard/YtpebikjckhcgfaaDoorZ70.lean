/- Proved: several texts in one: what each proves is said ahead of it. -/
import Derived.Test.YtpebikjckhcgfaaDoorZ48
/- Proved: a whole number that comes in, opened: a sign, and a row of numbers. -/
namespace Go.Proofs.YtpebikjckhcgfaaDoor
open Go.ChangeShapes Go.WideShapes Go.ChangeAt Go.RowKit Go.Joins
set_option linter.unusedVariables false
set_option linter.unusedSimpArgs false
theorem cellsWhole : Tryd.prog.cellsOf 65 = 2 := by kernel_rfl
set_option maxRecDepth 100000 in
theorem open_whole {H : Type} {enc : TypeId × Value → H} {W : World} {base : Nat} {v : Value} {d : DataW H} {p : List MemPlace} (hok : Value.okWide Tryd.prog W .any base 65 v)
    (h : DataW.Trod enc Tryd.prog W 0 (fun _ => true) true 65 v d p) : ∃ n u xs, v = .agg #[.bool n, u] ∧ Row W u xs ∧ xs.length ≤ 9223372036854775807 := by
  obtain ⟨c0, c1, y0, y1, m, rfl, rfl, rfl, hy0, hy1⟩ := open_agg2 Tryd.underlying65 (by kernel_rfl) cellsWhole hok h
  obtain ⟨n, e0, _⟩ := DataW.trod_bool Tryd.underlying4 hy0
  simp at e0
  subst e0
  rcases open_ints Tryd.underlying23 Tryd.underlying3 cellsIntT hy1 with ⟨hcs, _⟩ | ⟨x, l, c, zs, hcs, _, hl, hm, hz, _, hcell, hwz⟩
  · simp at hcs
    subst hcs
    exact ⟨n, _, [], rfl, Or.inl ⟨none, 0, rfl, rfl⟩, by simp⟩
  · simp at hcs
    subst hcs
    have hz' : zs.length = c := by simpa using hz
    refine ⟨n, _, zs.take l, rfl, row_of_ints hl hz' hcell, ?_⟩
    rw [List.length_take]
    have : c ≤ 2 ^ 63 - 1 := hm
    omega
end Go.Proofs.YtpebikjckhcgfaaDoor
