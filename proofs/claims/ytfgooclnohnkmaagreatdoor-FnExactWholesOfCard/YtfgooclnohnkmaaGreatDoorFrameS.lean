/- Proved: a space that comes in, opened: a number, and a row of numbers. -/
import Derived.Test.YtfgooclnohnkmaaGreatDoorFrameD
namespace Go.Proofs.YtfgooclnohnkmaaGreatDoor
open Go.ChangeShapes Go.WideShapes Go.ChangeAt Go.RowKit Go.Joins
set_option linter.unusedVariables false
set_option linter.unusedSimpArgs false
theorem cellsSpace : Tryz.prog.cellsOf 47 = 2 := by kernel_rfl
set_option maxRecDepth 100000 in
theorem open_space {H : Type} {enc : TypeId × Value → H} {W : World} {base : Nat} {v : Value} {d : DataW H} {p : List MemPlace} (hok : Value.okWide Tryz.prog W .any base 47 v)
    (h : DataW.Trod enc Tryz.prog W 0 (fun _ => true) true 47 v d p) : ∃ n u xs, v = .agg #[.int .i64 n, u] ∧ Row W u xs ∧ xs.length ≤ 9223372036854775807 ∧ (Lit.int .i64 n).wf = true ∧ ∀ n ∈ xs, (Lit.int .i64 n).wf = true := by
  obtain ⟨c0, c1, y0, y1, m, rfl, rfl, rfl, hy0, hy1⟩ := open_agg2 Tryz.underlying47 (by kernel_rfl) cellsSpace hok h
  obtain ⟨n, e0, _, wn⟩ := DataW.trod_int Tryz.underlying3 hy0
  simp at e0
  subst e0
  rcases open_ints Tryz.underlying23 Tryz.underlying3 cellsIntT hy1 with ⟨hcs, _⟩ | ⟨x, l, c, zs, hcs, _, hl, hm, hz, _, hcell, hwz⟩
  · simp at hcs
    subst hcs
    exact ⟨n, _, [], rfl, Or.inl ⟨none, 0, rfl, rfl⟩, by simp, wn, by simp⟩
  · simp at hcs
    subst hcs
    have hz' : zs.length = c := by simpa using hz
    refine ⟨n, _, zs.take l, rfl, row_of_ints hl hz' hcell, ?_, wn, fun n hn => hwz n (List.mem_of_mem_take hn)⟩
    rw [List.length_take]
    have : c ≤ 2 ^ 63 - 1 := hm
    omega
end Go.Proofs.YtfgooclnohnkmaaGreatDoor
