/- Proved: params that come in, opened: three numbers, and a row of numbers. -/
import Derived.Test.YtinldhoimnbkhaaDoorDb13
namespace Go.Proofs.YtinldhoimnbkhaaDoor
open Go.ChangeShapes Go.WideShapes Go.ChangeAt Go.RowKit Go.Joins
set_option linter.unusedVariables false
set_option linter.unusedSimpArgs false
theorem cellsParams : Tryd.prog.cellsOf 44 = 4 := by kernel_rfl
set_option maxRecDepth 100000 in
theorem open_params {H : Type} {enc : TypeId × Value → H} {W : World} {base : Nat} {v : Value} {d : DataW H} {p : List MemPlace} (hok : Value.okWide Tryd.prog W .any base 44 v)
    (h : DataW.Trod enc Tryd.prog W 0 (fun _ => true) true 44 v d p) : ∃ n t e u xs, v = .agg #[.int .i64 n, .int .i64 t, .int .i64 e, u] ∧ Row W u xs ∧ xs.length ≤ 9223372036854775807 ∧ (Lit.int .i64 n).wf = true ∧ ∀ n ∈ xs, (Lit.int .i64 n).wf = true := by
  obtain ⟨c0, c1, c2, c3, y0, y1, y2, y3, m, rfl, rfl, rfl, hy0, hy1, hy2, hy3⟩ := open_agg4 Tryd.underlying44 (by kernel_rfl) cellsParams hok h
  obtain ⟨n, e0, _, wn⟩ := DataW.trod_int Tryd.underlying3 hy0
  obtain ⟨t, e1, _, wt⟩ := DataW.trod_int Tryd.underlying3 hy1
  obtain ⟨e, e2, _, we⟩ := DataW.trod_int Tryd.underlying3 hy2
  simp at e0 e1 e2
  subst e0 e1 e2
  rcases open_ints Tryd.underlying22 Tryd.underlying3 cellsIntT hy3 with ⟨hcs, _⟩ | ⟨x, l, c, zs, hcs, _, hl, hm, hz, _, hcell, hwz⟩
  · simp at hcs
    subst hcs
    exact ⟨n, t, e, _, [], rfl, Or.inl ⟨none, 0, rfl, rfl⟩, by simp, wn, by simp⟩
  · simp at hcs
    subst hcs
    have hz' : zs.length = c := by simpa using hz
    refine ⟨n, t, e, _, zs.take l, rfl, row_of_ints hl hz' hcell, ?_, wn, fun n hn => hwz n (List.mem_of_mem_take hn)⟩
    rw [List.length_take]
    have : c ≤ 2 ^ 63 - 1 := hm
    omega
end Go.Proofs.YtinldhoimnbkhaaDoor
