/- Proved: a slice of ints that comes in, opened: a row of numbers. -/
import Derived.Test.YtonbimgdkafnjaaRow
import Derived.Lib.SmallJoins
namespace Go.Proofs.Ytonbimgdkafnjaa
open Go.ChangeShapes Go.WideShapes Go.ChangeAt Go.RowKit Go.Joins
set_option linter.unusedVariables false
set_option linter.unusedSimpArgs false
set_option maxRecDepth 100000
theorem laidOut : laidOutB Try.prog = true := by kernel_rfl
theorem ownKnobNone : ownKnob Try.prog.godebug = none := by kernel_rfl
theorem cellsIntT : Try.prog.cellsOf 3 = 1 := by kernel_rfl
theorem row_of_ints {w : World} {a : Addr} {len cap : Nat} {zs : List Int} (hl : len ≤ cap) (hz : zs.length = cap) (hc : ∀ i, i < zs.length → w.cell? (a.add i) = some (.int .i64 (zs.getD i 0))) : Row w (.slice (some a) len cap) (zs.take len) := by
  have el : (zs.take len).length = len := by rw [List.length_take, Nat.min_eq_left (by omega)]
  rcases Nat.eq_zero_or_pos len with h0 | h0
  · subst h0
    exact Or.inl ⟨some a, cap, rfl, by simp⟩
  · obtain ⟨b, o, spot⟩ := a
    have hspot : spot = none := by simpa [Addr.add] using World.cell?_spot (hc 0 (by omega))
    subst hspot
    refine Or.inr ⟨b, o, cap, by rw [el], ?_, by omega, fun j hj => ?_⟩
    · have := block_lt_of_cell (hc 0 (by omega))
      simpa [Addr.add] using this
    · rw [el] at hj
      have h1 := hc j (by omega)
      have e1 : (zs.take len).getD j 0 = zs.getD j 0 := by simp [List.getD, List.getElem?_take, hj]
      rw [e1, ← h1]
      by_cases hj0 : j = 0
      · subst hj0; simp [Addr.add]
      · simp [Addr.add, hj0]
theorem open_row {H : Type} {enc : TypeId × Value → H} {W : World} {base : Nat} {v : Value} {d : DataW H} {p : List MemPlace} (hok : Value.okWide Try.prog W .any base 23 v)
    (h : DataW.Trod enc Try.prog W 0 (fun _ => true) true 23 v d p) : ∃ xs, Row W v xs ∧ xs.length ≤ 9223372036854775807 ∧ ∀ n ∈ xs, (Lit.int .i64 n).wf = true := by
  obtain ⟨a0, len0, cap0, rfl⟩ := okWide_slice Try.underlying23 hok
  obtain ⟨fuel, hf⟩ := h
  rcases open_ints Try.underlying23 Try.underlying3 cellsIntT hf with ⟨hcs, _⟩ | ⟨x, l, c, zs, hcs, _, hl, hm, hz, _, hcell, hwz⟩
  · simp [Value.cells] at hcs
    obtain ⟨rfl, rfl, rfl⟩ := hcs
    exact ⟨[], Or.inl ⟨none, 0, rfl, rfl⟩, by simp, by simp⟩
  · simp [Value.cells] at hcs
    obtain ⟨rfl, rfl, rfl⟩ := hcs
    have hz' : zs.length = cap0 := by simpa using hz
    refine ⟨zs.take len0, row_of_ints hl hz' hcell, ?_, fun n hn => hwz n (List.mem_of_mem_take hn)⟩
    rw [List.length_take]
    have : cap0 ≤ 2 ^ 63 - 1 := hm
    omega
end Go.Proofs.Ytonbimgdkafnjaa
