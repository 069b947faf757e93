/- Proved: a slice of whole numbers that comes in, opened: signs, and rows of limbs. -/
import Derived.Test.YtfgooclnohnkmaaDoorFrameD
import Derived.Test.YtfgooclnohnkmaaDoorNG
import Derived.Deep.SlicePairs
namespace Go.Proofs.YtfgooclnohnkmaaDoor
open Go.ChangeShapes Go.WideShapes Go.ChangeAt Go.RowKit Go.Joins
set_option linter.unusedVariables false
set_option linter.unusedSimpArgs false
theorem cellsWholeL : Tryd.prog.cellsOf 128 = 2 := by kernel_rfl
theorem cellsBoolV : Tryd.prog.cellsOf 4 = 1 := by kernel_rfl
theorem cellsIntsV : Tryd.prog.cellsOf 23 = 1 := by kernel_rfl
theorem wholes_of {W : World} {a : Addr} {len cap : Nat} {S : Nat → Bool} {A : Nat → Option Addr} {L C : Nat → Nat} {Z : Nat → List Int} (hl : len ≤ cap)
    (hr : ∀ r, r < cap → W.cell? (a.add (r * 2)) = some (.bool (S r)) ∧ W.cell? (a.add (r * 2 + 1)) = some (.slice (A r) (L r) (C r)) ∧ L r ≤ C r ∧ C r ≤ maxLen ∧ (Z r).length = C r ∧ (∀ n ∈ Z r, (Lit.int .i64 n).wf = true) ∧ (A r = none → C r = 0) ∧
        ∀ a', A r = some a' → ∀ c, c < C r → W.cell? (a'.add c) = some (.int .i64 ((Z r).getD c 0))) :
    ∃ (bs : List Bool) (xss : List (List Int)), xss.length = len ∧ RowW W (.slice (some a) len cap) bs xss ∧ (∀ r ∈ xss, r.length ≤ 9223372036854775807) ∧ ∀ r ∈ xss, ∀ n ∈ r, (Lit.int .i64 n).wf = true := by
  have hget : ∀ j, j < len → ((List.range len).map fun r => (Z r).take (L r)).getD j [] = (Z j).take (L j) := fun j hj => by simp [List.getD, hj]
  have hgetb : ∀ j, j < len → ((List.range len).map S).getD j false = S j := fun j hj => by simp [List.getD, hj]
  have hlen : ∀ j, j < cap → ((Z j).take (L j)).length = L j := fun j hj => by
    obtain ⟨_, _, h2, _, h4, _⟩ := hr j hj
    rw [List.length_take, h4]
    omega
  refine ⟨(List.range len).map S, (List.range len).map fun r => (Z r).take (L r), by simp, ⟨by simp, ?_⟩, ?_, ?_⟩
  · rcases Nat.eq_zero_or_pos len with h0 | h0
    · subst h0
      exact Or.inl ⟨_, _, rfl, rfl⟩
    · have hrow : ∀ j, j < len → Row W (.slice (A j) (L j) (C j)) ((Z j).take (L j)) := fun j hj => by
        obtain ⟨h1, h1', h2, h3, h4, h5, h6, h7⟩ := hr j (by omega)
        cases hA : A j with
        | none =>
          have hc := h6 hA
          have hL : L j = 0 := by omega
          exact Or.inl ⟨none, C j, by rw [hL], by rw [hL]; rfl⟩
        | some a' => exact row_of_ints h2 h4 (fun i hi => h7 a' hA i (by omega))
      obtain ⟨h1, _⟩ := hr 0 (by omega)
      obtain ⟨b, o, spot⟩ := a
      have hspot : spot = none := by simpa [Addr.add] using World.cell?_spot h1
      subst hspot
      refine Or.inr ⟨b, o, cap, fun j => .slice (A j) (L j) (C j), by simp, ?_, by simpa using h0, fun j hj => ?_⟩
      · have := block_lt_of_cell h1
        simpa [Addr.add] using this
      · have hj' : j < len := by simpa using hj
        rw [hget j hj', hgetb j hj']
        obtain ⟨g1, g2, _⟩ := hr j (by omega)
        refine ⟨?_, ?_, hrow j hj'⟩
        · rw [← g1]
          by_cases hj0 : j = 0
          · subst hj0; simp [Addr.add]
          · have hj2 : ¬ j * 2 = 0 := by omega
            simp [Addr.add, hj2]
        · rw [← g2]
          simp [Addr.add, Nat.add_assoc]
  · intro r hr2
    obtain ⟨j, hj, rfl⟩ := List.mem_map.1 hr2
    have hj' : j < len := by simpa using hj
    rw [hlen j (by omega)]
    obtain ⟨_, _, h2, h3, _⟩ := hr j (by omega)
    have : C j ≤ 2 ^ 63 - 1 := h3
    omega
  · intro r hr2 n hn
    obtain ⟨j, hj, rfl⟩ := List.mem_map.1 hr2
    have hj' : j < len := by simpa using hj
    exact (hr j (by omega)).2.2.2.2.2.1 n (List.mem_of_mem_take hn)
theorem choose4 {α : Type} (P : Nat → α → Prop) (d : α) (m : Nat) (h : ∀ i, i < m → ∃ x, P i x) : ∃ f : Nat → α, ∀ i, i < m → P i (f i) := by
  classical
  refine ⟨fun i => if hi : i < m then Classical.choose (h i hi) else d, fun i hi => ?_⟩
  simp only [hi, dif_pos]
  exact Classical.choose_spec (h i hi)
set_option maxRecDepth 100000 in
theorem open_wholes {H : Type} {enc : TypeId × Value → H} {W : World} {base : Nat} {v : Value} {d : DataW H} {p : List MemPlace} (hok : Value.okWide Tryd.prog W .any base 49 v)
    (h : DataW.Trod enc Tryd.prog W 0 (fun _ => true) true 49 v d p) : ∃ bs xss, RowW W v bs xss ∧ xss.length ≤ 9223372036854775807 ∧ (∀ r ∈ xss, r.length ≤ 9223372036854775807) ∧ ∀ r ∈ xss, ∀ n ∈ r, (Lit.int .i64 n).wf = true := by
  obtain ⟨a0, len0, cap0, rfl⟩ := okWide_slice Tryd.underlying49 hok
  obtain ⟨fuel, hf⟩ := h
  rcases Go.Deep.open_slice_pairs Tryd.underlying49 Tryd.underlying128 cellsWholeL rfl rfl cellsBoolV cellsIntsV hf with ⟨hcs, _⟩ | ⟨a, len, cap, m, n, V0, V1, D0, D1, P0, P1, hcs, hb, hl, hm, hmm, _, hx⟩
  · simp [Value.cells] at hcs
    obtain ⟨rfl, rfl, rfl⟩ := hcs
    exact ⟨[], [], ⟨rfl, Or.inl ⟨none, 0, rfl, rfl⟩⟩, by simp, by simp, by simp⟩
  · simp [Value.cells] at hcs
    obtain ⟨rfl, rfl, rfl⟩ := hcs
    simp only [if_true] at hmm
    subst hmm
    have each : ∀ i, i < m → ∃ y : Bool × Option Addr × Nat × Nat × List Int, W.cell? (a.add (i * 2)) = some (.bool y.1) ∧ W.cell? (a.add (i * 2 + 1)) = some (.slice y.2.1 y.2.2.1 y.2.2.2.1) ∧ y.2.2.1 ≤ y.2.2.2.1 ∧ y.2.2.2.1 ≤ maxLen ∧ y.2.2.2.2.length = y.2.2.2.1 ∧ (∀ n ∈ y.2.2.2.2, (Lit.int .i64 n).wf = true) ∧ (y.2.1 = none → y.2.2.2.1 = 0) ∧
        ∀ a', y.2.1 = some a' → ∀ c, c < y.2.2.2.1 → W.cell? (a'.add c) = some (.int .i64 (y.2.2.2.2.getD c 0)) := by
      intro i hi
      obtain ⟨g0, g1, t0, t1⟩ := hx i hi
      obtain ⟨s, e0, _⟩ := DataW.trod_bool Tryd.underlying4 t0
      simp at e0
      rw [e0] at g0
      rcases open_ints Tryd.underlying23 Tryd.underlying3 cellsIntT t1 with ⟨hcs, _⟩ | ⟨a', len', cap', zs, hcs, _, hl', hm', hz, _, hcell, hwz⟩
      · simp at hcs
        rw [hcs] at g1
        exact ⟨(s, none, 0, 0, []), g0, g1, Nat.le_refl _, Nat.zero_le _, rfl, by simp, fun _ => rfl, fun _ hh => by cases hh⟩
      · simp at hcs
        rw [hcs] at g1
        simp only [if_true] at hz
        refine ⟨(s, some a', len', cap', zs), g0, g1, hl', hm', hz, hwz, (fun hh => by cases hh), fun a'' hh c hc => ?_⟩
        cases hh
        exact hcell c (by rw [hz]; exact hc)
    obtain ⟨y, hy⟩ := choose4 _ (false, none, 0, 0, []) m each
    obtain ⟨bs, xss, e, h1, h2, h3⟩ := wholes_of (S := fun i => (y i).1) (A := fun i => (y i).2.1) (L := fun i => (y i).2.2.1) (C := fun i => (y i).2.2.2.1) (Z := fun i => (y i).2.2.2.2) hl hy
    refine ⟨bs, xss, h1, ?_, h2, h3⟩
    rw [e]
    have : m ≤ 2 ^ 63 - 1 := hm
    omega
end Go.Proofs.YtfgooclnohnkmaaDoor
