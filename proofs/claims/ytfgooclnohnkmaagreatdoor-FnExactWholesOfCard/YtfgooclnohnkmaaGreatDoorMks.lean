/- Proved: rows of rows that are made whole and filled row by row. -/
import Derived.Test.YtfgooclnohnkmaaGreatDoorAdl
namespace Go.Proofs.YtfgooclnohnkmaaGreatDoor
open Go.ChangeShapes Go.WideShapes Go.ChangeAt Go.RowKit
set_option linter.unusedVariables false
set_option linter.unusedSimpArgs false
/-- the first k rows are filled -/
def MkS (zss : List (List Int)) (W : World) (lo p k : Nat) : Prop :=
  ∃ vs : List Value, W.ownsRow lo 23 1 (.slice (some ⟨p, 0, none⟩) zss.length zss.length) zss.length vs ∧ vs.length = zss.length
    ∧ (∀ j, j < k → ∃ a c, vs[j]? = some (.slice a (zss.getD j []).length c) ∧ (zss.getD j []).length ≤ c ∧ Own W lo (.slice a (zss.getD j []).length c) (zss.getD j []) ∧ (∀ b, (Value.slice a (zss.getD j []).length c).ownBlock = some b → b ≠ p))
    ∧ (∀ (i j : Nat) (x y : Value) (b : Nat), i < j → j < k → vs[i]? = some x → vs[j]? = some y → x.ownBlock = some b → y.ownBlock = some b → False)
theorem MkS.start {zss : List (List Int)} {W : World} {lo p : Nat} (h : W.ownsRow lo 23 1 (.slice (some ⟨p, 0, none⟩) zss.length zss.length) zss.length (List.replicate zss.length (Value.slice none 0 0))) : MkS zss W lo p 0 :=
  ⟨_, h, by simp, fun j hj => by omega, fun i j x y b h1 h2 => by omega⟩
theorem MkS.own_old {zss : List (List Int)} {W W' : World} {lo p k : Nat} (h : MkS zss W lo p k) (g : Old W W') : MkS zss W' lo p k := by
  obtain ⟨vs, ho, hl, hj, hd⟩ := h
  refine ⟨vs, ⟨ho.1, ?_⟩, hl, fun j hjk => ?_, hd⟩
  · rcases ho.2 with hn | ⟨q, cap', cur, e, hb', hgg, rest⟩
    · exact .inl hn
    · refine .inr ⟨q, cap', cur, e, hb', ?_, rest⟩
      rw [g.block q (Array.getElem?_eq_some_iff.1 hgg).1]
      exact hgg
  · obtain ⟨a, c, h1, h2, h3, h4⟩ := hj j hjk
    exact ⟨a, c, h1, h2, h3.old g, h4⟩
theorem MkS.cell {zss : List (List Int)} {W : World} {lo p k : Nat} (h : MkS zss W lo p k) (j : Nat) (hj : j < zss.length) : (∃ y, W.cell? ⟨p, j, none⟩ = some y) ∧ W.frozen? ⟨p, j, none⟩ = false := by
  obtain ⟨vs, ho, hl, _, _⟩ := h
  refine ⟨⟨vs[j]'(by omega), ?_⟩, World.ownsRow.frozenAt ho j⟩
  rw [World.ownsRow.cellAt ho j (by omega)]
  exact List.getElem?_eq_getElem _
theorem MkS.step {zss : List (List Int)} {W W' : World} {lo p k g : Nat} {n c : Nat} (h : MkS zss W lo p k) (hk : k < zss.length) (q : Old W W') (hlo : lo ≤ W.heap.size) (hp : p < W.heap.size) (hn : (zss.getD k []).length = n) (hc : n ≤ c) (o : Own W' W.heap.size (.slice (some ⟨g, 0, none⟩) n c) (zss.getD k [])) (hg : W.heap.size ≤ g) :
    MkS zss (W'.setCell ⟨p, k, none⟩ (.slice (some ⟨g, 0, none⟩) n c)) lo p (k + 1) := by
  subst hn
  obtain ⟨vs, ho, hl, hj, hd⟩ := h.own_old q
  obtain ⟨vs0, ho0, hl0, hj0, hd0⟩ := h
  have hbw : ∀ i x b, i < k → vs[i]? = some x → x.ownBlock = some b → b < W.heap.size := fun i x b hi hx hb => by
    have e : vs0 = vs := by
      have e1 := fun i (hi : i < zss.length) => World.ownsRow.cellAt ho0 i (by omega)
      have e2 := fun i (hi : i < zss.length) => World.ownsRow.cellAt ho i (by omega)
      apply List.ext_getElem?
      intro i
      rcases Nat.lt_or_ge i zss.length with h1 | h1
      · rw [← e1 i h1, ← e2 i h1]
        exact (q.cell (p := ⟨p, i, none⟩) hp).symm
      · rw [List.getElem?_eq_none (by omega), List.getElem?_eq_none (by omega)]
    obtain ⟨a, c, h1, h2, h3, h4⟩ := hj0 i hi
    rw [← e, h1] at hx
    obtain rfl := Option.some.inj hx
    exact (h3.lt b hb).2
  refine ⟨vs.set k (.slice (some ⟨g, 0, none⟩) (zss.getD k []).length c), (World.ownsRow.stored ho k _).1, by simp [hl], fun j hjk => ?_, fun i j x y b hij hjk hx hy hbx hby => ?_⟩
  · rcases Nat.lt_or_ge j k with h1 | h1
    · obtain ⟨a, c2, e1, e2, e3, e4⟩ := hj j h1
      refine ⟨a, c2, ?_, e2, ?_, e4⟩
      · rw [List.getElem?_set_ne (by omega)]
        exact e1
      · exact ownsRow_setCell_other e3 (fun e => e4 _ e rfl) _
    · obtain rfl : j = k := by omega
      refine ⟨_, _, by rw [List.getElem?_set_self (by omega)], hc, Own.low (ownsRow_setCell_other o (by simp [Value.ownBlock]; omega) _) hlo, fun b hb => ?_⟩
      simp [Value.ownBlock] at hb
      omega
  · rcases Nat.lt_or_ge j k with h1 | h1
    · rw [List.getElem?_set_ne (by omega)] at hx hy
      exact hd i j x y b hij h1 hx hy hbx hby
    · obtain rfl : j = k := by omega
      rw [List.getElem?_set_ne (by omega)] at hx
      rw [List.getElem?_set_self (by omega)] at hy
      obtain rfl := Option.some.inj hy
      simp [Value.ownBlock] at hby
      have := hbw i x b hij hx hbx
      omega
theorem MkS.done {zss : List (List Int)} {W : World} {lo p : Nat} (h : MkS zss W lo p zss.length) (hlo : lo ≤ p) (hp : p < W.heap.size) : OwS zss W lo W.heap.size (.slice (some ⟨p, 0, none⟩) zss.length zss.length) := by
  obtain ⟨vs, ho, hl, hj, hd⟩ := h
  refine ⟨Nat.le_refl _, Or.inr ⟨p, zss.length, vs, rfl, Nat.le_refl _, hlo, hp, ho, hl, fun j hjl => ?_, fun i j x y b hij hx hy => ?_⟩⟩
  · obtain ⟨a, c, h1, h2, h3, h4⟩ := hj j hjl
    exact ⟨a, c, h1, h2, ⟨h3, Nat.le_refl _, fun b hb => (h3.lt b hb).2⟩, h4⟩
  · have hjl := (List.getElem?_eq_some_iff.1 hy).1
    exact hd i j x y b hij (by omega) hx hy
theorem Row.recap {W : World} {a : Option Addr} {n c c' : Nat} {xs : List Int} (h : Row W (.slice a n c) xs) (h0 : xs ≠ []) : Row W (.slice a n c') xs := by
  rcases h with ⟨_, _, e, e'⟩ | ⟨b, o, cap, e, r⟩
  · exact absurd e' h0
  · simp only [Value.slice.injEq] at e
    obtain ⟨rfl, rfl, rfl⟩ := e
    exact Or.inr ⟨b, o, c', rfl, r⟩
end Go.Proofs.YtfgooclnohnkmaaGreatDoor
