/- Proved: several texts in one: what each proves is said ahead of it. -/
import Derived.Test.YtkggfljdbdfonaaGreatDoorWo03
import Derived.Deep.RegionHeld3
/- Proved: things made of blocks of memory (rows, structs of them, slices of these): what stays where other blocks are written; no function of the program. -/
namespace Go.Proofs.YtkggfljdbdfonaaGreatDoor
open Go.ChangeShapes Go.WideShapes Go.ChangeAt Go.RowKit
set_option linter.unusedVariables false
set_option linter.unusedSimpArgs false
/-- what is said of cells and of the blocks that they own -/
abbrev Thing := World → (Nat → Prop) → List Value → Prop
structure GoodT (E : Thing) : Prop where
  far : ∀ {W W' : World} {B : Nat → Prop} {cs : List Value}, E W B cs → (∀ b, B b → W'.heap[b]? = W.heap[b]?) → E W' B cs
  lt : ∀ {W : World} {B : Nat → Prop} {cs : List Value}, E W B cs → ∀ b, B b → b < W.heap.size
/-- a row of numbers -/
def TI (xs : List Int) : Thing := fun W B cs => ∃ a c, cs = [.slice a xs.length c] ∧ Own W 0 (.slice a xs.length c) xs ∧ xs.length ≤ c ∧ ∀ b, B b ↔ (Value.slice a xs.length c).ownBlock = some b
/-- a mark ahead of a thing -/
def TB (s : Bool) (E : Thing) : Thing := fun W B cs => ∃ x, cs = [.bool s, x] ∧ E W B [x]
/-- the cells of element j -/
def cellsJ (n : Nat) (vs : List Value) (j : Nat) : List Value := (vs.drop (j * n)).take n
/-- a slice's block, of whose m elements the first k are things -/
structure TSc (T : TypeId) (n m k : Nat) (Es : Nat → Thing) (W : World) (p cap : Nat) (vs : List Value) (Bs : Nat → Nat → Prop) : Prop where
  row : W.ownsRow 0 T n (.slice (some ⟨p, 0, none⟩) m cap) m vs
  el : ∀ j, j < k → Es j W (Bs j) (cellsJ n vs j)
  np : ∀ j, j < k → ¬ Bs j p
  dis : ∀ i j, i < k → j < k → i ≠ j → ∀ b, Bs i b → Bs j b → False
/-- a slice of m things, each of n cells -/
def TS (T : TypeId) (n m : Nat) (Es : Nat → Thing) : Thing := fun W B cs =>
  (m = 0 ∧ cs = [.slice none 0 0] ∧ ∀ b, ¬ B b) ∨ ∃ p cap vs Bs, cs = [.slice (some ⟨p, 0, none⟩) m cap] ∧ TSc T n m m Es W p cap vs Bs ∧ ∀ b, B b ↔ b = p ∨ ∃ j, j < m ∧ Bs j b
/-- a thing in blocks from lo up to hi -/
def Ows (E : Thing) (W : World) (lo hi : Nat) (cs : List Value) : Prop := hi ≤ W.heap.size ∧ ∃ B, E W B cs ∧ ∀ b, B b → lo ≤ b ∧ b < hi
theorem ownsRow_far {W W' : World} {base p n m cap : Nat} {T : TypeId} {vs : List Value} (h : W.ownsRow base T n (.slice (some ⟨p, 0, none⟩) m cap) m vs) (hf : W'.heap[p]? = W.heap[p]?) : W'.ownsRow base T n (.slice (some ⟨p, 0, none⟩) m cap) m vs := by
  refine ⟨h.1, ?_⟩
  rcases h.2 with ⟨hn, _⟩ | ⟨p', cap', cur, e, hb, hgg, rest⟩
  · cases hn
  · simp only [Value.slice.injEq, Option.some.injEq, Addr.mk.injEq, true_and, and_true] at e
    obtain ⟨rfl, rfl⟩ := e
    exact .inr ⟨p, cap, cur, rfl, hb, hf.trans hgg, rest⟩
theorem ownsRow_lt {W : World} {base p n m cap : Nat} {T : TypeId} {vs : List Value} (h : W.ownsRow base T n (.slice (some ⟨p, 0, none⟩) m cap) m vs) : p < W.heap.size := (h.lt p rfl).2
theorem own_farB {W W' : World} {base : Nat} {v : Value} {xs : List Int} (h : Own W base v xs) (hf : ∀ b, v.ownBlock = some b → W'.heap[b]? = W.heap[b]?) : Own W' base v xs := by
  refine ⟨h.1, ?_⟩
  rcases h.2 with hn | ⟨p, cap, cur, rfl, hb, hgg, rest⟩
  · exact .inl hn
  · exact .inr ⟨p, cap, cur, rfl, hb, (hf p rfl).trans hgg, rest⟩
theorem good_TI (xs : List Int) : GoodT (TI xs) := by
  constructor
  · rintro W W' B cs ⟨a, c, e, o, f, hb⟩ hf
    exact ⟨a, c, e, own_farB o (fun b h => hf b ((hb b).2 h)), f, hb⟩
  · rintro W B cs ⟨a, c, e, o, f, hb⟩ b h
    exact (o.lt b ((hb b).1 h)).2
theorem good_TB (s : Bool) {E : Thing} (g : GoodT E) : GoodT (TB s E) := by
  constructor
  · rintro W W' B cs ⟨x, e, h⟩ hf
    exact ⟨x, e, g.far h hf⟩
  · rintro W B cs ⟨x, e, h⟩ b hb
    exact g.lt h b hb
theorem TSc.far {T : TypeId} {n m k : Nat} {Es : Nat → Thing} {W W' : World} {p cap : Nat} {vs : List Value} {Bs : Nat → Nat → Prop} (g : ∀ j, GoodT (Es j)) (h : TSc T n m k Es W p cap vs Bs) (hp : W'.heap[p]? = W.heap[p]?) (hf : ∀ j b, j < k → Bs j b → W'.heap[b]? = W.heap[b]?) : TSc T n m k Es W' p cap vs Bs :=
  ⟨ownsRow_far h.row hp, fun j hj => (g j).far (h.el j hj) (fun b hb => hf j b hj hb), h.np, h.dis⟩
theorem TSc.lt {T : TypeId} {n m k : Nat} {Es : Nat → Thing} {W : World} {p cap : Nat} {vs : List Value} {Bs : Nat → Nat → Prop} (g : ∀ j, GoodT (Es j)) (h : TSc T n m k Es W p cap vs Bs) (j b : Nat) (hj : j < k) (hb : Bs j b) : b < W.heap.size := (g j).lt (h.el j hj) b hb
theorem TSc.old {T : TypeId} {n m k : Nat} {Es : Nat → Thing} {W W' : World} {p cap : Nat} {vs : List Value} {Bs : Nat → Nat → Prop} (g : ∀ j, GoodT (Es j)) (h : TSc T n m k Es W p cap vs Bs) (q : Old W W') : TSc T n m k Es W' p cap vs Bs :=
  h.far g (q.block p (ownsRow_lt h.row)) (fun j b hj hb => q.block b (h.lt g j b hj hb))
theorem good_TS (T : TypeId) (n m : Nat) {Es : Nat → Thing} (g : ∀ j, GoodT (Es j)) : GoodT (TS T n m Es) := by
  constructor
  · rintro W W' B cs (h | ⟨p, cap, vs, Bs, e, h, hb⟩) hf
    · exact .inl h
    · exact .inr ⟨p, cap, vs, Bs, e, h.far g (hf p ((hb p).2 (.inl rfl))) (fun j b hj hB => hf b ((hb b).2 (.inr ⟨j, hj, hB⟩))), hb⟩
  · rintro W B cs (h | ⟨p, cap, vs, Bs, e, h, hb⟩) b hB
    · exact absurd hB (h.2.2 b)
    · rcases (hb b).1 hB with rfl | ⟨j, hj, hB⟩
      · exact ownsRow_lt h.row
      · exact h.lt g j b hj hB
theorem far_Ows {E : Thing} (g : GoodT E) : Far (Ows E) := fun W W' lo hi cs h hf hs => by
  obtain ⟨hh, B, hE, hb⟩ := h
  exact ⟨by omega, B, g.far hE (fun b hB => hf b (hb b hB).1 (hb b hB).2), hb⟩
theorem Ows.low {E : Thing} {W : World} {lo lo' hi hi' : Nat} {cs : List Value} (h : Ows E W lo hi cs) (hl : lo' ≤ lo) (hh : hi ≤ hi') (hs : hi' ≤ W.heap.size) : Ows E W lo' hi' cs := by
  obtain ⟨_, B, hE, hb⟩ := h
  exact ⟨hs, B, hE, fun b hB => by have := hb b hB; omega⟩
theorem Ows.old {E : Thing} (g : GoodT E) {W W' : World} {lo hi : Nat} {cs : List Value} (h : Ows E W lo hi cs) (q : Old W W') : Ows E W' lo hi cs := (far_Ows g).old h q h.1
theorem TS.slice {T : TypeId} {n m : Nat} {Es : Nat → Thing} {W : World} {B : Nat → Prop} {v : Value} (h : TS T n m Es W B [v]) : ∃ a c, v = .slice a m c := by
  rcases h with ⟨h0, h1, _⟩ | ⟨p, cap, vs, Bs, e, _⟩
  · simp at h1
    exact ⟨none, 0, by rw [h1, h0]⟩
  · simp at e
    exact ⟨_, _, e⟩
theorem TI.slice {xs : List Int} {W : World} {B : Nat → Prop} {v : Value} (h : TI xs W B [v]) : ∃ a c, v = .slice a xs.length c := by
  obtain ⟨a, c, e, _⟩ := h
  simp at e
  exact ⟨a, c, e⟩
theorem TI.row {xs : List Int} {W : World} {B : Nat → Prop} {v : Value} (h : TI xs W B [v]) : Row W v xs := by
  obtain ⟨a, c, e, o, _⟩ := h
  simp at e
  rw [e]
  exact Own.row o
theorem cellsJ_len {n m : Nat} {vs : List Value} (h : vs.length = m * n) (j : Nat) (hj : j < m) : (cellsJ n vs j).length = n := by
  unfold cellsJ
  rw [List.length_take, List.length_drop, h]
  have : (j + 1) * n ≤ m * n := Nat.mul_le_mul_right n hj
  rw [Nat.add_mul] at this
  omega
theorem cellsJ_get (n : Nat) (vs : List Value) (j i : Nat) (hi : i < n) : (cellsJ n vs j)[i]? = vs[j * n + i]? := by
  unfold cellsJ
  rw [List.getElem?_take, if_pos hi, List.getElem?_drop]
theorem cellsJ_set (n : Nat) (vs : List Value) (j i q : Nat) (x : Value) (hi : i < n) : cellsJ n (vs.set (j * n + i) x) q = if q = j then (cellsJ n vs j).set i x else cellsJ n vs q := by
  apply List.ext_getElem?
  intro r
  rcases Nat.lt_or_ge r n with hr | hr
  · rw [cellsJ_get n _ q r hr, List.getElem?_set]
    by_cases hq : q = j
    · subst hq
      rw [if_pos rfl, List.getElem?_set, cellsJ_get n vs q r hr]
      by_cases hri : i = r
      · subst hri
        rw [if_pos rfl, if_pos rfl]
        by_cases hlen : q * n + i < vs.length
        · rw [if_pos hlen, if_pos]
          unfold cellsJ
          rw [List.length_take, List.length_drop]
          omega
        · rw [if_neg hlen, if_neg]
          unfold cellsJ
          rw [List.length_take, List.length_drop]
          omega
      · rw [if_neg (by omega), if_neg hri]
    · rw [if_neg hq, if_neg, cellsJ_get n vs q r hr]
      intro e
      apply hq
      have h1 : (j * n + i) / n = j := by rw [Nat.mul_comm, Nat.mul_add_div (by omega), Nat.div_eq_of_lt hi]; omega
      have h2 : (q * n + r) / n = q := by rw [Nat.mul_comm, Nat.mul_add_div (by omega), Nat.div_eq_of_lt hr]; omega
      rw [← h1, ← h2, e]
  · have l1 : ∀ (us : List Value) (z : Nat), (cellsJ n us z)[r]? = none := fun us z => by
      apply List.getElem?_eq_none
      unfold cellsJ
      rw [List.length_take]
      omega
    rw [l1]
    split
    · rw [List.getElem?_set]
      rw [if_neg (by omega)]
      exact (l1 vs j).symm
    · exact (l1 vs q).symm
theorem TSc.cell {T : TypeId} {n m k : Nat} {Es : Nat → Thing} {W : World} {p cap : Nat} {vs : List Value} {Bs : Nat → Nat → Prop} (h : TSc T n m k Es W p cap vs Bs) (j i : Nat) (hj : j < m) (hi : i < n) : W.cell? ⟨p, j * n + i, none⟩ = (cellsJ n vs j)[i]? := by
  rw [World.ownsRow.cellAt h.row (j * n + i) (by
    have : (j + 1) * n ≤ m * n := Nat.mul_le_mul_right n hj
    rw [Nat.add_mul] at this
    omega), cellsJ_get n vs j i hi]
theorem TSc.frozen {T : TypeId} {n m k : Nat} {Es : Nat → Thing} {W : World} {p cap : Nat} {vs : List Value} {Bs : Nat → Nat → Prop} (h : TSc T n m k Es W p cap vs Bs) (j : Nat) : W.frozen? ⟨p, j, none⟩ = false := World.ownsRow.frozenAt h.row j
/-- an element's blocks have been written -/
theorem TSc.sub {T : TypeId} {n m k : Nat} {Es : Nat → Thing} {W w' : World} {p cap : Nat} {vs : List Value} {Bs : Nat → Nat → Prop} (g : ∀ j, GoodT (Es j)) (h : TSc T n m k Es W p cap vs Bs) (j : Nat) (hj : j < k) {E' : Thing}
    (hf : ∀ b, b < W.heap.size → ¬ Bs j b → w'.heap[b]? = W.heap[b]?) (he : E' w' (Bs j) (cellsJ n vs j)) : TSc T n m k (fun q => if q = j then E' else Es q) w' p cap vs Bs := by
  refine ⟨ownsRow_far h.row (hf p (ownsRow_lt h.row) (h.np j hj)), fun q hq => ?_, h.np, h.dis⟩
  by_cases hqj : q = j
  · subst hqj
    rw [if_pos rfl]
    exact he
  · rw [if_neg hqj]
    exact (g q).far (h.el q hq) (fun b hb => hf b (h.lt g q b hq hb) (fun hx => h.dis q j hq hj hqj b hb hx))
/-- a cell of the slice's own block has been written -/
theorem TSc.put {T : TypeId} {n m k : Nat} {Es : Nat → Thing} {W : World} {p cap : Nat} {vs : List Value} {Bs : Nat → Nat → Prop} (g : ∀ j, GoodT (Es j)) (h : TSc T n m k Es W p cap vs Bs) (j i : Nat) (hj : j < k) (hi : i < n) (x : Value) {E' : Thing}
    (he : ∀ W', (∀ b, b ≠ p → W'.heap[b]? = W.heap[b]?) → E' W' (Bs j) ((cellsJ n vs j).set i x)) : TSc T n m k (fun q => if q = j then E' else Es q) (W.setCell ⟨p, j * n + i, none⟩ x) p cap (vs.set (j * n + i) x) Bs := by
  have hot : ∀ b, b ≠ p → (W.setCell ⟨p, j * n + i, none⟩ x).heap[b]? = W.heap[b]? := fun b hb => heap_setCell_other _ _ _ _ hb
  refine ⟨(World.ownsRow.stored h.row _ _).1, fun q hq => ?_, h.np, h.dis⟩
  rw [cellsJ_set n vs j i q x hi]
  by_cases hqj : q = j
  · subst hqj
    rw [if_pos rfl, if_pos rfl]
    exact he _ hot
  · rw [if_neg hqj, if_neg hqj]
    exact (g q).far (h.el q hq) (fun b hb => hot b (fun e => h.np q hq (by rw [← e]; exact hb)))
theorem TSc.start {T : TypeId} {n m : Nat} {Es : Nat → Thing} {W : World} {p cap : Nat} {vs : List Value} (h : W.ownsRow 0 T n (.slice (some ⟨p, 0, none⟩) m cap) m vs) : TSc T n m 0 Es W p cap vs (fun _ _ => False) :=
  ⟨h, fun j hj => by omega, fun j hj => by omega, fun i j hi => by omega⟩
/-- a cell ahead is written (element k is not yet said to be a thing) -/
theorem TSc.fill {T : TypeId} {n m k : Nat} {Es : Nat → Thing} {W : World} {p cap : Nat} {vs : List Value} {Bs : Nat → Nat → Prop} (g : ∀ j, GoodT (Es j)) (h : TSc T n m k Es W p cap vs Bs) (i : Nat) (hi : i < n) (x : Value) : TSc T n m k Es (W.setCell ⟨p, k * n + i, none⟩ x) p cap (vs.set (k * n + i) x) Bs := by
  have hot : ∀ b, b ≠ p → (W.setCell ⟨p, k * n + i, none⟩ x).heap[b]? = W.heap[b]? := fun b hb => heap_setCell_other _ _ _ _ hb
  refine ⟨(World.ownsRow.stored h.row _ _).1, fun q hq => ?_, h.np, h.dis⟩
  rw [cellsJ_set n vs k i q x hi, if_neg (by omega)]
  exact (g q).far (h.el q hq) (fun b hb => hot b (fun e => h.np q hq (by rw [← e]; exact hb)))
/-- one more element is a thing -/
theorem TSc.more {T : TypeId} {n m k : Nat} {Es : Nat → Thing} {W : World} {p cap : Nat} {vs : List Value} {Bs : Nat → Nat → Prop} {B : Nat → Prop} (h : TSc T n m k Es W p cap vs Bs) (he : Es k W B (cellsJ n vs k)) (hp : ¬ B p) (hd : ∀ j, j < k → ∀ b, Bs j b → B b → False) : TSc T n m (k + 1) Es W p cap vs (fun q => if q = k then B else Bs q) := by
  refine ⟨h.row, fun j hj => ?_, fun j hj => ?_, fun i j hi hj hij b => ?_⟩
  · by_cases e : j = k
    · subst e
      simp only [if_true]
      exact he
    · simp only [e, if_false]
      exact h.el j (by omega)
  · by_cases e : j = k
    · simp only [e, if_true]
      exact hp
    · simp only [e, if_false]
      exact h.np j (by omega)
  · by_cases e : i = k
    · have e2 : ¬ j = k := by omega
      simp only [e, e2, if_true, if_false]
      exact fun h1 h2 => hd j (by omega) b h2 h1
    · by_cases e2 : j = k
      · simp only [e, e2, if_true, if_false]
        exact fun h1 h2 => hd i (by omega) b h1 h2
      · simp only [e, e2, if_false]
        exact h.dis i j (by omega) (by omega) hij b
theorem TSc.done {T : TypeId} {n m : Nat} {Es : Nat → Thing} {W : World} {p cap lo : Nat} {vs : List Value} {Bs : Nat → Nat → Prop} (g : ∀ j, GoodT (Es j)) (h : TSc T n m m Es W p cap vs Bs) (hp : lo ≤ p) (hb : ∀ j b, j < m → Bs j b → lo ≤ b) : Ows (TS T n m Es) W lo W.heap.size [.slice (some ⟨p, 0, none⟩) m cap] := by
  refine ⟨Nat.le_refl _, fun b => b = p ∨ ∃ j, j < m ∧ Bs j b, .inr ⟨p, cap, vs, Bs, rfl, h, fun b => Iff.rfl⟩, fun b hB => ?_⟩
  rcases hB with rfl | ⟨j, hj, hB⟩
  · exact ⟨hp, ownsRow_lt h.row⟩
  · exact ⟨hb j b hj hB, h.lt g j b hj hB⟩
theorem TS.ext {T : TypeId} {n m : Nat} {Es Es' : Nat → Thing} {W : World} {B : Nat → Prop} {cs : List Value} (he : ∀ j, j < m → Es j = Es' j) (h : TS T n m Es W B cs) : TS T n m Es' W B cs := by
  rcases h with h | ⟨p, cap, vs, Bs, e, h, hb⟩
  · exact .inl h
  · exact .inr ⟨p, cap, vs, Bs, e, ⟨h.row, fun j hj => by rw [← he j hj]; exact h.el j hj, h.np, h.dis⟩, hb⟩
theorem TSc.ext {T : TypeId} {n m k : Nat} {Es Es' : Nat → Thing} {W : World} {p cap : Nat} {vs : List Value} {Bs : Nat → Nat → Prop} (he : ∀ j, j < k → Es j = Es' j) (h : TSc T n m k Es W p cap vs Bs) : TSc T n m k Es' W p cap vs Bs :=
  ⟨h.row, fun j hj => by rw [← he j hj]; exact h.el j hj, h.np, h.dis⟩
end Go.Proofs.YtkggfljdbdfonaaGreatDoor
/- Proved: a slice of things with one more appended; a row of one's own as a thing; no function of the program. -/
namespace Go.Proofs.YtkggfljdbdfonaaGreatDoor
open Go.ChangeShapes Go.WideShapes Go.ChangeAt Go.RowKit
set_option linter.unusedVariables false
set_option linter.unusedSimpArgs false
theorem TI.of {W : World} {lo : Nat} {v : Value} {xs : List Int} (o : Own W lo v xs) : ∃ B, TI xs W B [v] ∧ ∀ b, B b → lo ≤ b := by
  obtain ⟨a, c, rfl⟩ := (Own.row o).slice
  refine ⟨fun b => (Value.slice a xs.length c).ownBlock = some b, ⟨a, c, rfl, Own.low o (Nat.zero_le _), ?_, fun b => Iff.rfl⟩, fun b hb => (o.lt b hb).1⟩
  rcases o.2 with ⟨e, h0⟩ | ⟨p, cap, cur, e, _, _, h, _⟩
  · simp at e
    omega
  · simp only [Value.slice.injEq] at e
    omega
theorem TI.own {W : World} {lo : Nat} {B : Nat → Prop} {v : Value} {xs : List Int} (h : TI xs W B [v]) (hb : ∀ b, B b → lo ≤ b) : Own W lo v xs := by
  obtain ⟨a, c, e, o, f, hB⟩ := h
  simp at e
  subst e
  refine ⟨o.1, ?_⟩
  rcases o.2 with hn | ⟨p, cap, cur, e, _, rest⟩
  · exact .inl hn
  · refine .inr ⟨p, cap, cur, e, hb p ((hB p).2 (by rw [e]; rfl)), rest⟩
theorem TI.blocks {W : World} {B : Nat → Prop} {v : Value} {xs : List Int} (h : TI xs W B [v]) : ∀ b, B b ↔ v.ownBlock = some b := by
  obtain ⟨a, c, e, o, f, hB⟩ := h
  simp at e
  subst e
  exact hB
theorem cellsJ_app1 {n m : Nat} {vs : List Value} (news : List Value) (h : vs.length = m * n) (j : Nat) (hj : j < m) : cellsJ n (vs ++ news) j = cellsJ n vs j := by
  have hb : (j + 1) * n ≤ m * n := Nat.mul_le_mul_right n hj
  rw [Nat.add_mul] at hb
  unfold cellsJ
  rw [List.drop_append_of_le_length (by omega), List.take_append_of_le_length]
  rw [List.length_drop]
  omega
theorem cellsJ_app2 {n m : Nat} {vs news : List Value} (h : vs.length = m * n) (hn : news.length = n) : cellsJ n (vs ++ news) m = news := by
  unfold cellsJ
  rw [← h, List.drop_left, ← hn, List.take_length]
/-- one more element -/
theorem Ows.app {T : TypeId} {n m : Nat} {Es : Nat → Thing} {E : Thing} {W0 W : World} {lo : Nat} {x : Value} {Be : Nat → Prop} {news : List Value} (g : ∀ j, GoodT (Es j)) (gE : GoodT E)
    (h : Ows (TS T n m Es) W0 lo W0.heap.size [x]) (hlo : lo ≤ W0.heap.size) (q : Old W0 W) (he : E W Be news) (hbe : ∀ b, Be b → W0.heap.size ≤ b) (hn : news.length = n) :
    ∃ vs, W.ownsRow 0 T n x m vs ∧ (∀ b, x.ownBlock = some b → lo ≤ b) ∧ ∀ v' w', w'.ownsRow 0 T n v' (m + 1) (vs ++ news) → W.grownBy w' x.ownBlock → (v'.ownBlock = x.ownBlock ∨ v'.ownBlock = some W.heap.size) →
      Ows (TS T n (m + 1) (fun j => if j = m then E else Es j)) w' lo w'.heap.size [v'] := by
  have hsz := q.size
  have key : ∃ (vs : List Value) (Bs : Nat → Nat → Prop), W.ownsRow 0 T n x m vs ∧ (∀ b, x.ownBlock = some b → lo ≤ b ∧ b < W0.heap.size) ∧ (∀ j, j < m → Es j W (Bs j) (cellsJ n vs j)) ∧ (∀ j b, j < m → Bs j b → (lo ≤ b ∧ b < W0.heap.size) ∧ x.ownBlock ≠ some b) ∧ (∀ i j, i < m → j < m → i ≠ j → ∀ b, Bs i b → Bs j b → False) := by
    obtain ⟨hh, B, hT, hB⟩ := h
    rcases hT with ⟨h0, h1, _⟩ | ⟨p, cap, vs, Bs, e, hc, hb⟩
    · simp at h1
      subst h0 h1
      exact ⟨[], fun _ _ => False, ⟨by simp, .inl ⟨rfl, rfl⟩⟩, (fun b hb => by cases hb), (fun j hj => by omega), (fun j b hj => by omega), (fun i j hi => by omega)⟩
    · simp at e
      subst e
      have hc' := hc.old g q
      refine ⟨vs, Bs, hc'.row, fun b hx => ?_, hc'.el, fun j b hj hx => ⟨hB b ((hb b).2 (.inr ⟨j, hj, hx⟩)), fun e => ?_⟩, hc.dis⟩
      · simp only [Value.ownBlock, Option.some.injEq] at hx
        subst hx
        exact hB p ((hb p).2 (.inl rfl))
      · simp only [Value.ownBlock, Option.some.injEq] at e
        subst e
        exact hc.np j hj hx
  obtain ⟨vs, Bs, ho, hx, hel, hbs, hdis⟩ := key
  have hvl : vs.length = m * n := ho.1
  refine ⟨vs, ho, fun b hb => (hx b hb).1, fun v' w' ho' gr hv' => ?_⟩
  rcases ho'.2 with ⟨_, h0⟩ | ⟨p', cap', cur, e', hb', hgg, rest⟩
  · omega
  subst e'
  have hp' : p' < w'.heap.size := (Array.getElem?_eq_some_iff.1 hgg).1
  have hcase : x.ownBlock = some p' ∨ p' = W.heap.size := by
    rcases hv' with e | e
    · exact .inl e.symm
    · simp only [Value.ownBlock, Option.some.injEq] at e
      exact .inr e
  have hlop : lo ≤ p' := by
    rcases hcase with e | e
    · exact (hx p' e).1
    · omega
  have hbE : ∀ b, Be b → b < W.heap.size := fun b hb => gE.lt he b hb
  have keep : ∀ b, b < W.heap.size → x.ownBlock ≠ some b → w'.heap[b]? = W.heap[b]? := fun b h1 h2 => gr.block b h1 (fun e => h2 e.symm)
  have hnE : ∀ b, Be b → x.ownBlock ≠ some b := fun b hb e => by
    have := (hx b e).2
    have := hbe b hb
    omega
  have hT : TSc T n (m + 1) (m + 1) (fun j => if j = m then E else Es j) w' p' cap' (vs ++ news) (fun j => if j = m then Be else Bs j) := by
    refine ⟨ho', fun j hj => ?_, fun j hj => ?_, fun i j hi hj hij b => ?_⟩
    · by_cases e : j = m
      · subst e
        simp only [if_true]
        rw [cellsJ_app2 hvl hn]
        exact gE.far he (fun b hb => keep b (hbE b hb) (hnE b hb))
      · simp only [e, if_false]
        rw [cellsJ_app1 news hvl j (by omega)]
        exact (g j).far (hel j (by omega)) (fun b hb => keep b (by have := (hbs j b (by omega) hb).1; omega) (hbs j b (by omega) hb).2)
    · by_cases e : j = m
      · simp only [e, if_true]
        intro hb
        rcases hcase with e2 | e2
        · exact hnE p' hb e2
        · have := hbE p' hb
          omega
      · simp only [e, if_false]
        intro hb
        have h3 := hbs j p' (by omega) hb
        rcases hcase with e2 | e2
        · exact h3.2 e2
        · omega
    · by_cases e : i = m
      · have e2 : ¬ j = m := by omega
        simp only [e, e2, if_true, if_false]
        intro h1 h2
        have := hbe b h1
        have := (hbs j b (by omega) h2).1
        omega
      · by_cases e2 : j = m
        · simp only [e, e2, if_true, if_false]
          intro h1 h2
          have := hbe b h2
          have := (hbs i b (by omega) h1).1
          omega
        · simp only [e, e2, if_false]
          exact hdis i j (by omega) (by omega) hij b
  refine hT.done (fun j => by by_cases e : j = m <;> simp only [e, if_true, if_false]; exact gE; exact g j) hlop (fun j b hj hb => ?_)
  by_cases e : j = m
  · simp only [e, if_true] at hb
    have := hbe b hb
    omega
  · simp only [e, if_false] at hb
    exact (hbs j b (by omega) hb).1.1
theorem Ows.nil {T : TypeId} {n : Nat} {Es : Nat → Thing} {W : World} {lo hi : Nat} (hh : hi ≤ W.heap.size) : Ows (TS T n 0 Es) W lo hi [.slice none 0 0] :=
  ⟨hh, fun _ => False, .inl ⟨rfl, rfl, fun b hb => hb⟩, fun b hb => hb.elim⟩
end Go.Proofs.YtkggfljdbdfonaaGreatDoor
/- Proved: rows of rows as a law carries them: sizes, copies, comparisons. -/
namespace Go.Proofs.YtkggfljdbdfonaaGreatDoor
open Go.ChangeShapes Go.WideShapes Go.ChangeAt Go.RowKit
set_option linter.unusedVariables false
set_option linter.unusedSimpArgs false
/-- v is a slice of rows, which lie in w -/
def RowS (w : World) (v : Value) (xss : List (List Int)) : Prop :=
  (∃ a cap, v = .slice a 0 cap ∧ xss = []) ∨ ∃ b o cap, ∃ us : Nat → Value, v = .slice (some ⟨b, o, none⟩) xss.length cap ∧ b < w.heap.size ∧ 0 < xss.length ∧ ∀ j, j < xss.length → w.cell? ⟨b, o + j, none⟩ = some (us j) ∧ Row w (us j) (xss.getD j [])
theorem RowS.old {w w' : World} {v : Value} {xss : List (List Int)} (h : RowS w v xss) (g : Old w w') : RowS w' v xss := by
  rcases h with h1 | ⟨b, o, cap, us, e, hb, h0, hc⟩
  · exact Or.inl h1
  · exact Or.inr ⟨b, o, cap, us, e, Nat.lt_of_lt_of_le hb g.size, h0, fun j hj => ⟨(g.cell (p := ⟨b, o + j, none⟩) hb).trans (hc j hj).1, (hc j hj).2.old g⟩⟩
theorem RowS.slice {w : World} {v : Value} {xss : List (List Int)} (h : RowS w v xss) : ∃ a cap, v = .slice a xss.length cap := by
  rcases h with ⟨a, cap, e, e2⟩ | ⟨b, o, cap, us, e, _⟩
  · exact ⟨a, cap, by rw [e, e2]; rfl⟩
  · exact ⟨_, cap, e⟩
/-- what is left of a bound behind rows -/
def leftL : Int → List (List Int) → Int
  | left, [] => left
  | left, r :: rs => if leftN left r.length < 0 then -1 else leftL (leftN left r.length) rs
def leftSS (left : Int) (xss : List (List Int)) : Int := if left < (xss.length : Int) then -1 else leftL (left - xss.length) xss
theorem leftL_ok : ∀ (xss : List (List Int)) (left : Int), 0 ≤ left → ¬ leftL left xss < 0 → 0 ≤ leftL left xss ∧ leftL left xss ≤ left ∧ ∀ r ∈ xss, (r.length : Int) ≤ left
  | [], left, h0, h => ⟨h0, Int.le_refl _, by simp⟩
  | r :: rs, left, h0, h => by
    unfold leftL at h ⊢
    by_cases hr : leftN left r.length < 0
    · rw [if_pos hr] at h
      omega
    · rw [if_neg hr] at h ⊢
      obtain ⟨q1, q2, q3⟩ := leftN_ok hr h0
      obtain ⟨p1, p2, p3⟩ := leftL_ok rs _ q3 h
      refine ⟨p1, by omega, fun x hx => ?_⟩
      rcases List.mem_cons.1 hx with rfl | hx
      · exact q1
      · have := p3 x hx
        omega
theorem leftSS_ok {xss : List (List Int)} {left : Int} (h0 : 0 ≤ left) (h : ¬ leftSS left xss < 0) : 0 ≤ leftSS left xss ∧ leftSS left xss ≤ left ∧ (xss.length : Int) ≤ left ∧ ∀ r ∈ xss, (r.length : Int) ≤ left := by
  unfold leftSS at h ⊢
  by_cases hr : left < (xss.length : Int)
  · rw [if_pos hr] at h
    omega
  · rw [if_neg hr] at h ⊢
    obtain ⟨p1, p2, p3⟩ := leftL_ok xss _ (by omega) h
    exact ⟨p1, by omega, by omega, fun r hr => by have := p3 r hr; omega⟩
theorem drop_cons (xss : List (List Int)) (k : Nat) (h : k < xss.length) : xss.drop k = xss.getD k [] :: xss.drop (k + 1) := by
  rw [List.drop_eq_getElem_cons h]
  simp [List.getD, h]
theorem ret_ii {a b : Int} (h : a = b) : Ending.returned (.int .i64 a) = .returned (.int .i64 b) := by rw [h]
set_option maxRecDepth 100000 in
set_option maxHeartbeats 2000000 in
theorem szIntSS_any (xss : List (List Int)) (v : Value) (left : Int) (w : World) (hv : RowS w v xss) (hl : xss.length ≤ 9223372036854775807) (hr : ∀ r ∈ xss, r.length ≤ 9223372036854775807) (h0 : 0 ≤ left) (h1 : left ≤ 1048576) :
    Calls Tryz.prog 43 #[v, .int .i64 left] w fun e w' => e = .returned (.int .i64 (leftSS left xss)) ∧ Old w w' := by
  obtain ⟨a0, cap0, ev⟩ := hv.slice
  subst ev
  by_cases hb : left < (xss.length : Int)
  · have d : decide (left - (xss.length : Int) < 0) = true := by simp; omega
    have HB : Hid (leftSS left xss = -1) := by show _ = _; unfold leftSS; rw [if_pos hb]
    clear hv hr hb
    go_enter Tryz.func43, Tryz.ntmps43
    go_wp2_with fail
    go_ret
    exact ⟨ret_ii HB.out.symm, Old.refl _⟩
  · have d : decide (left - (xss.length : Int) < 0) = false := by simp; omega
    have HB : Hid (leftL (left - xss.length) (xss.drop 0) = leftSS left xss) := by show _ = _; unfold leftSS; rw [if_neg hb]; rfl
    have hl2 : 0 ≤ left - (xss.length : Int) ∧ left - (xss.length : Int) ≤ 1048576 := by omega
    generalize leftSS left xss = R at *
    have HR : Hid (∀ r ∈ xss, r.length ≤ 9223372036854775807) := hr
    have HV : Hid (RowS w (.slice a0 xss.length cap0) xss) := hv
    clear hv hr
    go_enter Tryz.func43, Tryz.ntmps43
    go_wp2_with fail
    go_loopw [5, 1] (fun i l W => ∃ (k : Nat) (z : Int), k ≤ xss.length ∧ i = .int .i64 k ∧ l = .int .i64 z ∧ 0 ≤ z ∧ z ≤ 1048576 ∧ Hid (leftL z (xss.drop k) = R) ∧ W = w) (fun i _ _ => xss.length - (intOf i).toNat)
    case atStart => exact ⟨0, left - xss.length, by omega, rfl, rfl, by omega, by omega, HB, rfl⟩
    case round =>
      obtain ⟨k, z, hk, rfl, rfl, z0, z1, H1, hW⟩ := hrel
      obtain rfl : w = wr := hW.symm
      clear HB d hW
      by_cases hlt : k < xss.length
      · have d1 : decide ((k : Int) < (xss.length : Int)) = true := by simp; omega
        rcases HV.out with ⟨a, cap, e, e2⟩ | ⟨b, o, cap, us, e, hb2, h3, hc⟩
        · subst e2
          simp at hlt
        simp only [Value.slice.injEq, true_and] at e
        obtain ⟨rfl, rfl⟩ := e
        obtain ⟨c1, r1⟩ := hc k hlt
        obtain ⟨a1, cap1, e1⟩ := r1.slice
        rw [e1] at c1
        have hm : xss.getD k [] ∈ xss := by simp [List.getD, hlt]
        have hrl := HR.out _ hm
        have H2 : Hid ((if leftN z (xss.getD k []).length < 0 then -1 else leftL (leftN z (xss.getD k []).length) (xss.drop (k + 1))) = R) := by
          have := H1.out
          rw [drop_cons xss k hlt] at this
          unfold leftL at this
          exact this
        have cz := fun W => szInts_any a1 (xss.getD k []).length cap1 z W hrl z0 z1
        clear hc r1 e1 H1 hm
        generalize (xss.getD k []).length = m at *
        by_cases hz : leftN z m < 0
        · have H3 : Hid (-1 = R) := by have := H2.out; rw [if_pos hz] at this; exact this
          have hz2 : z < (m : Int) := by
            unfold leftN at hz
            split at hz
            · assumption
            · omega
          rw [if_pos hz2] at cz
          clear H2 hz hz2
          go_wp2_with fail
          refine (cz _).mono ?_
          rintro e w1 ⟨rfl, hw1⟩
          obtain rfl : w = w1 := hw1.symm
          go_wp2_with fail
          go_ret
          exact ⟨ret_ii H3.out, Old.refl _⟩
        · have H3 : Hid (leftL (leftN z m) (xss.drop (k + 1)) = R) := by have := H2.out; rw [if_neg hz] at this; exact this
          obtain ⟨q1, q2, q3⟩ := leftN_ok hz z0
          rw [q2] at H3 q3
          rw [if_neg (by omega)] at cz
          have d2 : decide (z - (m : Int) < 0) = false := by simp; omega
          clear H2 hz q2
          go_wp2_with fail
          refine (cz _).mono ?_
          rintro e w1 ⟨rfl, hw1⟩
          obtain rfl : w = w1 := hw1.symm
          go_wp2_with fail
          exact ⟨⟨k + 1, z - m, by omega, by go_num, rfl, by omega, by omega, H3, by first | rfl | trivial⟩, by simp [intOf]; omega⟩
      · have d1 : decide ((k : Int) < (xss.length : Int)) = false := by simp; omega
        have H2 : Hid (z = R) := by
          have := H1.out
          rw [List.drop_eq_nil_of_le (by omega)] at this
          unfold leftL at this
          exact this
        clear H1
        go_wp2_with fail
        go_ret
        exact ⟨ret_ii H2.out, Old.refl _⟩
theorem Tryz.infoInts : (Tryz.prog.info? 22).map (fun i => (i.zero, i.size, i.bytes)) = some (some (.slice none 0 0), 1, 24) := by kernel_rfl
/-- rows of one's own, no two in one block -/
def OwS (xss : List (List Int)) (W : World) (lo hi : Nat) (v : Value) : Prop :=
  hi ≤ W.heap.size ∧ ((v = .slice none 0 0 ∧ xss = []) ∨ ∃ (p cap : Nat) (vs : List Value), v = .slice (some ⟨p, 0, none⟩) xss.length cap ∧ xss.length ≤ cap ∧ lo ≤ p ∧ p < hi ∧ W.ownsRow lo 22 1 (.slice (some ⟨p, 0, none⟩) xss.length cap) xss.length vs ∧ vs.length = xss.length
    ∧ (∀ j, j < xss.length → ∃ a c, vs[j]? = some (.slice a (xss.getD j []).length c) ∧ (xss.getD j []).length ≤ c ∧ OwI (xss.getD j []) W lo hi (.slice a (xss.getD j []).length c) ∧ (∀ b, (Value.slice a (xss.getD j []).length c).ownBlock = some b → b ≠ p))
    ∧ (∀ (i j : Nat) (x y : Value) (b : Nat), i < j → vs[i]? = some x → vs[j]? = some y → x.ownBlock = some b → y.ownBlock = some b → False))
set_option maxRecDepth 100000 in
set_option maxHeartbeats 2000000 in
theorem toIntSS_any (xss : List (List Int)) (v : Value) (w : World) (hv : RowS w v xss) (hl : xss.length ≤ 1048576) (hr : ∀ r ∈ xss, r.length ≤ 1048576) :
    Calls Tryz.prog 48 #[v] w fun e w' => ∃ v', e = .returned v' ∧ Old w w' ∧ OwS xss w' w.heap.size w'.heap.size v' ∧ ∃ a c, v' = .slice a xss.length c := by
  obtain ⟨i0, hi, hz0, hz1, hz2⟩ := info_parts Tryz.infoInts
  obtain ⟨a0, cap0, ev⟩ := hv.slice
  subst ev
  have HR : Hid (∀ r ∈ xss, r.length ≤ 1048576) := hr
  have HV : Hid (RowS w (.slice a0 xss.length cap0) xss) := hv
  clear hv hr
  go_enter Tryz.func48, Tryz.ntmps48
  go_wp2_with (at_make; refine wpList_make_full _ rfl _ _ 25 rfl w.heap.size 22 i0 (.slice none 0 0) 1 Tryz.underlying25 hi hz0 hz1 .i64 .i64 _ _ xss.length rfl rfl rfl rfl (by rw [hz2]; omega) (by unfold maxLen; omega) (Nat.le_refl _) ?_; intro w1 hown hgrow)
  have hmade : (madeCells (Value.slice none 0 0).cells (xss.length * 1)).toList = List.replicate xss.length (Value.slice none 0 0) := by
    rw [Nat.mul_one]
    exact toList_madeCells_one (.slice none 0 0) xss.length
  rw [hmade] at hown
  have HO : Hid (w1.ownsRow w.heap.size 22 1 (.slice (some ⟨w.heap.size, 0, none⟩) xss.length xss.length) xss.length (List.replicate xss.length (Value.slice none 0 0))) := hown
  have HG : Hid (Old w w1) := Below.grown (Below.refl _ _) hgrow (Nat.le_refl _) (fun _ h => by cases h)
  have hs1 : w.heap.size < w1.heap.size := (hown.lt w.heap.size rfl).2
  clear hown hgrow hmade
  go_loopw [4] (fun i W => ∃ (k : Nat) (vs : List Value), k ≤ xss.length ∧ i = .int .i64 k ∧ Hid (W.ownsRow w.heap.size 22 1 (.slice (some ⟨w.heap.size, 0, none⟩) xss.length xss.length) xss.length vs) ∧ Hid (vs.length = xss.length) ∧ Hid (Old w W)
    ∧ Hid (∀ j, j < k → ∃ a c, vs[j]? = some (.slice a (xss.getD j []).length c) ∧ (xss.getD j []).length ≤ c ∧ OwI (xss.getD j []) W w.heap.size W.heap.size (.slice a (xss.getD j []).length c) ∧ (∀ b, (Value.slice a (xss.getD j []).length c).ownBlock = some b → b ≠ w.heap.size))
    ∧ Hid (∀ (i j : Nat) (x y : Value) (b : Nat), i < j → j < k → vs[i]? = some x → vs[j]? = some y → x.ownBlock = some b → y.ownBlock = some b → False)) (fun i _ => xss.length - (intOf i).toNat)
  case atStart => exact ⟨0, _, by omega, rfl, HO, by show _ = _; simp, HG, fun j hj => by omega, fun i j x y b h1 h2 => by omega⟩
  case round =>
    obtain ⟨k, vs, hk, rfl, H1, HL, HG1, H2, H3⟩ := hrel
    clear HO HG
    by_cases hlt : k < xss.length
    · have d1 : decide ((k : Int) < (xss.length : Int)) = true := by simp; omega
      rcases HV.out with ⟨a, cap, e, e2⟩ | ⟨b, o, cap, us, e, hb2, h3, hc⟩
      · subst e2
        simp at hlt
      simp only [Value.slice.injEq, true_and] at e
      obtain ⟨rfl, rfl⟩ := e
      obtain ⟨c0, r0⟩ := hc k hlt
      have hm : xss.getD k [] ∈ xss := by simp [List.getD, hlt]
      have hrl := HR.out _ hm
      obtain ⟨a1, cap1, e1⟩ := r0.slice
      rw [e1] at c0 r0
      have c1 : wr.cell? ⟨b, o + k, none⟩ = some (.slice a1 (xss.getD k []).length cap1) := (HG1.out.cell (p := ⟨b, o + k, none⟩) hb2).trans c0
      have HR1 : Hid (Row wr (.slice a1 (xss.getD k []).length cap1) (xss.getD k [])) := r0.old HG1.out
      obtain ⟨xs, hxs⟩ : ∃ xs, xss.getD k [] = xs := ⟨_, rfl⟩
      have HXS : Hid (xss.getD k [] = xs) := hxs
      rw [hxs] at c1 HR1 hrl
      clear hc c0 r0 e1 hm hxs
      go_wp2_with fail
      refine (toInts_any xs _ _ HR1.out hrl).mono ?_
      rintro e w2 ⟨rfl, g2, o2⟩
      have hsr : w.heap.size < wr.heap.size := (H1.out.lt w.heap.size rfl).2
      have H4 : Hid (w2.ownsRow w.heap.size 22 1 (.slice (some ⟨w.heap.size, 0, none⟩) xss.length xss.length) xss.length vs) := by
        refine ⟨H1.out.1, ?_⟩
        rcases H1.out.2 with hn | ⟨p, cap', cur, e, hb', hgg, rest⟩
        · exact .inl hn
        · refine .inr ⟨p, cap', cur, e, hb', ?_, rest⟩
          rw [g2.block p (Array.getElem?_eq_some_iff.1 hgg).1]
          exact hgg
      have hvl : vs.length = xss.length := HL.out
      obtain ⟨y, hy⟩ : ∃ y, vs[k]? = some y := ⟨vs[k]'(by omega), List.getElem?_eq_getElem (by omega)⟩
      have c2 : w2.cell? ⟨w.heap.size, k, none⟩ = some y := by
        rw [World.ownsRow.cellAt H4.out k (by omega)]
        exact hy
      have c3 : w2.frozen? ⟨w.heap.size, k, none⟩ = false := World.ownsRow.frozenAt H4.out k
      have H5 : Hid ((w2.setCell ⟨w.heap.size, k, none⟩ (.slice (some ⟨wr.heap.size, 0, none⟩) xs.length xs.length)).ownsRow w.heap.size 22 1 (.slice (some ⟨w.heap.size, 0, none⟩) xss.length xss.length) xss.length (vs.set k (.slice (some ⟨wr.heap.size, 0, none⟩) xs.length xs.length))) := (World.ownsRow.stored H4.out k (.slice (some ⟨wr.heap.size, 0, none⟩) xs.length xs.length)).1
      have HG2 : Hid (Old w w2) := Old.trans HG1.out g2
      have HG3 : Hid (Old w (w2.setCell ⟨w.heap.size, k, none⟩ (.slice (some ⟨wr.heap.size, 0, none⟩) xs.length xs.length))) := HG2.out.own (Nat.le_refl _) _
      have hfar : ∀ bb, w.heap.size < bb → (w2.setCell ⟨w.heap.size, k, none⟩ (.slice (some ⟨wr.heap.size, 0, none⟩) xs.length xs.length)).heap[bb]? = w2.heap[bb]? := fun bb hbb => heap_setCell_other _ _ _ _ (by show bb ≠ w.heap.size; omega)
      have hsz : (w2.setCell ⟨w.heap.size, k, none⟩ (.slice (some ⟨wr.heap.size, 0, none⟩) xs.length xs.length)).heap.size = w2.heap.size := by simp
      have hown3 : Own (w2.setCell ⟨w.heap.size, k, none⟩ (.slice (some ⟨wr.heap.size, 0, none⟩) xs.length xs.length)) w.heap.size (.slice (some ⟨wr.heap.size, 0, none⟩) xs.length xs.length) xs := Own.low (ownsRow_setCell_other o2 (by simp [Value.ownBlock]; omega) _) (by omega)
      have H6 : Hid (∀ j, j < k + 1 → ∃ a c, (vs.set k (.slice (some ⟨wr.heap.size, 0, none⟩) xs.length xs.length))[j]? = some (.slice a (xss.getD j []).length c) ∧ (xss.getD j []).length ≤ c ∧ OwI (xss.getD j []) (w2.setCell ⟨w.heap.size, k, none⟩ (.slice (some ⟨wr.heap.size, 0, none⟩) xs.length xs.length)) w.heap.size (w2.setCell ⟨w.heap.size, k, none⟩ (.slice (some ⟨wr.heap.size, 0, none⟩) xs.length xs.length)).heap.size (.slice a (xss.getD j []).length c) ∧ (∀ b, (Value.slice a (xss.getD j []).length c).ownBlock = some b → b ≠ w.heap.size)) := fun j hj => by
        rcases Nat.lt_or_ge j k with hjk | hjk
        · obtain ⟨a, c, h1, h2, h3, h4⟩ := H2.out j hjk
          refine ⟨a, c, ?_, h2, ?_, h4⟩
          · rw [List.getElem?_set_ne (by omega)]
            exact h1
          · have h5 : Own w2 w.heap.size (.slice a (xss.getD j []).length c) (xss.getD j []) := h3.1.old g2
            refine ⟨?_, Nat.le_refl _, fun b hb => ?_⟩
            · exact ownsRow_setCell_other h5 (fun e => h4 _ e rfl) _
            · rw [hsz]
              exact (h5.lt b hb).2
        · obtain rfl : j = k := by omega
          rw [HXS.out]
          refine ⟨_, _, ?_, Nat.le_refl _, ⟨hown3, Nat.le_refl _, fun b hb => (hown3.lt b hb).2⟩, fun b hb => ?_⟩
          · rw [List.getElem?_set_self (by omega)]
          · simp [Value.ownBlock] at hb
            omega
      have H7 : Hid (∀ (i j : Nat) (x y : Value) (b : Nat), i < j → j < k + 1 → (vs.set k (.slice (some ⟨wr.heap.size, 0, none⟩) xs.length xs.length))[i]? = some x → (vs.set k (.slice (some ⟨wr.heap.size, 0, none⟩) xs.length xs.length))[j]? = some y → x.ownBlock = some b → y.ownBlock = some b → False) := fun i j x y b hij hjk hx hy' hbx hby => by
        rcases Nat.lt_or_ge j k with hjk2 | hjk2
        · rw [List.getElem?_set_ne (by omega)] at hx hy'
          exact H3.out i j x y b hij hjk2 hx hy' hbx hby
        · obtain rfl : j = k := by omega
          rw [List.getElem?_set_ne (by omega)] at hx
          rw [List.getElem?_set_self (by omega)] at hy'
          obtain ⟨a, c, h1, h2, h3, h4⟩ := H2.out i hij
          rw [h1] at hx
          obtain rfl := Option.some.inj hx
          obtain rfl := Option.some.inj hy'
          simp [Value.ownBlock] at hby
          have := h3.2.2 b hbx
          omega
      have H8 : Hid ((vs.set k (.slice (some ⟨wr.heap.size, 0, none⟩) xs.length xs.length)).length = xss.length) := by show _ = _; simp [hvl]
      clear H1 H2 H3 HL H4 hfar hsz hown3 g2 o2 hy hvl
      go_wp2_with fail
      exact ⟨⟨k + 1, _, by omega, by go_num, H5, H8, HG3, H6, H7⟩, by simp [intOf]; omega⟩
    · have d1 : decide ((k : Int) < (xss.length : Int)) = false := by simp; omega
      obtain rfl : k = xss.length := by omega
      go_wp2_with fail
      go_ret
      refine ⟨_, rfl, HG1.out, ⟨Nat.le_refl _, Or.inr ⟨w.heap.size, xss.length, vs, rfl, Nat.le_refl _, Nat.le_refl _, (H1.out.lt w.heap.size rfl).2, H1.out, HL.out, H2.out, fun i j x y b hij hx hy => ?_⟩⟩, _, _, rfl⟩
      have hj : j < xss.length := by
        have := HL.out
        have h4 := (List.getElem?_eq_some_iff.1 hy).1
        omega
      exact H3.out i j x y b hij hj hx hy
end Go.Proofs.YtkggfljdbdfonaaGreatDoor
/- Proved: slices of whole numbers as a law carries them: their size. -/
namespace Go.Proofs.YtkggfljdbdfonaaGreatDoor
open Go.ChangeShapes Go.WideShapes Go.ChangeAt Go.RowKit
set_option linter.unusedVariables false
set_option linter.unusedSimpArgs false
/-- a slice of whole numbers lies at v: signs and rows of limbs -/
def RowW (w : World) (v : Value) (bs : List Bool) (xss : List (List Int)) : Prop :=
  bs.length = xss.length ∧ ((∃ a cap, v = .slice a 0 cap ∧ xss = []) ∨ ∃ b o cap, ∃ us : Nat → Value, v = .slice (some ⟨b, o, none⟩) xss.length cap ∧ b < w.heap.size ∧ 0 < xss.length ∧ ∀ j, j < xss.length → w.cell? ⟨b, o + j * 2, none⟩ = some (.bool (bs.getD j false)) ∧ w.cell? ⟨b, o + j * 2 + 1, none⟩ = some (us j) ∧ Row w (us j) (xss.getD j []))
theorem RowW.old {w w' : World} {v : Value} {bs : List Bool} {xss : List (List Int)} (h : RowW w v bs xss) (g : Old w w') : RowW w' v bs xss := by
  obtain ⟨h0, h | ⟨b, o, cap, us, e, hb, h1, hc⟩⟩ := h
  · exact ⟨h0, .inl h⟩
  · exact ⟨h0, .inr ⟨b, o, cap, us, e, Nat.lt_of_lt_of_le hb g.size, h1, fun j hj => ⟨(g.cell (p := ⟨b, o + j * 2, none⟩) hb).trans (hc j hj).1, (g.cell (p := ⟨b, o + j * 2 + 1, none⟩) hb).trans (hc j hj).2.1, (hc j hj).2.2.old g⟩⟩⟩
theorem RowW.slice {w : World} {v : Value} {bs : List Bool} {xss : List (List Int)} (h : RowW w v bs xss) : ∃ a c, v = .slice a xss.length c := by
  obtain ⟨_, ⟨a, cap, e, e2⟩ | ⟨b, o, cap, us, e, _⟩⟩ := h
  · subst e2
    exact ⟨a, cap, e⟩
  · exact ⟨_, _, e⟩
end Go.Proofs.YtkggfljdbdfonaaGreatDoor
/- Proved: slices of whole numbers as a law carries them: comparisons and copies. -/
namespace Go.Proofs.YtkggfljdbdfonaaGreatDoor
open Go.ChangeShapes Go.WideShapes Go.ChangeAt Go.RowKit
set_option linter.unusedVariables false
set_option linter.unusedSimpArgs false
/-- whole numbers of one's own: signs and limbs -/
abbrev elW (bs : List Bool) (xss : List (List Int)) : Nat → Thing := fun j => TB (bs.getD j false) (TI (xss.getD j []))
abbrev WS (bs : List Bool) (xss : List (List Int)) : Thing := TS 51 2 xss.length (elW bs xss)
theorem good_elW (bs : List Bool) (xss : List (List Int)) (j : Nat) : GoodT (elW bs xss j) := good_TB _ (good_TI _)
theorem good_WS (bs : List Bool) (xss : List (List Int)) : GoodT (WS bs xss) := good_TS _ _ _ (good_elW bs xss)
/-- a struct's two cells -/
theorem TB.two {s : Bool} {E : Thing} {W : World} {B : Nat → Prop} {cs : List Value} (h : TB s E W B cs) : ∃ x, cs[0]? = some (.bool s) ∧ cs[1]? = some x ∧ E W B [x] := by
  obtain ⟨x, rfl, h⟩ := h
  exact ⟨x, rfl, rfl, h⟩
theorem WS.rowW {bs : List Bool} {xss : List (List Int)} {W : World} {B : Nat → Prop} {v : Value} (hb : bs.length = xss.length) (h : WS bs xss W B [v]) : RowW W v bs xss := by
  refine ⟨hb, ?_⟩
  rcases h with ⟨h0, h1, _⟩ | ⟨p, cap, vs, Bs, e, hc, _⟩
  · simp at h1
    exact .inl ⟨none, 0, h1, List.length_eq_zero_iff.1 h0⟩
  · simp at e
    subst e
    rcases Nat.eq_zero_or_pos xss.length with h0 | h0
    · rw [h0]
      exact .inl ⟨_, _, rfl, List.length_eq_zero_iff.1 h0⟩
    · refine .inr ⟨p, 0, cap, fun j => (cellsJ 2 vs j).getD 1 (.slice none 0 0), rfl, ownsRow_lt hc.row, h0, fun j hj => ?_⟩
      obtain ⟨x, e0, e1, hE⟩ := TB.two (hc.el j hj)
      have c0 := hc.cell j 0 hj (by omega)
      have c1 := hc.cell j 1 hj (by omega)
      have ex : (cellsJ 2 vs j).getD 1 (.slice none 0 0) = x := by simp [List.getD, e1]
      show W.cell? ⟨p, 0 + j * 2, none⟩ = _ ∧ W.cell? ⟨p, 0 + j * 2 + 1, none⟩ = some ((cellsJ 2 vs j).getD 1 (.slice none 0 0)) ∧ Row W ((cellsJ 2 vs j).getD 1 (.slice none 0 0)) _
      rw [ex, Nat.zero_add]
      exact ⟨c0.trans e0, c1.trans e1, hE.row⟩
set_option maxRecDepth 100000 in
set_option maxHeartbeats 4000000 in
theorem eqWholeS_yes (bs : List Bool) (xss : List (List Int)) (v u : Value) (w : World) (hv : RowW w v bs xss) (hu : RowW w u bs xss) (hl : xss.length ≤ 1048576) (hr : ∀ r ∈ xss, r.length ≤ 1048576) :
    Calls Tryz.prog 12 #[v, u] w fun e w' => e = .returned (.bool true) ∧ Old w w' := by
  obtain ⟨a0, cap0, ev⟩ := hv.slice
  obtain ⟨a1, cap1, eu⟩ := hu.slice
  subst ev eu
  have HR : Hid (∀ r ∈ xss, r.length ≤ 1048576) := hr
  have HV : Hid (RowW w (.slice a0 xss.length cap0) bs xss) := hv
  have HU : Hid (RowW w (.slice a1 xss.length cap1) bs xss) := hu
  have dn : ((xss.length : Int) != (xss.length : Int)) = false := by simp
  clear hv hu hr
  go_enter Tryz.func12, Tryz.ntmps12
  go_wp2_with fail
  go_loopw [5] (fun i W => ∃ k : Nat, k ≤ xss.length ∧ i = .int .i64 k ∧ Hid (Old w W)) (fun i _ => xss.length - (intOf i).toNat)
  case atStart => exact ⟨0, by omega, rfl, Old.refl _⟩
  case round =>
    obtain ⟨k, hk, rfl, HG⟩ := hrel
    by_cases hlt : k < xss.length
    · have d1 : decide ((k : Int) < (xss.length : Int)) = true := by simp; omega
      obtain ⟨_, ⟨a, cap, e, e2⟩ | ⟨b, o, cap, us, e, hb2, h3, hc⟩⟩ := HV.out
      · subst e2
        simp at hlt
      obtain ⟨_, ⟨a', cap', e', e2'⟩ | ⟨b', o', cap', us', e', hb2', h3', hc'⟩⟩ := HU.out
      · subst e2'
        simp at hlt
      simp only [Value.slice.injEq, true_and] at e e'
      obtain ⟨rfl, rfl⟩ := e
      obtain ⟨rfl, rfl⟩ := e'
      obtain ⟨s0, c0, r0⟩ := hc k hlt
      obtain ⟨s0', c0', r0'⟩ := hc' k hlt
      have hm : xss.getD k [] ∈ xss := by simp [List.getD, hlt]
      have hrl := HR.out _ hm
      obtain ⟨x1, y1, e1⟩ := r0.slice
      obtain ⟨x2, y2, e3⟩ := r0'.slice
      rw [e1] at c0 r0
      rw [e3] at c0' r0'
      have q0 : wr.cell? ⟨b, o + k * 2, none⟩ = some (.bool (bs.getD k false)) := (HG.out.cell (p := ⟨b, o + k * 2, none⟩) hb2).trans s0
      have q1 : wr.cell? ⟨b, o + k * 2 + 1, none⟩ = some (.slice x1 (xss.getD k []).length y1) := (HG.out.cell (p := ⟨b, o + k * 2 + 1, none⟩) hb2).trans c0
      have q2 : wr.cell? ⟨b', o' + k * 2, none⟩ = some (.bool (bs.getD k false)) := (HG.out.cell (p := ⟨b', o' + k * 2, none⟩) hb2').trans s0'
      have q3 : wr.cell? ⟨b', o' + k * 2 + 1, none⟩ = some (.slice x2 (xss.getD k []).length y2) := (HG.out.cell (p := ⟨b', o' + k * 2 + 1, none⟩) hb2').trans c0'
      have R1 : Hid (Row wr (.slice x1 (xss.getD k []).length y1) (xss.getD k [])) := r0.old HG.out
      have R2 : Hid (Row wr (.slice x2 (xss.getD k []).length y2) (xss.getD k [])) := r0'.old HG.out
      have hbr : b < wr.heap.size := Nat.lt_of_lt_of_le hb2 HG.out.size
      have hbr' : b' < wr.heap.size := Nat.lt_of_lt_of_le hb2' HG.out.size
      generalize bs.getD k false = s at *
      generalize xss.getD k [] = xs at *
      have HAS : Hid (∀ W' : World, Old wr W' → (W'.cell? ⟨b, o + k * 2, none⟩ = some (.bool s) ∧ W'.cell? ⟨b, o + k * 2 + 1, none⟩ = some (.slice x1 xs.length y1) ∧ W'.cell? ⟨b', o' + k * 2, none⟩ = some (.bool s) ∧ W'.cell? ⟨b', o' + k * 2 + 1, none⟩ = some (.slice x2 xs.length y2))) := fun W' g => ⟨(g.cell (p := ⟨b, o + k * 2, none⟩) hbr).trans q0, (g.cell (p := ⟨b, o + k * 2 + 1, none⟩) hbr).trans q1, (g.cell (p := ⟨b', o' + k * 2, none⟩) hbr').trans q2, (g.cell (p := ⟨b', o' + k * 2 + 1, none⟩) hbr').trans q3⟩
      clear hc hc' c0 c0' s0 s0' r0 r0' e1 e3 hm
      go_wp2_with fail
      go_region_held3 (fun W' => W'.cell? ⟨b, o + k * 2, none⟩ = some (.bool s) ∧ W'.cell? ⟨b, o + k * 2 + 1, none⟩ = some (.slice x1 xs.length y1) ∧ W'.cell? ⟨b', o' + k * 2, none⟩ = some (.bool s) ∧ W'.cell? ⟨b', o' + k * 2 + 1, none⟩ = some (.slice x2 xs.length y2)) (first | with_reducible exact HAS.out _ GE.out | with_reducible exact HAS.out _ (Below.drew (Old.refl wr)) | with_reducible exact HAS.out _ (Old.refl wr)) (first
        | (go_at_call 26; refine (eqWhole_yes s xs _ _ _ (R1.out.old (Below.drew (Old.refl wr))) (R2.out.old (Below.drew (Old.refl wr))) (by omega)).mono ?_; rintro e w2 ⟨rfl, ge⟩; have GE : Hid (Old wr w2) := Old.trans (Below.drew (Old.refl wr)) ge; clear ge)
        | fail)
      have HG2 : Hid (Old w w2) := Old.trans HG.out GE.out
      go_wp2_with fail
      exact ⟨⟨k + 1, by omega, by go_num, HG2⟩, by simp [intOf]; omega⟩
    · have d1 : decide ((k : Int) < (xss.length : Int)) = false := by simp; omega
      go_wp2_with fail
      go_ret
      exact ⟨rfl, HG.out⟩
theorem cells_two {m k : Nat} {vs : List Value} (h : vs.length = m * 2) (hk : k < m) (x y : Value) : cellsJ 2 ((vs.set (k * 2 + 0) x).set (k * 2 + 1) y) k = [x, y] := by
  have hl := cellsJ_len (n := 2) h k hk
  rw [cellsJ_set 2 _ k 1 k y (by omega), if_pos rfl, cellsJ_set 2 _ k 0 k x (by omega), if_pos rfl]
  match cellsJ 2 vs k, hl with
  | [a, b], _ => rfl
theorem TSc.store2 {T : TypeId} {m k : Nat} {Es : Nat → Thing} {W : World} {p cap : Nat} {vs : List Value} {Bs : Nat → Nat → Prop} {B : Nat → Prop} (g : ∀ j, GoodT (Es j)) (h : TSc T 2 m k Es W p cap vs Bs) (hk : k < m) (x y : Value)
    (he : ∀ W' : World, (∀ b, b ≠ p → W'.heap[b]? = W.heap[b]?) → Es k W' B [x, y]) (hp : ¬ B p) (hd : ∀ j, j < k → ∀ b, Bs j b → B b → False) :
    ∃ vs', TSc T 2 m (k + 1) Es ((W.setCell ⟨p, k * 2, none⟩ x).setCell ⟨p, k * 2 + 1, none⟩ y) p cap vs' (fun q => if q = k then B else Bs q) := by
  have h1 := h.fill g 0 (by omega) x
  have h2 := h1.fill g 1 (by omega) y
  refine ⟨_, h2.more (B := B) ?_ hp hd⟩
  rw [cells_two h.row.1 hk x y]
  refine he _ (fun b hb => ?_)
  rw [heap_setCell_other _ _ _ _ hb]
  exact heap_setCell_other _ _ _ _ hb
theorem Tryz.infoWhole : (Tryz.prog.info? 51).map (fun i => (i.zero, i.size, i.bytes)) = some (some (.agg #[.bool false, .slice none 0 0]), 2, 32) := by kernel_rfl
end Go.Proofs.YtkggfljdbdfonaaGreatDoor
/- Proved: rows of rows as a law carries them: comparisons, and rows with their mark. -/
namespace Go.Proofs.YtkggfljdbdfonaaGreatDoor
open Go.ChangeShapes Go.WideShapes Go.ChangeAt Go.RowKit
set_option linter.unusedVariables false
set_option linter.unusedSimpArgs false
theorem OwS.rowS {xss : List (List Int)} {W : World} {lo hi : Nat} {v : Value} (h : OwS xss W lo hi v) : RowS W v xss := by
  obtain ⟨hh, h | ⟨p, cap, vs, rfl, hcap, hlo, hhi, ho, hvl, hj, hd⟩⟩ := h
  · obtain ⟨rfl, rfl⟩ := h
    exact Or.inl ⟨_, _, rfl, rfl⟩
  · rcases Nat.eq_zero_or_pos xss.length with h0 | h0
    · obtain rfl := List.length_eq_zero_iff.1 h0
      exact Or.inl ⟨_, _, rfl, rfl⟩
    · refine Or.inr ⟨p, 0, cap, fun j => vs.getD j (.slice none 0 0), rfl, by omega, h0, fun j hjl => ?_⟩
      obtain ⟨a, c, e, hc, o, hb⟩ := hj j hjl
      have e2 : vs.getD j (.slice none 0 0) = .slice a (xss.getD j []).length c := by simp [List.getD, e]
      show W.cell? ⟨p, 0 + j, none⟩ = some (vs.getD j (.slice none 0 0)) ∧ Row W (vs.getD j (.slice none 0 0)) _
      rw [e2]
      refine ⟨?_, o.row⟩
      rw [Nat.zero_add, World.ownsRow.cellAt ho j (by omega)]
      exact e
theorem OwS.fit {xss : List (List Int)} {W : World} {lo hi : Nat} {v : Value} (h : OwS xss W lo hi v) (j : Nat) (hj : j < xss.length) : ∃ p cap a c, v = .slice (some ⟨p, 0, none⟩) xss.length cap ∧ W.cell? ⟨p, j, none⟩ = some (.slice a (xss.getD j []).length c) ∧ (xss.getD j []).length ≤ c ∧ Row W (.slice a (xss.getD j []).length c) (xss.getD j []) := by
  obtain ⟨hh, h | ⟨p, cap, vs, rfl, hcap, hlo, hhi, ho, hvl, hjj, hd⟩⟩ := h
  · obtain ⟨rfl, rfl⟩ := h
    simp at hj
  · obtain ⟨a, c, e, hc, o, hb⟩ := hjj j hj
    refine ⟨p, cap, a, c, rfl, ?_, hc, o.row⟩
    rw [World.ownsRow.cellAt ho j (by omega)]
    exact e
theorem far_OwS (xss : List (List Int)) : Far (OwS xss) := fun W W' lo hi v h hf hs => by
  obtain ⟨hh, h | ⟨p, cap, vs, e, hcap, hlo, hhi, ho, hvl, hj, hd⟩⟩ := h
  · exact ⟨by omega, Or.inl h⟩
  · refine ⟨by omega, Or.inr ⟨p, cap, vs, e, hcap, hlo, hhi, ⟨ho.1, ?_⟩, hvl, fun j hjl => ?_, hd⟩⟩
    · rcases ho.2 with hn | ⟨p', cap', cur, e', hb', hgg, rest⟩
      · exact .inl hn
      · refine .inr ⟨p', cap', cur, e', hb', ?_, rest⟩
        have : p' = p := by
          simp only [Value.slice.injEq, Option.some.injEq, Addr.mk.injEq] at e'
          exact e'.1.1.symm
        subst this
        rw [hf p' hlo hhi]
        exact hgg
    · obtain ⟨a, c, e1, hc, o, hb⟩ := hj j hjl
      exact ⟨a, c, e1, hc, far_OwI _ W W' lo hi _ o hf hs, hb⟩
set_option maxRecDepth 100000 in
set_option maxHeartbeats 2000000 in
theorem eqIntSS_yes (xss : List (List Int)) (v u : Value) (w : World) (hv : RowS w v xss) (hu : RowS w u xss) (hl : xss.length ≤ 1048576) (hr : ∀ r ∈ xss, r.length ≤ 1048576) :
    Calls Tryz.prog 51 #[v, u] w fun e w' => e = .returned (.bool true) ∧ Old w w' := by
  obtain ⟨a0, cap0, ev⟩ := hv.slice
  obtain ⟨a1, cap1, eu⟩ := hu.slice
  subst ev eu
  have HR : Hid (∀ r ∈ xss, r.length ≤ 1048576) := hr
  have HV : Hid (RowS w (.slice a0 xss.length cap0) xss) := hv
  have HU : Hid (RowS w (.slice a1 xss.length cap1) xss) := hu
  have dn : ((xss.length : Int) != (xss.length : Int)) = false := by simp
  clear hv hu hr
  go_enter Tryz.func51, Tryz.ntmps51
  go_wp2_with fail
  go_loopw [5] (fun i W => ∃ k : Nat, k ≤ xss.length ∧ i = .int .i64 k ∧ Hid (Old w W)) (fun i _ => xss.length - (intOf i).toNat)
  case atStart => exact ⟨0, by omega, rfl, Old.refl _⟩
  case round =>
    obtain ⟨k, hk, rfl, HG⟩ := hrel
    by_cases hlt : k < xss.length
    · have d1 : decide ((k : Int) < (xss.length : Int)) = true := by simp; omega
      rcases HV.out with ⟨a, cap, e, e2⟩ | ⟨b, o, cap, us, e, hb2, h3, hc⟩
      · subst e2
        simp at hlt
      rcases HU.out with ⟨a', cap', e', e2'⟩ | ⟨b', o', cap', us', e', hb2', h3', hc'⟩
      · subst e2'
        simp at hlt
      simp only [Value.slice.injEq, true_and] at e e'
      obtain ⟨rfl, rfl⟩ := e
      obtain ⟨rfl, rfl⟩ := e'
      obtain ⟨c0, r0⟩ := hc k hlt
      obtain ⟨c0', r0'⟩ := hc' k hlt
      have hm : xss.getD k [] ∈ xss := by simp [List.getD, hlt]
      have hrl := HR.out _ hm
      obtain ⟨x1, y1, e1⟩ := r0.slice
      obtain ⟨x2, y2, e3⟩ := r0'.slice
      rw [e1] at c0 r0
      rw [e3] at c0' r0'
      have q1 : wr.cell? ⟨b, o + k, none⟩ = some (.slice x1 (xss.getD k []).length y1) := (HG.out.cell (p := ⟨b, o + k, none⟩) hb2).trans c0
      have q2 : wr.cell? ⟨b', o' + k, none⟩ = some (.slice x2 (xss.getD k []).length y2) := (HG.out.cell (p := ⟨b', o' + k, none⟩) hb2').trans c0'
      have R1 : Hid (Row wr (.slice x1 (xss.getD k []).length y1) (xss.getD k [])) := r0.old HG.out
      have R2 : Hid (Row wr (.slice x2 (xss.getD k []).length y2) (xss.getD k [])) := r0'.old HG.out
      have hbr : b < wr.heap.size := Nat.lt_of_lt_of_le hb2 HG.out.size
      have hbr' : b' < wr.heap.size := Nat.lt_of_lt_of_le hb2' HG.out.size
      generalize xss.getD k [] = xs at *
      have HAS : Hid (∀ W' : World, Old wr W' → (W'.cell? ⟨b, o + k, none⟩ = some (.slice x1 xs.length y1) ∧ W'.cell? ⟨b', o' + k, none⟩ = some (.slice x2 xs.length y2))) := fun W' g => ⟨(g.cell (p := ⟨b, o + k, none⟩) hbr).trans q1, (g.cell (p := ⟨b', o' + k, none⟩) hbr').trans q2⟩
      clear hc hc' c0 c0' r0 r0' e1 e3 hm
      go_wp2_with fail
      go_region_held3 (fun W' => W'.cell? ⟨b, o + k, none⟩ = some (.slice x1 xs.length y1) ∧ W'.cell? ⟨b', o' + k, none⟩ = some (.slice x2 xs.length y2)) (first | with_reducible exact HAS.out _ GE.out | with_reducible exact HAS.out _ (Below.drew (Old.refl wr)) | with_reducible exact HAS.out _ (Old.refl wr)) (first
        | (go_at_call 28; refine (eqInts_yes xs _ _ _ (R1.out.old (Below.drew (Old.refl wr))) (R2.out.old (Below.drew (Old.refl wr))) (by omega)).mono ?_; rintro e w2 ⟨rfl, ge⟩; have GE : Hid (Old wr w2) := Old.trans (Below.drew (Old.refl wr)) ge; clear ge)
        | fail)
      have HG2 : Hid (Old w w2) := Old.trans HG.out GE.out
      go_wp2_with fail
      exact ⟨⟨k + 1, by omega, by go_num, HG2⟩, by simp [intOf]; omega⟩
    · have d1 : decide ((k : Int) < (xss.length : Int)) = false := by simp; omega
      go_wp2_with fail
      go_ret
      exact ⟨rfl, HG.out⟩
theorem OwS.slice {xss : List (List Int)} {W : World} {lo hi : Nat} {v : Value} (h : OwS xss W lo hi v) : ∃ a c, v = .slice a xss.length c := h.rowS.slice
theorem OwS.put {xss : List (List Int)} {W : World} {lo hi k j : Nat} {v x : Value} (h : OwS xss W lo hi v) (hk : k < lo ∨ hi ≤ k) : OwS xss (W.setCell ⟨k, j, none⟩ x) lo hi v :=
  far_OwS xss W _ lo hi v h (fun b h1 h2 => heap_setCell_other _ _ _ _ (by show b ≠ k; omega)) (by simp)
theorem OwS.low {xss : List (List Int)} {W : World} {lo lo' hi : Nat} {v : Value} (h : OwS xss W lo hi v) (hl : lo' ≤ lo) : OwS xss W lo' hi v := by
  obtain ⟨hh, h | ⟨p, cap, vs, e, hcap, hlo, hhi, ho, hvl, hj, hd⟩⟩ := h
  · exact ⟨hh, Or.inl h⟩
  · refine ⟨hh, Or.inr ⟨p, cap, vs, e, hcap, by omega, hhi, ⟨ho.1, ?_⟩, hvl, fun j hjl => ?_, hd⟩⟩
    · rcases ho.2 with hn | ⟨p', cap', cur, e', hb', rest⟩
      · exact .inl hn
      · exact .inr ⟨p', cap', cur, e', by omega, rest⟩
    · obtain ⟨a, c, e1, hc, o, hb⟩ := hj j hjl
      exact ⟨a, c, e1, hc, ⟨Own.low o.1 hl, o.2.1, o.2.2⟩, hb⟩
theorem OwS.high {xss : List (List Int)} {W : World} {lo hi hi' : Nat} {v : Value} (h : OwS xss W lo hi v) (hl : hi ≤ hi') (hs : hi' ≤ W.heap.size) : OwS xss W lo hi' v := by
  obtain ⟨hh, h | ⟨p, cap, vs, e, hcap, hlo, hhi, ho, hvl, hj, hd⟩⟩ := h
  · exact ⟨hs, Or.inl h⟩
  · refine ⟨hs, Or.inr ⟨p, cap, vs, e, hcap, hlo, by omega, ho, hvl, fun j hjl => ?_, hd⟩⟩
    obtain ⟨a, c, e1, hc, o, hb⟩ := hj j hjl
    exact ⟨a, c, e1, hc, ⟨o.1, hs, fun b hb => by have := o.2.2 b hb; omega⟩, hb⟩
/-- rows' copy -/
def XR (n : Bool) (xss : List (List Int)) (W : World) (lo hi : Nat) (g : Array Value) : Prop := ∃ a c, g = #[.bool n, .slice a xss.length c] ∧ OwS xss W lo hi (.slice a xss.length c)
theorem far_XR (n : Bool) (xss : List (List Int)) : Far (XR n xss) := fun W W' lo hi v h hf hs => by
  obtain ⟨a, c, e, o⟩ := h
  exact ⟨a, c, e, far_OwS xss W W' lo hi _ o hf hs⟩
theorem shape_XR {n : Bool} {xss : List (List Int)} (W : World) (lo hi : Nat) (g : Array Value) (h : XR n xss W lo hi g) : ∃ a c, g = #[.bool n, .slice a xss.length c] := by
  obtain ⟨a, c, e, o⟩ := h
  exact ⟨a, c, e⟩
theorem kr_sz (n : Bool) (xss : List (List Int)) (v : Value) (left : Int) (w : World) (hv : RowS w v xss) (hl : xss.length ≤ 9223372036854775807) (hr : ∀ r ∈ xss, r.length ≤ 9223372036854775807) (h0 : 0 ≤ left) (h1 : left ≤ 1048576) :
    Calls Tryz.prog 7 #[.agg #[.bool n, v], .int .i64 left] w fun e w' => e = .returned (.int .i64 (leftSS left xss)) ∧ Old w w' := by
  have c := fun W (h : RowS W v xss) => szIntSS_any xss v left W h hl hr h0 h1
  have HV : Hid (RowS w v xss) := hv
  obtain ⟨a0, cap0, ev⟩ := hv.slice
  subst ev
  have hle : ∀ z : Int, leftSS left xss = z → ¬ z < 0 → 0 ≤ z := fun z _ h => by omega
  have hneg : leftSS left xss < 0 → leftSS left xss = -1 := fun h => by
    unfold leftSS at h ⊢
    split
    · rfl
    · rename_i h2
      rw [if_neg h2] at h
      have key : ∀ (l : List (List Int)) (z : Int), 0 ≤ z → leftL z l < 0 → leftL z l = -1 := fun l => by
        induction l with
        | nil => intro z hz h; unfold leftL at h; omega
        | cons r rs ih =>
          intro z hz h
          unfold leftL at h ⊢
          by_cases hq : leftN z r.length < 0
          · rw [if_pos hq]
          · rw [if_neg hq] at h ⊢
            exact ih _ (by omega) h
      exact key _ _ (by omega) h
  clear hv hr
  by_cases hz : leftSS left xss < 0
  · rw [hneg hz] at c ⊢
    clear hz hneg hle
    go_enter Tryz.func7, Tryz.ntmps7
    go_wp2_with fail
    refine (c _ (HV.out.old ((Old.refl w).alloc _))).mono ?_
    rintro e w1 ⟨rfl, g1⟩
    have HG : Hid (Old w w1) := Old.trans ((Old.refl w).alloc _) g1
    clear g1
    go_wp2_with fail
    go_ret
    exact ⟨rfl, HG.out⟩
  · have d : decide (leftSS left xss < 0) = false := decide_eq_false hz
    generalize leftSS left xss = z at *
    clear hneg hle
    go_enter Tryz.func7, Tryz.ntmps7
    go_wp2_with fail
    refine (c _ (HV.out.old ((Old.refl w).alloc _))).mono ?_
    rintro e w1 ⟨rfl, g1⟩
    have HG : Hid (Old w w1) := Old.trans ((Old.refl w).alloc _) g1
    clear g1
    go_wp2_with fail
    go_ret
    exact ⟨rfl, HG.out⟩
set_option maxHeartbeats 1000000 in
theorem kr_to (n : Bool) (xss : List (List Int)) (v : Value) (w : World) (h : RowS w v xss) (hl : xss.length ≤ 1048576) (hr : ∀ r ∈ xss, r.length ≤ 1048576) :
    Calls Tryz.prog 10 #[.agg #[.bool n, v]] w fun e w' => ∃ g, e = .returned (.agg g) ∧ Old w w' ∧ XR n xss w' w.heap.size w'.heap.size g := by
  have HR : Hid (RowS w v xss) := h
  have HRR : Hid (∀ r ∈ xss, r.length ≤ 1048576) := hr
  obtain ⟨a0, cap0, ev⟩ := h.slice
  subst ev
  clear h hr
  go_enter Tryz.func10, Tryz.ntmps10
  go_wp2_with fail
  refine (toIntSS_any xss _ _ (HR.out.old (((Old.refl w).alloc _).alloc _ |>.alloc _)) hl HRR.out).mono ?_
  rintro e w1 ⟨v1, rfl, g1, o1, a1, c1, rfl⟩
  have q20 : w1.cell? ⟨w.heap.size + 1 + 1, 0, none⟩ = some (Value.bool n) := (g1.cell (p := ⟨w.heap.size + 1 + 1, 0, none⟩) (by simp; try omega)).trans (by simp [cell_at, cell_lt, fro_at, fro_lt])
  have q21 : w1.cell? ⟨w.heap.size + 1 + 1, 1, none⟩ = some (Value.slice none 0 0) := (g1.cell (p := ⟨w.heap.size + 1 + 1, 1, none⟩) (by simp; try omega)).trans (by simp [cell_at, cell_lt, fro_at, fro_lt])
  have q10 : w1.cell? ⟨w.heap.size + 1, 0, none⟩ = some (Value.bool false) := (g1.cell (p := ⟨w.heap.size + 1, 0, none⟩) (by simp; try omega)).trans (by simp [cell_at, cell_lt, fro_at, fro_lt])
  have q11 : w1.cell? ⟨w.heap.size + 1, 1, none⟩ = some (Value.slice none 0 0) := (g1.cell (p := ⟨w.heap.size + 1, 1, none⟩) (by simp; try omega)).trans (by simp [cell_at, cell_lt, fro_at, fro_lt])
  have f21 : w1.frozen? ⟨w.heap.size + 1 + 1, 1, none⟩ = false := (g1.frozen (p := ⟨w.heap.size + 1 + 1, 1, none⟩) (by simp; try omega)).trans (by simp [cell_at, cell_lt, fro_at, fro_lt])
  have f10 : w1.frozen? ⟨w.heap.size + 1, 0, none⟩ = false := (g1.frozen (p := ⟨w.heap.size + 1, 0, none⟩) (by simp; try omega)).trans (by simp [cell_at, cell_lt, fro_at, fro_lt])
  have f11 : w1.frozen? ⟨w.heap.size + 1, 1, none⟩ = false := (g1.frozen (p := ⟨w.heap.size + 1, 1, none⟩) (by simp; try omega)).trans (by simp [cell_at, cell_lt, fro_at, fro_lt])
  have HG : Hid (Old w w1) := Old.trans (((Old.refl w).alloc _).alloc _ |>.alloc _) g1
  have HO : Hid (OwS xss w1 (w.heap.size + 1 + 1 + 1) w1.heap.size (.slice a1 xss.length c1)) := by
    have := o1
    simp at this
    exact this
  clear g1 o1 HR
  go_wp2_with fail
  refine bodyPost_ret (v := .agg #[.bool n, .slice a1 xss.length c1]) (by simp [results, Tryz.results10, go_sem, q10, q11]) rfl ⟨_, rfl, ?_, a1, c1, rfl, ?_⟩
  · exact ((HG.out.own (p := ⟨w.heap.size + 1 + 1, 1, none⟩) (by simp; omega) _).own (p := ⟨w.heap.size + 1, 0, none⟩) (by simp) _).own (p := ⟨w.heap.size + 1, 1, none⟩) (by simp) _
  · have h1 : OwS xss w1 w.heap.size w1.heap.size (.slice a1 xss.length c1) := HO.out.low (by omega)
    have h2 := ((HO.out.put (k := w.heap.size + 1 + 1) (j := 1) (x := .slice a1 xss.length c1) (by omega)).put (k := w.heap.size + 1) (j := 0) (x := .bool n) (by omega)).put (k := w.heap.size + 1) (j := 1) (x := .slice a1 xss.length c1) (by omega)
    have h3 := h2.low (lo' := w.heap.size) (by omega)
    exact h3.high (by simp) (Nat.le_refl _)
set_option maxHeartbeats 1000000 in
theorem kr_eq (n : Bool) (xss : List (List Int)) (w : World) (lo hi : Nat) (g : Array Value) (lo' hi' : Nat) (g' : Array Value) (h : XR n xss w lo hi g) (h' : XR n xss w lo' hi' g') (hl : xss.length ≤ 1048576) (hr : ∀ r ∈ xss, r.length ≤ 1048576) :
    Calls Tryz.prog 14 #[.agg g, .agg g'] w fun e w' => e = .returned (.bool true) ∧ Old w w' := by
  obtain ⟨a0, cap0, rfl, o⟩ := h
  obtain ⟨a1, cap1, rfl, o'⟩ := h'
  have HR : Hid (RowS w (.slice a0 xss.length cap0) xss) := o.rowS
  have HK : Hid (RowS w (.slice a1 xss.length cap1) xss) := o'.rowS
  have HRR : Hid (∀ r ∈ xss, r.length ≤ 1048576) := hr
  clear o o' hr
  have dn : (n != n) = false := by simp
  go_enter Tryz.func14, Tryz.ntmps14
  go_wp2_with fail
  refine (eqIntSS_yes xss _ _ _ (HR.out.old (((Old.refl w).alloc _).alloc _)) (HK.out.old (((Old.refl w).alloc _).alloc _)) hl HRR.out).mono ?_
  rintro e w1 ⟨rfl, g1⟩
  have HG : Hid (Old w w1) := Old.trans (((Old.refl w).alloc _).alloc _) g1
  clear g1
  go_wp2_with fail
  go_ret
  exact ⟨rfl, HG.out⟩
end Go.Proofs.YtkggfljdbdfonaaGreatDoor
/- Proved: rows of rows as a law carries them: marks. -/
namespace Go.Proofs.YtkggfljdbdfonaaGreatDoor
open Go.ChangeShapes Go.WideShapes Go.ChangeAt Go.RowKit
set_option linter.unusedVariables false
set_option linter.unusedSimpArgs false
/-- how many numbers lie in the first j rows -/
def offL : List (List Int) → Nat → Nat
  | [], _ => 0
  | _ :: _, 0 => 0
  | r :: rs, j + 1 => r.length + offL rs j
theorem offL_zero (xss : List (List Int)) : offL xss 0 = 0 := by cases xss <;> rfl
theorem offL_succ : ∀ (xss : List (List Int)) (j : Nat), j < xss.length → offL xss (j + 1) = offL xss j + (xss.getD j []).length
  | [], j, h => by simp at h
  | r :: rs, 0, h => by
    show r.length + offL rs 0 = 0 + _
    rw [offL_zero]
    simp
  | r :: rs, j + 1, h => by
    have := offL_succ rs j (by simpa using h)
    show r.length + offL rs (j + 1) = r.length + offL rs j + _
    rw [this]
    simp [List.getD]
    omega
theorem offL_left : ∀ (xss : List (List Int)) (left : Int), 0 ≤ left → ¬ leftL left xss < 0 → (offL xss xss.length : Int) ≤ left
  | [], left, h0, h => by simpa [offL] using h0
  | r :: rs, left, h0, h => by
    unfold leftL at h
    by_cases hr : leftN left r.length < 0
    · rw [if_pos hr] at h
      omega
    · rw [if_neg hr] at h
      obtain ⟨q1, q2, q3⟩ := leftN_ok hr h0
      have := offL_left rs _ q3 h
      show ((r.length + offL rs rs.length : Nat) : Int) ≤ left
      omega
theorem offL_leftSS {xss : List (List Int)} {left : Int} (h0 : 0 ≤ left) (h : ¬ leftSS left xss < 0) : (offL xss xss.length : Int) ≤ left := by
  unfold leftSS at h
  by_cases hr : left < (xss.length : Int)
  · rw [if_pos hr] at h
    omega
  · rw [if_neg hr] at h
    have := offL_left xss _ (by omega) h
    omega
theorem offL_le : ∀ (xss : List (List Int)) (j : Nat), offL xss j ≤ offL xss xss.length
  | [], j => by simp [offL]
  | r :: rs, 0 => by simp [offL]
  | r :: rs, j + 1 => by
    have := offL_le rs j
    show r.length + offL rs j ≤ r.length + offL rs rs.length
    omega
theorem getD_setL (yss : List (List Int)) (i j : Nat) (r : List Int) (h : i < yss.length) : (yss.set i r).getD j [] = if j = i then r else yss.getD j [] := by
  by_cases hj : j = i
  · subst hj
    simp [List.getD, h]
  · rw [if_neg hj]
    simp [List.getD, List.getElem?_set, Ne.symm hj]
/-- one row written anew -/
theorem OwS.mark {yss : List (List Int)} {W w' : World} {lo hi p cap i : Nat} {a : Option Addr} {c : Nat} {r : List Int} (h : OwS yss W lo hi (.slice (some ⟨p, 0, none⟩) yss.length cap)) (hi' : i < yss.length) (hc : W.cell? ⟨p, i, none⟩ = some (.slice a (yss.getD i []).length c)) (hr : r.length = (yss.getD i []).length)
    (g : W.grownBy w' (Value.slice a (yss.getD i []).length c).ownBlock) (o : Own w' lo (.slice a (yss.getD i []).length c) r) : OwS (yss.set i r) w' lo hi (.slice (some ⟨p, 0, none⟩) yss.length cap) ∧ Chg W w' lo hi := by
  obtain ⟨hh, h | ⟨p', cap', vs, e, hcap, hlo, hhi, ho, hvl, hj, hd⟩⟩ := h
  · obtain ⟨e, rfl⟩ := h
    simp at hi'
  · simp only [Value.slice.injEq, Option.some.injEq, Addr.mk.injEq, true_and, and_true] at e
    obtain ⟨rfl, rfl⟩ := e
    obtain ⟨a1, c1, e1, hc1, oi, hb1⟩ := hj i hi'
    have e2 : vs[i]? = some (.slice a (yss.getD i []).length c) := by
      rw [World.ownsRow.cellAt ho i (by omega)] at hc
      exact hc
    rw [e2] at e1
    simp only [Option.some.injEq, Value.slice.injEq, true_and] at e1
    obtain ⟨rfl, rfl⟩ := e1
    have hch : Chg W w' lo hi := chg_by g (fun b hb => ⟨(oi.1.lt b hb).1, oi.2.2 b hb⟩)
    refine ⟨⟨Nat.le_trans hh g.size, Or.inr ⟨p, cap, vs, by simp, by simpa using hcap, hlo, hhi, ?_, by simpa using hvl, fun j hjl => ?_, hd⟩⟩, hch⟩
    · refine ⟨by simpa using ho.1, ?_⟩
      rcases ho.2 with ⟨hn, _⟩ | ⟨p', cap', cur, e', hb', hgg, rest⟩
      · cases hn
      · have hp : p' = p := by
          simp only [Value.slice.injEq, Option.some.injEq, Addr.mk.injEq] at e'
          exact e'.1.1.symm
        subst hp
        refine .inr ⟨p', cap', cur, by simpa using e', hb', ?_, by simpa using rest⟩
        rw [g.block p' (Array.getElem?_eq_some_iff.1 hgg).1 (fun hx => hb1 p' hx.symm rfl)]
        exact hgg
    · rw [List.length_set] at hjl
      by_cases hji : j = i
      · subst hji
        rw [getD_setL yss j j r hi', if_pos rfl, hr]
        exact ⟨a, c, e2, hc1, ⟨o, Nat.le_trans hh g.size, oi.2.2⟩, hb1⟩
      · rw [getD_setL yss i j r hi', if_neg hji]
        obtain ⟨a2, c2, e3, hc2, oj, hb2⟩ := hj j hjl
        refine ⟨a2, c2, e3, hc2, ⟨?_, Nat.le_trans hh g.size, oj.2.2⟩, hb2⟩
        refine oj.1.by_ g (fun x y hx hy hxy => ?_)
        subst hxy
        rcases Nat.lt_or_ge j i with hlt | hge
        · exact hd j i _ _ x hlt e3 e2 hx hy
        · exact hd i j _ _ x (by omega) e2 e3 hy hx
/-- rows whose numbers are marks, from k on -/
def OwM (k : Int) (xss : List (List Int)) (W : World) (lo hi : Nat) (v : Value) : Prop :=
  ∃ yss : List (List Int), yss.length = xss.length ∧ (∀ j, j < xss.length → yss.getD j [] = marks (k + offL xss j) (xss.getD j []).length) ∧ OwS yss W lo hi v
theorem OwM.slice {k : Int} {xss : List (List Int)} {W : World} {lo hi : Nat} {v : Value} (h : OwM k xss W lo hi v) : ∃ a c, v = .slice a xss.length c := by
  obtain ⟨yss, h1, h2, h3⟩ := h
  obtain ⟨a, c, e⟩ := h3.slice
  exact ⟨a, c, by rw [e, h1]⟩
set_option maxRecDepth 100000 in
set_option maxHeartbeats 2000000 in
theorem markIntSS_any (xss : List (List Int)) (v : Value) (k : Int) (lo hi : Nat) (w : World) (hv : OwS xss w lo hi v) (hl : xss.length ≤ 1048576) (hr : ∀ r ∈ xss, r.length ≤ 1048576) (hk : 0 ≤ k) (hs : k + (offL xss xss.length : Int) ≤ 1073741824) :
    Calls Tryz.prog 52 #[v, .int .i64 k] w fun e w' => e = .returned (.int .i64 (k + offL xss xss.length)) ∧ Chg w w' lo hi ∧ OwM k xss w' lo hi v := by
  obtain ⟨a0, cap0, ev⟩ := hv.slice
  subst ev
  have HR : Hid (∀ r ∈ xss, r.length ≤ 1048576) := hr
  have HO : Hid (OwS xss w lo hi (.slice a0 xss.length cap0)) := hv
  have HC0 : Hid (Chg w w lo hi) := (Old.refl w).toChg lo hi
  have HS : Hid (k + (offL xss xss.length : Int) ≤ 1073741824) := hs
  clear hv hr hs
  go_enter Tryz.func52, Tryz.ntmps52
  go_wp2_with fail
  go_loopw [5, 1] (fun i l W => ∃ (j : Nat) (yss : List (List Int)), j ≤ xss.length ∧ i = .int .i64 j ∧ l = .int .i64 (k + offL xss j) ∧ Hid (yss.length = xss.length) ∧ Hid (∀ q, q < j → yss.getD q [] = marks (k + offL xss q) (xss.getD q []).length) ∧ Hid (∀ q, j ≤ q → yss.getD q [] = xss.getD q []) ∧ Hid (OwS yss W lo hi (.slice a0 xss.length cap0)) ∧ Hid (Chg w W lo hi)) (fun i _ _ => xss.length - (intOf i).toNat)
  case atStart => exact ⟨0, xss, by omega, rfl, by rw [offL_zero]; simp, by show _ = _; rfl, fun q hq => by omega, fun q _ => rfl, HO, HC0⟩
  case round =>
    obtain ⟨j, yss, hj, rfl, rfl, HL, H1, H2, H3, HC⟩ := hrel
    clear HO HC0
    by_cases hlt : j < xss.length
    · have d1 : decide ((j : Int) < (xss.length : Int)) = true := by simp; omega
      have hyl := HL.out
      have hjy : j < yss.length := by omega
      obtain ⟨p, cap, a, c, ev, hc, hcl, hrow⟩ := H3.out.fit j hjy
      rw [hyl] at ev
      simp only [Value.slice.injEq, true_and] at ev
      obtain ⟨rfl, rfl⟩ := ev
      have exy := H2.out j (Nat.le_refl _)
      have hm : xss.getD j [] ∈ xss := by simp [List.getD, hlt]
      have hrl := HR.out _ hm
      have hoj := offL_le xss (j + 1)
      have hos := offL_succ xss j hlt
      have hsum := HS.out
      obtain ⟨a', c', e', _, oi, _⟩ : ∃ a' c', wr.cell? ⟨p, j, none⟩ = some (.slice a' (yss.getD j []).length c') ∧ (yss.getD j []).length ≤ c' ∧ OwI (yss.getD j []) wr lo hi (.slice a' (yss.getD j []).length c') ∧ True := by
        obtain ⟨hh, h | ⟨p', cap', vs, e, hcap, hlo, hhi, ho, hvl, hjj, hd⟩⟩ := H3.out
        · cases h.1
        · rw [← hyl] at e
          simp only [Value.slice.injEq, Option.some.injEq, Addr.mk.injEq, true_and, and_true] at e
          obtain ⟨rfl, rfl⟩ := e
          obtain ⟨a2, c2, e2, hc2, o2, hb2⟩ := hjj j hjy
          refine ⟨a2, c2, ?_, hc2, o2, trivial⟩
          rw [World.ownsRow.cellAt ho j (by omega)]
          exact e2
      have HOI : Hid (OwI (yss.getD j []) wr lo hi (.slice a' (yss.getD j []).length c')) := oi
      have HCE : Hid (wr.cell? ⟨p, j, none⟩ = some (.slice a' (yss.getD j []).length c')) := e'
      have H3' : Hid (OwS yss wr lo hi (.slice (some ⟨p, 0, none⟩) yss.length cap0)) := by show OwS yss wr lo hi _; rw [hyl]; exact H3.out
      have HMK : Hid (∀ w', wr.grownBy w' (Value.slice a' (yss.getD j []).length c').ownBlock → Own w' lo (.slice a' (yss.getD j []).length c') (marks (k + offL xss j) (yss.getD j []).length) → OwS (yss.set j (marks (k + offL xss j) (yss.getD j []).length)) w' lo hi (.slice (some ⟨p, 0, none⟩) yss.length cap0) ∧ Chg wr w' lo hi) := fun w' g o => OwS.mark H3'.out hjy HCE.out (by simp [marks_len]) g o
      have HN1 : Hid (∀ q, q < j + 1 → (yss.set j (marks (k + offL xss j) (yss.getD j []).length)).getD q [] = marks (k + offL xss q) (xss.getD q []).length) := fun q hq => by
        rw [getD_setL yss j q _ hjy]
        by_cases hqj : q = j
        · subst hqj
          rw [if_pos rfl, exy]
        · rw [if_neg hqj]
          exact H1.out q (by omega)
      have HN2 : Hid (∀ q, j + 1 ≤ q → (yss.set j (marks (k + offL xss j) (yss.getD j []).length)).getD q [] = xss.getD q []) := fun q hq => by
        rw [getD_setL yss j q _ hjy, if_neg (by omega)]
        exact H2.out q (by omega)
      have HN3 : Hid ((yss.set j (marks (k + offL xss j) (yss.getD j []).length)).length = xss.length) := by show _ = _; rw [List.length_set]; exact hyl
      have HN4 : Hid (k + (offL xss (j + 1) : Int) = k + (offL xss j : Int) + ((yss.getD j []).length : Int)) := by show _ = _; rw [hos, exy]; omega
      have HYL : Hid (yss.length = xss.length) := hyl
      have hyr : (yss.getD j []).length ≤ 1048576 := by rw [exy]; exact hrl
      have hkb : 0 ≤ k + (offL xss j : Int) ∧ k + (offL xss j : Int) ≤ 1073741824 := by omega
      have c1 := e'
      clear hyl exy hm hoj hos hsum hc hrow hcl e' oi H1 H2 H3 HL H3' HCE
      generalize hys : yss.set j (marks (k + offL xss j) (yss.getD j []).length) = zss at *
      generalize hnn : (offL xss (j + 1)) = nxt at *
      generalize (offL xss j : Nat) = off at *
      clear hys
      generalize yss.getD j [] = ys at *
      have cm := fun W (h : OwI ys W lo hi (.slice a' ys.length c')) => markInts_any ys _ (k + off) lo W h.1 (by omega) (by omega) (by omega)
      go_wp2_with fail
      refine (cm _ HOI.out).mono ?_
      rintro e w2 ⟨rfl, g2, o2⟩
      obtain ⟨n1, n2⟩ := HMK.out w2 g2 o2
      have N1 : Hid (OwS zss w2 lo hi (.slice (some ⟨p, 0, none⟩) xss.length cap0)) := by show OwS zss w2 lo hi _; rw [← HYL.out]; exact n1
      have N2 : Hid (Chg w w2 lo hi) := Chg.trans HC.out n2
      clear n1 n2 g2 o2 cm HMK HOI
      go_wp2_with fail
      refine ⟨⟨j + 1, zss, by omega, by go_num, ?_, HN3, HN1, HN2, N1, N2⟩, by simp [intOf]; omega⟩
      rw [hnn, HN4.out]
    · have d1 : decide ((j : Int) < (xss.length : Int)) = false := by simp; omega
      obtain rfl : j = xss.length := by omega
      have HF : Hid (OwM k xss wr lo hi (.slice a0 xss.length cap0)) := ⟨yss, HL.out, H1.out, H3.out⟩
      clear H1 H2 H3 HL
      go_wp2_with fail
      go_ret
      exact ⟨rfl, HC.out, HF.out⟩
end Go.Proofs.YtkggfljdbdfonaaGreatDoor
/- Proved: slices of whole numbers as a law carries them: marks. -/
namespace Go.Proofs.YtkggfljdbdfonaaGreatDoor
open Go.ChangeShapes Go.WideShapes Go.ChangeAt Go.RowKit
set_option linter.unusedVariables false
set_option linter.unusedSimpArgs false
theorem two_cells {cs : List Value} {a b : Value} (h : cs.length = 2) (e0 : cs[0]? = some a) (e1 : cs[1]? = some b) : cs = [a, b] := by
  match cs, h with
  | [y0, y1], _ =>
    simp at e0 e1
    rw [e0, e1]
/-- how many marks lie in the first j whole numbers -/
def offW (xss : List (List Int)) (j : Nat) : Nat := offL xss j + j
theorem offW_succ (xss : List (List Int)) (j : Nat) (h : j < xss.length) : offW xss (j + 1) = offW xss j + 1 + (xss.getD j []).length := by
  unfold offW
  rw [offL_succ xss j h]
  omega
theorem offW_le (xss : List (List Int)) (j : Nat) (h : j ≤ xss.length) : offW xss j ≤ offW xss xss.length := by
  have := offL_le xss j
  unfold offW
  omega
/-- the sign that a mark makes -/
def sgnK (k : Int) : Bool := k % 3 == 0
abbrev elM (k : Int) (xss : List (List Int)) : Nat → Thing := fun j => TB (sgnK (k + offW xss j)) (TI (marks (k + offW xss j + 1) (xss.getD j []).length))
abbrev MW (k : Int) (xss : List (List Int)) : Thing := TS 51 2 xss.length (elM k xss)
theorem good_elM (k : Int) (xss : List (List Int)) (j : Nat) : GoodT (elM k xss j) := good_TB _ (good_TI _)
theorem good_MW (k : Int) (xss : List (List Int)) : GoodT (MW k xss) := good_TS _ _ _ (good_elM k xss)
theorem chg_put (w : World) (p i : Nat) (x : Value) {lo hi : Nat} (h : lo ≤ p ∧ p < hi) : Chg w (w.setCell ⟨p, i, none⟩ x) lo hi :=
  ⟨rfl, rfl, rfl, by simp, fun b hb ho => heap_setCell_other _ _ _ _ (by show b ≠ p; omega)⟩
set_option maxRecDepth 100000 in
set_option maxHeartbeats 4000000 in
theorem markWholeS_any (bs : List Bool) (xss : List (List Int)) (v : Value) (k : Int) (lo hi : Nat) (w : World) (hv : Ows (WS bs xss) w lo hi [v]) (hl : xss.length ≤ 1048576) (hr : ∀ r ∈ xss, r.length ≤ 1048576) (hk : 0 ≤ k) (hs : k + (offW xss xss.length : Int) ≤ 1073741824) :
    Calls Tryz.prog 17 #[v, .int .i64 k] w fun e w' => e = .returned (.int .i64 (k + offW xss xss.length)) ∧ Chg w w' lo hi ∧ Ows (MW k xss) w' lo hi [v] := by
  rcases Nat.eq_zero_or_pos xss.length with h0 | h0
  · obtain ⟨hh, B, hT, hB⟩ := hv
    have hF : Ows (MW k xss) w lo hi [v] := ⟨hh, B, TS.ext (fun j hj => by omega) hT, hB⟩
    obtain ⟨a, c, rfl⟩ := TS.slice hT
    have HF : Hid (Ows (MW k xss) w lo hi [.slice a xss.length c]) := hF
    obtain rfl := List.length_eq_zero_iff.1 h0
    clear hT hF hh hB h0
    go_enter Tryz.func17, Tryz.ntmps17
    go_wp2_with fail
    go_loopw [5, 1] (fun i l W => i = .int .i64 0 ∧ l = .int .i64 k ∧ W = w) (fun _ _ _ => 0)
    case atStart => exact ⟨rfl, rfl, rfl⟩
    case round =>
      obtain ⟨rfl, rfl, hW⟩ := hrel
      obtain rfl : w = wr := hW.symm
      go_wp2_with fail
      go_ret
      exact ⟨by simp [offW, offL], (Old.refl w).toChg lo hi, HF.out⟩
  obtain ⟨hh, B, hT, hB⟩ := hv
  rcases hT with ⟨h1, _, _⟩ | ⟨p, cap, vs0, Bs, e, hc, hb⟩
  · omega
  simp at e
  subst e
  have HR : Hid (∀ r ∈ xss, r.length ≤ 1048576) := hr
  have HS : Hid (k + (offW xss xss.length : Int) ≤ 1073741824) := hs
  have hp : lo ≤ p ∧ p < hi := hB p ((hb p).2 (.inl rfl))
  have HB : Hid (∀ j b, j < xss.length → Bs j b → lo ≤ b ∧ b < hi) := fun j b hj h => hB b ((hb b).2 (.inr ⟨j, hj, h⟩))
  have HC0 : Hid (Chg w w lo hi) := (Old.refl w).toChg lo hi
  have HI : Hid (TSc 51 2 xss.length xss.length (fun q => if q < 0 then elM k xss q else elW bs xss q) w p cap vs0 Bs) := hc.ext (fun j _ => by simp)
  have HF : Hid (∀ w' vs, Chg w w' lo hi → TSc 51 2 xss.length xss.length (fun q => if q < xss.length then elM k xss q else elW bs xss q) w' p cap vs Bs → Ows (MW k xss) w' lo hi [.slice (some ⟨p, 0, none⟩) xss.length cap]) := fun w' vs hc' hvs =>
    ⟨Nat.le_trans hh hc'.size, B, .inr ⟨p, cap, vs, Bs, rfl, hvs.ext (fun j hj => by simp [hj]), hb⟩, hB⟩
  have HGD : Hid (∀ n j, GoodT (if j < n then elM k xss j else elW bs xss j)) := fun n j => by
    split
    · exact good_elM k xss j
    · exact good_elW bs xss j
  clear hc hb hB hh hr hs
  go_enter Tryz.func17, Tryz.ntmps17
  go_wp2_with fail
  go_loopw [5, 1] (fun i l W => ∃ (j : Nat) (vs : List Value), j ≤ xss.length ∧ i = .int .i64 j ∧ l = .int .i64 (k + offW xss j) ∧ Hid (TSc 51 2 xss.length xss.length (fun q => if q < j then elM k xss q else elW bs xss q) W p cap vs Bs) ∧ Hid (Chg w W lo hi)) (fun i _ _ => xss.length - (intOf i).toNat)
  case atStart => exact ⟨0, vs0, by omega, rfl, by simp [offW, offL_zero], HI, HC0⟩
  case round =>
    obtain ⟨j, vs, hj, rfl, rfl, H1, HC⟩ := hrel
    clear HI HC0
    by_cases hlt : j < xss.length
    · have d1 : decide ((j : Int) < (xss.length : Int)) = true := by simp; omega
      have hel := H1.out.el j hlt
      simp only [Nat.lt_irrefl, if_false] at hel
      obtain ⟨x, e0, e1, hE⟩ := TB.two hel
      obtain ⟨a', c', rfl⟩ := hE.slice
      have q0 : wr.cell? ⟨p, j * 2, none⟩ = some (.bool (bs.getD j false)) := (H1.out.cell j 0 hlt (by omega)).trans e0
      have q1 : wr.cell? ⟨p, j * 2 + 1, none⟩ = some (.slice a' (xss.getD j []).length c') := (H1.out.cell j 1 hlt (by omega)).trans e1
      have f0 : wr.frozen? ⟨p, j * 2, none⟩ = false := H1.out.frozen _
      have hm : xss.getD j [] ∈ xss := by simp [List.getD, hlt]
      have hrl := HR.out _ hm
      have hoj := offW_le xss (j + 1) hlt
      have hos := offW_succ xss j hlt
      have hsum := HS.out
      have hkb : 0 ≤ k + (offW xss j : Int) ∧ k + (offW xss j : Int) + 1 ≤ 1073741824 := by omega
      -- the sign is written
      have H2 := H1.out.put (HGD.out j) j 0 hlt (by omega) (.bool (sgnK (k + offW xss j))) (E' := TB (sgnK (k + offW xss j)) (TI (xss.getD j []))) (fun W' hW' => by
        rw [two_cells (cellsJ_len (n := 2) H1.out.row.1 j hlt) e0 e1]
        exact ⟨_, rfl, (good_TI _).far hE (fun b hb => hW' b (fun e => H1.out.np j hlt (by rw [← e]; exact hb)))⟩)
      have HE2 : Hid (∀ W' : World, TI (xss.getD j []) W' (Bs j) [.slice a' (xss.getD j []).length c'] → Own W' lo (.slice a' (xss.getD j []).length c') (xss.getD j [])) := fun W' h => h.own (fun b hb => (HB.out j b hlt hb).1)
      have hbl : ∀ b, Bs j b ↔ (Value.slice a' (xss.getD j []).length c').ownBlock = some b := hE.blocks
      have hE2 := H2.el j hlt
      simp only [if_true] at hE2
      obtain ⟨x2, e2, hE2⟩ := hE2
      have ex2 : x2 = .slice a' (xss.getD j []).length c' := by
        rw [cellsJ_set 2 vs j 0 j _ (by omega), if_pos rfl, two_cells (cellsJ_len (n := 2) H1.out.row.1 j hlt) e0 e1] at e2
        simp at e2
        exact e2.symm
      subst ex2
      have HO2 := HE2.out _ hE2
      have HN4 : Hid (k + (offW xss (j + 1) : Int) = k + (offW xss j : Int) + 1 + ((xss.getD j []).length : Int)) := by show _ = _; rw [hos]; omega
      have HG2 : Hid (∀ q, GoodT (if q = j then TB (sgnK (k + offW xss j)) (TI (xss.getD j [])) else if q < j then elM k xss q else elW bs xss q)) := fun q => by
        split
        · exact good_TB _ (good_TI _)
        · exact HGD.out j q
      have HCP : Hid (Chg w (wr.setCell ⟨p, j * 2, none⟩ (.bool (sgnK (k + offW xss j)))) lo hi) := Chg.trans HC.out (chg_put wr p (j * 2) _ hp)
      have HX : Hid (∀ w2, (wr.setCell ⟨p, j * 2, none⟩ (.bool (sgnK (k + offW xss j)))).grownBy w2 (Value.slice a' (xss.getD j []).length c').ownBlock → Own w2 lo (.slice a' (xss.getD j []).length c') (marks (k + offW xss j + 1) (xss.getD j []).length) →
          Chg w w2 lo hi ∧ ∃ vs', TSc 51 2 xss.length xss.length (fun q => if q < j + 1 then elM k xss q else elW bs xss q) w2 p cap vs' Bs) := fun w2 gr o => by
        have hch : Chg (wr.setCell ⟨p, j * 2, none⟩ (.bool (sgnK (k + offW xss j)))) w2 lo hi := chg_by gr (fun b hb => HB.out j b hlt ((hbl b).2 hb))
        refine ⟨Chg.trans HCP.out hch, _, (H2.sub HG2.out j hlt (E' := elM k xss j) (fun b h1 h2 => gr.block b h1 (fun e => h2 ((hbl b).2 e.symm))) ?_).ext (fun q hq => ?_)⟩
        · rw [cellsJ_set 2 vs j 0 j _ (by omega), if_pos rfl, two_cells (cellsJ_len (n := 2) H1.out.row.1 j hlt) e0 e1]
          refine ⟨_, rfl, a', c', by rw [marks_len], ?_, ?_, ?_⟩
          · rw [marks_len]
            exact Own.low o (Nat.zero_le _)
          · rw [marks_len]
            obtain ⟨a3, c3, e3, _, f3, _⟩ := hE
            simp at e3
            rw [e3.2]
            exact f3
          · rw [marks_len]
            exact hbl
        · by_cases h1 : q = j
          · subst h1
            simp
          · by_cases h2 : q < j
            · have h3 : q < j + 1 := by omega
              simp [h1, h2, h3]
            · have h3 : ¬ q < j + 1 := by omega
              simp [h1, h2, h3]
      have HOI : Hid (Own (wr.setCell ⟨p, j * 2, none⟩ (.bool (sgnK (k + offW xss j)))) lo (.slice a' (xss.getD j []).length c') (xss.getD j [])) := HO2
      have hsg : ((k + (offW xss j : Int)) % 3 == 0) = sgnK (k + offW xss j) := rfl
      clear hel e0 e1 hE H2 hE2 e2 HO2 HE2 hbl HG2 H1 hos hoj hsum HCP hm
      generalize sgnK (k + offW xss j) = sg at *
      generalize hnn : (offW xss (j + 1)) = nxt at *
      generalize (offW xss j : Nat) = off at *
      generalize xss.getD j [] = xs at *
      generalize bs.getD j false = s0 at *
      have cm := fun W (h : Own W lo (.slice a' xs.length c') xs) => markInts_any xs _ (k + off + 1) lo W h (by omega) (by omega) (by omega)
      go_wp2_with fail
      refine (cm _ HOI.out).mono ?_
      rintro e w2 ⟨rfl, g2, o2⟩
      obtain ⟨n1, vs', n2⟩ := HX.out w2 g2 o2
      have N1 : Hid (Chg w w2 lo hi) := n1
      have N2 : Hid (TSc 51 2 xss.length xss.length (fun q => if q < j + 1 then elM k xss q else elW bs xss q) w2 p cap vs' Bs) := n2
      clear n1 n2 g2 o2 cm HX HOI
      go_wp2_with fail
      refine ⟨⟨j + 1, vs', by omega, by go_num, ?_, N2, N1⟩, by simp [intOf]; omega⟩
      rw [hnn, HN4.out]
    · have d1 : decide ((j : Int) < (xss.length : Int)) = false := by simp; omega
      obtain rfl : j = xss.length := by omega
      have HE : Hid (Ows (MW k xss) wr lo hi [.slice (some ⟨p, 0, none⟩) xss.length cap]) := HF.out wr vs HC.out H1.out
      clear H1 HF
      go_wp2_with fail
      go_ret
      exact ⟨rfl, HC.out, HE.out⟩
theorem Ows.rowM {k : Int} {xss : List (List Int)} {W : World} {lo hi : Nat} {v : Value} (h : Ows (MW k xss) W lo hi [v]) (j : Nat) (hj : j < xss.length) : ∃ p cap a c, v = .slice (some ⟨p, 0, none⟩) xss.length cap ∧ p < W.heap.size ∧ W.cell? ⟨p, j * 2, none⟩ = some (.bool (sgnK (k + offW xss j))) ∧ W.cell? ⟨p, j * 2 + 1, none⟩ = some (.slice a (xss.getD j []).length c) ∧ Row W (.slice a (xss.getD j []).length c) (marks (k + offW xss j + 1) (xss.getD j []).length) := by
  obtain ⟨_, B, hT, _⟩ := h
  rcases hT with ⟨h1, _, _⟩ | ⟨p, cap, vs, Bs, e, hc, hb⟩
  · omega
  simp at e
  subst e
  obtain ⟨x, e0, e1, hE⟩ := TB.two (hc.el j hj)
  obtain ⟨a, c, rfl⟩ := hE.slice
  have hrow := hE.row
  rw [marks_len] at e1 hrow
  exact ⟨p, cap, a, c, rfl, ownsRow_lt hc.row, (hc.cell j 0 hj (by omega)).trans e0, (hc.cell j 1 hj (by omega)).trans e1, hrow⟩
set_option maxRecDepth 100000 in
set_option maxHeartbeats 4000000 in
theorem heldWholeS_any (xss : List (List Int)) (v : Value) (k : Int) (lo hi : Nat) (w : World) (hv : Ows (MW k xss) w lo hi [v]) (hl : xss.length ≤ 1048576) (hr : ∀ r ∈ xss, r.length ≤ 1048576) (hk : 0 ≤ k) (hs : k + (offW xss xss.length : Int) ≤ 1073741824) :
    Calls Tryz.prog 18 #[v, .int .i64 k] w fun e w' => e = .returned (.int .i64 (k + offW xss xss.length)) ∧ Old w w' := by
  obtain ⟨a0, cap0, ev⟩ : ∃ a c, v = .slice a xss.length c := by obtain ⟨_, B, hT, _⟩ := hv; exact TS.slice hT
  subst ev
  have HR : Hid (∀ r ∈ xss, r.length ≤ 1048576) := hr
  have HV : Hid (Ows (MW k xss) w lo hi [.slice a0 xss.length cap0]) := hv
  have HS : Hid (k + (offW xss xss.length : Int) ≤ 1073741824) := hs
  clear hv hr hs
  go_enter Tryz.func18, Tryz.ntmps18
  go_wp2_with fail
  go_loopw [5, 1] (fun i l W => ∃ j : Nat, j ≤ xss.length ∧ i = .int .i64 j ∧ l = .int .i64 (k + offW xss j) ∧ Hid (Old w W)) (fun i _ _ => xss.length - (intOf i).toNat)
  case atStart => exact ⟨0, by omega, rfl, by simp [offW, offL_zero], Old.refl _⟩
  case round =>
    obtain ⟨j, hj, rfl, rfl, HG⟩ := hrel
    by_cases hlt : j < xss.length
    · have d1 : decide ((j : Int) < (xss.length : Int)) = true := by simp; omega
      obtain ⟨p, cap, a, c, e, hp, c0, c1, r0⟩ := HV.out.rowM j hlt
      simp only [Value.slice.injEq, true_and] at e
      obtain ⟨rfl, rfl⟩ := e
      have q0 := (HG.out.cell (p := ⟨p, j * 2, none⟩) hp).trans c0
      have q1 := (HG.out.cell (p := ⟨p, j * 2 + 1, none⟩) hp).trans c1
      have R1 : Hid (Row wr (.slice a (xss.getD j []).length c) (marks (k + offW xss j + 1) (xss.getD j []).length)) := r0.old HG.out
      have hm : xss.getD j [] ∈ xss := by simp [List.getD, hlt]
      have hrl := HR.out _ hm
      have hoj := offW_le xss (j + 1) hlt
      have hos := offW_succ xss j hlt
      have hsum := HS.out
      have HN4 : Hid (k + (offW xss (j + 1) : Int) = k + (offW xss j : Int) + 1 + ((xss.getD j []).length : Int)) := by show _ = _; rw [hos]; omega
      have hkb : 0 ≤ k + (offW xss j : Int) ∧ k + (offW xss j : Int) + 1 + ((xss.getD j []).length : Int) ≤ 1073741824 := by omega
      have hsg : ((k + (offW xss j : Int)) % 3 == 0) = sgnK (k + offW xss j) := rfl
      clear c0 c1 r0 hm hoj hos hsum
      generalize sgnK (k + offW xss j) = sg at *
      generalize hnn : (offW xss (j + 1)) = nxt at *
      generalize (offW xss j : Nat) = off at *
      generalize (xss.getD j []).length = n at *
      have cm := fun W h => heldInts_yes n (.slice a n c) (k + off + 1) W h (by omega) (by omega) (by omega)
      have d2 : decide (k + (off : Int) + 1 + (n : Int) < 0) = false := by simp; omega
      have d3 : (sg != sg) = false := by simp
      go_wp2_with fail
      refine (cm _ R1.out).mono ?_
      rintro e w2 ⟨rfl, g2⟩
      have N2 : Hid (Old w w2) := Old.trans HG.out g2
      clear g2 cm
      go_wp2_with fail
      refine ⟨⟨j + 1, by omega, by go_num, ?_, N2⟩, by simp [intOf]; omega⟩
      rw [hnn, HN4.out]
    · have d1 : decide ((j : Int) < (xss.length : Int)) = false := by simp; omega
      obtain rfl : j = xss.length := by omega
      go_wp2_with fail
      go_ret
      exact ⟨rfl, HG.out⟩
end Go.Proofs.YtkggfljdbdfonaaGreatDoor
/- Proved: slices of whole numbers as a law carries them, in the form that a law's walk asks. -/
namespace Go.Proofs.YtkggfljdbdfonaaGreatDoor
open Go.ChangeShapes Go.WideShapes Go.ChangeAt Go.RowKit
set_option linter.unusedVariables false
set_option linter.unusedSimpArgs false
/-- whole numbers of one's own -/
def YW (bs : List Bool) (xss : List (List Int)) (W : World) (lo hi : Nat) (v : Value) : Prop := Ows (WS bs xss) W lo hi [v]
theorem far_YW (bs : List Bool) (xss : List (List Int)) : Far (YW bs xss) := fun W W' lo hi v h hf hs => far_Ows (good_WS bs xss) W W' lo hi [v] h hf hs
theorem shape_YW {bs : List Bool} {xss : List (List Int)} (W : World) (lo hi : Nat) (v : Value) (h : YW bs xss W lo hi v) : ∃ a c, v = .slice a xss.length c := by
  obtain ⟨_, B, hT, _⟩ := h
  exact TS.slice hT
/-- whole numbers whose signs and limbs are marks -/
def YWm (k : Int) (xss : List (List Int)) (W : World) (lo hi : Nat) (v : Value) : Prop := Ows (MW k xss) W lo hi [v]
theorem far_YWm (k : Int) (xss : List (List Int)) : Far (YWm k xss) := fun W W' lo hi v h hf hs => far_Ows (good_MW k xss) W W' lo hi [v] h hf hs
theorem shape_YWm {k : Int} {xss : List (List Int)} (W : World) (lo hi : Nat) (v : Value) (h : YWm k xss W lo hi v) : ∃ a c, v = .slice a xss.length c := by
  obtain ⟨_, B, hT, _⟩ := h
  exact TS.slice hT
theorem YW.rowW {bs : List Bool} {xss : List (List Int)} {W : World} {lo hi : Nat} {v : Value} (hb : bs.length = xss.length) (h : YW bs xss W lo hi v) : RowW W v bs xss := by
  obtain ⟨_, B, hT, _⟩ := h
  exact WS.rowW hb hT
theorem yw_eq (bs : List Bool) (xss : List (List Int)) (hb : bs.length = xss.length) (W : World) (lo hi : Nat) (g : Value) (lo' hi' : Nat) (g' : Value) (h : YW bs xss W lo hi g) (h' : YW bs xss W lo' hi' g') (hl : xss.length ≤ 1048576) (hr : ∀ r ∈ xss, r.length ≤ 1048576) :
    Calls Tryz.prog 12 #[g, g'] W fun e w' => e = .returned (.bool true) ∧ Old W w' := eqWholeS_yes bs xss g g' W (h.rowW hb) (h'.rowW hb) hl hr
theorem yw_mark (bs : List Bool) (xss : List (List Int)) (k : Int) (W : World) (lo hi : Nat) (g : Value) (h : YW bs xss W lo hi g) (hl : xss.length ≤ 1048576) (hr : ∀ r ∈ xss, r.length ≤ 1048576) (hk : 0 ≤ k) (hs : k + (offW xss xss.length : Int) ≤ 1073741824) :
    Calls Tryz.prog 17 #[g, .int .i64 k] W fun e w' => e = .returned (.int .i64 (k + offW xss xss.length)) ∧ Chg W w' lo hi ∧ YWm k xss w' lo hi g := markWholeS_any bs xss g k lo hi W h hl hr hk hs
theorem yw_held (xss : List (List Int)) (k : Int) (W : World) (lo hi : Nat) (g : Value) (h : YWm k xss W lo hi g) (hl : xss.length ≤ 1048576) (hr : ∀ r ∈ xss, r.length ≤ 1048576) (hk : 0 ≤ k) (hs : k + (offW xss xss.length : Int) ≤ 1073741824) :
    Calls Tryz.prog 18 #[g, .int .i64 k] W fun e w' => e = .returned (.int .i64 (k + offW xss xss.length)) ∧ Old W w' := heldWholeS_any xss g k lo hi W h hl hr hk hs
theorem offL_row (m : Nat) : ∀ (xss : List (List Int)), (∀ r ∈ xss, r.length ≤ m) → offL xss xss.length ≤ xss.length * m
  | [], h => by simp [offL]
  | r :: rs, h => by
    have h1 := offL_row m rs (fun r hr => h r (List.mem_cons_of_mem _ hr))
    have h2 := h r (List.mem_cons_self ..)
    show r.length + offL rs rs.length ≤ (rs.length + 1) * m
    rw [Nat.add_mul]
    omega
theorem offW_row {xss : List (List Int)} {m : Nat} (h : ∀ r ∈ xss, r.length ≤ m) : offW xss xss.length ≤ xss.length * m + xss.length := by
  have := offL_row m xss h
  unfold offW
  omega
end Go.Proofs.YtkggfljdbdfonaaGreatDoor
