/- Proved: several texts in one: what each proves is said ahead of it. -/
import Derived.Test.YtanijpekdnkicaaGreatDoorWq00
import Derived.Deep.RegionWith
import Derived.Test.YtanijpekdnkicaaGreatDoorWq01
/- Proved: the walk of the statement on GoodWhole, under the contract of the program's own function. -/
namespace Go.Proofs.YtanijpekdnkicaaGreatDoor
open Go.ChangeShapes Go.WideShapes Go.ChangeAt Go.RowKit
open M2
set_option linter.unusedVariables false
set_option linter.unusedSimpArgs false
abbrev StW (w : World) (k : Nat) (x y : Value) (t : TypeId) : Prop := w.heap[k]? = some (.cells #[x, y] t (0, 0))
theorem StW.c0 {w : World} {k : Nat} {x y : Value} {t : TypeId} (h : StW w k x y t) : w.cell? ⟨k, 0, none⟩ = some x := cell_of_row w k 0 _ t (0, 0) h
theorem StW.c1 {w : World} {k : Nat} {x y : Value} {t : TypeId} (h : StW w k x y t) : w.cell? ⟨k, 1, none⟩ = some y := cell_of_row w k 1 _ t (0, 0) h
theorem StW.f0 {w : World} {k : Nat} {x y : Value} {t : TypeId} (h : StW w k x y t) : w.frozen? ⟨k, 0, none⟩ = false := frozen_of_row w k 0 _ t h
theorem StW.f1 {w : World} {k : Nat} {x y : Value} {t : TypeId} (h : StW w k x y t) : w.frozen? ⟨k, 1, none⟩ = false := frozen_of_row w k 1 _ t h
theorem StW.lt {w : World} {k : Nat} {x y : Value} {t : TypeId} (h : StW w k x y t) : k < w.heap.size := (Array.getElem?_eq_some_iff.1 h).1
theorem StW.old {w w' : World} {k : Nat} {x y : Value} {t : TypeId} (h : StW w k x y t) (g : Old w w') : StW w' k x y t := (g.block k h.lt).trans h
theorem StW.new (w : World) (x y : Value) (t : TypeId) : StW (w.alloc (.cells #[x, y] t)) w.heap.size x y t := heap_alloc_new w _
end Go.Proofs.YtanijpekdnkicaaGreatDoor
/- Proved: structs of two cells under writes into other blocks; no function of the program. -/
namespace Go.Proofs.YtanijpekdnkicaaGreatDoor
open Go.ChangeShapes Go.WideShapes Go.ChangeAt Go.RowKit
set_option linter.unusedVariables false
set_option linter.unusedSimpArgs false
theorem StW.at2 (w : World) (x y x' y' : Value) (t t' : TypeId) : StW ((w.alloc (.cells #[x, y] t)).alloc (.cells #[x', y'] t')) (w.heap.size + 1) x' y' t' := heap_alloc2_new w _ _
theorem StW.at1 (w : World) (x y x' y' : Value) (t t' : TypeId) : StW ((w.alloc (.cells #[x, y] t)).alloc (.cells #[x', y'] t')) w.heap.size x y t := heap_alloc2_old w _ _
end Go.Proofs.YtanijpekdnkicaaGreatDoor
/- Proved: a struct in a block of its own stays where only others are written; no function of the program. -/
namespace Go.Proofs.YtanijpekdnkicaaGreatDoor
open Go.ChangeShapes Go.WideShapes Go.ChangeAt Go.RowKit
set_option linter.unusedVariables false
set_option linter.unusedSimpArgs false
def Bk (w : World) (k : Nat) (cs : Array Value) (t : TypeId) : Prop := w.heap[k]? = some (.cells cs t (0, 0))
theorem Bk.lt {w : World} {k : Nat} {cs : Array Value} {t : TypeId} (h : Bk w k cs t) : k < w.heap.size := (Array.getElem?_eq_some_iff.1 h).1
theorem Bk.old {w w' : World} {k : Nat} {cs : Array Value} {t : TypeId} (h : Bk w k cs t) (g : Old w w') : Bk w' k cs t := (g.block k h.lt).trans h
theorem Bk.chg {w w' : World} {k : Nat} {cs : Array Value} {t : TypeId} {lo hi : Nat} (h : Bk w k cs t) (c : Chg w w' lo hi) (hk : k < lo ∨ hi ≤ k) : Bk w' k cs t := (c.block k h.lt hk).trans h
theorem Bk.new' (w : World) {k : Nat} (cs : Array Value) (t : TypeId) (hk : w.heap.size = k) : Bk (w.alloc (.cells cs t)) k cs t := by
  subst hk
  exact heap_alloc_new w _
theorem Bk.alloc {w : World} {k : Nat} {cs : Array Value} {t : TypeId} (h : Bk w k cs t) (o : Obj) : Bk (w.alloc o) k cs t := h.old ((Old.refl w).alloc o)
theorem Bk.c {w : World} {k : Nat} {cs : Array Value} {t : TypeId} (h : Bk w k cs t) {i : Nat} {v : Value} (hi : cs[i]? = some v) : w.cell? ⟨k, i, none⟩ = some v := by
  rw [← hi]
  exact cell_of_row w k i cs t (0, 0) h
end Go.Proofs.YtanijpekdnkicaaGreatDoor
/- Proved: contracts of the model's functions on whole numbers of any length. -/
namespace Go.Proofs.YtanijpekdnkicaaGreatDoor
open Go.ChangeShapes Go.WideShapes Go.ChangeAt Go.RowKit
open M2
set_option linter.unusedVariables false
set_option linter.unusedSimpArgs false
def sv (neg : Bool) (xs : List Nat) : Int := if neg then -(val xs : Int) else (val xs : Int)
def Gw (neg : Bool) (xs : List Nat) : Prop := Nrm xs ∧ (neg = true → xs ≠ [])
def ng (z : Int) : Bool := decide (z < 0)
def dg (z : Int) : List Nat := dig z.natAbs
theorem Gw.pos {neg : Bool} {xs : List Nat} (h : Gw neg xs) (hn : neg = true) : 0 < val xs := by
  rcases Nat.eq_zero_or_pos (val xs) with h0 | h0
  · exact absurd (val_zero_of h.1 h0) (h.2 hn)
  · exact h0
theorem gw_of (z : Int) : Gw (ng z) (dg z) := by
  refine ⟨dig_nrm _, fun h => dig_ne ?_⟩
  simp [ng] at h
  omega
end Go.Proofs.YtanijpekdnkicaaGreatDoor
/- Proved: contracts of the model's nearest quotient, of words as whole numbers, of what is left by a word and of comparing, by what the numbers are worth. -/
namespace Go.Proofs.YtanijpekdnkicaaGreatDoor
open Go.ChangeShapes Go.WideShapes Go.ChangeAt Go.RowKit
open M2
set_option linter.unusedVariables false
set_option linter.unusedSimpArgs false
def cmpI (x y : Int) : Int := if x < y then -1 else if y < x then 1 else 0
end Go.Proofs.YtanijpekdnkicaaGreatDoor
/- Proved: whole numbers as a law carries them: what its functions on them do, by blocks of memory from one number up to another. -/
namespace Go.Proofs.YtanijpekdnkicaaGreatDoor
open Go.ChangeShapes Go.WideShapes Go.ChangeAt Go.RowKit
set_option linter.unusedVariables false
set_option linter.unusedSimpArgs false
def OwI (xs : List Int) (W : World) (lo hi : Nat) (v : Value) : Prop := Own W lo v xs ∧ hi ≤ W.heap.size ∧ ∀ b, v.ownBlock = some b → b < hi
theorem OwI.of {W w' : World} {v : Value} {xs : List Int} (o : Own w' W.heap.size v xs) : OwI xs w' W.heap.size w'.heap.size v := ⟨o, Nat.le_refl _, fun b hb => (o.lt b hb).2⟩
theorem OwI.row {W : World} {lo hi : Nat} {v : Value} {xs : List Int} (h : OwI xs W lo hi v) : Row W v xs := Own.row h.1
theorem own_far {W W' : World} {lo hi : Nat} {v : Value} {xs : List Int} (h : Own W lo v xs) (hh : ∀ b, v.ownBlock = some b → b < hi) (hf : ∀ b, lo ≤ b → b < hi → W'.heap[b]? = W.heap[b]?) : Own W' lo v xs := by
  refine ⟨h.1, ?_⟩
  rcases h.2 with hn | ⟨p, cap, cur, rfl, hb, hgg, rest⟩
  · exact .inl hn
  · refine .inr ⟨p, cap, cur, rfl, hb, ?_, rest⟩
    rw [hf p hb (hh p rfl)]
    exact hgg
theorem far_OwI (xs : List Int) : Far (OwI xs) := fun W W' lo hi v h hf hs => ⟨own_far h.1 h.2.2 hf, Nat.le_trans h.2.1 hs, h.2.2⟩
theorem OwI.mark {W w' : World} {lo hi : Nat} {v : Value} {xs ys : List Int} (h : OwI xs W lo hi v) (g : W.grownBy w' v.ownBlock) (o : Own w' lo v ys) : Chg W w' lo hi ∧ OwI ys w' lo hi v :=
  ⟨chg_by g (fun b hb => ⟨(h.1.lt b hb).1, h.2.2 b hb⟩), o, Nat.le_trans h.2.1 g.size, h.2.2⟩
def XW (n : Bool) (xs : List Int) (W : World) (lo hi : Nat) (g : Array Value) : Prop := ∃ a c, g = #[.bool n, .slice a xs.length c] ∧ OwI xs W lo hi (.slice a xs.length c)
theorem far_XW (n : Bool) (xs : List Int) : Far (XW n xs) := fun W W' lo hi v h hf hs => by
  obtain ⟨a, c, e, o⟩ := h
  exact ⟨a, c, e, far_OwI xs W W' lo hi _ o hf hs⟩
theorem shape_XW {n : Bool} {xs : List Int} (W : World) (lo hi : Nat) (g : Array Value) (h : XW n xs W lo hi g) : ∃ a c, g = #[.bool n, .slice a xs.length c] := by
  obtain ⟨a, c, e, o⟩ := h
  exact ⟨a, c, e⟩
def leftN (left : Int) (len : Nat) : Int := if left < (len : Int) then -1 else left - len
theorem leftN_ok {left : Int} {len : Nat} (h : ¬ leftN left len < 0) (h0 : 0 ≤ left) : (len : Int) ≤ left ∧ leftN left len = left - len ∧ 0 ≤ leftN left len := by
  unfold leftN at *
  split at h
  · omega
  · rename_i h2
    rw [if_neg h2]
    omega
theorem kw_sz (n : Bool) (a : Option Addr) (len cap : Nat) (left : Int) (W : World) (hl : len ≤ 9223372036854775807) (h0 : 0 ≤ left) (h1 : left ≤ 1048576) :
    Calls Tryz.prog 62 #[.agg #[.bool n, .slice a len cap], .int .i64 left] W fun e w' => e = .returned (.int .i64 (leftN left len)) ∧ Old W w' := by
  unfold leftN
  split
  · rename_i h
    exact szWhole_no n a len cap left W hl h0 h1 h
  · rename_i h
    exact szWhole_yes n a len cap left W hl h0 h1 h
theorem kw_to (n : Bool) (xs : List Int) (v : Value) (W : World) (h : Row W v xs) (hl : xs.length ≤ 1048576) :
    Calls Tryz.prog 66 #[.agg #[.bool n, v]] W fun e w' => ∃ g, e = .returned (.agg g) ∧ Old W w' ∧ XW n xs w' W.heap.size w'.heap.size g := by
  refine (toWhole_any n xs v W h hl).mono ?_
  rintro e w' ⟨v', rfl, g, o⟩
  obtain ⟨a, c, rfl⟩ := (Own.row o).slice
  exact ⟨_, rfl, g, a, c, rfl, OwI.of o⟩
theorem kw_mark (n : Bool) (xs : List Int) (k : Int) (W : World) (lo hi : Nat) (g : Array Value) (h : XW n xs W lo hi g) (hl : xs.length ≤ 1048576) (hk : 0 ≤ k) (hk' : k ≤ 1073741824) :
    Calls Tryz.prog 73 #[.agg g, .int .i64 k] W fun e w' => e = .returned (.int .i64 (k + xs.length)) ∧ Chg W w' lo hi := by
  obtain ⟨a, c, rfl, o⟩ := h
  refine (markWhole_any n xs _ k lo W o.1 (by omega) hk hk').mono ?_
  rintro e w' ⟨rfl, gr, ow⟩
  exact ⟨rfl, (o.mark gr ow).1⟩
end Go.Proofs.YtanijpekdnkicaaGreatDoor
/- Proved: things made of blocks of memory (rows, structs of them, slices of these): what stays where other blocks are written; no function of the program. -/
namespace Go.Proofs.YtanijpekdnkicaaGreatDoor
open Go.ChangeShapes Go.WideShapes Go.ChangeAt Go.RowKit
set_option linter.unusedVariables false
set_option linter.unusedSimpArgs false
abbrev Thing := World → (Nat → Prop) → List Value → Prop
structure GoodT (E : Thing) : Prop where
  far : ∀ {W W' : World} {B : Nat → Prop} {cs : List Value}, E W B cs → (∀ b, B b → W'.heap[b]? = W.heap[b]?) → E W' B cs
  lt : ∀ {W : World} {B : Nat → Prop} {cs : List Value}, E W B cs → ∀ b, B b → b < W.heap.size
def TI (xs : List Int) : Thing := fun W B cs => ∃ a c, cs = [.slice a xs.length c] ∧ Own W 0 (.slice a xs.length c) xs ∧ xs.length ≤ c ∧ ∀ b, B b ↔ (Value.slice a xs.length c).ownBlock = some b
def TP (E F : Thing) : Thing := fun W B cs => ∃ x y B1 B2, cs = [x, y] ∧ E W B1 [x] ∧ F W B2 [y] ∧ (∀ b, B b ↔ B1 b ∨ B2 b) ∧ ∀ b, B1 b → B2 b → False
def cellsJ (n : Nat) (vs : List Value) (j : Nat) : List Value := (vs.drop (j * n)).take n
structure TSc (T : TypeId) (n m k : Nat) (Es : Nat → Thing) (W : World) (p cap : Nat) (vs : List Value) (Bs : Nat → Nat → Prop) : Prop where
  row : W.ownsRow 0 T n (.slice (some ⟨p, 0, none⟩) m cap) m vs
  el : ∀ j, j < k → Es j W (Bs j) (cellsJ n vs j)
  np : ∀ j, j < k → ¬ Bs j p
  dis : ∀ i j, i < k → j < k → i ≠ j → ∀ b, Bs i b → Bs j b → False
def TS (T : TypeId) (n m : Nat) (Es : Nat → Thing) : Thing := fun W B cs =>
  (m = 0 ∧ cs = [.slice none 0 0] ∧ ∀ b, ¬ B b) ∨ ∃ p cap vs Bs, cs = [.slice (some ⟨p, 0, none⟩) m cap] ∧ TSc T n m m Es W p cap vs Bs ∧ ∀ b, B b ↔ b = p ∨ ∃ j, j < m ∧ Bs j b
def Ows (E : Thing) (W : World) (lo hi : Nat) (cs : List Value) : Prop := hi ≤ W.heap.size ∧ ∃ B, E W B cs ∧ ∀ b, B b → lo ≤ b ∧ b < hi
theorem ownsRow_far {W W' : World} {base p n m cap : Nat} {T : TypeId} {vs : List Value} (h : W.ownsRow base T n (.slice (some ⟨p, 0, none⟩) m cap) m vs) (hf : W'.heap[p]? = W.heap[p]?) : W'.ownsRow base T n (.slice (some ⟨p, 0, none⟩) m cap) m vs := by
  refine ⟨h.1, ?_⟩
  rcases h.2 with ⟨hn, _⟩ | ⟨p', cap', cur, e, hb, hgg, rest⟩
  · cases hn
  · simp only [Value.slice.injEq, Option.some.injEq, Addr.mk.injEq, true_and, and_true] at e
    obtain ⟨rfl, rfl⟩ := e
    exact .inr ⟨p, cap, cur, rfl, hb, hf.trans hgg, rest⟩
theorem ownsRow_lt {W : World} {base p n m cap : Nat} {T : TypeId} {vs : List Value} (h : W.ownsRow base T n (.slice (some ⟨p, 0, none⟩) m cap) m vs) : p < W.heap.size := (h.lt p rfl).2
theorem own_farB {W W' : World} {base : Nat} {v : Value} {xs : List Int} (h : Own W base v xs) (hf : ∀ b, v.ownBlock = some b → W'.heap[b]? = W.heap[b]?) : Own W' base v xs := by
  refine ⟨h.1, ?_⟩
  rcases h.2 with hn | ⟨p, cap, cur, rfl, hb, hgg, rest⟩
  · exact .inl hn
  · exact .inr ⟨p, cap, cur, rfl, hb, (hf p rfl).trans hgg, rest⟩
theorem good_TI (xs : List Int) : GoodT (TI xs) := by
  constructor
  · rintro W W' B cs ⟨a, c, e, o, f, hb⟩ hf
    exact ⟨a, c, e, own_farB o (fun b h => hf b ((hb b).2 h)), f, hb⟩
  · rintro W B cs ⟨a, c, e, o, f, hb⟩ b h
    exact (o.lt b ((hb b).1 h)).2
theorem good_TP {E F : Thing} (g : GoodT E) (g' : GoodT F) : GoodT (TP E F) := by
  constructor
  · rintro W W' B cs ⟨x, y, B1, B2, e, h1, h2, hb, hd⟩ hf
    exact ⟨x, y, B1, B2, e, g.far h1 (fun b h => hf b ((hb b).2 (.inl h))), g'.far h2 (fun b h => hf b ((hb b).2 (.inr h))), hb, hd⟩
  · rintro W B cs ⟨x, y, B1, B2, e, h1, h2, hb, hd⟩ b h
    rcases (hb b).1 h with h | h
    · exact g.lt h1 b h
    · exact g'.lt h2 b h
theorem TSc.far {T : TypeId} {n m k : Nat} {Es : Nat → Thing} {W W' : World} {p cap : Nat} {vs : List Value} {Bs : Nat → Nat → Prop} (g : ∀ j, GoodT (Es j)) (h : TSc T n m k Es W p cap vs Bs) (hp : W'.heap[p]? = W.heap[p]?) (hf : ∀ j b, j < k → Bs j b → W'.heap[b]? = W.heap[b]?) : TSc T n m k Es W' p cap vs Bs :=
  ⟨ownsRow_far h.row hp, fun j hj => (g j).far (h.el j hj) (fun b hb => hf j b hj hb), h.np, h.dis⟩
theorem TSc.lt {T : TypeId} {n m k : Nat} {Es : Nat → Thing} {W : World} {p cap : Nat} {vs : List Value} {Bs : Nat → Nat → Prop} (g : ∀ j, GoodT (Es j)) (h : TSc T n m k Es W p cap vs Bs) (j b : Nat) (hj : j < k) (hb : Bs j b) : b < W.heap.size := (g j).lt (h.el j hj) b hb
theorem TSc.old {T : TypeId} {n m k : Nat} {Es : Nat → Thing} {W W' : World} {p cap : Nat} {vs : List Value} {Bs : Nat → Nat → Prop} (g : ∀ j, GoodT (Es j)) (h : TSc T n m k Es W p cap vs Bs) (q : Old W W') : TSc T n m k Es W' p cap vs Bs :=
  h.far g (q.block p (ownsRow_lt h.row)) (fun j b hj hb => q.block b (h.lt g j b hj hb))
theorem good_TS (T : TypeId) (n m : Nat) {Es : Nat → Thing} (g : ∀ j, GoodT (Es j)) : GoodT (TS T n m Es) := by
  constructor
  · rintro W W' B cs (h | ⟨p, cap, vs, Bs, e, h, hb⟩) hf
    · exact .inl h
    · exact .inr ⟨p, cap, vs, Bs, e, h.far g (hf p ((hb p).2 (.inl rfl))) (fun j b hj hB => hf b ((hb b).2 (.inr ⟨j, hj, hB⟩))), hb⟩
  · rintro W B cs (h | ⟨p, cap, vs, Bs, e, h, hb⟩) b hB
    · exact absurd hB (h.2.2 b)
    · rcases (hb b).1 hB with rfl | ⟨j, hj, hB⟩
      · exact ownsRow_lt h.row
      · exact h.lt g j b hj hB
theorem far_Ows {E : Thing} (g : GoodT E) : Far (Ows E) := fun W W' lo hi cs h hf hs => by
  obtain ⟨hh, B, hE, hb⟩ := h
  exact ⟨by omega, B, g.far hE (fun b hB => hf b (hb b hB).1 (hb b hB).2), hb⟩
theorem Ows.low {E : Thing} {W : World} {lo lo' hi hi' : Nat} {cs : List Value} (h : Ows E W lo hi cs) (hl : lo' ≤ lo) (hh : hi ≤ hi') (hs : hi' ≤ W.heap.size) : Ows E W lo' hi' cs := by
  obtain ⟨_, B, hE, hb⟩ := h
  exact ⟨hs, B, hE, fun b hB => by have := hb b hB; omega⟩
theorem TS.slice {T : TypeId} {n m : Nat} {Es : Nat → Thing} {W : World} {B : Nat → Prop} {v : Value} (h : TS T n m Es W B [v]) : ∃ a c, v = .slice a m c := by
  rcases h with ⟨h0, h1, _⟩ | ⟨p, cap, vs, Bs, e, _⟩
  · simp at h1
    exact ⟨none, 0, by rw [h1, h0]⟩
  · simp at e
    exact ⟨_, _, e⟩
theorem TI.slice {xs : List Int} {W : World} {B : Nat → Prop} {v : Value} (h : TI xs W B [v]) : ∃ a c, v = .slice a xs.length c := by
  obtain ⟨a, c, e, _⟩ := h
  simp at e
  exact ⟨a, c, e⟩
theorem cellsJ_len {n m : Nat} {vs : List Value} (h : vs.length = m * n) (j : Nat) (hj : j < m) : (cellsJ n vs j).length = n := by
  unfold cellsJ
  rw [List.length_take, List.length_drop, h]
  have : (j + 1) * n ≤ m * n := Nat.mul_le_mul_right n hj
  rw [Nat.add_mul] at this
  omega
theorem cellsJ_get (n : Nat) (vs : List Value) (j i : Nat) (hi : i < n) : (cellsJ n vs j)[i]? = vs[j * n + i]? := by
  unfold cellsJ
  rw [List.getElem?_take, if_pos hi, List.getElem?_drop]
theorem cellsJ_set (n : Nat) (vs : List Value) (j i q : Nat) (x : Value) (hi : i < n) : cellsJ n (vs.set (j * n + i) x) q = if q = j then (cellsJ n vs j).set i x else cellsJ n vs q := by
  apply List.ext_getElem?
  intro r
  rcases Nat.lt_or_ge r n with hr | hr
  · rw [cellsJ_get n _ q r hr, List.getElem?_set]
    by_cases hq : q = j
    · subst hq
      rw [if_pos rfl, List.getElem?_set, cellsJ_get n vs q r hr]
      by_cases hri : i = r
      · subst hri
        rw [if_pos rfl, if_pos rfl]
        by_cases hlen : q * n + i < vs.length
        · rw [if_pos hlen, if_pos]
          unfold cellsJ
          rw [List.length_take, List.length_drop]
          omega
        · rw [if_neg hlen, if_neg]
          unfold cellsJ
          rw [List.length_take, List.length_drop]
          omega
      · rw [if_neg (by omega), if_neg hri]
    · rw [if_neg hq, if_neg, cellsJ_get n vs q r hr]
      intro e
      apply hq
      have h1 : (j * n + i) / n = j := by rw [Nat.mul_comm, Nat.mul_add_div (by omega), Nat.div_eq_of_lt hi]; omega
      have h2 : (q * n + r) / n = q := by rw [Nat.mul_comm, Nat.mul_add_div (by omega), Nat.div_eq_of_lt hr]; omega
      rw [← h1, ← h2, e]
  · have l1 : ∀ (us : List Value) (z : Nat), (cellsJ n us z)[r]? = none := fun us z => by
      apply List.getElem?_eq_none
      unfold cellsJ
      rw [List.length_take]
      omega
    rw [l1]
    split
    · rw [List.getElem?_set]
      rw [if_neg (by omega)]
      exact (l1 vs j).symm
    · exact (l1 vs q).symm
theorem TSc.cell {T : TypeId} {n m k : Nat} {Es : Nat → Thing} {W : World} {p cap : Nat} {vs : List Value} {Bs : Nat → Nat → Prop} (h : TSc T n m k Es W p cap vs Bs) (j i : Nat) (hj : j < m) (hi : i < n) : W.cell? ⟨p, j * n + i, none⟩ = (cellsJ n vs j)[i]? := by
  rw [World.ownsRow.cellAt h.row (j * n + i) (by
    have : (j + 1) * n ≤ m * n := Nat.mul_le_mul_right n hj
    rw [Nat.add_mul] at this
    omega), cellsJ_get n vs j i hi]
theorem TSc.frozen {T : TypeId} {n m k : Nat} {Es : Nat → Thing} {W : World} {p cap : Nat} {vs : List Value} {Bs : Nat → Nat → Prop} (h : TSc T n m k Es W p cap vs Bs) (j : Nat) : W.frozen? ⟨p, j, none⟩ = false := World.ownsRow.frozenAt h.row j
theorem TSc.sub {T : TypeId} {n m k : Nat} {Es : Nat → Thing} {W w' : World} {p cap : Nat} {vs : List Value} {Bs : Nat → Nat → Prop} (g : ∀ j, GoodT (Es j)) (h : TSc T n m k Es W p cap vs Bs) (j : Nat) (hj : j < k) {E' : Thing}
    (hf : ∀ b, b < W.heap.size → ¬ Bs j b → w'.heap[b]? = W.heap[b]?) (he : E' w' (Bs j) (cellsJ n vs j)) : TSc T n m k (fun q => if q = j then E' else Es q) w' p cap vs Bs := by
  refine ⟨ownsRow_far h.row (hf p (ownsRow_lt h.row) (h.np j hj)), fun q hq => ?_, h.np, h.dis⟩
  by_cases hqj : q = j
  · subst hqj
    rw [if_pos rfl]
    exact he
  · rw [if_neg hqj]
    exact (g q).far (h.el q hq) (fun b hb => hf b (h.lt g q b hq hb) (fun hx => h.dis q j hq hj hqj b hb hx))
theorem TSc.start {T : TypeId} {n m : Nat} {Es : Nat → Thing} {W : World} {p cap : Nat} {vs : List Value} (h : W.ownsRow 0 T n (.slice (some ⟨p, 0, none⟩) m cap) m vs) : TSc T n m 0 Es W p cap vs (fun _ _ => False) :=
  ⟨h, fun j hj => by omega, fun j hj => by omega, fun i j hi => by omega⟩
theorem TSc.fill {T : TypeId} {n m k : Nat} {Es : Nat → Thing} {W : World} {p cap : Nat} {vs : List Value} {Bs : Nat → Nat → Prop} (g : ∀ j, GoodT (Es j)) (h : TSc T n m k Es W p cap vs Bs) (i : Nat) (hi : i < n) (x : Value) : TSc T n m k Es (W.setCell ⟨p, k * n + i, none⟩ x) p cap (vs.set (k * n + i) x) Bs := by
  have hot : ∀ b, b ≠ p → (W.setCell ⟨p, k * n + i, none⟩ x).heap[b]? = W.heap[b]? := fun b hb => heap_setCell_other _ _ _ _ hb
  refine ⟨(World.ownsRow.stored h.row _ _).1, fun q hq => ?_, h.np, h.dis⟩
  rw [cellsJ_set n vs k i q x hi, if_neg (by omega)]
  exact (g q).far (h.el q hq) (fun b hb => hot b (fun e => h.np q hq (by rw [← e]; exact hb)))
theorem TSc.more {T : TypeId} {n m k : Nat} {Es : Nat → Thing} {W : World} {p cap : Nat} {vs : List Value} {Bs : Nat → Nat → Prop} {B : Nat → Prop} (h : TSc T n m k Es W p cap vs Bs) (he : Es k W B (cellsJ n vs k)) (hp : ¬ B p) (hd : ∀ j, j < k → ∀ b, Bs j b → B b → False) : TSc T n m (k + 1) Es W p cap vs (fun q => if q = k then B else Bs q) := by
  refine ⟨h.row, fun j hj => ?_, fun j hj => ?_, fun i j hi hj hij b => ?_⟩
  · by_cases e : j = k
    · subst e
      simp only [if_true]
      exact he
    · simp only [e, if_false]
      exact h.el j (by omega)
  · by_cases e : j = k
    · simp only [e, if_true]
      exact hp
    · simp only [e, if_false]
      exact h.np j (by omega)
  · by_cases e : i = k
    · have e2 : ¬ j = k := by omega
      simp only [e, e2, if_true, if_false]
      exact fun h1 h2 => hd j (by omega) b h2 h1
    · by_cases e2 : j = k
      · simp only [e, e2, if_true, if_false]
        exact fun h1 h2 => hd i (by omega) b h1 h2
      · simp only [e, e2, if_false]
        exact h.dis i j (by omega) (by omega) hij b
theorem TSc.done {T : TypeId} {n m : Nat} {Es : Nat → Thing} {W : World} {p cap lo : Nat} {vs : List Value} {Bs : Nat → Nat → Prop} (g : ∀ j, GoodT (Es j)) (h : TSc T n m m Es W p cap vs Bs) (hp : lo ≤ p) (hb : ∀ j b, j < m → Bs j b → lo ≤ b) : Ows (TS T n m Es) W lo W.heap.size [.slice (some ⟨p, 0, none⟩) m cap] := by
  refine ⟨Nat.le_refl _, fun b => b = p ∨ ∃ j, j < m ∧ Bs j b, .inr ⟨p, cap, vs, Bs, rfl, h, fun b => Iff.rfl⟩, fun b hB => ?_⟩
  rcases hB with rfl | ⟨j, hj, hB⟩
  · exact ⟨hp, ownsRow_lt h.row⟩
  · exact ⟨hb j b hj hB, h.lt g j b hj hB⟩
theorem TSc.ext {T : TypeId} {n m k : Nat} {Es Es' : Nat → Thing} {W : World} {p cap : Nat} {vs : List Value} {Bs : Nat → Nat → Prop} (he : ∀ j, j < k → Es j = Es' j) (h : TSc T n m k Es W p cap vs Bs) : TSc T n m k Es' W p cap vs Bs :=
  ⟨h.row, fun j hj => by rw [← he j hj]; exact h.el j hj, h.np, h.dis⟩
end Go.Proofs.YtanijpekdnkicaaGreatDoor
/- Proved: a slice of things with one more appended; a row of one's own as a thing; no function of the program. -/
namespace Go.Proofs.YtanijpekdnkicaaGreatDoor
open Go.ChangeShapes Go.WideShapes Go.ChangeAt Go.RowKit
set_option linter.unusedVariables false
set_option linter.unusedSimpArgs false
theorem TI.own {W : World} {lo : Nat} {B : Nat → Prop} {v : Value} {xs : List Int} (h : TI xs W B [v]) (hb : ∀ b, B b → lo ≤ b) : Own W lo v xs := by
  obtain ⟨a, c, e, o, f, hB⟩ := h
  simp at e
  subst e
  refine ⟨o.1, ?_⟩
  rcases o.2 with hn | ⟨p, cap, cur, e, _, rest⟩
  · exact .inl hn
  · refine .inr ⟨p, cap, cur, e, hb p ((hB p).2 (by rw [e]; rfl)), rest⟩
theorem TI.blocks {W : World} {B : Nat → Prop} {v : Value} {xs : List Int} (h : TI xs W B [v]) : ∀ b, B b ↔ v.ownBlock = some b := by
  obtain ⟨a, c, e, o, f, hB⟩ := h
  simp at e
  subst e
  exact hB
end Go.Proofs.YtanijpekdnkicaaGreatDoor
