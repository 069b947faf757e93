/- Proved: rows beside their rings, as the program makes them. -/
import Derived.Test.YtfgooclnohnkmaaGreatDoorGrs
import Derived.Test.YtfgooclnohnkmaaGreatDoorNB
import Derived.BigRegion
namespace Go.Proofs.YtfgooclnohnkmaaGreatDoor
open Go.ChangeShapes Go.WideShapes Go.ChangeAt Go.RowKit
open M1
set_option linter.unusedVariables false
set_option linter.unusedSimpArgs false
theorem Tryz.infoRingRow : (Tryz.prog.info? 153).map (fun i => (i.zero, i.size, i.bytes)) = some (some (.agg #[.int .i64 0, .int .i64 0, .int .i64 0, .bool false, .slice none 0 0]), 5, 56) := by kernel_rfl
/-- the first k rows beside their rings lie in block g; the rows themselves where us says -/
def RRs (W : World) (g : Nat) (N : Int) (n : Bool) (ps : List Int) (Rf : Nat → Int) (us : Nat → Option Addr) (k : Nat) : Prop :=
  ∃ vs : List Value, vs.length = 5 * ps.length ∧ W.ownsRow g 153 5 (.slice (some ⟨g, 0, none⟩) ps.length ps.length) ps.length vs
    ∧ ∀ i, i < k → vs[i * 5]? = some (.int .i64 (ps.getD i 0)) ∧ vs[i * 5 + 1]? = some (.int .i64 N) ∧ vs[i * 5 + 2]? = some (.int .i64 (Rf i)) ∧ vs[i * 5 + 3]? = some (.bool n) ∧ vs[i * 5 + 4]? = some (.slice (us i) N.toNat N.toNat)
theorem RRs.lt {W : World} {g : Nat} {N : Int} {n : Bool} {ps : List Int} {Rf : Nat → Int} {us : Nat → Option Addr} {k : Nat} (h : RRs W g N n ps Rf us k) : g < W.heap.size := by
  obtain ⟨vs, _, ho, _⟩ := h
  exact (ho.lt g rfl).2
theorem RRs.old {W W' : World} {g : Nat} {N : Int} {n : Bool} {ps : List Int} {Rf : Nat → Int} {us : Nat → Option Addr} {k : Nat} (h : RRs W g N n ps Rf us k) (q : Old W W') : RRs W' g N n ps Rf us k := by
  obtain ⟨vs, hl, ho, hy⟩ := h
  refine ⟨vs, hl, ⟨ho.1, ?_⟩, hy⟩
  rcases ho.2 with hn | ⟨p, cap, cur, e, hb, hgg, rest⟩
  · exact .inl hn
  · refine .inr ⟨p, cap, cur, e, hb, ?_, rest⟩
    rw [q.block p (Array.getElem?_eq_some_iff.1 hgg).1]
    exact hgg
theorem RRs.cell {W : World} {g : Nat} {N : Int} {n : Bool} {ps : List Int} {Rf : Nat → Int} {us : Nat → Option Addr} {k : Nat} (h : RRs W g N n ps Rf us k) (j : Nat) (hj : j < 5 * ps.length) : ∃ y : Value, W.cell? ⟨g, j, none⟩ = some y := by
  obtain ⟨vs, hl, ho, hy⟩ := h
  refine ⟨vs[j]'(by omega), ?_⟩
  rw [World.ownsRow.cellAt ho j (by omega)]
  exact List.getElem?_eq_getElem _
theorem RRs.free {W : World} {g : Nat} {N : Int} {n : Bool} {ps : List Int} {Rf : Nat → Int} {us : Nat → Option Addr} {k : Nat} (h : RRs W g N n ps Rf us k) (j : Nat) : W.frozen? ⟨g, j, none⟩ = false := by
  obtain ⟨vs, hl, ho, hy⟩ := h
  exact World.ownsRow.frozenAt ho j
theorem RRs.at {W : World} {g : Nat} {N : Int} {n : Bool} {ps : List Int} {Rf : Nat → Int} {us : Nat → Option Addr} {k : Nat} (h : RRs W g N n ps Rf us k) (i : Nat) (hi : i < k) (hx : i < ps.length) :
    W.cell? ⟨g, i * 5, none⟩ = some (.int .i64 (ps.getD i 0)) ∧ W.cell? ⟨g, i * 5 + 1, none⟩ = some (.int .i64 N) ∧ W.cell? ⟨g, i * 5 + 2, none⟩ = some (.int .i64 (Rf i)) ∧ W.cell? ⟨g, i * 5 + 3, none⟩ = some (.bool n) ∧ W.cell? ⟨g, i * 5 + 4, none⟩ = some (.slice (us i) N.toNat N.toNat) := by
  obtain ⟨vs, hl, ho, hy⟩ := h
  obtain ⟨h0, h1, h2, h3, h4⟩ := hy i hi
  refine ⟨?_, ?_, ?_, ?_, ?_⟩
  · rw [World.ownsRow.cellAt ho _ (by omega)]; exact h0
  · rw [World.ownsRow.cellAt ho _ (by omega)]; exact h1
  · rw [World.ownsRow.cellAt ho _ (by omega)]; exact h2
  · rw [World.ownsRow.cellAt ho _ (by omega)]; exact h3
  · rw [World.ownsRow.cellAt ho _ (by omega)]; exact h4
theorem RRs.put {W : World} {g : Nat} {N : Int} {n : Bool} {ps : List Int} {Rf : Nat → Int} {us : Nat → Option Addr} {k : Nat} (h : RRs W g N n ps Rf us k) (hk : k < ps.length) :
    RRs (((((W.setCell ⟨g, k * 5, none⟩ (.int .i64 (ps.getD k 0))).setCell ⟨g, k * 5 + 1, none⟩ (.int .i64 N)).setCell ⟨g, k * 5 + 2, none⟩ (.int .i64 (Rf k))).setCell ⟨g, k * 5 + 3, none⟩ (.bool n)).setCell ⟨g, k * 5 + 4, none⟩ (.slice (us k) N.toNat N.toNat)) g N n ps Rf us (k + 1) := by
  obtain ⟨vs, hl, ho, hy⟩ := h
  have h1 := (World.ownsRow.stored ho (k * 5) (.int .i64 (ps.getD k 0))).1
  have h2 := (World.ownsRow.stored h1 (k * 5 + 1) (.int .i64 N)).1
  have h3 := (World.ownsRow.stored h2 (k * 5 + 2) (.int .i64 (Rf k))).1
  have h4 := (World.ownsRow.stored h3 (k * 5 + 3) (.bool n)).1
  have h5 := (World.ownsRow.stored h4 (k * 5 + 4) (.slice (us k) N.toNat N.toNat)).1
  refine ⟨_, by simp [hl], h5, fun i hi => ?_⟩
  rcases Nat.lt_or_ge i k with hlt | hge
  · obtain ⟨q0, q1, q2, q3, q4⟩ := hy i hlt
    refine ⟨?_, ?_, ?_, ?_, ?_⟩
    all_goals (rw [List.getElem?_set_ne (by omega), List.getElem?_set_ne (by omega), List.getElem?_set_ne (by omega), List.getElem?_set_ne (by omega), List.getElem?_set_ne (by omega)]; assumption)
  · obtain rfl : i = k := by omega
    refine ⟨?_, ?_, ?_, ?_, ?_⟩
    · rw [List.getElem?_set_ne (by omega), List.getElem?_set_ne (by omega), List.getElem?_set_ne (by omega), List.getElem?_set_ne (by omega), List.getElem?_set_self (by omega)]
    · rw [List.getElem?_set_ne (by omega), List.getElem?_set_ne (by omega), List.getElem?_set_ne (by omega), List.getElem?_set_self (by simp; omega)]
    · rw [List.getElem?_set_ne (by omega), List.getElem?_set_ne (by omega), List.getElem?_set_self (by simp; omega)]
    · rw [List.getElem?_set_ne (by omega), List.getElem?_set_self (by simp; omega)]
    · rw [List.getElem?_set_self (by simp; omega)]
/-- where the rows lie -/
def RowsAt (w : World) (v : Value) (ps : List Int) (xss : List (List Int)) (us : Nat → Option Addr) (cs : Nat → Nat) : Prop :=
  ∃ b cap, v = .slice (some ⟨b, 0, none⟩) xss.length cap ∧ b < w.heap.size ∧ ∀ j, j < xss.length → w.cell? ⟨b, j, none⟩ = some (.slice (us j) (xss.getD j []).length (cs j)) ∧ (xss.getD j []).length ≤ cs j ∧ Row w (.slice (us j) (xss.getD j []).length (cs j)) (xss.getD j [])
theorem OwS.at {xss : List (List Int)} {W : World} {lo hi : Nat} {v : Value} (ps : List Int) (h : OwS xss W lo hi v) (h0 : 0 < xss.length) : ∃ us cs, RowsAt W v ps xss us cs := by
  obtain ⟨hh, h | ⟨p, cap, vs, rfl, hcap, hlo, hhi, ho, hvl, hj, hd⟩⟩ := h
  · obtain ⟨rfl, rfl⟩ := h
    simp at h0
  · have key : ∀ j, ∃ ac : Option Addr × Nat, j < xss.length → W.cell? ⟨p, j, none⟩ = some (.slice ac.1 (xss.getD j []).length ac.2) ∧ (xss.getD j []).length ≤ ac.2 ∧ Row W (.slice ac.1 (xss.getD j []).length ac.2) (xss.getD j []) := fun j => by
      by_cases hjl : j < xss.length
      · obtain ⟨a, c, e, hc, o, hb⟩ := hj j hjl
        refine ⟨(a, c), fun _ => ⟨?_, hc, o.row⟩⟩
        rw [World.ownsRow.cellAt ho j (by omega)]
        exact e
      · exact ⟨(none, 0), fun h => absurd h hjl⟩
    obtain ⟨f, hf⟩ := Classical.skolem.1 key
    exact ⟨fun j => (f j).1, fun j => (f j).2, p, cap, rfl, by omega, hf⟩
theorem RowsAt.old {w w' : World} {v : Value} {ps : List Int} {xss : List (List Int)} {us : Nat → Option Addr} {cs : Nat → Nat} (h : RowsAt w v ps xss us cs) (g : Old w w') : RowsAt w' v ps xss us cs := by
  obtain ⟨b, cap, e, hb, hc⟩ := h
  exact ⟨b, cap, e, Nat.lt_of_lt_of_le hb g.size, fun j hj => ⟨(g.cell (p := ⟨b, j, none⟩) hb).trans (hc j hj).1, (hc j hj).2.1, (hc j hj).2.2.old g⟩⟩
end Go.Proofs.YtfgooclnohnkmaaGreatDoor
