/- Proved: rows of rows that grow row by row. -/
import Derived.Test.YtfgooclnohnkmaaGreatDoorGrs
import Derived.Test.YtfgooclnohnkmaaGreatDoorNG
namespace Go.Proofs.YtfgooclnohnkmaaGreatDoor
open Go.ChangeShapes Go.WideShapes Go.ChangeAt Go.RowKit
open M1
set_option linter.unusedVariables false
set_option linter.unusedSimpArgs false
theorem getD_app1 (yss : List (List Int)) (r : List Int) (j : Nat) (h : j < yss.length) : (yss ++ [r]).getD j [] = yss.getD j [] := by
  simp [List.getD, List.getElem?_append_left h]
theorem getD_app2 (yss : List (List Int)) (r : List Int) : (yss ++ [r]).getD yss.length [] = r := by
  simp [List.getD]
theorem OwS.app {yss : List (List Int)} {wr W : World} {lo : Nat} {x : Value} {r : List Int} {a : Option Addr} {c : Nat} (h : OwS yss wr lo wr.heap.size x) (hlo : lo ≤ wr.heap.size) (g : Old wr W) (o : Own W wr.heap.size (.slice a r.length c) r) (hc : r.length ≤ c) :
    ∃ vs, W.ownsRow lo 23 1 x yss.length vs ∧ (∀ v' w', w'.ownsRow lo 23 1 v' (yss.length + 1) (vs ++ [.slice a r.length c]) → W.grownBy w' x.ownBlock → (v'.ownBlock = x.ownBlock ∨ v'.ownBlock = some W.heap.size) → OwS (yss ++ [r]) w' lo w'.heap.size v') := by
  have key : ∃ vs : List Value, W.ownsRow lo 23 1 x yss.length vs ∧ vs.length = yss.length ∧ (∀ p, x.ownBlock = some p → p < wr.heap.size)
      ∧ (∀ j, j < yss.length → ∃ a c, vs[j]? = some (.slice a (yss.getD j []).length c) ∧ (yss.getD j []).length ≤ c ∧ Own wr lo (.slice a (yss.getD j []).length c) (yss.getD j []) ∧ (∀ b, (Value.slice a (yss.getD j []).length c).ownBlock = some b → x.ownBlock ≠ some b))
      ∧ (∀ (i j : Nat) (x y : Value) (b : Nat), i < j → vs[i]? = some x → vs[j]? = some y → x.ownBlock = some b → y.ownBlock = some b → False) := by
    obtain ⟨hh, ⟨e, e2⟩ | ⟨p, cap, vs, e, hcap, hl, hhi, ho, hvl, hj, hd⟩⟩ := h
    · subst e e2
      refine ⟨[], ⟨rfl, Or.inl ⟨rfl, rfl⟩⟩, rfl, (fun p hp => by cases hp), (fun j hj => by simp at hj), (fun i j x y b hij hx => by simp at hx)⟩
    · subst e
      refine ⟨vs, ?_, hvl, fun q hq => ?_, fun j hjl => ?_, hd⟩
      · refine ⟨ho.1, ?_⟩
        rcases ho.2 with ⟨hn, _⟩ | ⟨p', cap', cur, e', hb', hgg, rest⟩
        · cases hn
        · refine .inr ⟨p', cap', cur, e', hb', ?_, rest⟩
          rw [g.block p' (Array.getElem?_eq_some_iff.1 hgg).1]
          exact hgg
      · simp only [Value.ownBlock, Option.some.injEq] at hq
        omega
      · obtain ⟨a2, c2, e3, hc2, oj, hb2⟩ := hj j hjl
        refine ⟨a2, c2, e3, hc2, oj.1, fun b hb hx => hb2 b hb ?_⟩
        simp only [Value.ownBlock, Option.some.injEq] at hx
        exact hx.symm
  obtain ⟨vs, ho, hvl, hp, hj, hd⟩ := key
  refine ⟨vs, ho, fun v' w' ho' gr hv' => ?_⟩
  have hsz := g.size
  have hsz' := gr.size
  have hrow : ∀ j, j < yss.length → ∃ a c, vs[j]? = some (.slice a (yss.getD j []).length c) ∧ (yss.getD j []).length ≤ c ∧ Own w' lo (.slice a (yss.getD j []).length c) (yss.getD j []) ∧ (∀ b, (Value.slice a (yss.getD j []).length c).ownBlock = some b → b < wr.heap.size ∧ v'.ownBlock ≠ some b) := fun j hjl => by
    obtain ⟨a2, c2, e3, hc2, oj, hb2⟩ := hj j hjl
    refine ⟨a2, c2, e3, hc2, Own.by_ (oj.old g) gr (fun q y hx hy hxy => ?_), fun b hb => ⟨(oj.lt b hb).2, fun hx => ?_⟩⟩
    · subst hxy
      exact hb2 q hx hy
    · rcases hv' with e | e
      · exact hb2 b hb (e.symm.trans hx)
      · rw [e] at hx
        have := (oj.lt b hb).2
        simp only [Option.some.injEq] at hx
        omega
  have hnew : Own w' lo (.slice a r.length c) r := Own.low (Own.by_ o gr (fun q y hx hy hxy => by
    subst hxy
    have h1 := (o.lt q hx).1
    have h2 := hp q hy
    omega)) hlo
  have hnewb : ∀ b, (Value.slice a r.length c).ownBlock = some b → wr.heap.size ≤ b ∧ b < W.heap.size ∧ v'.ownBlock ≠ some b := fun b hb => by
    obtain ⟨h1, h2⟩ := o.lt b hb
    refine ⟨h1, h2, fun hx => ?_⟩
    rcases hv' with e | e
    · have := hp b (e.symm.trans hx)
      omega
    · rw [e] at hx
      simp only [Option.some.injEq] at hx
      omega
  have ho2 := ho'
  rcases ho'.2 with ⟨_, h0⟩ | ⟨p', cap', cur, e', hb', hgg, hnc, rest⟩
  · omega
  subst e'
  have hlt' : p' < w'.heap.size := (Array.getElem?_eq_some_iff.1 hgg).1
  refine ⟨Nat.le_refl _, Or.inr ⟨p', cap', vs ++ [.slice a r.length c], by simp, by simpa using hnc, hb', hlt', by simpa using ho2, by simp [hvl], fun j hjl => ?_, fun i j x y b hij hx hy hbx hby => ?_⟩⟩
  · simp at hjl
    rcases Nat.lt_or_ge j yss.length with h1 | h1
    · rw [getD_app1 yss r j h1]
      obtain ⟨a2, c2, e3, hc2, oj, hb2⟩ := hrow j h1
      refine ⟨a2, c2, by rw [List.getElem?_append_left (by omega)]; exact e3, hc2, ⟨oj, Nat.le_refl _, fun b hb => (oj.lt b hb).2⟩, fun b hb hx => (hb2 b hb).2 ?_⟩
      rw [hx]
      rfl
    · obtain rfl : j = yss.length := by omega
      rw [getD_app2 yss r]
      refine ⟨a, c, by rw [← hvl]; simp, hc, ⟨hnew, Nat.le_refl _, fun b hb => (hnew.lt b hb).2⟩, fun b hb hx => (hnewb b hb).2.2 ?_⟩
      rw [hx]
      rfl
  · have hjl : j < vs.length + 1 := by
      have := (List.getElem?_eq_some_iff.1 hy).1
      simpa using this
    rcases Nat.lt_or_ge j vs.length with h1 | h1
    · rw [List.getElem?_append_left (by omega)] at hx hy
      exact hd i j x y b hij hx hy hbx hby
    · obtain rfl : j = vs.length := by omega
      rw [List.getElem?_append_left (by omega)] at hx
      simp at hy
      subst hy
      obtain ⟨a2, c2, e3, hc2, oj, hb2⟩ := hrow i (by omega)
      rw [e3] at hx
      obtain rfl := Option.some.inj hx
      have h3 := (hb2 b hbx).1
      have h4 := (hnewb b hby).1
      omega
/-- two rows, number by number -/
def pairR (f : Int → Int → Int → Int) (p : Int) (xs ys : List Int) : List Int := (List.range xs.length).map fun i => f p (xs.getD i 0) (ys.getD i 0)
def pairL (f : Int → Int → Int → Int) (ps : List Int) (xss yss : List (List Int)) : List (List Int) := (List.range ps.length).map fun k => pairR f (ps.getD k 0) (xss.getD k []) (yss.getD k [])
theorem pairR_len (f : Int → Int → Int → Int) (p : Int) (xs ys : List Int) : (pairR f p xs ys).length = xs.length := by simp [pairR]
theorem pairR_get (f : Int → Int → Int → Int) (p : Int) (xs ys : List Int) (i : Nat) (h : i < xs.length) : (pairR f p xs ys).getD i 0 = f p (xs.getD i 0) (ys.getD i 0) := by simp [pairR, List.getD, h]
theorem pairL_len (f : Int → Int → Int → Int) (ps : List Int) (xss yss : List (List Int)) : (pairL f ps xss yss).length = ps.length := by simp [pairL]
theorem pairL_get (f : Int → Int → Int → Int) (ps : List Int) (xss yss : List (List Int)) (k : Nat) (h : k < ps.length) : (pairL f ps xss yss).getD k [] = pairR f (ps.getD k 0) (xss.getD k []) (yss.getD k []) := by simp [pairL, List.getD, h]
theorem take_succL (xs : List (List Int)) (k : Nat) (h : k < xs.length) : xs.take (k + 1) = xs.take k ++ [xs.getD k []] := by
  rw [List.take_add_one]
  simp [List.getD, h]
def addF (p x y : Int) : Int := (x + y) % p
end Go.Proofs.YtfgooclnohnkmaaGreatDoor
