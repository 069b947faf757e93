/- Proved: rows of rows as a law carries them: marks. -/
import Derived.Test.YtcbbljadjibfeaaDoorKRows2
namespace Go.Proofs.YtcbbljadjibfeaaDoor
open Go.ChangeShapes Go.WideShapes Go.ChangeAt Go.RowKit
set_option linter.unusedVariables false
set_option linter.unusedSimpArgs false
/-- how many numbers lie in the first j rows -/
def offL : List (List Int) → Nat → Nat
  | [], _ => 0
  | _ :: _, 0 => 0
  | r :: rs, j + 1 => r.length + offL rs j
theorem offL_zero (xss : List (List Int)) : offL xss 0 = 0 := by cases xss <;> rfl
theorem offL_succ : ∀ (xss : List (List Int)) (j : Nat), j < xss.length → offL xss (j + 1) = offL xss j + (xss.getD j []).length
  | [], j, h => by simp at h
  | r :: rs, 0, h => by
    show r.length + offL rs 0 = 0 + _
    rw [offL_zero]
    simp
  | r :: rs, j + 1, h => by
    have := offL_succ rs j (by simpa using h)
    show r.length + offL rs (j + 1) = r.length + offL rs j + _
    rw [this]
    simp [List.getD]
    omega
theorem offL_left : ∀ (xss : List (List Int)) (left : Int), 0 ≤ left → ¬ leftL left xss < 0 → (offL xss xss.length : Int) ≤ left
  | [], left, h0, h => by simpa [offL] using h0
  | r :: rs, left, h0, h => by
    unfold leftL at h
    by_cases hr : leftN left r.length < 0
    · rw [if_pos hr] at h
      omega
    · rw [if_neg hr] at h
      obtain ⟨q1, q2, q3⟩ := leftN_ok hr h0
      have := offL_left rs _ q3 h
      show ((r.length + offL rs rs.length : Nat) : Int) ≤ left
      omega
theorem offL_leftSS {xss : List (List Int)} {left : Int} (h0 : 0 ≤ left) (h : ¬ leftSS left xss < 0) : (offL xss xss.length : Int) ≤ left := by
  unfold leftSS at h
  by_cases hr : left < (xss.length : Int)
  · rw [if_pos hr] at h
    omega
  · rw [if_neg hr] at h
    have := offL_left xss _ (by omega) h
    omega
theorem offL_le : ∀ (xss : List (List Int)) (j : Nat), offL xss j ≤ offL xss xss.length
  | [], j => by simp [offL]
  | r :: rs, 0 => by simp [offL]
  | r :: rs, j + 1 => by
    have := offL_le rs j
    show r.length + offL rs j ≤ r.length + offL rs rs.length
    omega
theorem getD_setL (yss : List (List Int)) (i j : Nat) (r : List Int) (h : i < yss.length) : (yss.set i r).getD j [] = if j = i then r else yss.getD j [] := by
  by_cases hj : j = i
  · subst hj
    simp [List.getD, h]
  · rw [if_neg hj]
    simp [List.getD, List.getElem?_set, Ne.symm hj]
/-- one row written anew -/
theorem OwS.mark {yss : List (List Int)} {W w' : World} {lo hi p cap i : Nat} {a : Option Addr} {c : Nat} {r : List Int} (h : OwS yss W lo hi (.slice (some ⟨p, 0, none⟩) yss.length cap)) (hi' : i < yss.length) (hc : W.cell? ⟨p, i, none⟩ = some (.slice a (yss.getD i []).length c)) (hr : r.length = (yss.getD i []).length)
    (g : W.grownBy w' (Value.slice a (yss.getD i []).length c).ownBlock) (o : Own w' lo (.slice a (yss.getD i []).length c) r) : OwS (yss.set i r) w' lo hi (.slice (some ⟨p, 0, none⟩) yss.length cap) ∧ Chg W w' lo hi := by
  obtain ⟨hh, h | ⟨p', cap', vs, e, hcap, hlo, hhi, ho, hvl, hj, hd⟩⟩ := h
  · obtain ⟨e, rfl⟩ := h
    simp at hi'
  · simp only [Value.slice.injEq, Option.some.injEq, Addr.mk.injEq, true_and, and_true] at e
    obtain ⟨rfl, rfl⟩ := e
    obtain ⟨a1, c1, e1, hc1, oi, hb1⟩ := hj i hi'
    have e2 : vs[i]? = some (.slice a (yss.getD i []).length c) := by
      rw [World.ownsRow.cellAt ho i (by omega)] at hc
      exact hc
    rw [e2] at e1
    simp only [Option.some.injEq, Value.slice.injEq, true_and] at e1
    obtain ⟨rfl, rfl⟩ := e1
    have hch : Chg W w' lo hi := chg_by g (fun b hb => ⟨(oi.1.lt b hb).1, oi.2.2 b hb⟩)
    refine ⟨⟨Nat.le_trans hh g.size, Or.inr ⟨p, cap, vs, by simp, by simpa using hcap, hlo, hhi, ?_, by simpa using hvl, fun j hjl => ?_, hd⟩⟩, hch⟩
    · refine ⟨by simpa using ho.1, ?_⟩
      rcases ho.2 with ⟨hn, _⟩ | ⟨p', cap', cur, e', hb', hgg, rest⟩
      · cases hn
      · have hp : p' = p := by
          simp only [Value.slice.injEq, Option.some.injEq, Addr.mk.injEq] at e'
          exact e'.1.1.symm
        subst hp
        refine .inr ⟨p', cap', cur, by simpa using e', hb', ?_, by simpa using rest⟩
        rw [g.block p' (Array.getElem?_eq_some_iff.1 hgg).1 (fun hx => hb1 p' hx.symm rfl)]
        exact hgg
    · rw [List.length_set] at hjl
      by_cases hji : j = i
      · subst hji
        rw [getD_setL yss j j r hi', if_pos rfl, hr]
        exact ⟨a, c, e2, hc1, ⟨o, Nat.le_trans hh g.size, oi.2.2⟩, hb1⟩
      · rw [getD_setL yss i j r hi', if_neg hji]
        obtain ⟨a2, c2, e3, hc2, oj, hb2⟩ := hj j hjl
        refine ⟨a2, c2, e3, hc2, ⟨?_, Nat.le_trans hh g.size, oj.2.2⟩, hb2⟩
        refine oj.1.byW_ g (fun x y hx hy hxy => ?_)
        subst hxy
        rcases Nat.lt_or_ge j i with hlt | hge
        · exact hd j i _ _ x hlt e3 e2 hx hy
        · exact hd i j _ _ x (by omega) e2 e3 hy hx
/-- rows whose numbers are marks, from k on -/
def OwM (k : Int) (xss : List (List Int)) (W : World) (lo hi : Nat) (v : Value) : Prop :=
  ∃ yss : List (List Int), yss.length = xss.length ∧ (∀ j, j < xss.length → yss.getD j [] = marks (k + offL xss j) (xss.getD j []).length) ∧ OwS yss W lo hi v
theorem far_OwM (k : Int) (xss : List (List Int)) : Far (OwM k xss) := fun W W' lo hi v h hf hs => by
  obtain ⟨yss, h1, h2, h3⟩ := h
  exact ⟨yss, h1, h2, far_OwS yss W W' lo hi v h3 hf hs⟩
theorem OwM.slice {k : Int} {xss : List (List Int)} {W : World} {lo hi : Nat} {v : Value} (h : OwM k xss W lo hi v) : ∃ a c, v = .slice a xss.length c := by
  obtain ⟨yss, h1, h2, h3⟩ := h
  obtain ⟨a, c, e⟩ := h3.slice
  exact ⟨a, c, by rw [e, h1]⟩
set_option maxRecDepth 100000 in
set_option maxHeartbeats 2000000 in
theorem markIntSS_any (xss : List (List Int)) (v : Value) (k : Int) (lo hi : Nat) (w : World) (hv : OwS xss w lo hi v) (hl : xss.length ≤ 1048576) (hr : ∀ r ∈ xss, r.length ≤ 1048576) (hk : 0 ≤ k) (hs : k + (offL xss xss.length : Int) ≤ 1073741824) :
    Calls Tryd.prog 76 #[v, .int .i64 k] w fun e w' => e = .returned (.int .i64 (k + offL xss xss.length)) ∧ Chg w w' lo hi ∧ OwM k xss w' lo hi v := by
  obtain ⟨a0, cap0, ev⟩ := hv.slice
  subst ev
  have HR : Hid (∀ r ∈ xss, r.length ≤ 1048576) := hr
  have HO : Hid (OwS xss w lo hi (.slice a0 xss.length cap0)) := hv
  have HC0 : Hid (Chg w w lo hi) := (Old.refl w).toChg lo hi
  have HS : Hid (k + (offL xss xss.length : Int) ≤ 1073741824) := hs
  clear hv hr hs
  go_enter Tryd.func76, Tryd.ntmps76
  go_wp2_with fail
  go_loopw [5, 1] (fun i l W => ∃ (j : Nat) (yss : List (List Int)), j ≤ xss.length ∧ i = .int .i64 j ∧ l = .int .i64 (k + offL xss j) ∧ Hid (yss.length = xss.length) ∧ Hid (∀ q, q < j → yss.getD q [] = marks (k + offL xss q) (xss.getD q []).length) ∧ Hid (∀ q, j ≤ q → yss.getD q [] = xss.getD q []) ∧ Hid (OwS yss W lo hi (.slice a0 xss.length cap0)) ∧ Hid (Chg w W lo hi)) (fun i _ _ => xss.length - (intOf i).toNat)
  case atStart => exact ⟨0, xss, by omega, rfl, by rw [offL_zero]; simp, by show _ = _; rfl, fun q hq => by omega, fun q _ => rfl, HO, HC0⟩
  case round =>
    obtain ⟨j, yss, hj, rfl, rfl, HL, H1, H2, H3, HC⟩ := hrel
    clear HO HC0
    by_cases hlt : j < xss.length
    · have d1 : decide ((j : Int) < (xss.length : Int)) = true := by simp; omega
      have hyl := HL.out
      have hjy : j < yss.length := by omega
      obtain ⟨p, cap, a, c, ev, hc, hcl, hrow⟩ := H3.out.fit j hjy
      rw [hyl] at ev
      simp only [Value.slice.injEq, true_and] at ev
      obtain ⟨rfl, rfl⟩ := ev
      have exy := H2.out j (Nat.le_refl _)
      have hm : xss.getD j [] ∈ xss := by simp [List.getD, hlt]
      have hrl := HR.out _ hm
      have hoj := offL_le xss (j + 1)
      have hos := offL_succ xss j hlt
      have hsum := HS.out
      obtain ⟨a', c', e', _, oi, _⟩ : ∃ a' c', wr.cell? ⟨p, j, none⟩ = some (.slice a' (yss.getD j []).length c') ∧ (yss.getD j []).length ≤ c' ∧ OwI (yss.getD j []) wr lo hi (.slice a' (yss.getD j []).length c') ∧ True := by
        obtain ⟨hh, h | ⟨p', cap', vs, e, hcap, hlo, hhi, ho, hvl, hjj, hd⟩⟩ := H3.out
        · cases h.1
        · rw [← hyl] at e
          simp only [Value.slice.injEq, Option.some.injEq, Addr.mk.injEq, true_and, and_true] at e
          obtain ⟨rfl, rfl⟩ := e
          obtain ⟨a2, c2, e2, hc2, o2, hb2⟩ := hjj j hjy
          refine ⟨a2, c2, ?_, hc2, o2, trivial⟩
          rw [World.ownsRow.cellAt ho j (by omega)]
          exact e2
      have HOI : Hid (OwI (yss.getD j []) wr lo hi (.slice a' (yss.getD j []).length c')) := oi
      have HCE : Hid (wr.cell? ⟨p, j, none⟩ = some (.slice a' (yss.getD j []).length c')) := e'
      have H3' : Hid (OwS yss wr lo hi (.slice (some ⟨p, 0, none⟩) yss.length cap0)) := by show OwS yss wr lo hi _; rw [hyl]; exact H3.out
      have HMK : Hid (∀ w', wr.grownBy w' (Value.slice a' (yss.getD j []).length c').ownBlock → Own w' lo (.slice a' (yss.getD j []).length c') (marks (k + offL xss j) (yss.getD j []).length) → OwS (yss.set j (marks (k + offL xss j) (yss.getD j []).length)) w' lo hi (.slice (some ⟨p, 0, none⟩) yss.length cap0) ∧ Chg wr w' lo hi) := fun w' g o => OwS.mark H3'.out hjy HCE.out (by simp [marks_len]) g o
      have HN1 : Hid (∀ q, q < j + 1 → (yss.set j (marks (k + offL xss j) (yss.getD j []).length)).getD q [] = marks (k + offL xss q) (xss.getD q []).length) := fun q hq => by
        rw [getD_setL yss j q _ hjy]
        by_cases hqj : q = j
        · subst hqj
          rw [if_pos rfl, exy]
        · rw [if_neg hqj]
          exact H1.out q (by omega)
      have HN2 : Hid (∀ q, j + 1 ≤ q → (yss.set j (marks (k + offL xss j) (yss.getD j []).length)).getD q [] = xss.getD q []) := fun q hq => by
        rw [getD_setL yss j q _ hjy, if_neg (by omega)]
        exact H2.out q (by omega)
      have HN3 : Hid ((yss.set j (marks (k + offL xss j) (yss.getD j []).length)).length = xss.length) := by show _ = _; rw [List.length_set]; exact hyl
      have HN4 : Hid (k + (offL xss (j + 1) : Int) = k + (offL xss j : Int) + ((yss.getD j []).length : Int)) := by show _ = _; rw [hos, exy]; omega
      have HYL : Hid (yss.length = xss.length) := hyl
      have hyr : (yss.getD j []).length ≤ 1048576 := by rw [exy]; exact hrl
      have hkb : 0 ≤ k + (offL xss j : Int) ∧ k + (offL xss j : Int) ≤ 1073741824 := by omega
      have c1 := e'
      clear hyl exy hm hoj hos hsum hc hrow hcl e' oi H1 H2 H3 HL H3' HCE
      generalize hys : yss.set j (marks (k + offL xss j) (yss.getD j []).length) = zss at *
      generalize hnn : (offL xss (j + 1)) = nxt at *
      generalize (offL xss j : Nat) = off at *
      clear hys
      generalize yss.getD j [] = ys at *
      have cm := fun W (h : OwI ys W lo hi (.slice a' ys.length c')) => markInts_any ys _ (k + off) lo W h.1 (by omega) (by omega) (by omega)
      go_wp2_with fail
      refine (cm _ HOI.out).mono ?_
      rintro e w2 ⟨rfl, g2, o2⟩
      obtain ⟨n1, n2⟩ := HMK.out w2 g2 o2
      have N1 : Hid (OwS zss w2 lo hi (.slice (some ⟨p, 0, none⟩) xss.length cap0)) := by show OwS zss w2 lo hi _; rw [← HYL.out]; exact n1
      have N2 : Hid (Chg w w2 lo hi) := Chg.trans HC.out n2
      clear n1 n2 g2 o2 cm HMK HOI
      go_wp2_with fail
      refine ⟨⟨j + 1, zss, by omega, by go_num, ?_, HN3, HN1, HN2, N1, N2⟩, by simp [intOf]; omega⟩
      rw [hnn, HN4.out]
    · have d1 : decide ((j : Int) < (xss.length : Int)) = false := by simp; omega
      obtain rfl : j = xss.length := by omega
      have HF : Hid (OwM k xss wr lo hi (.slice a0 xss.length cap0)) := ⟨yss, HL.out, H1.out, H3.out⟩
      clear H1 H2 H3 HL
      go_wp2_with fail
      go_ret
      exact ⟨rfl, HC.out, HF.out⟩
end Go.Proofs.YtcbbljadjibfeaaDoor
