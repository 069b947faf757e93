/- Proved: several texts in one: what each proves is said ahead of it. -/
import Derived.Test.YtfgooclnohnkmaaGreatDoorWo07
/- Proved: rows of rows as a law carries them: marks. -/
namespace Go.Proofs.YtfgooclnohnkmaaGreatDoor
open Go.ChangeShapes Go.WideShapes Go.ChangeAt Go.RowKit
set_option linter.unusedVariables false
set_option linter.unusedSimpArgs false
/-- how many numbers lie in the first j rows -/
def offL : List (List Int) → Nat → Nat
  | [], _ => 0
  | _ :: _, 0 => 0
  | r :: rs, j + 1 => r.length + offL rs j
theorem offL_zero (xss : List (List Int)) : offL xss 0 = 0 := by cases xss <;> rfl
theorem offL_succ : ∀ (xss : List (List Int)) (j : Nat), j < xss.length → offL xss (j + 1) = offL xss j + (xss.getD j []).length
  | [], j, h => by simp at h
  | r :: rs, 0, h => by
    show r.length + offL rs 0 = 0 + _
    rw [offL_zero]
    simp
  | r :: rs, j + 1, h => by
    have := offL_succ rs j (by simpa using h)
    show r.length + offL rs (j + 1) = r.length + offL rs j + _
    rw [this]
    simp [List.getD]
    omega
theorem offL_left : ∀ (xss : List (List Int)) (left : Int), 0 ≤ left → ¬ leftL left xss < 0 → (offL xss xss.length : Int) ≤ left
  | [], left, h0, h => by simpa [offL] using h0
  | r :: rs, left, h0, h => by
    unfold leftL at h
    by_cases hr : leftN left r.length < 0
    · rw [if_pos hr] at h
      omega
    · rw [if_neg hr] at h
      obtain ⟨q1, q2, q3⟩ := leftN_ok hr h0
      have := offL_left rs _ q3 h
      show ((r.length + offL rs rs.length : Nat) : Int) ≤ left
      omega
theorem offL_leftSS {xss : List (List Int)} {left : Int} (h0 : 0 ≤ left) (h : ¬ leftSS left xss < 0) : (offL xss xss.length : Int) ≤ left := by
  unfold leftSS at h
  by_cases hr : left < (xss.length : Int)
  · rw [if_pos hr] at h
    omega
  · rw [if_neg hr] at h
    have := offL_left xss _ (by omega) h
    omega
theorem offL_le : ∀ (xss : List (List Int)) (j : Nat), offL xss j ≤ offL xss xss.length
  | [], j => by simp [offL]
  | r :: rs, 0 => by simp [offL]
  | r :: rs, j + 1 => by
    have := offL_le rs j
    show r.length + offL rs j ≤ r.length + offL rs rs.length
    omega
theorem getD_setL (yss : List (List Int)) (i j : Nat) (r : List Int) (h : i < yss.length) : (yss.set i r).getD j [] = if j = i then r else yss.getD j [] := by
  by_cases hj : j = i
  · subst hj
    simp [List.getD, h]
  · rw [if_neg hj]
    simp [List.getD, List.getElem?_set, Ne.symm hj]
/-- one row written anew -/
theorem OwS.mark {yss : List (List Int)} {W w' : World} {lo hi p cap i : Nat} {a : Option Addr} {c : Nat} {r : List Int} (h : OwS yss W lo hi (.slice (some ⟨p, 0, none⟩) yss.length cap)) (hi' : i < yss.length) (hc : W.cell? ⟨p, i, none⟩ = some (.slice a (yss.getD i []).length c)) (hr : r.length = (yss.getD i []).length)
    (g : W.grownBy w' (Value.slice a (yss.getD i []).length c).ownBlock) (o : Own w' lo (.slice a (yss.getD i []).length c) r) : OwS (yss.set i r) w' lo hi (.slice (some ⟨p, 0, none⟩) yss.length cap) ∧ Chg W w' lo hi := by
  obtain ⟨hh, h | ⟨p', cap', vs, e, hcap, hlo, hhi, ho, hvl, hj, hd⟩⟩ := h
  · obtain ⟨e, rfl⟩ := h
    simp at hi'
  · simp only [Value.slice.injEq, Option.some.injEq, Addr.mk.injEq, true_and, and_true] at e
    obtain ⟨rfl, rfl⟩ := e
    obtain ⟨a1, c1, e1, hc1, oi, hb1⟩ := hj i hi'
    have e2 : vs[i]? = some (.slice a (yss.getD i []).length c) := by
      rw [World.ownsRow.cellAt ho i (by omega)] at hc
      exact hc
    rw [e2] at e1
    simp only [Option.some.injEq, Value.slice.injEq, true_and] at e1
    obtain ⟨rfl, rfl⟩ := e1
    have hch : Chg W w' lo hi := chg_by g (fun b hb => ⟨(oi.1.lt b hb).1, oi.2.2 b hb⟩)
    refine ⟨⟨Nat.le_trans hh g.size, Or.inr ⟨p, cap, vs, by simp, by simpa using hcap, hlo, hhi, ?_, by simpa using hvl, fun j hjl => ?_, hd⟩⟩, hch⟩
    · refine ⟨by simpa using ho.1, ?_⟩
      rcases ho.2 with ⟨hn, _⟩ | ⟨p', cap', cur, e', hb', hgg, rest⟩
      · cases hn
      · have hp : p' = p := by
          simp only [Value.slice.injEq, Option.some.injEq, Addr.mk.injEq] at e'
          exact e'.1.1.symm
        subst hp
        refine .inr ⟨p', cap', cur, by simpa using e', hb', ?_, by simpa using rest⟩
        rw [g.block p' (Array.getElem?_eq_some_iff.1 hgg).1 (fun hx => hb1 p' hx.symm rfl)]
        exact hgg
    · rw [List.length_set] at hjl
      by_cases hji : j = i
      · subst hji
        rw [getD_setL yss j j r hi', if_pos rfl, hr]
        exact ⟨a, c, e2, hc1, ⟨o, Nat.le_trans hh g.size, oi.2.2⟩, hb1⟩
      · rw [getD_setL yss i j r hi', if_neg hji]
        obtain ⟨a2, c2, e3, hc2, oj, hb2⟩ := hj j hjl
        refine ⟨a2, c2, e3, hc2, ⟨?_, Nat.le_trans hh g.size, oj.2.2⟩, hb2⟩
        refine oj.1.by_ g (fun x y hx hy hxy => ?_)
        subst hxy
        rcases Nat.lt_or_ge j i with hlt | hge
        · exact hd j i _ _ x hlt e3 e2 hx hy
        · exact hd i j _ _ x (by omega) e2 e3 hy hx
/-- rows whose numbers are marks, from k on -/
def OwM (k : Int) (xss : List (List Int)) (W : World) (lo hi : Nat) (v : Value) : Prop :=
  ∃ yss : List (List Int), yss.length = xss.length ∧ (∀ j, j < xss.length → yss.getD j [] = marks (k + offL xss j) (xss.getD j []).length) ∧ OwS yss W lo hi v
theorem OwM.slice {k : Int} {xss : List (List Int)} {W : World} {lo hi : Nat} {v : Value} (h : OwM k xss W lo hi v) : ∃ a c, v = .slice a xss.length c := by
  obtain ⟨yss, h1, h2, h3⟩ := h
  obtain ⟨a, c, e⟩ := h3.slice
  exact ⟨a, c, by rw [e, h1]⟩
set_option maxRecDepth 100000 in
set_option maxHeartbeats 2000000 in
theorem markIntSS_any (xss : List (List Int)) (v : Value) (k : Int) (lo hi : Nat) (w : World) (hv : OwS xss w lo hi v) (hl : xss.length ≤ 1048576) (hr : ∀ r ∈ xss, r.length ≤ 1048576) (hk : 0 ≤ k) (hs : k + (offL xss xss.length : Int) ≤ 1073741824) :
    Calls Tryz.prog 90 #[v, .int .i64 k] w fun e w' => e = .returned (.int .i64 (k + offL xss xss.length)) ∧ Chg w w' lo hi ∧ OwM k xss w' lo hi v := by
  obtain ⟨a0, cap0, ev⟩ := hv.slice
  subst ev
  have HR : Hid (∀ r ∈ xss, r.length ≤ 1048576) := hr
  have HO : Hid (OwS xss w lo hi (.slice a0 xss.length cap0)) := hv
  have HC0 : Hid (Chg w w lo hi) := (Old.refl w).toChg lo hi
  have HS : Hid (k + (offL xss xss.length : Int) ≤ 1073741824) := hs
  clear hv hr hs
  go_enter Tryz.func90, Tryz.ntmps90
  go_wp2_with fail
  go_loopw [5, 1] (fun i l W => ∃ (j : Nat) (yss : List (List Int)), j ≤ xss.length ∧ i = .int .i64 j ∧ l = .int .i64 (k + offL xss j) ∧ Hid (yss.length = xss.length) ∧ Hid (∀ q, q < j → yss.getD q [] = marks (k + offL xss q) (xss.getD q []).length) ∧ Hid (∀ q, j ≤ q → yss.getD q [] = xss.getD q []) ∧ Hid (OwS yss W lo hi (.slice a0 xss.length cap0)) ∧ Hid (Chg w W lo hi)) (fun i _ _ => xss.length - (intOf i).toNat)
  case atStart => exact ⟨0, xss, by omega, rfl, by rw [offL_zero]; simp, by show _ = _; rfl, fun q hq => by omega, fun q _ => rfl, HO, HC0⟩
  case round =>
    obtain ⟨j, yss, hj, rfl, rfl, HL, H1, H2, H3, HC⟩ := hrel
    clear HO HC0
    by_cases hlt : j < xss.length
    · have d1 : decide ((j : Int) < (xss.length : Int)) = true := by simp; omega
      have hyl := HL.out
      have hjy : j < yss.length := by omega
      obtain ⟨p, cap, a, c, ev, hc, hcl, hrow⟩ := H3.out.fit j hjy
      rw [hyl] at ev
      simp only [Value.slice.injEq, true_and] at ev
      obtain ⟨rfl, rfl⟩ := ev
      have exy := H2.out j (Nat.le_refl _)
      have hm : xss.getD j [] ∈ xss := by simp [List.getD, hlt]
      have hrl := HR.out _ hm
      have hoj := offL_le xss (j + 1)
      have hos := offL_succ xss j hlt
      have hsum := HS.out
      obtain ⟨a', c', e', _, oi, _⟩ : ∃ a' c', wr.cell? ⟨p, j, none⟩ = some (.slice a' (yss.getD j []).length c') ∧ (yss.getD j []).length ≤ c' ∧ OwI (yss.getD j []) wr lo hi (.slice a' (yss.getD j []).length c') ∧ True := by
        obtain ⟨hh, h | ⟨p', cap', vs, e, hcap, hlo, hhi, ho, hvl, hjj, hd⟩⟩ := H3.out
        · cases h.1
        · rw [← hyl] at e
          simp only [Value.slice.injEq, Option.some.injEq, Addr.mk.injEq, true_and, and_true] at e
          obtain ⟨rfl, rfl⟩ := e
          obtain ⟨a2, c2, e2, hc2, o2, hb2⟩ := hjj j hjy
          refine ⟨a2, c2, ?_, hc2, o2, trivial⟩
          rw [World.ownsRow.cellAt ho j (by omega)]
          exact e2
      have HOI : Hid (OwI (yss.getD j []) wr lo hi (.slice a' (yss.getD j []).length c')) := oi
      have HCE : Hid (wr.cell? ⟨p, j, none⟩ = some (.slice a' (yss.getD j []).length c')) := e'
      have H3' : Hid (OwS yss wr lo hi (.slice (some ⟨p, 0, none⟩) yss.length cap0)) := by show OwS yss wr lo hi _; rw [hyl]; exact H3.out
      have HMK : Hid (∀ w', wr.grownBy w' (Value.slice a' (yss.getD j []).length c').ownBlock → Own w' lo (.slice a' (yss.getD j []).length c') (marks (k + offL xss j) (yss.getD j []).length) → OwS (yss.set j (marks (k + offL xss j) (yss.getD j []).length)) w' lo hi (.slice (some ⟨p, 0, none⟩) yss.length cap0) ∧ Chg wr w' lo hi) := fun w' g o => OwS.mark H3'.out hjy HCE.out (by simp [marks_len]) g o
      have HN1 : Hid (∀ q, q < j + 1 → (yss.set j (marks (k + offL xss j) (yss.getD j []).length)).getD q [] = marks (k + offL xss q) (xss.getD q []).length) := fun q hq => by
        rw [getD_setL yss j q _ hjy]
        by_cases hqj : q = j
        · subst hqj
          rw [if_pos rfl, exy]
        · rw [if_neg hqj]
          exact H1.out q (by omega)
      have HN2 : Hid (∀ q, j + 1 ≤ q → (yss.set j (marks (k + offL xss j) (yss.getD j []).length)).getD q [] = xss.getD q []) := fun q hq => by
        rw [getD_setL yss j q _ hjy, if_neg (by omega)]
        exact H2.out q (by omega)
      have HN3 : Hid ((yss.set j (marks (k + offL xss j) (yss.getD j []).length)).length = xss.length) := by show _ = _; rw [List.length_set]; exact hyl
      have HN4 : Hid (k + (offL xss (j + 1) : Int) = k + (offL xss j : Int) + ((yss.getD j []).length : Int)) := by show _ = _; rw [hos, exy]; omega
      have HYL : Hid (yss.length = xss.length) := hyl
      have hyr : (yss.getD j []).length ≤ 1048576 := by rw [exy]; exact hrl
      have hkb : 0 ≤ k + (offL xss j : Int) ∧ k + (offL xss j : Int) ≤ 1073741824 := by omega
      have c1 := e'
      clear hyl exy hm hoj hos hsum hc hrow hcl e' oi H1 H2 H3 HL H3' HCE
      generalize hys : yss.set j (marks (k + offL xss j) (yss.getD j []).length) = zss at *
      generalize hnn : (offL xss (j + 1)) = nxt at *
      generalize (offL xss j : Nat) = off at *
      clear hys
      generalize yss.getD j [] = ys at *
      have cm := fun W (h : OwI ys W lo hi (.slice a' ys.length c')) => markInts_any ys _ (k + off) lo W h.1 (by omega) (by omega) (by omega)
      go_wp2_with fail
      refine (cm _ HOI.out).mono ?_
      rintro e w2 ⟨rfl, g2, o2⟩
      obtain ⟨n1, n2⟩ := HMK.out w2 g2 o2
      have N1 : Hid (OwS zss w2 lo hi (.slice (some ⟨p, 0, none⟩) xss.length cap0)) := by show OwS zss w2 lo hi _; rw [← HYL.out]; exact n1
      have N2 : Hid (Chg w w2 lo hi) := Chg.trans HC.out n2
      clear n1 n2 g2 o2 cm HMK HOI
      go_wp2_with fail
      refine ⟨⟨j + 1, zss, by omega, by go_num, ?_, HN3, HN1, HN2, N1, N2⟩, by simp [intOf]; omega⟩
      rw [hnn, HN4.out]
    · have d1 : decide ((j : Int) < (xss.length : Int)) = false := by simp; omega
      obtain rfl : j = xss.length := by omega
      have HF : Hid (OwM k xss wr lo hi (.slice a0 xss.length cap0)) := ⟨yss, HL.out, H1.out, H3.out⟩
      clear H1 H2 H3 HL
      go_wp2_with fail
      go_ret
      exact ⟨rfl, HC.out, HF.out⟩
end Go.Proofs.YtfgooclnohnkmaaGreatDoor
/- Proved: slices of whole numbers as a law carries them: marks. -/
namespace Go.Proofs.YtfgooclnohnkmaaGreatDoor
open Go.ChangeShapes Go.WideShapes Go.ChangeAt Go.RowKit
set_option linter.unusedVariables false
set_option linter.unusedSimpArgs false
theorem two_cells {cs : List Value} {a b : Value} (h : cs.length = 2) (e0 : cs[0]? = some a) (e1 : cs[1]? = some b) : cs = [a, b] := by
  match cs, h with
  | [y0, y1], _ =>
    simp at e0 e1
    rw [e0, e1]
/-- how many marks lie in the first j whole numbers -/
def offW (xss : List (List Int)) (j : Nat) : Nat := offL xss j + j
theorem offW_succ (xss : List (List Int)) (j : Nat) (h : j < xss.length) : offW xss (j + 1) = offW xss j + 1 + (xss.getD j []).length := by
  unfold offW
  rw [offL_succ xss j h]
  omega
theorem offW_le (xss : List (List Int)) (j : Nat) (h : j ≤ xss.length) : offW xss j ≤ offW xss xss.length := by
  have := offL_le xss j
  unfold offW
  omega
/-- the sign that a mark makes -/
def sgnK (k : Int) : Bool := k % 3 == 0
abbrev elM (k : Int) (xss : List (List Int)) : Nat → Thing := fun j => TB (sgnK (k + offW xss j)) (TI (marks (k + offW xss j + 1) (xss.getD j []).length))
abbrev MW (k : Int) (xss : List (List Int)) : Thing := TS 27 2 xss.length (elM k xss)
theorem good_elM (k : Int) (xss : List (List Int)) (j : Nat) : GoodT (elM k xss j) := good_TB _ (good_TI _)
theorem good_MW (k : Int) (xss : List (List Int)) : GoodT (MW k xss) := good_TS _ _ _ (good_elM k xss)
theorem chg_put (w : World) (p i : Nat) (x : Value) {lo hi : Nat} (h : lo ≤ p ∧ p < hi) : Chg w (w.setCell ⟨p, i, none⟩ x) lo hi :=
  ⟨rfl, rfl, rfl, by simp, fun b hb ho => heap_setCell_other _ _ _ _ (by show b ≠ p; omega)⟩
set_option maxRecDepth 100000 in
set_option maxHeartbeats 4000000 in
theorem markWholeS_any (bs : List Bool) (xss : List (List Int)) (v : Value) (k : Int) (lo hi : Nat) (w : World) (hv : Ows (WS bs xss) w lo hi [v]) (hl : xss.length ≤ 1048576) (hr : ∀ r ∈ xss, r.length ≤ 1048576) (hk : 0 ≤ k) (hs : k + (offW xss xss.length : Int) ≤ 1073741824) :
    Calls Tryz.prog 34 #[v, .int .i64 k] w fun e w' => e = .returned (.int .i64 (k + offW xss xss.length)) ∧ Chg w w' lo hi ∧ Ows (MW k xss) w' lo hi [v] := by
  rcases Nat.eq_zero_or_pos xss.length with h0 | h0
  · obtain ⟨hh, B, hT, hB⟩ := hv
    have hF : Ows (MW k xss) w lo hi [v] := ⟨hh, B, TS.ext (fun j hj => by omega) hT, hB⟩
    obtain ⟨a, c, rfl⟩ := TS.slice hT
    have HF : Hid (Ows (MW k xss) w lo hi [.slice a xss.length c]) := hF
    obtain rfl := List.length_eq_zero_iff.1 h0
    clear hT hF hh hB h0
    go_enter Tryz.func34, Tryz.ntmps34
    go_wp2_with fail
    go_loopw [5, 1] (fun i l W => i = .int .i64 0 ∧ l = .int .i64 k ∧ W = w) (fun _ _ _ => 0)
    case atStart => exact ⟨rfl, rfl, rfl⟩
    case round =>
      obtain ⟨rfl, rfl, hW⟩ := hrel
      obtain rfl : w = wr := hW.symm
      go_wp2_with fail
      go_ret
      exact ⟨by simp [offW, offL], (Old.refl w).toChg lo hi, HF.out⟩
  obtain ⟨hh, B, hT, hB⟩ := hv
  rcases hT with ⟨h1, _, _⟩ | ⟨p, cap, vs0, Bs, e, hc, hb⟩
  · omega
  simp at e
  subst e
  have HR : Hid (∀ r ∈ xss, r.length ≤ 1048576) := hr
  have HS : Hid (k + (offW xss xss.length : Int) ≤ 1073741824) := hs
  have hp : lo ≤ p ∧ p < hi := hB p ((hb p).2 (.inl rfl))
  have HB : Hid (∀ j b, j < xss.length → Bs j b → lo ≤ b ∧ b < hi) := fun j b hj h => hB b ((hb b).2 (.inr ⟨j, hj, h⟩))
  have HC0 : Hid (Chg w w lo hi) := (Old.refl w).toChg lo hi
  have HI : Hid (TSc 27 2 xss.length xss.length (fun q => if q < 0 then elM k xss q else elW bs xss q) w p cap vs0 Bs) := hc.ext (fun j _ => by simp)
  have HF : Hid (∀ w' vs, Chg w w' lo hi → TSc 27 2 xss.length xss.length (fun q => if q < xss.length then elM k xss q else elW bs xss q) w' p cap vs Bs → Ows (MW k xss) w' lo hi [.slice (some ⟨p, 0, none⟩) xss.length cap]) := fun w' vs hc' hvs =>
    ⟨Nat.le_trans hh hc'.size, B, .inr ⟨p, cap, vs, Bs, rfl, hvs.ext (fun j hj => by simp [hj]), hb⟩, hB⟩
  have HGD : Hid (∀ n j, GoodT (if j < n then elM k xss j else elW bs xss j)) := fun n j => by
    split
    · exact good_elM k xss j
    · exact good_elW bs xss j
  clear hc hb hB hh hr hs
  go_enter Tryz.func34, Tryz.ntmps34
  go_wp2_with fail
  go_loopw [5, 1] (fun i l W => ∃ (j : Nat) (vs : List Value), j ≤ xss.length ∧ i = .int .i64 j ∧ l = .int .i64 (k + offW xss j) ∧ Hid (TSc 27 2 xss.length xss.length (fun q => if q < j then elM k xss q else elW bs xss q) W p cap vs Bs) ∧ Hid (Chg w W lo hi)) (fun i _ _ => xss.length - (intOf i).toNat)
  case atStart => exact ⟨0, vs0, by omega, rfl, by simp [offW, offL_zero], HI, HC0⟩
  case round =>
    obtain ⟨j, vs, hj, rfl, rfl, H1, HC⟩ := hrel
    clear HI HC0
    by_cases hlt : j < xss.length
    · have d1 : decide ((j : Int) < (xss.length : Int)) = true := by simp; omega
      have hel := H1.out.el j hlt
      simp only [Nat.lt_irrefl, if_false] at hel
      obtain ⟨x, e0, e1, hE⟩ := TB.two hel
      obtain ⟨a', c', rfl⟩ := hE.slice
      have q0 : wr.cell? ⟨p, j * 2, none⟩ = some (.bool (bs.getD j false)) := (H1.out.cell j 0 hlt (by omega)).trans e0
      have q1 : wr.cell? ⟨p, j * 2 + 1, none⟩ = some (.slice a' (xss.getD j []).length c') := (H1.out.cell j 1 hlt (by omega)).trans e1
      have f0 : wr.frozen? ⟨p, j * 2, none⟩ = false := H1.out.frozen _
      have hm : xss.getD j [] ∈ xss := by simp [List.getD, hlt]
      have hrl := HR.out _ hm
      have hoj := offW_le xss (j + 1) hlt
      have hos := offW_succ xss j hlt
      have hsum := HS.out
      have hkb : 0 ≤ k + (offW xss j : Int) ∧ k + (offW xss j : Int) + 1 ≤ 1073741824 := by omega
      -- the sign is written
      have H2 := H1.out.put (HGD.out j) j 0 hlt (by omega) (.bool (sgnK (k + offW xss j))) (E' := TB (sgnK (k + offW xss j)) (TI (xss.getD j []))) (fun W' hW' => by
        rw [two_cells (cellsJ_len (n := 2) H1.out.row.1 j hlt) e0 e1]
        exact ⟨_, rfl, (good_TI _).far hE (fun b hb => hW' b (fun e => H1.out.np j hlt (by rw [← e]; exact hb)))⟩)
      have HE2 : Hid (∀ W' : World, TI (xss.getD j []) W' (Bs j) [.slice a' (xss.getD j []).length c'] → Own W' lo (.slice a' (xss.getD j []).length c') (xss.getD j [])) := fun W' h => h.own (fun b hb => (HB.out j b hlt hb).1)
      have hbl : ∀ b, Bs j b ↔ (Value.slice a' (xss.getD j []).length c').ownBlock = some b := hE.blocks
      have hE2 := H2.el j hlt
      simp only [if_true] at hE2
      obtain ⟨x2, e2, hE2⟩ := hE2
      have ex2 : x2 = .slice a' (xss.getD j []).length c' := by
        rw [cellsJ_set 2 vs j 0 j _ (by omega), if_pos rfl, two_cells (cellsJ_len (n := 2) H1.out.row.1 j hlt) e0 e1] at e2
        simp at e2
        exact e2.symm
      subst ex2
      have HO2 := HE2.out _ hE2
      have HN4 : Hid (k + (offW xss (j + 1) : Int) = k + (offW xss j : Int) + 1 + ((xss.getD j []).length : Int)) := by show _ = _; rw [hos]; omega
      have HG2 : Hid (∀ q, GoodT (if q = j then TB (sgnK (k + offW xss j)) (TI (xss.getD j [])) else if q < j then elM k xss q else elW bs xss q)) := fun q => by
        split
        · exact good_TB _ (good_TI _)
        · exact HGD.out j q
      have HCP : Hid (Chg w (wr.setCell ⟨p, j * 2, none⟩ (.bool (sgnK (k + offW xss j)))) lo hi) := Chg.trans HC.out (chg_put wr p (j * 2) _ hp)
      have HX : Hid (∀ w2, (wr.setCell ⟨p, j * 2, none⟩ (.bool (sgnK (k + offW xss j)))).grownBy w2 (Value.slice a' (xss.getD j []).length c').ownBlock → Own w2 lo (.slice a' (xss.getD j []).length c') (marks (k + offW xss j + 1) (xss.getD j []).length) →
          Chg w w2 lo hi ∧ ∃ vs', TSc 27 2 xss.length xss.length (fun q => if q < j + 1 then elM k xss q else elW bs xss q) w2 p cap vs' Bs) := fun w2 gr o => by
        have hch : Chg (wr.setCell ⟨p, j * 2, none⟩ (.bool (sgnK (k + offW xss j)))) w2 lo hi := chg_by gr (fun b hb => HB.out j b hlt ((hbl b).2 hb))
        refine ⟨Chg.trans HCP.out hch, _, (H2.sub HG2.out j hlt (E' := elM k xss j) (fun b h1 h2 => gr.block b h1 (fun e => h2 ((hbl b).2 e.symm))) ?_).ext (fun q hq => ?_)⟩
        · rw [cellsJ_set 2 vs j 0 j _ (by omega), if_pos rfl, two_cells (cellsJ_len (n := 2) H1.out.row.1 j hlt) e0 e1]
          refine ⟨_, rfl, a', c', by rw [marks_len], ?_, ?_, ?_⟩
          · rw [marks_len]
            exact Own.low o (Nat.zero_le _)
          · rw [marks_len]
            obtain ⟨a3, c3, e3, _, f3, _⟩ := hE
            simp at e3
            rw [e3.2]
            exact f3
          · rw [marks_len]
            exact hbl
        · by_cases h1 : q = j
          · subst h1
            simp
          · by_cases h2 : q < j
            · have h3 : q < j + 1 := by omega
              simp [h1, h2, h3]
            · have h3 : ¬ q < j + 1 := by omega
              simp [h1, h2, h3]
      have HOI : Hid (Own (wr.setCell ⟨p, j * 2, none⟩ (.bool (sgnK (k + offW xss j)))) lo (.slice a' (xss.getD j []).length c') (xss.getD j [])) := HO2
      have hsg : ((k + (offW xss j : Int)) % 3 == 0) = sgnK (k + offW xss j) := rfl
      clear hel e0 e1 hE H2 hE2 e2 HO2 HE2 hbl HG2 H1 hos hoj hsum HCP hm
      generalize sgnK (k + offW xss j) = sg at *
      generalize hnn : (offW xss (j + 1)) = nxt at *
      generalize (offW xss j : Nat) = off at *
      generalize xss.getD j [] = xs at *
      generalize bs.getD j false = s0 at *
      have cm := fun W (h : Own W lo (.slice a' xs.length c') xs) => markInts_any xs _ (k + off + 1) lo W h (by omega) (by omega) (by omega)
      go_wp2_with fail
      refine (cm _ HOI.out).mono ?_
      rintro e w2 ⟨rfl, g2, o2⟩
      obtain ⟨n1, vs', n2⟩ := HX.out w2 g2 o2
      have N1 : Hid (Chg w w2 lo hi) := n1
      have N2 : Hid (TSc 27 2 xss.length xss.length (fun q => if q < j + 1 then elM k xss q else elW bs xss q) w2 p cap vs' Bs) := n2
      clear n1 n2 g2 o2 cm HX HOI
      go_wp2_with fail
      refine ⟨⟨j + 1, vs', by omega, by go_num, ?_, N2, N1⟩, by simp [intOf]; omega⟩
      rw [hnn, HN4.out]
    · have d1 : decide ((j : Int) < (xss.length : Int)) = false := by simp; omega
      obtain rfl : j = xss.length := by omega
      have HE : Hid (Ows (MW k xss) wr lo hi [.slice (some ⟨p, 0, none⟩) xss.length cap]) := HF.out wr vs HC.out H1.out
      clear H1 HF
      go_wp2_with fail
      go_ret
      exact ⟨rfl, HC.out, HE.out⟩
theorem Ows.rowM {k : Int} {xss : List (List Int)} {W : World} {lo hi : Nat} {v : Value} (h : Ows (MW k xss) W lo hi [v]) (j : Nat) (hj : j < xss.length) : ∃ p cap a c, v = .slice (some ⟨p, 0, none⟩) xss.length cap ∧ p < W.heap.size ∧ W.cell? ⟨p, j * 2, none⟩ = some (.bool (sgnK (k + offW xss j))) ∧ W.cell? ⟨p, j * 2 + 1, none⟩ = some (.slice a (xss.getD j []).length c) ∧ Row W (.slice a (xss.getD j []).length c) (marks (k + offW xss j + 1) (xss.getD j []).length) := by
  obtain ⟨_, B, hT, _⟩ := h
  rcases hT with ⟨h1, _, _⟩ | ⟨p, cap, vs, Bs, e, hc, hb⟩
  · omega
  simp at e
  subst e
  obtain ⟨x, e0, e1, hE⟩ := TB.two (hc.el j hj)
  obtain ⟨a, c, rfl⟩ := hE.slice
  have hrow := hE.row
  rw [marks_len] at e1 hrow
  exact ⟨p, cap, a, c, rfl, ownsRow_lt hc.row, (hc.cell j 0 hj (by omega)).trans e0, (hc.cell j 1 hj (by omega)).trans e1, hrow⟩
set_option maxRecDepth 100000 in
set_option maxHeartbeats 4000000 in
theorem heldWholeS_any (xss : List (List Int)) (v : Value) (k : Int) (lo hi : Nat) (w : World) (hv : Ows (MW k xss) w lo hi [v]) (hl : xss.length ≤ 1048576) (hr : ∀ r ∈ xss, r.length ≤ 1048576) (hk : 0 ≤ k) (hs : k + (offW xss xss.length : Int) ≤ 1073741824) :
    Calls Tryz.prog 35 #[v, .int .i64 k] w fun e w' => e = .returned (.int .i64 (k + offW xss xss.length)) ∧ Old w w' := by
  obtain ⟨a0, cap0, ev⟩ : ∃ a c, v = .slice a xss.length c := by obtain ⟨_, B, hT, _⟩ := hv; exact TS.slice hT
  subst ev
  have HR : Hid (∀ r ∈ xss, r.length ≤ 1048576) := hr
  have HV : Hid (Ows (MW k xss) w lo hi [.slice a0 xss.length cap0]) := hv
  have HS : Hid (k + (offW xss xss.length : Int) ≤ 1073741824) := hs
  clear hv hr hs
  go_enter Tryz.func35, Tryz.ntmps35
  go_wp2_with fail
  go_loopw [5, 1] (fun i l W => ∃ j : Nat, j ≤ xss.length ∧ i = .int .i64 j ∧ l = .int .i64 (k + offW xss j) ∧ Hid (Old w W)) (fun i _ _ => xss.length - (intOf i).toNat)
  case atStart => exact ⟨0, by omega, rfl, by simp [offW, offL_zero], Old.refl _⟩
  case round =>
    obtain ⟨j, hj, rfl, rfl, HG⟩ := hrel
    by_cases hlt : j < xss.length
    · have d1 : decide ((j : Int) < (xss.length : Int)) = true := by simp; omega
      obtain ⟨p, cap, a, c, e, hp, c0, c1, r0⟩ := HV.out.rowM j hlt
      simp only [Value.slice.injEq, true_and] at e
      obtain ⟨rfl, rfl⟩ := e
      have q0 := (HG.out.cell (p := ⟨p, j * 2, none⟩) hp).trans c0
      have q1 := (HG.out.cell (p := ⟨p, j * 2 + 1, none⟩) hp).trans c1
      have R1 : Hid (Row wr (.slice a (xss.getD j []).length c) (marks (k + offW xss j + 1) (xss.getD j []).length)) := r0.old HG.out
      have hm : xss.getD j [] ∈ xss := by simp [List.getD, hlt]
      have hrl := HR.out _ hm
      have hoj := offW_le xss (j + 1) hlt
      have hos := offW_succ xss j hlt
      have hsum := HS.out
      have HN4 : Hid (k + (offW xss (j + 1) : Int) = k + (offW xss j : Int) + 1 + ((xss.getD j []).length : Int)) := by show _ = _; rw [hos]; omega
      have hkb : 0 ≤ k + (offW xss j : Int) ∧ k + (offW xss j : Int) + 1 + ((xss.getD j []).length : Int) ≤ 1073741824 := by omega
      have hsg : ((k + (offW xss j : Int)) % 3 == 0) = sgnK (k + offW xss j) := rfl
      clear c0 c1 r0 hm hoj hos hsum
      generalize sgnK (k + offW xss j) = sg at *
      generalize hnn : (offW xss (j + 1)) = nxt at *
      generalize (offW xss j : Nat) = off at *
      generalize (xss.getD j []).length = n at *
      have cm := fun W h => heldInts_yes n (.slice a n c) (k + off + 1) W h (by omega) (by omega) (by omega)
      have d2 : decide (k + (off : Int) + 1 + (n : Int) < 0) = false := by simp; omega
      have d3 : (sg != sg) = false := by simp
      go_wp2_with fail
      refine (cm _ R1.out).mono ?_
      rintro e w2 ⟨rfl, g2⟩
      have N2 : Hid (Old w w2) := Old.trans HG.out g2
      clear g2 cm
      go_wp2_with fail
      refine ⟨⟨j + 1, by omega, by go_num, ?_, N2⟩, by simp [intOf]; omega⟩
      rw [hnn, HN4.out]
    · have d1 : decide ((j : Int) < (xss.length : Int)) = false := by simp; omega
      obtain rfl : j = xss.length := by omega
      go_wp2_with fail
      go_ret
      exact ⟨rfl, HG.out⟩
end Go.Proofs.YtfgooclnohnkmaaGreatDoor
/- Proved: slices of whole numbers as a law carries them, in the form that a law's walk asks. -/
namespace Go.Proofs.YtfgooclnohnkmaaGreatDoor
open Go.ChangeShapes Go.WideShapes Go.ChangeAt Go.RowKit
set_option linter.unusedVariables false
set_option linter.unusedSimpArgs false
/-- whole numbers of one's own -/
def YW (bs : List Bool) (xss : List (List Int)) (W : World) (lo hi : Nat) (v : Value) : Prop := Ows (WS bs xss) W lo hi [v]
theorem far_YW (bs : List Bool) (xss : List (List Int)) : Far (YW bs xss) := fun W W' lo hi v h hf hs => far_Ows (good_WS bs xss) W W' lo hi [v] h hf hs
theorem shape_YW {bs : List Bool} {xss : List (List Int)} (W : World) (lo hi : Nat) (v : Value) (h : YW bs xss W lo hi v) : ∃ a c, v = .slice a xss.length c := by
  obtain ⟨_, B, hT, _⟩ := h
  exact TS.slice hT
/-- whole numbers whose signs and limbs are marks -/
def YWm (k : Int) (xss : List (List Int)) (W : World) (lo hi : Nat) (v : Value) : Prop := Ows (MW k xss) W lo hi [v]
theorem far_YWm (k : Int) (xss : List (List Int)) : Far (YWm k xss) := fun W W' lo hi v h hf hs => far_Ows (good_MW k xss) W W' lo hi [v] h hf hs
theorem shape_YWm {k : Int} {xss : List (List Int)} (W : World) (lo hi : Nat) (v : Value) (h : YWm k xss W lo hi v) : ∃ a c, v = .slice a xss.length c := by
  obtain ⟨_, B, hT, _⟩ := h
  exact TS.slice hT
theorem YW.rowW {bs : List Bool} {xss : List (List Int)} {W : World} {lo hi : Nat} {v : Value} (hb : bs.length = xss.length) (h : YW bs xss W lo hi v) : RowW W v bs xss := by
  obtain ⟨_, B, hT, _⟩ := h
  exact WS.rowW hb hT
theorem yw_eq (bs : List Bool) (xss : List (List Int)) (hb : bs.length = xss.length) (W : World) (lo hi : Nat) (g : Value) (lo' hi' : Nat) (g' : Value) (h : YW bs xss W lo hi g) (h' : YW bs xss W lo' hi' g') (hl : xss.length ≤ 1048576) (hr : ∀ r ∈ xss, r.length ≤ 1048576) :
    Calls Tryz.prog 29 #[g, g'] W fun e w' => e = .returned (.bool true) ∧ Old W w' := eqWholeS_yes bs xss g g' W (h.rowW hb) (h'.rowW hb) hl hr
theorem yw_mark (bs : List Bool) (xss : List (List Int)) (k : Int) (W : World) (lo hi : Nat) (g : Value) (h : YW bs xss W lo hi g) (hl : xss.length ≤ 1048576) (hr : ∀ r ∈ xss, r.length ≤ 1048576) (hk : 0 ≤ k) (hs : k + (offW xss xss.length : Int) ≤ 1073741824) :
    Calls Tryz.prog 34 #[g, .int .i64 k] W fun e w' => e = .returned (.int .i64 (k + offW xss xss.length)) ∧ Chg W w' lo hi ∧ YWm k xss w' lo hi g := markWholeS_any bs xss g k lo hi W h hl hr hk hs
theorem yw_held (xss : List (List Int)) (k : Int) (W : World) (lo hi : Nat) (g : Value) (h : YWm k xss W lo hi g) (hl : xss.length ≤ 1048576) (hr : ∀ r ∈ xss, r.length ≤ 1048576) (hk : 0 ≤ k) (hs : k + (offW xss xss.length : Int) ≤ 1073741824) :
    Calls Tryz.prog 35 #[g, .int .i64 k] W fun e w' => e = .returned (.int .i64 (k + offW xss xss.length)) ∧ Old W w' := heldWholeS_any xss g k lo hi W h hl hr hk hs
theorem offL_row (m : Nat) : ∀ (xss : List (List Int)), (∀ r ∈ xss, r.length ≤ m) → offL xss xss.length ≤ xss.length * m
  | [], h => by simp [offL]
  | r :: rs, h => by
    have h1 := offL_row m rs (fun r hr => h r (List.mem_cons_of_mem _ hr))
    have h2 := h r (List.mem_cons_self ..)
    show r.length + offL rs rs.length ≤ (rs.length + 1) * m
    rw [Nat.add_mul]
    omega
theorem offW_row {xss : List (List Int)} {m : Nat} (h : ∀ r ∈ xss, r.length ≤ m) : offW xss xss.length ≤ xss.length * m + xss.length := by
  have := offL_row m xss h
  unfold offW
  omega
end Go.Proofs.YtfgooclnohnkmaaGreatDoor
/- Proved: rows of rows as a law carries them: marks that are held still. -/
namespace Go.Proofs.YtfgooclnohnkmaaGreatDoor
open Go.ChangeShapes Go.WideShapes Go.ChangeAt Go.RowKit
set_option linter.unusedVariables false
set_option linter.unusedSimpArgs false
/-- rows with marks, in a struct -/
def XM (n : Bool) (k : Int) (xss : List (List Int)) (W : World) (lo hi : Nat) (g : Array Value) : Prop := ∃ a c, g = #[.bool n, .slice a xss.length c] ∧ OwM k xss W lo hi (.slice a xss.length c)
set_option maxHeartbeats 1000000 in
theorem kr_mark (n : Bool) (xss : List (List Int)) (k : Int) (w : World) (lo hi : Nat) (g : Array Value) (h : XR n xss w lo hi g) (hl : xss.length ≤ 1048576) (hr : ∀ r ∈ xss, r.length ≤ 1048576) (hk : 0 ≤ k) (hs : k + (offL xss xss.length : Int) ≤ 1073741824) :
    Calls Tryz.prog 33 #[.agg g, .int .i64 k] w fun e w' => e = .returned (.int .i64 (k + offL xss xss.length)) ∧ Chg w w' lo hi ∧ XM n k xss w' lo hi g := by
  obtain ⟨a0, cap0, rfl, o⟩ := h
  have HO : Hid (OwS xss (w.alloc (.cells #[.bool n, .slice a0 xss.length cap0] 58)) lo hi (.slice a0 xss.length cap0)) := (far_OwS xss).old o ((Old.refl w).alloc _) o.1
  have HA : Hid (Chg w (w.alloc (.cells #[.bool n, .slice a0 xss.length cap0] 58)) lo hi) := ((Old.refl w).alloc _).toChg lo hi
  have HR : Hid (∀ r ∈ xss, r.length ≤ 1048576) := hr
  have HS : Hid (k + (offL xss xss.length : Int) ≤ 1073741824) := hs
  clear o hr hs
  go_enter Tryz.func33, Tryz.ntmps33
  go_wp2_with fail
  refine (markIntSS_any xss _ k lo hi _ HO.out hl HR.out hk HS.out).mono ?_
  rintro e w1 ⟨rfl, g1, o1⟩
  have HG : Hid (Chg w w1 lo hi) := Chg.trans HA.out g1
  have HM : Hid (OwM k xss w1 lo hi (.slice a0 xss.length cap0)) := o1
  clear g1 o1
  go_wp2_with fail
  go_ret
  exact ⟨rfl, HG.out, _, _, rfl, HM.out⟩
end Go.Proofs.YtfgooclnohnkmaaGreatDoor
/- Proved: limbs of a word, what is left by a word, doubling, and products of limbs, round by round; no program in sight. -/
namespace Go.Proofs.YtfgooclnohnkmaaGreatDoor.M2
set_option linter.unusedVariables false
theorem nrm_of_ge {xs : List Nat} (h : Lim xs) (hv : xs.length ≠ 0 → LB ^ (xs.length - 1) ≤ val xs) : Nrm xs := by
  refine ⟨h, fun hne h0 => ?_⟩
  have e := List.dropLast_concat_getLast hne
  have hl : xs.length ≠ 0 := fun h0 => hne (List.length_eq_zero_iff.1 h0)
  have h1 := hv hl
  rw [← e, h0, val_snoc, Nat.mul_zero, Nat.add_zero] at h1
  have h2 : val xs.dropLast < LB ^ xs.dropLast.length := val_lt (fun x hx => h x (List.dropLast_subset xs hx))
  have e2 : (xs.dropLast ++ [0]).length - 1 = xs.dropLast.length := by simp
  rw [e2] at h1
  omega
theorem nrm_ge {xs : List Nat} (h : Nrm xs) (h0 : xs.length ≠ 0) : LB ^ (xs.length - 1) ≤ val xs := by
  by_cases hlt : val xs < LB ^ (xs.length - 1)
  · have := dig_len_le hlt
    rw [dig_val h] at this
    omega
  · omega
theorem dig_snoc {n m : Nat} {out : List Nat} (h : dig n = out ++ dig m) (hm : m ≠ 0) : dig n = (out ++ [m % LB]) ++ dig (m / LB) := by
  rw [h, dig_pos m hm, List.append_assoc]
  rfl
/-- doubling, k limbs far -/
structure ShI (xs : List Nat) (bit k : Nat) (out : List Nat) (c : Nat) : Prop where
  lim : Lim out
  len : out.length = k
  eq : val out + LB ^ k * c = 2 * val (xs.take k) + bit
  c1 : c ≤ 1
theorem ShI.start (xs : List Nat) (bit : Nat) (hb : bit ≤ 1) : ShI xs bit 0 [] bit := ⟨Lim.nil, rfl, by simp [val], hb⟩
theorem ShI.step {xs : List Nat} {bit k : Nat} {out : List Nat} {c : Nat} (h : ShI xs bit k out c) (hx : Lim xs) : ShI xs bit (k + 1) (out ++ [(c + 2 * xs.getD k 0) % LB]) ((c + 2 * xs.getD k 0) / LB) := by
  have h1 := hx.getD k
  have h3 := h.c1
  refine ⟨h.lim.append (Lim.cons (Nat.mod_lt _ LB_pos) Lim.nil), by simp [h.len], ?_, ?_⟩
  · rw [val_snoc, h.len, val_take_succ, Nat.add_assoc, split_pow]
    have := h.eq
    have e : LB ^ k * (c + 2 * xs.getD k 0) = LB ^ k * c + 2 * (LB ^ k * xs.getD k 0) := by rw [Nat.mul_add, Nat.mul_left_comm]
    rw [e, Nat.mul_add]
    omega
  · have : c + 2 * xs.getD k 0 < LB * 2 := by omega
    have := Nat.div_lt_of_lt_mul this
    omega
theorem ShI.no {xs : List Nat} {bit : Nat} {out : List Nat} {c : Nat} (h : ShI xs bit xs.length out c) (hx : Nrm xs) (hc : c = 0) : out = dig (2 * val xs + bit) := by
  have h1 := h.eq
  rw [List.take_length, hc, Nat.mul_zero, Nat.add_zero] at h1
  rw [← h1]
  refine (dig_val (nrm_of_ge h.lim (fun h0 => ?_))).symm
  rw [h.len] at h0 ⊢
  have := nrm_ge hx h0
  omega
theorem ShI.yes {xs : List Nat} {bit : Nat} {out : List Nat} {c : Nat} (h : ShI xs bit xs.length out c) (hc : 0 < c) : out ++ [c] = dig (2 * val xs + bit) := by
  have h1 := h.eq
  rw [List.take_length] at h1
  have h3 := h.c1
  have hLB : (1 : Nat) < LB := by decide
  have e : val (out ++ [c]) = 2 * val xs + bit := by rw [val_snoc, h.len]; exact h1
  rw [← e]
  refine (dig_val ⟨h.lim.append (Lim.cons (by omega) Lim.nil), fun hne => ?_⟩).symm
  simp
  omega
/-- limbs with one turned -/
theorem val_set : ∀ (xs : List Nat) (k y : Nat), k < xs.length → val (xs.set k y) + LB ^ k * xs.getD k 0 = val xs + LB ^ k * y
  | [], k, y, h => by simp at h
  | x :: xs, 0, y, h => by
    show y + LB * val xs + LB ^ 0 * x = x + LB * val xs + LB ^ 0 * y
    rw [Nat.pow_zero]
    omega
  | x :: xs, k + 1, y, h => by
    have ih := val_set xs k y (by simpa using h)
    show x + LB * val (xs.set k y) + LB ^ (k + 1) * xs.getD k 0 = x + LB * val xs + LB ^ (k + 1) * y
    rw [Nat.pow_succ]
    have e : LB * (val (xs.set k y) + LB ^ k * xs.getD k 0) = LB * (val xs + LB ^ k * y) := by rw [ih]
    rw [Nat.mul_add, Nat.mul_add] at e
    have e1 : LB ^ k * LB * xs.getD k 0 = LB * (LB ^ k * xs.getD k 0) := by rw [Nat.mul_comm (LB ^ k) LB, Nat.mul_assoc]
    have e2 : LB ^ k * LB * y = LB * (LB ^ k * y) := by rw [Nat.mul_comm (LB ^ k) LB, Nat.mul_assoc]
    omega
theorem Lim.set {xs : List Nat} (h : Lim xs) (k y : Nat) (hy : y < LB) : Lim (xs.set k y) := fun z hz => by
  rcases List.mem_or_eq_of_mem_set hz with h1 | h1
  · exact h z h1
  · rw [h1]; exact hy
theorem lim_zeros (n : Nat) : Lim (List.replicate n 0) := fun z hz => by rw [List.eq_of_mem_replicate hz]; exact LB_pos
theorem val_zeros : ∀ n : Nat, val (List.replicate n 0) = 0
  | 0 => rfl
  | n + 1 => by
    rw [List.replicate_succ]
    show 0 + LB * val (List.replicate n 0) = 0
    rw [val_zeros n, Nat.mul_zero]
/-- products: out and a carry at the place p are worth T -/
structure MulI (n p T : Nat) (out : List Nat) (c : Nat) : Prop where
  lim : Lim out
  len : out.length = n
  eq : val out + LB ^ p * c = T
  c1 : c < LB
theorem MulI.step {n p T : Nat} {out : List Nat} {c : Nat} (h : MulI n p T out c) (z : Nat) (hz : z ≤ (LB - 1) * (LB - 1)) (hp : p < n) :
    MulI n (p + 1) (T + LB ^ p * z) (out.set p ((c + (out.getD p 0 + z)) % LB)) ((c + (out.getD p 0 + z)) / LB) := by
  have h1 := h.lim.getD p
  have h2 := h.c1
  refine ⟨h.lim.set _ _ (Nat.mod_lt _ LB_pos), by simp [h.len], ?_, ?_⟩
  · have e := val_set out p ((c + (out.getD p 0 + z)) % LB) (by rw [h.len]; exact hp)
    have e2 := split_pow p (c + (out.getD p 0 + z))
    have e3 := h.eq
    rw [Nat.mul_add, Nat.mul_add] at e2
    omega
  · refine Nat.div_lt_of_lt_mul ?_
    have : LB * LB = (LB - 1) * (LB - 1) + 2 * (LB - 1) + 1 := by decide
    omega
theorem MulI.carry {n p T : Nat} {out : List Nat} {c : Nat} (h : MulI n p T out c) (hT : T < LB ^ n) (hc : 0 < c) : p < n := by
  by_cases hp : p < n
  · exact hp
  · exfalso
    have h1 := h.eq
    have h2 : LB ^ n ≤ LB ^ p := Nat.pow_le_pow_right LB_pos (by omega)
    have h3 : LB ^ p * 1 ≤ LB ^ p * c := Nat.mul_le_mul (Nat.le_refl _) hc
    omega
theorem MulI.next {n p T : Nat} {out : List Nat} {c : Nat} (h : MulI n p T out c) (hp : p < n) :
    MulI n (p + 1) T (out.set p ((c + out.getD p 0) % LB)) ((c + out.getD p 0) / LB) := by
  have := h.step 0 (Nat.zero_le _) hp
  simpa using this
theorem MulI.zero {n p T : Nat} {out : List Nat} {c : Nat} (h : MulI n p T out c) (hc : c = 0) (p' : Nat) : MulI n p' T out 0 := by
  have := h.eq
  rw [hc, Nat.mul_zero, Nat.add_zero] at this
  exact ⟨h.lim, h.len, by rw [Nat.mul_zero, Nat.add_zero]; exact this, LB_pos⟩
theorem mul_row (A X P J T y k j : Nat) (hJ : P * J = LB ^ (k + j)) : A + P * X * T + LB ^ (k + j) * (X * y) = A + P * X * (T + J * y) := by
  rw [← hJ]
  grind
theorem mul_row_step (xs ys : List Nat) (x k j : Nat) : val (xs.take k) * val ys + LB ^ k * x * val (ys.take j) + LB ^ (k + j) * (x * ys.getD j 0) = val (xs.take k) * val ys + LB ^ k * x * val (ys.take (j + 1)) := by
  rw [val_take_succ]
  exact mul_row _ _ _ _ _ _ k j (Nat.pow_add LB k j).symm
end Go.Proofs.YtfgooclnohnkmaaGreatDoor.M2
/- Proved: what one round of dividing limbs does, by one limb and bit by bit; no program in sight. -/
namespace Go.Proofs.YtfgooclnohnkmaaGreatDoor.M2
set_option linter.unusedVariables false
/-- dividing by d, down to the place k -/
structure DivI (xs : List Nat) (d k : Nat) (out : List Nat) (r : Nat) : Prop where
  qs : ∃ qs, out = List.replicate k 0 ++ qs ∧ Lim qs ∧ k + qs.length = xs.length ∧ val qs = val (xs.drop k) / d
  r_eq : r = val (xs.drop k) % d
theorem DivI.start (xs : List Nat) (d : Nat) : DivI xs d xs.length (List.replicate xs.length 0) 0 :=
  ⟨⟨[], by simp, Lim.nil, by simp, by simp [val]⟩, by simp [val]⟩
theorem DivI.len {xs : List Nat} {d k : Nat} {out : List Nat} {r : Nat} (h : DivI xs d k out r) : out.length = xs.length := by
  obtain ⟨qs, e, _, hl, _⟩ := h.qs
  rw [e]; simp; omega
theorem DivI.lim {xs : List Nat} {d k : Nat} {out : List Nat} {r : Nat} (h : DivI xs d k out r) : Lim out := by
  obtain ⟨qs, e, hq, _, _⟩ := h.qs
  rw [e]; exact (lim_zeros k).append hq
theorem set_head (j y : Nat) (qs : List Nat) : (List.replicate (j + 1) 0 ++ qs).set j y = List.replicate j 0 ++ y :: qs := by
  rw [show List.replicate (j + 1) 0 = List.replicate j 0 ++ [0] by rw [← List.replicate_append_replicate]; rfl, List.append_assoc, List.set_append_right _ _ (by simp), List.length_replicate, Nat.sub_self]
  rfl
theorem div_facts (V d x : Nat) (hd : 0 < d) : (x + LB * V) / d = LB * (V / d) + (V % d * LB + x) / d ∧ (x + LB * V) % d = (V % d * LB + x) % d := by
  have e : x + LB * V = (V % d * LB + x) + d * (LB * (V / d)) := by
    have := Nat.div_add_mod V d
    have h2 : LB * (d * (V / d) + V % d) = LB * V := by rw [this]
    rw [Nat.mul_add] at h2
    have h3 : d * (LB * (V / d)) = LB * (d * (V / d)) := Nat.mul_left_comm _ _ _
    rw [Nat.mul_comm (V % d) LB]
    omega
  rw [e]
  refine ⟨?_, Nat.add_mul_mod_self_left _ _ _⟩
  rw [Nat.add_mul_div_left _ _ hd, Nat.add_comm]
theorem DivI.step {xs : List Nat} {d j : Nat} {out : List Nat} {r : Nat} (h : DivI xs d (j + 1) out r) (hd : 0 < d) (hj : j < xs.length) (hx : Lim xs) :
    DivI xs d j (out.set j ((r * LB + xs.getD j 0) / d)) ((r * LB + xs.getD j 0) % d) ∧ (r * LB + xs.getD j 0) / d < LB := by
  obtain ⟨qs, e, hq, hl, hv⟩ := h.qs
  have hr := h.r_eq
  have hlt : (r * LB + xs.getD j 0) / d < LB := by
    refine Nat.div_lt_of_lt_mul ?_
    have h1 : r < d := by rw [hr]; exact Nat.mod_lt _ hd
    have h2 := hx.getD j
    have h3 : (r + 1) * LB ≤ d * LB := Nat.mul_le_mul h1 (Nat.le_refl _)
    rw [Nat.add_mul] at h3
    omega
  have f := div_facts (val (xs.drop (j + 1))) d (xs.getD j 0) hd
  rw [← val_drop_getD xs j hj, ← hr] at f
  refine ⟨⟨⟨(r * LB + xs.getD j 0) / d :: qs, ?_, Lim.cons hlt hq, by simp; omega, ?_⟩, f.2.symm⟩, hlt⟩
  · rw [e, set_head]
  · rw [f.1]
    show (r * LB + xs.getD j 0) / d + LB * val qs = _
    rw [hv, Nat.add_comm]
theorem DivI.done {xs : List Nat} {d : Nat} {out : List Nat} {r : Nat} (h : DivI xs d 0 out r) : trim out = dig (val xs / d) ∧ r = val xs % d := by
  obtain ⟨qs, e, hq, hl, hv⟩ := h.qs
  refine ⟨?_, h.r_eq⟩
  unfold trim
  rw [e]
  simp at hv ⊢
  rw [hv]
theorem dig_one (r : Nat) (h0 : r ≠ 0) (h : r < LB) : dig r = [r] := by
  rw [dig_pos r h0, Nat.mod_eq_of_lt h, Nat.div_eq_of_lt h, dig_zero]
end Go.Proofs.YtfgooclnohnkmaaGreatDoor.M2
/- Proved: what one round of dividing limbs bit by bit does; no program in sight. -/
namespace Go.Proofs.YtfgooclnohnkmaaGreatDoor.M2
set_option linter.unusedVariables false
/-- what has been brought down: the limbs above, and of x the bits from t on -/
def down (V x t : Nat) : Nat := V * 2 ^ (28 - t) + x / 2 ^ t
theorem down_start (V x : Nat) (hx : x < LB) : down V x 28 = V := by
  unfold down
  have e : (2 : Nat) ^ 28 = LB := by decide
  rw [e, Nat.div_eq_of_lt hx]
  simp
theorem down_end (V x : Nat) : down V x 0 = x + LB * V := by
  unfold down
  have e : (2 : Nat) ^ 28 = LB := by decide
  simp
  rw [show (268435456 : Nat) = LB from rfl, Nat.mul_comm V LB]
  omega
theorem down_step (V x t : Nat) (ht : t < 28) : down V x t = 2 * down V x (t + 1) + x / 2 ^ t % 2 := by
  unfold down
  have e1 : (2 : Nat) ^ (28 - t) = 2 * 2 ^ (28 - (t + 1)) := by
    rw [show 28 - t = (28 - (t + 1)) + 1 by omega, Nat.pow_succ, Nat.mul_comm]
  have e2 : x / 2 ^ (t + 1) = x / 2 ^ t / 2 := by rw [Nat.pow_succ, Nat.div_div_eq_div_mul]
  rw [e1, e2]
  have := Nat.div_add_mod (x / 2 ^ t) 2
  have e3 : V * (2 * 2 ^ (28 - (t + 1))) = 2 * (V * 2 ^ (28 - (t + 1))) := Nat.mul_left_comm _ _ _
  rw [e3]
  omega
/-- dividing by D: the limbs above j are done, of the limb at j the bits from t on; o is its quotient so far, R what is left -/
structure BitI (xs : List Nat) (D j t : Nat) (qs : List Nat) (o R : Nat) : Prop where
  lim : Lim qs
  len : j + 1 + qs.length = xs.length
  q : val qs = val (xs.drop (j + 1)) / D
  r : R = down (val (xs.drop (j + 1))) (xs.getD j 0) t % D
  oq : LB * val qs + o = down (val (xs.drop (j + 1))) (xs.getD j 0) t / D * 2 ^ t
theorem BitI.start {xs : List Nat} {D j : Nat} {out : List Nat} {R : Nat} (h : DivI xs D (j + 1) out R) (hx : Lim xs) : ∃ qs, out = List.replicate j 0 ++ 0 :: qs ∧ BitI xs D j 28 qs 0 R := by
  obtain ⟨qs, e, hq, hl, hv⟩ := h.qs
  refine ⟨qs, ?_, hq, hl, hv, ?_, ?_⟩
  · rw [e, show List.replicate (j + 1) 0 = List.replicate j 0 ++ [0] by rw [← List.replicate_append_replicate]; rfl, List.append_assoc]
    rfl
  · rw [down_start _ _ (hx.getD j)]
    exact h.r_eq
  · rw [down_start _ _ (hx.getD j), ← hv, Nat.add_zero, Nat.mul_comm]
    rfl
theorem half_facts (H D b : Nat) (hD : 0 < D) (hb : b ≤ 1) :
    (2 * (H % D) + b < D → (2 * H + b) / D = 2 * (H / D) ∧ (2 * H + b) % D = 2 * (H % D) + b) ∧
    (¬ 2 * (H % D) + b < D → (2 * H + b) / D = 2 * (H / D) + 1 ∧ (2 * H + b) % D = 2 * (H % D) + b - D) := by
  have e := Nat.div_add_mod H D
  have hm : H % D < D := Nat.mod_lt _ hD
  generalize H / D = Q at *
  generalize H % D = M at *
  have e1 : 2 * H + b = D * (2 * Q) + (2 * M + b) := by
    rw [← e, Nat.mul_add, Nat.mul_left_comm]
    omega
  constructor
  · intro h
    rw [e1]
    exact ⟨by rw [Nat.mul_add_div hD, Nat.div_eq_of_lt h, Nat.add_zero], by rw [Nat.mul_add_mod, Nat.mod_eq_of_lt h]⟩
  · intro h
    have e2 : 2 * H + b = D * (2 * Q + 1) + (2 * M + b - D) := by
      rw [Nat.mul_add, Nat.mul_one]
      omega
    have h3 : 2 * M + b - D < D := by omega
    rw [e2]
    exact ⟨by rw [Nat.mul_add_div hD, Nat.div_eq_of_lt h3, Nat.add_zero], by rw [Nat.mul_add_mod, Nat.mod_eq_of_lt h3]⟩
theorem BitI.no {xs : List Nat} {D j t : Nat} {qs : List Nat} {o R : Nat} (h : BitI xs D j (t + 1) qs o R) (hD : 0 < D) (ht : t < 28) (hlt : 2 * R + xs.getD j 0 / 2 ^ t % 2 < D) :
    BitI xs D j t qs o (2 * R + xs.getD j 0 / 2 ^ t % 2) := by
  have f := (half_facts (down (val (xs.drop (j + 1))) (xs.getD j 0) (t + 1)) D (xs.getD j 0 / 2 ^ t % 2) hD (by omega)).1 (by rw [← h.r]; exact hlt)
  rw [← down_step _ _ t ht, ← h.r] at f
  refine ⟨h.lim, h.len, h.q, f.2.symm, ?_⟩
  rw [f.1, h.oq, Nat.pow_succ]
  grind
theorem BitI.yes {xs : List Nat} {D j t : Nat} {qs : List Nat} {o R : Nat} (h : BitI xs D j (t + 1) qs o R) (hD : 0 < D) (ht : t < 28) (hge : ¬ 2 * R + xs.getD j 0 / 2 ^ t % 2 < D) :
    BitI xs D j t qs (o + 2 ^ t) (2 * R + xs.getD j 0 / 2 ^ t % 2 - D) := by
  have f := (half_facts (down (val (xs.drop (j + 1))) (xs.getD j 0) (t + 1)) D (xs.getD j 0 / 2 ^ t % 2) hD (by omega)).2 (by rw [← h.r]; exact hge)
  rw [← down_step _ _ t ht, ← h.r] at f
  refine ⟨h.lim, h.len, h.q, f.2.symm, ?_⟩
  have := h.oq
  rw [f.1, Nat.add_mul, Nat.one_mul, ← Nat.add_assoc, this, Nat.pow_succ]
  grind
theorem BitI.lt {xs : List Nat} {D j t : Nat} {qs : List Nat} {o R : Nat} (h : BitI xs D j t qs o R) (hD : 0 < D) (ht : t ≤ 28) (hx : Lim xs) : o < LB := by
  have h1 := h.oq
  have h2 := h.q
  have hxj := hx.getD j
  generalize val (xs.drop (j + 1)) = V at *
  generalize xs.getD j 0 = x at *
  have b1 : down V x t / D * D ≤ down V x t := Nat.div_mul_le_self _ _
  have b2 : down V x t * 2 ^ t ≤ V * LB + x := by
    unfold down
    rw [Nat.add_mul, Nat.mul_assoc, ← Nat.pow_add, show 28 - t + t = 28 by omega]
    have := Nat.div_mul_le_self x (2 ^ t)
    have e : (2 : Nat) ^ 28 = LB := by decide
    rw [e]
    omega
  have b3 : V + 1 ≤ (V / D + 1) * D := by
    have := Nat.div_add_mod V D
    have := Nat.mod_lt V hD
    rw [Nat.add_mul, Nat.one_mul, Nat.mul_comm (V / D) D]
    omega
  have b4 : (V + 1) * LB ≤ (V / D + 1) * D * LB := Nat.mul_le_mul b3 (Nat.le_refl _)
  have b5 : down V x t / D * D * 2 ^ t ≤ down V x t * 2 ^ t := Nat.mul_le_mul b1 (Nat.le_refl _)
  rw [Nat.add_mul, Nat.one_mul] at b4
  have b6 : down V x t / D * 2 ^ t * D < (V / D + 1) * LB * D := by
    have e1 : down V x t / D * 2 ^ t * D = down V x t / D * D * 2 ^ t := by grind
    have e2 : (V / D + 1) * LB * D = (V / D + 1) * D * LB := by grind
    rw [e1, e2]
    omega
  have b7 : down V x t / D * 2 ^ t < (V / D + 1) * LB := Nat.lt_of_mul_lt_mul_right b6
  rw [← h1, h2, Nat.add_mul, Nat.one_mul, Nat.mul_comm LB] at b7
  omega
theorem BitI.done {xs : List Nat} {D j : Nat} {qs : List Nat} {o R : Nat} (h : BitI xs D j 0 qs o R) (hD : 0 < D) (hx : Lim xs) : DivI xs D j (List.replicate j 0 ++ o :: qs) R := by
  have hj : j < xs.length := by have := h.len; omega
  have hlt := h.lt hD (by omega) hx
  have e := val_drop_getD xs j hj
  refine ⟨⟨o :: qs, rfl, Lim.cons hlt h.lim, by have := h.len; simp; omega, ?_⟩, ?_⟩
  · have := h.oq
    rw [down_end, ← e, Nat.pow_zero, Nat.mul_one] at this
    rw [← this]
    show o + LB * val qs = LB * val qs + o
    omega
  · rw [h.r, down_end, e]
theorem get_mid (j o : Nat) (qs : List Nat) : (List.replicate j 0 ++ o :: qs).getD j 0 = o := by
  simp [List.getD]
theorem set_mid (j o y : Nat) (qs : List Nat) : (List.replicate j 0 ++ o :: qs).set j y = List.replicate j 0 ++ y :: qs := by
  rw [List.set_append_right _ _ (by simp), List.length_replicate, Nat.sub_self]
  rfl
end Go.Proofs.YtfgooclnohnkmaaGreatDoor.M2
/- Proved: numbers in an array of eighty limbs: noughts behind, one form for one number; what one round of adding, taking away, scaling and dividing does there; no program in sight. -/
namespace Go.Proofs.YtfgooclnohnkmaaGreatDoor.M2
set_option linter.unusedVariables false
/-- limbs with noughts behind, eighty in all -/
def ext (xs : List Nat) : List Nat := xs ++ List.replicate (80 - xs.length) 0
theorem ext_len {xs : List Nat} (h : xs.length ≤ 80) : (ext xs).length = 80 := by unfold ext; simp; omega
theorem ext_lim {xs : List Nat} (h : Lim xs) : Lim (ext xs) := h.append (lim_zeros _)
theorem ext_val (xs : List Nat) : val (ext xs) = val xs := by unfold ext; rw [val_append, val_zeros]; simp
theorem ext_getD (xs : List Nat) (j : Nat) : (ext xs).getD j 0 = xs.getD j 0 := by
  unfold ext
  by_cases h : j < xs.length
  · simp [List.getD, List.getElem?_append_left h]
  · simp only [List.getD, List.getElem?_append_right (Nat.le_of_not_lt h)]
    rw [List.getElem?_eq_none (Nat.le_of_not_lt h)]
    by_cases h2 : j - xs.length < 80 - xs.length
    · rw [List.getElem?_replicate, if_pos h2]; rfl
    · rw [List.getElem?_replicate, if_neg h2]
theorem ext_set {xs : List Nat} (h : xs.length < 80) (y : Nat) : (ext xs).set xs.length y = ext (xs ++ [y]) := by
  unfold ext
  rw [List.set_append_right _ _ (Nat.le_refl _), Nat.sub_self]
  obtain ⟨m, hm⟩ : ∃ m, 80 - xs.length = m + 1 := ⟨79 - xs.length, by omega⟩
  rw [hm, List.length_append]
  have : 80 - (xs.length + [y].length) = m := by simp; omega
  rw [this]
  simp [List.replicate_succ]
theorem ext_take {xs : List Nat} (k : Nat) (h : xs.length ≤ k) (hk : k ≤ 80) : val ((ext xs).take k) = val xs := by
  unfold ext
  rw [List.take_append, List.take_of_length_le h, val_append, List.take_replicate, val_zeros]
  simp
theorem lim_ext : ∀ {a b : List Nat}, Lim a → Lim b → a.length = b.length → val a = val b → a = b
  | [], [], _, _, _, _ => rfl
  | [], _ :: _, _, _, h, _ => by simp at h
  | _ :: _, [], _, _, h, _ => by simp at h
  | x :: a, y :: b, ha, hb, hl, hv => by
    have h1 := ha.head
    have h2 := hb.head
    have e : x + LB * val a = y + LB * val b := hv
    have ex : x = y := by
      have := congrArg (· % LB) e
      simp only [Nat.add_mul_mod_self_left, Nat.mod_eq_of_lt h1, Nat.mod_eq_of_lt h2] at this
      exact this
    subst ex
    have ev : val a = val b := Nat.eq_of_mul_eq_mul_left LB_pos (by omega)
    rw [lim_ext ha.tail hb.tail (by simpa using hl) ev]
/-- the eighty limbs of a number -/
def pad (n : Nat) : List Nat := ext (dig n)
theorem pad_val (n : Nat) : val (pad n) = n := by unfold pad; rw [ext_val, val_dig]
theorem pad_lim (n : Nat) : Lim (pad n) := ext_lim (dig_lim n)
theorem pad_len {n : Nat} (h : (dig n).length ≤ 80) : (pad n).length = 80 := ext_len h
theorem pad_getD (n j : Nat) : (pad n).getD j 0 = (dig n).getD j 0 := ext_getD _ _
theorem pad_of {xs : List Nat} (h : Lim xs) (hl : xs.length = 80) : xs = pad (val xs) := by
  have hd : (dig (val xs)).length ≤ 80 := by have := val_lt h; rw [hl] at this; exact dig_len_le this
  exact lim_ext h (pad_lim _) (by rw [hl, pad_len hd]) (by rw [pad_val])
/-- how many limbs a number has -/
def cnt (n : Nat) : Nat := (dig n).length
theorem cnt_zero : cnt 0 = 0 := by unfold cnt; rw [dig_zero]; rfl
theorem cnt_pos {n : Nat} (h : n ≠ 0) : 0 < cnt n := by
  unfold cnt
  have := dig_ne h
  cases e : dig n with
  | nil => exact absurd e this
  | cons x xs => simp
theorem cnt_lt (n : Nat) : n < LB ^ cnt n := by
  have := val_lt (dig_lim n)
  rw [val_dig] at this
  exact this
theorem cnt_ge {n : Nat} (h : n ≠ 0) : LB ^ (cnt n - 1) ≤ n := by
  have := nrm_ge (dig_nrm n) (by have := cnt_pos h; unfold cnt at this; omega)
  rw [val_dig] at this
  exact this
theorem cnt_le {n k : Nat} (h : n < LB ^ k) : cnt n ≤ k := dig_len_le h
theorem cnt_mono {n m : Nat} (h : n ≤ m) : cnt n ≤ cnt m := cnt_le (Nat.lt_of_le_of_lt h (cnt_lt m))
theorem cnt_nrm {xs : List Nat} (h : Nrm xs) : cnt (val xs) = xs.length := by unfold cnt; rw [dig_val h]
/-- noughts at the top struck: where k limbs are left -/
theorem cnt_at {ls : List Nat} (h : Lim ls) (k : Nat) (hk : k ≤ ls.length) (hv : val (ls.take k) = val ls) (h0 : k = 0 ∨ ls.getD (k - 1) 0 ≠ 0) : cnt (val ls) = k := by
  have hn : Nrm (ls.take k) := by
    refine ⟨h.take k, fun hne => ?_⟩
    have hk0 : 0 < k := by
      rcases Nat.eq_zero_or_pos k with e | e
      · subst e; simp at hne
      · exact e
    have h1 : ls.getD (k - 1) 0 ≠ 0 := by
      rcases h0 with h0 | h0
      · omega
      · exact h0
    rw [List.getLast_eq_getElem]
    simp only [List.length_take, Nat.min_eq_left hk, List.getElem_take]
    simpa [List.getD, show k - 1 < ls.length by omega] using h1
  rw [← hv, cnt_nrm hn, List.length_take, Nat.min_eq_left hk]
theorem take_zero_step {ls : List Nat} (k : Nat) (hv : val (ls.take (k + 1)) = val ls) (h0 : ls.getD k 0 = 0) : val (ls.take k) = val ls := by
  rw [val_take_succ, h0, Nat.mul_zero, Nat.add_zero] at hv
  exact hv
theorem val_top : ∀ (k : Nat) (ls : List Nat), (∀ j, k ≤ j → ls.getD j 0 = 0) → val (ls.take k) = val ls := by
  intro k
  induction k with
  | zero =>
    intro ls
    induction ls with
    | nil => intro _; rfl
    | cons x xs ih =>
      intro hj
      have h0 : x = 0 := hj 0 (by omega)
      have h1 : val xs = 0 := by
        have := ih (fun j hj2 => by have := hj (j + 1) (by omega); simpa using this)
        rw [← this]; simp [val]
      simp [val, h0, h1]
  | succ k ih =>
    intro ls hj
    cases ls with
    | nil => simp [val]
    | cons x xs =>
      have := ih xs (fun j hj2 => by have := hj (j + 1) (by omega); simpa using this)
      simp [val, this]
end Go.Proofs.YtfgooclnohnkmaaGreatDoor.M2
