/- Proved: several texts in one: what each proves is said ahead of it. -/
import Derived.Test.YtglbegbhekcddaaDoorRw02
import Derived.Test.YtglbegbhekcddaaDoorRgi
import Derived.Test.YtglbegbhekcddaaDoorRw40
import Derived.Test.YtglbegbhekcddaaDoorRw15
import Derived.Test.YtglbegbhekcddaaDoorRw14
/- Proved: the drawn region of the draw of rows: a polynomial is drawn and appended. -/
namespace Go.Proofs.YtglbegbhekcddaaDoor
open Go.ChangeShapes Go.WideShapes Go.ChangeAt Go.RowKit
set_option linter.unusedVariables false
set_option linter.unusedSimpArgs false
theorem getD_ap1 (yss : List (List Int)) (r : List Int) (j : Nat) (h : j < yss.length) : (yss ++ [r]).getD j [] = yss.getD j [] := by
  simp [List.getD, List.getElem?_append_left h]
theorem getD_ap2 (yss : List (List Int)) (r : List Int) : (yss ++ [r]).getD yss.length [] = r := by
  simp [List.getD]
theorem OwS.appC {yss : List (List Int)} {wr W : World} {lo : Nat} {x : Value} {r : List Int} {a : Option Addr} {c : Nat} (h : OwS yss wr lo wr.heap.size x) (hlo : lo ≤ wr.heap.size) (hs0 : wr.heap.size ≤ W.heap.size) (hf : ∀ b, lo ≤ b → b < wr.heap.size → W.heap[b]? = wr.heap[b]?) (o : Own W wr.heap.size (.slice a r.length c) r) (hc : r.length ≤ c) :
    ∃ vs, W.ownsRow lo 23 1 x yss.length vs ∧ (∀ v' w', w'.ownsRow lo 23 1 v' (yss.length + 1) (vs ++ [.slice a r.length c]) → W.grownBy w' x.ownBlock → (v'.ownBlock = x.ownBlock ∨ v'.ownBlock = some W.heap.size) → OwS (yss ++ [r]) w' lo w'.heap.size v') := by
  have key : ∃ vs : List Value, W.ownsRow lo 23 1 x yss.length vs ∧ vs.length = yss.length ∧ (∀ p, x.ownBlock = some p → p < wr.heap.size)
      ∧ (∀ j, j < yss.length → ∃ a c, vs[j]? = some (.slice a (yss.getD j []).length c) ∧ (yss.getD j []).length ≤ c ∧ Own wr lo (.slice a (yss.getD j []).length c) (yss.getD j []) ∧ (∀ b, (Value.slice a (yss.getD j []).length c).ownBlock = some b → x.ownBlock ≠ some b))
      ∧ (∀ (i j : Nat) (x y : Value) (b : Nat), i < j → vs[i]? = some x → vs[j]? = some y → x.ownBlock = some b → y.ownBlock = some b → False) := by
    obtain ⟨hh, ⟨e, e2⟩ | ⟨p, cap, vs, e, hcap, hl, hhi, ho, hvl, hj, hd⟩⟩ := h
    · subst e e2
      refine ⟨[], ⟨rfl, Or.inl ⟨rfl, rfl⟩⟩, rfl, (fun p hp => by cases hp), (fun j hj => by simp at hj), (fun i j x y b hij hx => by simp at hx)⟩
    · subst e
      refine ⟨vs, ?_, hvl, fun q hq => ?_, fun j hjl => ?_, hd⟩
      · refine ⟨ho.1, ?_⟩
        rcases ho.2 with ⟨hn, _⟩ | ⟨p', cap', cur, e', hb', hgg, rest⟩
        · cases hn
        · refine .inr ⟨p', cap', cur, e', hb', ?_, rest⟩
          rw [hf p' hb' (Array.getElem?_eq_some_iff.1 hgg).1]
          exact hgg
      · simp only [Value.ownBlock, Option.some.injEq] at hq
        omega
      · obtain ⟨a2, c2, e3, hc2, oj, hb2⟩ := hj j hjl
        refine ⟨a2, c2, e3, hc2, oj.1, fun b hb hx => hb2 b hb ?_⟩
        simp only [Value.ownBlock, Option.some.injEq] at hx
        exact hx.symm
  obtain ⟨vs, ho, hvl, hp, hj, hd⟩ := key
  refine ⟨vs, ho, fun v' w' ho' gr hv' => ?_⟩
  have hsz := hs0
  have hsz' := gr.size
  have hrow : ∀ j, j < yss.length → ∃ a c, vs[j]? = some (.slice a (yss.getD j []).length c) ∧ (yss.getD j []).length ≤ c ∧ Own w' lo (.slice a (yss.getD j []).length c) (yss.getD j []) ∧ (∀ b, (Value.slice a (yss.getD j []).length c).ownBlock = some b → b < wr.heap.size ∧ v'.ownBlock ≠ some b) := fun j hjl => by
    obtain ⟨a2, c2, e3, hc2, oj, hb2⟩ := hj j hjl
    refine ⟨a2, c2, e3, hc2, Own.by_ (show Own W lo _ _ from by unfold Own at oj ⊢; exact row_far oj hf) gr (fun q y hx hy hxy => ?_), fun b hb => ⟨(oj.lt b hb).2, fun hx => ?_⟩⟩
    · subst hxy
      exact hb2 q hx hy
    · rcases hv' with e | e
      · exact hb2 b hb (e.symm.trans hx)
      · rw [e] at hx
        have := (oj.lt b hb).2
        simp only [Option.some.injEq] at hx
        omega
  have hnew : Own w' lo (.slice a r.length c) r := Own.low (Own.by_ o gr (fun q y hx hy hxy => by
    subst hxy
    have h1 := (o.lt q hx).1
    have h2 := hp q hy
    omega)) hlo
  have hnewb : ∀ b, (Value.slice a r.length c).ownBlock = some b → wr.heap.size ≤ b ∧ b < W.heap.size ∧ v'.ownBlock ≠ some b := fun b hb => by
    obtain ⟨h1, h2⟩ := o.lt b hb
    refine ⟨h1, h2, fun hx => ?_⟩
    rcases hv' with e | e
    · have := hp b (e.symm.trans hx)
      omega
    · rw [e] at hx
      simp only [Option.some.injEq] at hx
      omega
  have ho2 := ho'
  rcases ho'.2 with ⟨_, h0⟩ | ⟨p', cap', cur, e', hb', hgg, hnc, rest⟩
  · omega
  subst e'
  have hlt' : p' < w'.heap.size := (Array.getElem?_eq_some_iff.1 hgg).1
  refine ⟨Nat.le_refl _, Or.inr ⟨p', cap', vs ++ [.slice a r.length c], by simp, by simpa using hnc, hb', hlt', by simpa using ho2, by simp [hvl], fun j hjl => ?_, fun i j x y b hij hx hy hbx hby => ?_⟩⟩
  · simp at hjl
    rcases Nat.lt_or_ge j yss.length with h1 | h1
    · rw [getD_ap1 yss r j h1]
      obtain ⟨a2, c2, e3, hc2, oj, hb2⟩ := hrow j h1
      refine ⟨a2, c2, by rw [List.getElem?_append_left (by omega)]; exact e3, hc2, ⟨oj, Nat.le_refl _, fun b hb => (oj.lt b hb).2⟩, fun b hb hx => (hb2 b hb).2 ?_⟩
      rw [hx]
      rfl
    · obtain rfl : j = yss.length := by omega
      rw [getD_ap2 yss r]
      refine ⟨a, c, by rw [← hvl]; simp, hc, ⟨hnew, Nat.le_refl _, fun b hb => (hnew.lt b hb).2⟩, fun b hb hx => (hnewb b hb).2.2 ?_⟩
      rw [hx]
      rfl
  · have hjl : j < vs.length + 1 := by
      have := (List.getElem?_eq_some_iff.1 hy).1
      simpa using this
    rcases Nat.lt_or_ge j vs.length with h1 | h1
    · rw [List.getElem?_append_left (by omega)] at hx hy
      exact hd i j x y b hij hx hy hbx hby
    · obtain rfl : j = vs.length := by omega
      rw [List.getElem?_append_left (by omega)] at hx
      simp at hy
      subst hy
      obtain ⟨a2, c2, e3, hc2, oj, hb2⟩ := hrow i (by omega)
      rw [e3] at hx
      obtain rfl := Option.some.inj hx
      have h3 := (hb2 b hbx).1
      have h4 := (hnewb b hby).1
      omega
def slotRl (i : Nat) : Nat := [18, 19, 20, 21, 22, 23, 24, 25, 26].getD i 0
theorem slotRl_lt : ∀ i, i < 9 → slotRl i < 38 := by decide
theorem slotRl_inj : ∀ i, i < 9 → ∀ j, j < 9 → slotRl i = slotRl j → i = j := by decide
theorem slotRl_no : ∀ s, s < 8 → ∀ i, i < 9 → slotRl i ≠ s := by decide
def qRl (c kb sb : Nat) (ah : Bool) (aa : Option Addr) (k cap : Nat) (p N : Int) (PR : World → Value → Prop) (base : Nat) (i : Nat) (W : World) (xv : Value) : Prop :=
  match i with
  | 0 => xv = .pointer (some ⟨kb, 1, none⟩)
  | 1 => xv = .slice aa k cap
  | 2 => xv = .pointer (some ⟨c, 0, none⟩)
  | 3 => xv = .int .i64 p
  | 4 => xv = .pointer (some ⟨sb, 0, none⟩)
  | 5 => xv = .int .i64 N
  | 6 => xv = .agg #[.int .i64 p, .int .i64 N, .int .i64 0]
  | 7 => PR W xv
  | 8 => ∃ g u, xv = .slice (some ⟨g, 0, none⟩) 1 1 ∧ W.cell? ⟨g, 0, none⟩ = some u ∧ g < W.heap.size ∧ base ≤ g ∧ PR W u
  | _ => True
theorem chg_cell {W W' : World} {c g o : Nat} {u : Value} (qo : Chg W W' c (c + 1)) (hg : g < W.heap.size) (hc : g ≠ c) (h : W.cell? ⟨g, o, none⟩ = some u) : W'.cell? ⟨g, o, none⟩ = some u := by
  rw [← h]
  unfold World.cell?
  simp only [qo.block g hg (by omega)]
theorem qRl_old (c kb sb : Nat) (ah : Bool) (aa : Option Addr) (k cap : Nat) (p N : Int) (PR : World → Value → Prop) (base : Nat) (hcb : c < base) (hM : ∀ W W' u, PR W u → Chg W W' c (c + 1) → PR W' u) (i : Nat) (W W' : World) (xv : Value) (h : qRl c kb sb ah aa k cap p N PR base i W xv) (qo : Chg W W' c (c + 1)) : qRl c kb sb ah aa k cap p N PR base i W' xv := by
  unfold qRl at h ⊢
  split at h
  case h_8 => exact hM _ _ _ h qo
  case h_9 =>
    obtain ⟨g, u, e, hcell, hlt, hb, hp⟩ := h
    exact ⟨g, u, e, chg_cell qo hlt (by omega) hcell, Nat.lt_of_lt_of_le hlt qo.size, hb, hM _ _ _ hp qo⟩
  all_goals first | exact h | trivial
set_option maxRecDepth 100000 in
set_option maxHeartbeats 4000000 in
theorem reg_Rl (w0 : World) (c kb sb : Nat) (ah : Bool) (aa : Option Addr) (k cap : Nat) (p N : Int) (PR : World → Value → Prop) (pa : Option Addr) (pl pc : Nat) (PW : World → Prop) (FIN : World → Value → Prop) (hk9 : k ≤ 9) (lo : Nat) (hlo : lo ≤ w0.heap.size) (hc0 : c < w0.heap.size) (hck : c ≠ kb) (hcs : c ≠ sb)
    (bK : w0.heap[kb]? = some (.cells #[.bool ah, .slice aa k cap] 28 (0, 0))) (bS : w0.heap[sb]? = some (.cells #[.int .i64 N, .slice pa pl pc] 25 (0, 0))) (hkb : ∀ b, (Value.slice aa k cap).ownBlock = some b → b ≠ kb)
    (hM : ∀ W W' u, PR W u → Chg W W' c (c + 1) → PR W' u) (hSl : ∀ W u, PR W u → ∃ ua ul uc, u = .slice ua ul uc) (hPC : ∀ W, PW W → Chg w0 W c (c + 1)) (hPO : ∀ W W', PW W → Old W W' → PW W')
    (KP : ∀ W, Old w0 W → Calls Tryd.prog 44 #[.pointer (some ⟨c, 0, none⟩), .agg #[.int .i64 p, .int .i64 N, .int .i64 0]] W fun e w' => ∃ v, e = .returned v ∧ Chg W w' c (c + 1) ∧ PW w' ∧ PR w' v)
    (HEM : ∀ (W : World) (u : Value), PW W → PR W u → ∃ vs, W.ownsRow lo 23 1 (.slice aa k cap) k vs ∧ (∀ v' w', w'.ownsRow lo 23 1 v' (k + 1) (vs ++ [u]) → W.grownBy w' (Value.slice aa k cap).ownBlock → (v'.ownBlock = (Value.slice aa k cap).ownBlock ∨ v'.ownBlock = some W.heap.size) → FIN (w'.setCell ⟨kb, 1, none⟩ v') v'))
    (Q : Exit → Act → World → Prop) (a0 : Act) (hsz : a0.tmps.size = 38) (ha0 : a0.eval (.tmp 0) = .pointer (some ⟨c, 0, none⟩)) (ha3 : a0.eval (.tmp 3) = .pointer (some ⟨sb, 0, none⟩)) (ha5 : a0.eval (.tmp 5) = .pointer (some ⟨kb, 0, none⟩)) (ha7 : a0.eval (.tmp 7) = .int .i64 p)
    (HK : Hid (∀ (us : Nat → Value) W a5 c5, FIN W (.slice a5 (k + 1) c5) → Q .normal (((putAll a0 ((List.range 9).map fun i => (slotRl i, us i))).put (some 27) (.slice a5 (k + 1) c5)).put (some 28) (.pointer (some ⟨kb, 1, none⟩))) W)) :
    Code.wp Tryd.prog ((Tryd.f24.body.bind (regionAtmul 5)).getD .skip) Q a0 w0 := by
  conv => arg 2; whnf
  obtain ⟨j0, ji, jz0, jz1, jz2⟩ := info_parts Tryd.infoInts
  have pk : ∀ W, Chg w0 W c (c + 1) → W.cell? ⟨kb, 1, none⟩ = some (.slice aa k cap) := fun W g => by rw [cell_of_row W kb 1 _ _ (0, 0) ((g.block kb (lt_of_some bK) (by omega)).trans bK)]; rfl
  have ps : ∀ W, Chg w0 W c (c + 1) → W.cell? ⟨sb, 0, none⟩ = some (.int .i64 N) := fun W g => by rw [cell_of_row W sb 0 _ _ (0, 0) ((g.block sb (lt_of_some bS) (by omega)).trans bS)]; rfl
  have un := slotRl_no
  refine wp_region_tailM c 7 9 (by decide) PW hPC hPO (by decide) (by kernel_rfl) (by kernel_rfl) (by kernel_rfl) (by kernel_rfl) (by kernel_rfl) slotRl (fun i hi => by rw [hsz]; exact slotRl_lt i hi) (fun i j hi hj => slotRl_inj i hi j hj) (qRl c kb sb ah aa k cap p N PR w0.heap.size) (qRl_old c kb sb ah aa k cap p N PR w0.heap.size hc0 hM) ?_ ?_
  · refine ⟨?_, ?_, ?_, ?_, ?_, ?_, ?_, ?_, ?_, trivial⟩
    · intro a W gm g hF hd
      have e5 := (hF.same 5 (un 5 (by decide))).trans ha5
      obtain ⟨ρ, hρ⟩ : ∃ ρ, a.eval = ρ := ⟨_, rfl⟩
      rw [hρ] at e5
      refine op_val ρ hρ (.pointer (some ⟨kb, 1, none⟩)) ?_ ⟨_, rfl, (Old.refl _).toChg _ _, (fun h => absurd h (by decide)), (fun _ => Old.refl _), rfl⟩
      clear g gm hF hd hρ HK HEM un KP hM hPC hPO ha0 ha3 ha5 ha7 pk ps ji jz0 jz1 jz2
      go_simp
    · intro a W gm g hF hd
      have h0 : a.eval (.tmp 18) = .pointer (some ⟨kb, 1, none⟩) := hd ⟨0, .data⟩ (by simp) rfl
      have kk := pk W g
      obtain ⟨ρ, hρ⟩ : ∃ ρ, a.eval = ρ := ⟨_, rfl⟩
      rw [hρ] at h0
      refine op_val ρ hρ (.slice aa k cap) ?_ ⟨_, rfl, (Old.refl _).toChg _ _, (fun h => absurd h (by decide)), (fun _ => Old.refl _), rfl⟩
      clear g gm hF hd hρ HK HEM un KP hM hPC hPO ha0 ha3 ha5 ha7 pk ps ji jz0 jz1 jz2
      go_simp
    · intro a W gm g hF hd
      have e0 := (hF.same 0 (un 0 (by decide))).trans ha0
      obtain ⟨ρ, hρ⟩ : ∃ ρ, a.eval = ρ := ⟨_, rfl⟩
      rw [hρ] at e0
      refine op_val ρ hρ (.pointer (some ⟨c, 0, none⟩)) ?_ ⟨_, rfl, (Old.refl _).toChg _ _, (fun h => absurd h (by decide)), (fun _ => Old.refl _), rfl⟩
      clear g gm hF hd hρ HK HEM un KP hM hPC hPO ha0 ha3 ha5 ha7 pk ps ji jz0 jz1 jz2
      go_simp
    · intro a W gm g hF hd
      have e7 := (hF.same 7 (un 7 (by decide))).trans ha7
      obtain ⟨ρ, hρ⟩ : ∃ ρ, a.eval = ρ := ⟨_, rfl⟩
      rw [hρ] at e7
      refine op_val ρ hρ (.int .i64 p) ?_ ⟨_, rfl, (Old.refl _).toChg _ _, (fun h => absurd h (by decide)), (fun _ => Old.refl _), rfl⟩
      clear g gm hF hd hρ HK HEM un KP hM hPC hPO ha0 ha3 ha5 ha7 pk ps ji jz0 jz1 jz2
      go_simp
    · intro a W gm g hF hd
      have e3 := (hF.same 3 (un 3 (by decide))).trans ha3
      obtain ⟨ρ, hρ⟩ : ∃ ρ, a.eval = ρ := ⟨_, rfl⟩
      rw [hρ] at e3
      refine op_val ρ hρ (.pointer (some ⟨sb, 0, none⟩)) ?_ ⟨_, rfl, (Old.refl _).toChg _ _, (fun h => absurd h (by decide)), (fun _ => Old.refl _), rfl⟩
      clear g gm hF hd hρ HK HEM un KP hM hPC hPO ha0 ha3 ha5 ha7 pk ps ji jz0 jz1 jz2
      go_simp
    · intro a W gm g hF hd
      have h4 : a.eval (.tmp 22) = .pointer (some ⟨sb, 0, none⟩) := hd ⟨4, .data⟩ (by simp) rfl
      have kk := ps W g
      obtain ⟨ρ, hρ⟩ : ∃ ρ, a.eval = ρ := ⟨_, rfl⟩
      rw [hρ] at h4
      refine op_val ρ hρ (.int .i64 N) ?_ ⟨_, rfl, (Old.refl _).toChg _ _, (fun h => absurd h (by decide)), (fun _ => Old.refl _), rfl⟩
      clear g gm hF hd hρ HK HEM un KP hM hPC hPO ha0 ha3 ha5 ha7 pk ps ji jz0 jz1 jz2
      go_simp
    · intro a W gm g hF hd
      have h3 : a.eval (.tmp 21) = .int .i64 p := hd ⟨3, .data⟩ (by simp) rfl
      have h5 : a.eval (.tmp 23) = .int .i64 N := hd ⟨5, .data⟩ (by simp) rfl
      obtain ⟨ρ, hρ⟩ : ∃ ρ, a.eval = ρ := ⟨_, rfl⟩
      rw [hρ] at h3 h5
      refine op_val ρ hρ (.agg #[.int .i64 p, .int .i64 N, .int .i64 0]) ?_ ⟨_, rfl, (Old.refl _).toChg _ _, (fun h => absurd h (by decide)), (fun _ => Old.refl _), rfl⟩
      clear g gm hF hd hρ HK HEM un KP hM hPC hPO ha0 ha3 ha5 ha7 pk ps ji jz0 jz1 jz2
      go_simp
    · intro a W gm g hF hd
      have h2 : a.eval (.tmp 20) = .pointer (some ⟨c, 0, none⟩) := hd ⟨2, .data⟩ (by simp) rfl
      have h6 : a.eval (.tmp 24) = .agg #[.int .i64 p, .int .i64 N, .int .i64 0] := hd ⟨6, .data⟩ (by simp) rfl
      refine op_call_ret (R := fun v w' => Chg W w' c (c + 1) ∧ PW w' ∧ PR w' v) Tryd.call44 (vs := #[.pointer (some ⟨c, 0, none⟩), .agg #[.int .i64 p, .int .i64 N, .int .i64 0]]) (by simp [h2, h6]) (KP W (gm rfl)) ?_
      rintro x w' ⟨g', hp, hr⟩
      exact ⟨_, rfl, g', (fun _ => hp), (fun h => absurd rfl h), hr⟩
    · intro a W gm g hF hd
      have h7 : PR W (a.eval (.tmp 25)) := hd ⟨7, .data⟩ (by simp) rfl
      obtain ⟨u, hu⟩ : ∃ u, a.eval (.tmp 25) = u := ⟨_, rfl⟩
      rw [hu] at h7
      obtain ⟨ua, ul, uc, rfl⟩ := hSl W u h7
      obtain ⟨ρ, hρ⟩ : ∃ ρ, a.eval = ρ := ⟨_, rfl⟩
      rw [hρ] at hu
      refine op_valRI (W' := W.alloc (.cells #[.slice ua ul uc] 23)) ρ hρ (.slice (some ⟨W.heap.size, 0, none⟩) 1 1) ?_ ⟨_, rfl, ((Old.refl W).alloc _).toChg _ _, (fun h => absurd h (by decide)), (fun _ => (Old.refl W).alloc _), W.heap.size, _, rfl, cell_at _ _ _ _ _ rfl, by simp, g.size, hM _ _ _ h7 (((Old.refl W).alloc _).toChg _ _)⟩
      clear h7
      clear g gm hF hd hρ HK HEM un KP hM hPC hPO ha0 ha3 ha5 ha7 pk ps ji jz0 jz1 jz2
      go_simp
  · intro a W g hF hq
    have gC := hPC W g
    have h0 : a.eval (.tmp 19) = .slice aa k cap := hq 1 (by decide)
    have hb : a.eval (.tmp 5) = .pointer (some ⟨kb, 0, none⟩) := (hF.same 5 (un 5 (by decide))).trans ha5
    obtain ⟨gg, u, h8, hcell, hlt, _, hpr⟩ : ∃ gg u, a.eval (.tmp 26) = .slice (some ⟨gg, 0, none⟩) 1 1 ∧ W.cell? ⟨gg, 0, none⟩ = some u ∧ gg < W.heap.size ∧ w0.heap.size ≤ gg ∧ PR W u := hq 8 (by decide)
    obtain ⟨ua, ul, uc, rfl⟩ := hSl W u hpr
    obtain ⟨vs, ov, hem⟩ := HEM W _ g hpr
    have hp := fram_put hF (fun i j hi hj => slotRl_inj i hi j hj)
    refine op_append_at3 _ _ 26 rfl lo 23 j0 (.slice none 0 0) 1 24 Tryd.underlying26 ji jz0 jz1 jz2 rfl (by decide) _ k vs h0 ov ⟨gg, 0, none⟩ 1 1 [.slice ua ul uc] h8 rfl ?_ (by simp [Value.oneCell']) (by unfold maxLen; omega) (by omega) (Nat.le_trans hlo gC.size) ?_
    · intro j u hj
      match j, hj with
      | 0, hj =>
        have : Value.slice ua ul uc = u := by simpa using hj
        subst this
        exact hcell
      | j + 1, hj => simp at hj
    · intro v' w' o5 g5 x5 l5
      have hfin := hem v' w' o5 g5 l5
      obtain ⟨a5, c5, e5⟩ : ∃ a5 c5, v' = .slice a5 (k + 1) c5 := by
        rcases o5.2 with ⟨h1, h2⟩ | ⟨p, cp, cur, h1, _⟩
        · omega
        · exact ⟨_, _, h1⟩
      subst e5
      have hk2 := HK.out (fun i => a.eval (.tmp (slotRl i))) _ a5 c5 hfin
      rw [← hp] at hk2
      have hkl : kb < W.heap.size := Nat.lt_of_lt_of_le (lt_of_some bK) gC.size
      have hK5 : w'.heap[kb]? = some (.cells #[.bool ah, .slice aa k cap] 28 (0, 0)) := ((g5.block kb hkl (fun e => hkb kb e.symm rfl)).trans (gC.block kb (lt_of_some bK) (by omega))).trans bK
      have hc5 : w'.cell? ⟨kb, 1, none⟩ = some (.slice aa k cap) := by rw [cell_of_row _ _ _ _ _ _ hK5]; rfl
      have hf5 : w'.frozen? ⟨kb, 1, none⟩ = false := frozen_of_row _ _ _ _ _ hK5
      have sz0 : a.tmps.size = 38 := hF.size.trans hsz
      have e1 : (a.put (some 27) (.slice a5 (k + 1) c5)).eval (.tmp 5) = .pointer (some ⟨kb, 0, none⟩) := (eval_put_other _ _ _ _ (by decide)).trans hb
      have sz1 : (a.put (some 27) (.slice a5 (k + 1) c5)).tmps.size = 38 := by simpa [Act.put] using sz0
      have e2 : ((a.put (some 27) (.slice a5 (k + 1) c5)).put (some 28) (.pointer (some ⟨kb, 1, none⟩))).eval (.tmp 27) = .slice a5 (k + 1) c5 := (eval_put_other _ _ _ _ (by decide)).trans (eval_put_same _ _ _ (by rw [sz0]; decide))
      have e3 : ((a.put (some 27) (.slice a5 (k + 1) c5)).put (some 28) (.pointer (some ⟨kb, 1, none⟩))).eval (.tmp 28) = .pointer (some ⟨kb, 1, none⟩) := eval_put_same _ _ _ (by rw [sz1]; decide)
      clear hem ov hcell h8 h0 hq hF hb un g gC g5 o5 l5 x5 hp hkl hK5 hfin sz0 sz1 ha5 pk ps
      generalize (a.put (some 27) (.slice a5 (k + 1) c5)) = b1 at *
      obtain ⟨ρ, hρ⟩ : ∃ ρ, b1.eval = ρ := ⟨_, rfl⟩
      rw [hρ] at e1
      refine op_val ρ hρ (.pointer (some ⟨kb, 1, none⟩)) ?_ ?_
      · clear hρ e2 e3 hk2
        go_simp
      · show tailWp _ _ [_] _ _
        generalize (b1.put (some 28) (.pointer (some ⟨kb, 1, none⟩))) = b2 at *
        obtain ⟨ρ2, hρ2⟩ : ∃ ρ, b2.eval = ρ := ⟨_, rfl⟩
        rw [hρ2] at e2 e3
        refine op_skp (W' := w'.setCell ⟨kb, 1, none⟩ (.slice a5 (k + 1) c5)) ρ2 hρ2 ?_ ?_
        · clear hρ hρ2 hk2 e1
          go_simp
        · exact hk2
end Go.Proofs.YtglbegbhekcddaaDoor
/- Proved: the contract of the draw of a space: a size and one to five numbers are told, nothing panics, and nothing that was there changes but the cursor. -/
namespace Go.Proofs.YtglbegbhekcddaaDoor
open Go.ChangeShapes Go.WideShapes Go.ChangeAt Go.RowKit
set_option linter.unusedVariables false
set_option linter.unusedSimpArgs false
def szD (n : Int) : Prop := n = 2 ∨ n = 4 ∨ n = 8 ∨ n = 16 ∨ n = 0 ∨ n = 3 ∨ n = 32
def PrB (x : Int) : Prop := 1 ≤ x ∧ x ≤ 268435456
def CuSp (w : World) (code : Value) (len c B : Nat) (e : Ending) (w' : World) : Prop :=
  ∃ n a cp xs, e = .returned (.agg #[.int .i64 n, .slice a xs.length cp]) ∧ szD n ∧ (1 ≤ xs.length ∧ xs.length ≤ 4) ∧ (∀ x ∈ xs, PrB x) ∧ Chg w w' c (c + 1) ∧ Cu w' code len c B ∧ Own w' w.heap.size (.slice a xs.length cp) xs
structure SSt (w : World) (code : Value) (len c kb lo n B : Nat) (nb : Int) (a : Option Addr) (cp : Nat) (xs : List Int) (W : World) : Prop where
  hl : xs.length = n
  ho : W.ownsRow lo 3 1 (.slice a n cp) n (xs.map (Value.int .i64))
  hk : Bk W kb #[.int .i64 nb, .slice a n cp] 25
  hr : Bk W w.heap.size #[.int .i64 0, .slice none 0 0] 25
  hc : Cu W code len c B
  hg : Chg w W c (c + 1)
  hlt : w.heap.size < kb
  hcl : c < w.heap.size
  hlo : kb < lo
theorem SSt.draw {w W W' : World} {code : Value} {len c kb lo n B B' : Nat} {nb : Int} {a : Option Addr} {cp : Nat} {xs : List Int} (h : SSt w code len c kb lo n B nb a cp xs W) (g : Chg W W' c (c + 1)) (C : Cu W' code len c B') : SSt w code len c kb lo n B' nb a cp xs W' :=
  ⟨h.hl, row_far h.ho (fun b hb hb2 => g.block b hb2 (Or.inr (by have := h.hlt; have := h.hlo; have := h.hcl; omega))), h.hk.chg g (Or.inr (by have := h.hlt; have := h.hlo; have := h.hcl; omega)), h.hr.chg g (Or.inr (by have := h.hcl; omega)), C, h.hg.trans g, h.hlt, h.hcl, h.hlo⟩
theorem SSt.size {w W : World} {code : Value} {len c kb lo n B : Nat} {nb : Int} {a : Option Addr} {cp : Nat} {xs : List Int} (h : SSt w code len c kb lo n B nb a cp xs W) (b : Int) : SSt w code len c kb lo n B b a cp xs (W.setCell ⟨kb, 0, none⟩ (.int .i64 b)) :=
  ⟨h.hl, row_far h.ho (fun b' hb _ => heap_setCell_other _ _ _ _ (by have := h.hlo; show b' ≠ kb; omega)), bk_put0W h.hk _, bk_other h.hr (by have := h.hlt; have := h.hlo; show w.heap.size ≠ kb; omega) _, cu_own h.hc (by have := h.hlt; have := h.hlo; have := h.hcl; show c < kb; omega) _, chg_own h.hg (by have := h.hlt; have := h.hlo; show w.heap.size ≤ kb; omega) _, h.hlt, h.hcl, h.hlo⟩
theorem SSt.prime {w W : World} {code : Value} {len c kb lo n B g : Nat} {nb : Int} {cp : Nat} {xs : List Int} (h : SSt w code len c kb lo n B nb (some ⟨g, 0, none⟩) cp xs W) (i : Nat) (y : Int) : SSt w code len c kb lo n B nb (some ⟨g, 0, none⟩) cp (xs.set i y) (W.setCell ⟨g, i, none⟩ (.int .i64 y)) := by
  have hgk : lo ≤ g := by
    rcases h.ho.2 with ⟨h1, _⟩ | ⟨g', cap, cur, e, hb, _⟩
    · cases h1
    · injection e with e1
      injection e1 with e2
      injection e2 with e3
      omega
  have st := (World.ownsRow.stored h.ho i (.int .i64 y)).1
  have := h.hlt
  have := h.hlo
  have := h.hcl
  refine ⟨by rw [List.length_set]; exact h.hl, ?_, bk_other h.hk (by show kb ≠ g; omega) _, bk_other h.hr (by show w.heap.size ≠ g; omega) _, cu_own h.hc (by show c < g; omega) _, chg_own h.hg (by show w.heap.size ≤ g; omega) _, h.hlt, h.hcl, h.hlo⟩
  rw [List.map_set]
  simpa using st
theorem SSt.cell {w W : World} {code : Value} {len c kb lo n B g : Nat} {nb : Int} {cp : Nat} {xs : List Int} (h : SSt w code len c kb lo n B nb (some ⟨g, 0, none⟩) cp xs W) (i : Nat) (hi : i < n) : W.cell? ⟨g, i, none⟩ = some (.int .i64 (xs.getD i 0)) ∧ W.frozen? ⟨g, i, none⟩ = false := by
  have hx : i < xs.length := by rw [h.hl]; exact hi
  have h1 := World.ownsRow.cellAt h.ho i (by omega)
  have h2 := World.ownsRow.frozenAt h.ho i
  refine ⟨?_, by simpa using h2⟩
  have h3 : W.cell? ⟨g, i, none⟩ = (xs.map (Value.int .i64))[i]? := by simpa using h1
  rw [h3]
  simp [List.getD, hx]
theorem SSt.addr {w W : World} {code : Value} {len c kb lo n B : Nat} {nb : Int} {a : Option Addr} {cp : Nat} {xs : List Int} (h : SSt w code len c kb lo n B nb a cp xs W) (hn : 0 < n) : ∃ g, a = some ⟨g, 0, none⟩ := by
  rcases h.ho.2 with ⟨h1, h2⟩ | ⟨g, cap, cur, e, _⟩
  · omega
  · injection e with e1
    exact ⟨g, e1⟩
theorem SSt.push {w W w6 : World} {code : Value} {len c kb lo n B : Nat} {nb : Int} {a a5 : Option Addr} {cp c5 : Nat} {xs : List Int} (y : Int) (h : SSt w code len c kb lo n B nb a cp xs W) (o5 : w6.ownsRow lo 3 1 (.slice a5 (n + 1) c5) (n + 1) (xs.map (Value.int .i64) ++ [Value.int .i64 y])) (g5 : W.grownBy w6 (Value.slice a n cp).ownBlock) : Bk w6 kb #[.int .i64 nb, .slice a n cp] 25 ∧ SSt w code len c kb lo (n + 1) B nb a5 c5 (xs ++ [y]) (w6.setCell ⟨kb, 1, none⟩ (.slice a5 (n + 1) c5)) := by
  have hob : ∀ j, (Value.slice a n cp).ownBlock = some j → kb < j := fun j e => by
    have := h.hlo
    rcases h.ho.2 with ⟨h1, _⟩ | ⟨g', cap, cur, e1, hb, _⟩
    · rw [h1] at e
      cases e
    · rw [e1] at e
      have : g' = j := Option.some.inj e
      omega
  have := h.hlt
  have := h.hlo
  have := h.hcl
  have hk6 : Bk w6 kb #[.int .i64 nb, .slice a n cp] 25 := bk_grownW h.hk g5 hob
  refine ⟨hk6, by rw [List.length_append, h.hl]; rfl, ?_, bk_put1W hk6 _, bk_other (bk_grownW h.hr g5 (fun j e => by have := hob j e; omega)) (by show w.heap.size ≠ kb; omega) _, cu_own (h.hc.grown g5 (fun j e => by have := hob j e; omega)) (by show c < kb; omega) _, chg_own (chg_grown h.hg g5 (fun j e => by have := hob j e; omega)) (by show w.heap.size ≤ kb; omega) _, h.hlt, h.hcl, h.hlo⟩
  rw [List.map_append]
  exact row_far o5 (fun b' hb _ => heap_setCell_other _ _ _ _ (by have := h.hlo; show b' ≠ kb; omega))
theorem SSt.ends {w W : World} {code : Value} {len c kb lo n B B' : Nat} {nb : Int} {a : Option Addr} {cp : Nat} {xs : List Int} (h : SSt w code len c kb lo n B nb a cp xs W) (hs : szD nb) (hn : 1 ≤ n ∧ n ≤ 4) (hx : ∀ x ∈ xs, PrB x) (hB : B ≤ B') : CuSp w code len c B' (.returned (.agg #[.int .i64 nb, .slice a n cp])) ((W.setCell ⟨w.heap.size, 0, none⟩ (.int .i64 nb)).setCell ⟨w.heap.size, 1, none⟩ (.slice a n cp)) := by
  have := h.hlt
  have := h.hcl
  have := h.hlo
  refine ⟨nb, a, cp, xs, by rw [h.hl], hs, by rw [h.hl]; exact hn, hx, chg_own (chg_own h.hg (Nat.le_refl _) _) (Nat.le_refl _) _, (cu_own (cu_own h.hc (by exact h.hcl) _) (by exact h.hcl) _).mono hB, ?_⟩
  refine Own.low (base := lo) ?_ (by omega)
  unfold Own
  rw [h.hl]
  exact row_far h.ho (fun b' hb _ => (heap_setCell_other _ _ _ _ (by show b' ≠ w.heap.size; omega)).trans (heap_setCell_other _ _ _ _ (by show b' ≠ w.heap.size; omega)))
theorem alf_litS (W : World) (al : List Int) (L : Nat) (h : al.length = L) (t : TypeId) : AlF (W.alloc (.cells (al.map (Value.int .i64)).toArray t)) W.heap.size L al :=
  ⟨by simp, fun i hi => by rw [cell_at _ _ _ _ _ rfl]; simp [List.getD, show i < al.length by omega]⟩
theorem AlF.eq {W W' : World} {g L : Nat} {al : List Int} (h : AlF W g L al) (hs : g < W'.heap.size) (e : W'.heap[g]? = W.heap[g]?) : AlF W' g L al :=
  ⟨hs, fun i hi => by
    rw [← h.2 i hi]
    unfold World.cell?
    simp only [e]⟩
theorem SSt.alf {w W w6 : World} {code : Value} {len c kb lo n B gA L : Nat} {nb : Int} {a : Option Addr} {cp : Nat} {xs al : List Int} (h : SSt w code len c kb lo n B nb a cp xs W) (hA : AlF W gA L al) (h1 : kb < gA) (h2 : gA < lo) (v : Value) (g5 : W.grownBy w6 (Value.slice a n cp).ownBlock) : AlF (w6.setCell ⟨kb, 1, none⟩ v) gA L al := by
  have hob : ∀ j, (Value.slice a n cp).ownBlock = some j → lo ≤ j := fun j e => by
    rcases h.ho.2 with ⟨h1, _⟩ | ⟨g', cap, cur, e1, hb, _⟩
    · rw [h1] at e
      cases e
    · rw [e1] at e
      have : g' = j := Option.some.inj e
      omega
  have e6 : w6.heap[gA]? = W.heap[gA]? := g5.block gA hA.1 (fun e => by have := hob gA e.symm; omega)
  have s6 : gA < w6.heap.size := by
    have := (Array.getElem?_eq_some_iff.1 (e6.trans (Array.getElem?_eq_getElem hA.1))).1
    exact this
  exact hA.eq (by rw [World.size_setCell]; exact s6) ((heap_setCell_other _ _ _ _ (by show gA ≠ kb; omega)).trans e6)
theorem SSt.nk {w W : World} {code : Value} {len c kb lo n B : Nat} {nb : Int} {a : Option Addr} {cp : Nat} {xs : List Int} (h : SSt w code len c kb lo n B nb a cp xs W) : ∀ b, (Value.slice a n cp).ownBlock = some b → b ≠ kb := fun j e => by
  have := h.hlo
  rcases h.ho.2 with ⟨h1, _⟩ | ⟨g', cap, cur, e1, hb, _⟩
  · rw [h1] at e
    cases e
  · rw [e1] at e
    have : g' = j := Option.some.inj e
    omega
theorem SSt.old {w W W' : World} {code : Value} {len c kb lo n B : Nat} {nb : Int} {a : Option Addr} {cp : Nat} {xs : List Int} (h : SSt w code len c kb lo n B nb a cp xs W) (g : Old W W') : SSt w code len c kb lo n B nb a cp xs W' := h.draw (g.toChg _ _) (h.hc.old g)
set_option maxRecDepth 100000 in
set_option maxHeartbeats 8000000 in
theorem space_c {w : World} {code : Value} {len c B : Nat} (h : Cu w code len c B) (hB : B ≤ 34359738368) (hl : len ≤ 9223372036854775807) :
    Calls Tryd.prog 23 #[.pointer (some ⟨c, 0, none⟩)] w fun e w' => CuSp w code len c (B + 1000) e w' := by
  obtain ⟨i0, hi, hz0, hz1, hz2⟩ := info_parts Tryd.infoInt
  have hcw := h.lt
  have HR0 : Hid (Bk (w.alloc (.cells #[.int .i64 0, .slice none 0 0] 25)) w.heap.size #[.int .i64 0, .slice none 0 0] 25) := Bk.new' w _ _ rfl
  have HG0 : Hid (Chg w (w.alloc (.cells #[.int .i64 0, .slice none 0 0] 25)) c (c + 1)) := ((Old.refl w).alloc _).toChg _ _
  have C0 := h.old ((Old.refl w).alloc (.cells #[.int .i64 0, .slice none 0 0] 25))
  have c1 := size_c C0 (by omega) hl
  clear h C0
  go_enter Tryd.func23, Tryd.ntmps23
  go_wp2_with fail
  refine c1.mono ?_
  rintro e w1 ⟨⟨n, hn, rfl⟩, g1, C1⟩
  have hnz : szD n := by unfold sz4I at hn; unfold szD; omega
  have HG1 := hid (HG0.out.trans g1)
  have HR1 := hid (HR0.out.chg g1 (Or.inr (by omega)))
  have HC1 := hid C1
  clear g1 C1 c1 HG0 HR0 hn
  go_wp2_with fail
  refine (primes_c _).mono ?_
  obtain ⟨W1, hW1⟩ : ∃ W1, w1.alloc (.cells #[.int .i64 n, .slice none 0 0] 25) = W1 := ⟨_, rfl⟩
  have sz1 : W1.heap.size = w1.heap.size + 1 := by rw [← hW1]; simp
  have KB1 : Hid (Bk W1 w1.heap.size #[.int .i64 n, .slice none 0 0] 25) := by rw [← hW1]; exact Bk.new' w1 _ _ rfl
  have HR2 : Hid (Bk W1 w.heap.size #[.int .i64 0, .slice none 0 0] 25) := by rw [← hW1]; exact HR1.out.alloc _
  have HC2 : Hid (Cu W1 code len c (B + 2)) := by rw [← hW1]; exact HC1.out.old ((Old.refl w1).alloc _)
  have HG2 : Hid (Chg w W1 c (c + 1)) := by rw [← hW1]; exact chg_alloc HG1.out _
  rw [hW1]
  obtain ⟨kb, hkb⟩ : ∃ kb, w1.heap.size = kb := ⟨_, rfl⟩
  have hwk : w.heap.size < kb := by rw [← hkb]; exact HR1.out.lt
  rw [hkb] at KB1 sz1 ⊢
  rintro e w2 ⟨rfl, hw2⟩
  have HW2 := hid hw2
  have A2 : Hid (AlF w2 W1.heap.size 10 [268435361, 268435009, 268434977, 268434721, 268434401, 268433761, 268433569, 268433441, 268433377, 268433057]) := by rw [HW2.out]; exact alf_litS W1 [268435361, 268435009, 268434977, 268434721, 268434401, 268433761, 268433569, 268433441, 268433377, 268433057] 10 rfl 3
  have g2 : Hid (Old W1 w2) := by rw [HW2.out]; exact (Old.refl W1).alloc _
  have sz2 : w2.heap.size = kb + 2 := by rw [HW2.out]; simp [sz1]
  rw [sz1] at A2 ⊢
  clear HG1 HR1 HC1
  have c3 := one_c (HC2.out.old g2.out) (by omega) hl 2 (by omega) (by omega)
  clear hw2 HW2 hW1 hkb
  go_wp2_with fail
  refine c3.mono ?_
  rintro e w3 ⟨⟨o, rfl⟩, gq, Cq⟩
  have HC3 := hid Cq
  have HG3 := hid (HG2.out.trans ((g2.out.toChg c (c + 1)).trans gq))
  have KB3 := hid ((KB1.out.old g2.out).chg gq (Or.inr (by omega)))
  have HR3 := hid ((HR2.out.old g2.out).chg gq (Or.inr (by omega)))
  have A3 := hid (A2.out.chg gq (by omega))
  have sz3 : kb + 2 ≤ w3.heap.size := by rw [← sz2]; exact gq.size
  clear gq Cq c3 KB1 HR2 HC2 HG2 A2 g2
  cases o
  · obtain ⟨gA, hgE⟩ : ∃ gA, kb + 1 = gA := ⟨_, rfl⟩
    obtain ⟨lo, hlo⟩ : ∃ lo, gA + 1 = lo := ⟨_, rfl⟩
    have hgA : kb < gA := by omega
    have hgL : gA < lo := by omega
    have hgc : c < gA := by omega
    rw [hgE] at A3
    rw [hgE]
    have S3 : Hid (SSt w code len c kb lo 0 (B + 2 + 2) n none 0 [] w3) := ⟨rfl, ⟨rfl, .inl ⟨rfl, rfl⟩⟩, KB3.out, HR3.out, HC3.out, HG3.out, hwk, hcw, by omega⟩
    clear KB3 HR3 HC3 HG3
    obtain ⟨al, hal⟩ : ∃ al : List Int, [268435361, 268435009, 268434977, 268434721, 268434401, 268433761, 268433569, 268433441, 268433377, 268433057] = al := ⟨_, rfl⟩
    have HAB : Hid (∀ i, i < 10 → 1 ≤ al.getD i 0 ∧ al.getD i 0 ≤ 268435456) := by rw [← hal]; show ∀ i, i < 10 → _; decide
    rw [hal] at A3
    clear hal
    have c5 := pick_c S3.out.hc (by omega) hl 10 (by omega) (by omega)
    go_wp2_with fail
    refine c5.mono ?_
    rintro e w5 ⟨⟨s, hs, rfl⟩, gq, Cq⟩
    have S5 := hid (S3.out.draw gq Cq)
    have A5 := hid (A3.out.chg gq hgc)
    clear gq Cq c5 S3 A3
    have c6 := pick_c S5.out.hc (by omega) hl 3 (by omega) (by omega)
    go_wp2_with fail
    refine c6.mono ?_
    rintro e w6 ⟨⟨r, hr, rfl⟩, gq, Cq⟩
    have S6 := hid (S5.out.draw gq Cq)
    have A6 := hid (A5.out.chg gq hgc)
    clear gq Cq c6 S5 A5
    obtain ⟨n1, hn1, er⟩ : ∃ n1 : Nat, (1 ≤ n1 ∧ n1 ≤ 3) ∧ 1 + r = n1 := ⟨(1 + r).toNat, by omega, by omega⟩
    go_wp2_with fail
    try rw [er]
    clear er hr
    go_loopw [6] (fun kv W' => ∃ (j k : Nat) (a : Option Addr) (cp : Nat) (xs : List Int), j + k = n1 ∧ kv = .int .i64 (k : Int) ∧ Hid (∀ x ∈ xs, PrB x) ∧ Hid (AlF W' gA 10 al) ∧ Hid (SSt w code len c kb lo j (B + 2 + 2 + 2 + 2) n a cp xs W')) (fun kv _ => (intOf kv).toNat)
    case atStart => exact ⟨0, n1, none, 0, [], by omega, rfl, (fun x hx => by cases hx), A6, S6⟩
    case round =>
      obtain ⟨j, k, a, cp, xs, hjk, rfl, HX, A1, S1⟩ := hrel
      clear S6 A6
      by_cases hlt : 0 < k
      · obtain ⟨k', hk'⟩ : ∃ k' : Nat, (k : Int) - 1 = (k' : Int) ∧ k' + 1 = k := ⟨k - 1, by omega, by omega⟩
        have es := hk'.1
        have ek := hk'.2
        clear hk'
        have d1 : decide ((0 : Int) < (k : Int)) = true := decide_eq_true (by omega)
        have d2 : decide (0 < k) = true := decide_eq_true (by omega)
        have em : (s + (k : Int)).tmod 10 = (s + (k : Int)) % 10 := Int.tmod_eq_emod_of_nonneg (by omega)
        obtain ⟨i, hi1, ei⟩ : ∃ i : Nat, i < 10 ∧ (s + (k : Int)) % 10 = (i : Int) := ⟨((s + (k : Int)) % 10).toNat, by omega, by omega⟩
        rw [ei] at em
        have cv := A1.out.2 i hi1
        have hyb := HAB.out i hi1
        obtain ⟨y, hy⟩ : ∃ y, al.getD i 0 = y := ⟨_, rfl⟩
        rw [hy] at cv hyb
        clear hy
        have hi2 : (i : Int) < 10 := by omega
        have k1 := S1.out.hk.c (i := 1) rfl
        go_wp2_with fail
        refine reg_Sp wr kb n a j cp y gA 10 i s (k : Int) (fun W v => ∃ a5 c5, v = .slice a5 (j + 1) c5 ∧ AlF W gA 10 al ∧ SSt w code len c kb lo (j + 1) (B + 2 + 2 + 2 + 2) n a5 c5 (xs ++ [y]) W) (by omega) lo (by have := A1.out.1; omega) S1.out.hk S1.out.nk k1 cv (by omega) (by omega) (by omega) em hi1 hi2 (by omega) (fun W g => ⟨_, (S1.out.old g).ho, fun v' w' o5 g5 => by obtain ⟨a5, c5, rfl⟩ := sliceOfRowW o5; exact ⟨a5, c5, rfl, (S1.out.old g).alf (A1.out.chg (g.toChg c (c + 1)) hgc) hgA hgL _ g5, ((S1.out.old g).push y o5 g5).2⟩⟩) _ _ ?_ ?_ ?_ ?_ ?_ ?_
        iterate 5 (· exact rfl)
        intro us W7 a5 c5 h7
        obtain ⟨a6, c6, e6, A7, S7⟩ := h7
        have A7 := hid A7
        have S7 := hid S7
        injection e6 with e61 e62 e63
        subst e61 e63
        simp only [putAll, Act.put, slotSp, List.range, List.range.loop, List.map_cons, List.map_nil, List.getD_cons_zero, List.getD_cons_succ, List.setIfInBounds_toArray, List.set_cons_succ, List.set_cons_zero]
        go_wp2_with fail
        exact ⟨⟨j + 1, k', a5, c5, xs ++ [y], by omega, by first | rfl | go_num, (fun x hx => by rcases List.mem_append.1 hx with h1 | h1; exact HX.out x h1; simp at h1; subst h1; exact hyb), A7, S7⟩, by simp [intOf]; omega⟩
      · obtain rfl : k = 0 := by omega
        obtain rfl : j = n1 := by omega
        have d1 : decide ((0 : Int) < ((0 : Nat) : Int)) = false := rfl
        clear hlt hjk HAB
        have c7 := pick_c S1.out.hc (by omega) hl 40 (by omega) (by omega)
        go_wp2_with fail
        refine c7.mono ?_
        rintro e w15 ⟨⟨u, hu, rfl⟩, gq, Cq⟩
        have S2 := hid (S1.out.draw gq Cq)
        have A2 := hid (A1.out.chg gq hgc)
        clear gq Cq c7 S1
        clear A1 d1
        obtain ⟨ga, rfl⟩ := S2.out.addr (by omega)
        have hj0 : (0 : Int) < (j : Int) := by omega
        have hj1 : 0 < j := by omega
        by_cases u0 : u = 0
        · subst u0
          have dq : ((0 : Int) == 0) = true := rfl
          have c8 := among_lit3 S2.out.hc (by omega) hl [0, 3, 32] (by decide) (by decide) 3
          go_wp2_with fail
          refine c8.mono ?_
          rintro e w17 ⟨⟨y, hy, rfl⟩, gq, Cq⟩
          have S3 := hid (S2.out.draw gq Cq)
          clear gq Cq c8 S2
          have p0 := S3.out.hk.c (i := 0) rfl
          have p1 := frozen_of_row _ _ 0 _ _ S3.out.hk
          have S4 := hid (S3.out.size y)
          have hys : szD y := by simp at hy; unfold szD; omega
          have e0 := S4.out.hk.c (i := 0) rfl
          have e1 := S4.out.hk.c (i := 1) rfl
          have r0 := S4.out.hr.c (i := 0) rfl
          have r1 := S4.out.hr.c (i := 1) rfl
          have t0 := frozen_of_row _ _ 0 _ _ S4.out.hr
          have t1 := frozen_of_row _ _ 1 _ _ S4.out.hr
          go_wp2_with fail
          have q0 := (bk_put1W (bk_put0W S4.out.hr (.int .i64 y)) (.slice (some ⟨ga, 0, none⟩) j cp)).c (i := 0) rfl
          have q1 := (bk_put1W (bk_put0W S4.out.hr (.int .i64 y)) (.slice (some ⟨ga, 0, none⟩) j cp)).c (i := 1) rfl
          refine bodyPost_ret (v := .agg #[.int .i64 y, .slice (some ⟨ga, 0, none⟩) j cp]) (by simp [results, Tryd.results23, go_sem, q0, q1]) rfl ?_
          exact S4.out.ends hys (by omega) HX.out (by omega)
        have dq : (u == 0) = false := by simpa using u0
        by_cases u1 : u = 1
        · subst u1
          have dr : ((1 : Int) == 1) = true := rfl
          have e1 := S2.out.hk.c (i := 1) rfl
          have HAS : Hid (∀ W', Chg w15 W' c (c + 1) → W'.cell? ⟨kb, 1, none⟩ = some (.slice (some ⟨ga, 0, none⟩) j cp)) := fun W' q => (S2.out.hk.chg q (Or.inr (by have := S2.out.hlt; have := S2.out.hcl; omega))).c (i := 1) rfl
          go_wp2_with fail
          go_region_held3 (fun W' => W'.cell? ⟨kb, 1, none⟩ = some (.slice (some ⟨ga, 0, none⟩) j cp)) (first | with_reducible exact S11.out.hk.c (i := 1) rfl | with_reducible exact HAS.out _ Q10.out | with_reducible exact HAS.out _ (Old.toChg (Below.drew (Old.refl _)) _ _) | with_reducible exact HAS.out _ (Old.toChg ((Old.refl _).alloc _) _ _) | with_reducible exact HAS.out _ (Old.toChg (Below.drew ((Old.refl _).alloc _)) _ _) | with_reducible exact HAS.out _ (Old.toChg ((Below.drew (Old.refl _)).alloc _) _ _) | with_reducible exact HAS.out _ (Old.toChg (Old.refl _) _ _)) (first | (go_at_call 43; refine (among_c (S2.out.hc.old (Below.drew ((Old.refl w15).alloc _))) (by omega) hl _ [5, 91, 1] (by decide) (by decide) ((row_lit3 w15 [5, 91, 1] (by decide) 3).old (Below.drew (Old.refl _))) (fun b o n cap e => by have hcc := S2.out.hc.lt; injection e with e1; injection e1 with e2; injection e2 with e3; omega)).mono ?_; rintro e w10 ⟨⟨y, hy, rfl⟩, q10, C10⟩; have Q10 := hid ((Old.toChg (Below.drew ((Old.refl w15).alloc _)) c (c + 1)).trans q10); have S10 := hid (S2.out.draw Q10.out C10); have k2 := (S10.out.cell 0 hj1).1; have k3 := (S10.out.cell 0 hj1).2; have S11 := hid (S10.out.prime 0 y); have HY : Hid (∀ x ∈ xs.set 0 y, PrB x) := hid (fun x hx => (List.mem_or_eq_of_mem_set hx).elim (HX.out x) (fun h => by unfold PrB; simp at hy; omega)); clear q10 C10) | fail)
          have e0 := S11.out.hk.c (i := 0) rfl
          have e1 := S11.out.hk.c (i := 1) rfl
          have r0 := S11.out.hr.c (i := 0) rfl
          have r1 := S11.out.hr.c (i := 1) rfl
          have t0 := frozen_of_row _ _ 0 _ _ S11.out.hr
          have t1 := frozen_of_row _ _ 1 _ _ S11.out.hr
          go_wp2_with fail
          have q0 := (bk_put1W (bk_put0W S11.out.hr (.int .i64 n)) (.slice (some ⟨ga, 0, none⟩) j cp)).c (i := 0) rfl
          have q1 := (bk_put1W (bk_put0W S11.out.hr (.int .i64 n)) (.slice (some ⟨ga, 0, none⟩) j cp)).c (i := 1) rfl
          refine bodyPost_ret (v := .agg #[.int .i64 n, .slice (some ⟨ga, 0, none⟩) j cp]) (by simp [results, Tryd.results23, go_sem, q0, q1]) rfl ?_
          exact S11.out.ends hnz (by omega) HY.out (by omega)
        have dr : (u == 1) = false := by simpa using u1
        by_cases u2 : u = 2
        · subst u2
          have dt : ((2 : Int) == 2) = true := rfl
          have k2 := (S2.out.cell 0 hj1).1
          have hxl := S2.out.hl
          have hyb := HX.out (xs.getD 0 0) (by simp [List.getD, show 0 < xs.length by omega])
          obtain ⟨y, hy⟩ : ∃ y, xs.getD 0 0 = y := ⟨_, rfl⟩
          rw [hy] at k2 hyb
          clear hy hxl
          have k1 := S2.out.hk.c (i := 1) rfl
          go_wp2_with fail
          refine reg_Sr w15 kb n (some ⟨ga, 0, none⟩) j cp y ga (fun W v => ∃ a5 c5, v = .slice a5 (j + 1) c5 ∧ AlF W gA 10 al ∧ SSt w code len c kb lo (j + 1) (B + 2 + 2 + 2 + 2 + 2) n a5 c5 (xs ++ [y]) W) (by omega) lo (by have := A2.out.1; omega) S2.out.hk S2.out.nk k1 k2 rfl hj0 (fun W g => ⟨_, (S2.out.old g).ho, fun v' w' o5 g5 => by obtain ⟨a5, c5, rfl⟩ := sliceOfRowW o5; exact ⟨a5, c5, rfl, (S2.out.old g).alf (A2.out.chg (g.toChg c (c + 1)) hgc) hgA hgL _ g5, ((S2.out.old g).push y o5 g5).2⟩⟩) _ _ ?_ ?_ ?_
          iterate 2 (· exact rfl)
          intro us W7 a5 c5 h7
          obtain ⟨a6, c6, e6, A7, S7⟩ := h7
          have A7 := hid A7
          have S7 := hid S7
          injection e6 with e61 e62 e63
          subst e61 e63
          simp only [putAll, Act.put, slotSr, List.range, List.range.loop, List.map_cons, List.map_nil, List.getD_cons_zero, List.getD_cons_succ, List.setIfInBounds_toArray, List.set_cons_succ, List.set_cons_zero]
          have HY : Hid (∀ x ∈ xs ++ [y], PrB x) := hid (fun x hx => (List.mem_append.1 hx).elim (HX.out x) (fun h => by simp at h; subst h; exact hyb))
          have e0 := S7.out.hk.c (i := 0) rfl
          have e1 := S7.out.hk.c (i := 1) rfl
          have r0 := S7.out.hr.c (i := 0) rfl
          have r1 := S7.out.hr.c (i := 1) rfl
          have t0 := frozen_of_row _ _ 0 _ _ S7.out.hr
          have t1 := frozen_of_row _ _ 1 _ _ S7.out.hr
          go_wp2_with fail
          have q0 := (bk_put1W (bk_put0W S7.out.hr (.int .i64 n)) (.slice a5 (j + 1) c5)).c (i := 0) rfl
          have q1 := (bk_put1W (bk_put0W S7.out.hr (.int .i64 n)) (.slice a5 (j + 1) c5)).c (i := 1) rfl
          refine bodyPost_ret (v := .agg #[.int .i64 n, .slice a5 (j + 1) c5]) (by simp [results, Tryd.results23, go_sem, q0, q1]) rfl ?_
          exact S7.out.ends hnz (by omega) HY.out (by omega)
        have dt : (u == 2) = false := by simpa using u2
        have e0 := S2.out.hk.c (i := 0) rfl
        have e1 := S2.out.hk.c (i := 1) rfl
        have r0 := S2.out.hr.c (i := 0) rfl
        have r1 := S2.out.hr.c (i := 1) rfl
        have t0 := frozen_of_row _ _ 0 _ _ S2.out.hr
        have t1 := frozen_of_row _ _ 1 _ _ S2.out.hr
        go_wp2_with fail
        have q0 := (bk_put1W (bk_put0W S2.out.hr (.int .i64 n)) (.slice (some ⟨ga, 0, none⟩) j cp)).c (i := 0) rfl
        have q1 := (bk_put1W (bk_put0W S2.out.hr (.int .i64 n)) (.slice (some ⟨ga, 0, none⟩) j cp)).c (i := 1) rfl
        refine bodyPost_ret (v := .agg #[.int .i64 n, .slice (some ⟨ga, 0, none⟩) j cp]) (by simp [results, Tryd.results23, go_sem, q0, q1]) rfl ?_
        exact S2.out.ends hnz (by omega) HX.out (by omega)
  · go_wp2_with fail
    refine (small_c _).mono ?_
    rintro e w4 ⟨rfl, hw4⟩
    have HW4 := hid hw4
    have A4 : Hid (AlF w4 w3.heap.size 9 [97, 193, 257, 353, 449, 577, 641, 673, 769]) := by rw [HW4.out]; exact alf_litS w3 [97, 193, 257, 353, 449, 577, 641, 673, 769] 9 rfl 3
    have g4 : Hid (Old w3 w4) := by rw [HW4.out]; exact (Old.refl w3).alloc _
    have sz4 : w4.heap.size = w3.heap.size + 1 := by rw [HW4.out]; simp
    obtain ⟨gA, hgE⟩ : ∃ gA, w3.heap.size = gA := ⟨_, rfl⟩
    obtain ⟨lo, hlo⟩ : ∃ lo, gA + 1 = lo := ⟨_, rfl⟩
    rw [hgE] at A4 ⊢
    have hgA : kb < gA := by omega
    have hgL : gA < lo := by omega
    have hgc : c < gA := by omega
    have S4 : Hid (SSt w code len c kb lo 0 (B + 2 + 2) n none 0 [] w4) := ⟨rfl, ⟨rfl, .inl ⟨rfl, rfl⟩⟩, KB3.out.old g4.out, HR3.out.old g4.out, HC3.out.old g4.out, HG3.out.trans (g4.out.toChg _ _), hwk, hcw, by omega⟩
    clear KB3 HR3 HC3 HG3 A3 g4 hw4 HW4
    obtain ⟨al, hal⟩ : ∃ al : List Int, [97, 193, 257, 353, 449, 577, 641, 673, 769] = al := ⟨_, rfl⟩
    have HAB : Hid (∀ i, i < 9 → 1 ≤ al.getD i 0 ∧ al.getD i 0 ≤ 268435456) := by rw [← hal]; show ∀ i, i < 9 → _; decide
    rw [hal] at A4
    clear hal
    have c5 := pick_c S4.out.hc (by omega) hl 9 (by omega) (by omega)
    go_wp2_with fail
    refine c5.mono ?_
    rintro e w5 ⟨⟨s, hs, rfl⟩, gq, Cq⟩
    have S5 := hid (S4.out.draw gq Cq)
    have A5 := hid (A4.out.chg gq hgc)
    clear gq Cq c5 S4 A4
    have c6 := pick_c S5.out.hc (by omega) hl 3 (by omega) (by omega)
    go_wp2_with fail
    refine c6.mono ?_
    rintro e w6 ⟨⟨r, hr, rfl⟩, gq, Cq⟩
    have S6 := hid (S5.out.draw gq Cq)
    have A6 := hid (A5.out.chg gq hgc)
    clear gq Cq c6 S5 A5
    obtain ⟨n1, hn1, er⟩ : ∃ n1 : Nat, (1 ≤ n1 ∧ n1 ≤ 3) ∧ 1 + r = n1 := ⟨(1 + r).toNat, by omega, by omega⟩
    go_wp2_with fail
    try rw [er]
    clear er hr
    go_loopw [6] (fun kv W' => ∃ (j k : Nat) (a : Option Addr) (cp : Nat) (xs : List Int), j + k = n1 ∧ kv = .int .i64 (k : Int) ∧ Hid (∀ x ∈ xs, PrB x) ∧ Hid (AlF W' gA 9 al) ∧ Hid (SSt w code len c kb lo j (B + 2 + 2 + 2 + 2) n a cp xs W')) (fun kv _ => (intOf kv).toNat)
    case atStart => exact ⟨0, n1, none, 0, [], by omega, rfl, (fun x hx => by cases hx), A6, S6⟩
    case round =>
      obtain ⟨j, k, a, cp, xs, hjk, rfl, HX, A1, S1⟩ := hrel
      clear S6 A6
      by_cases hlt : 0 < k
      · obtain ⟨k', hk'⟩ : ∃ k' : Nat, (k : Int) - 1 = (k' : Int) ∧ k' + 1 = k := ⟨k - 1, by omega, by omega⟩
        have es := hk'.1
        have ek := hk'.2
        clear hk'
        have d1 : decide ((0 : Int) < (k : Int)) = true := decide_eq_true (by omega)
        have d2 : decide (0 < k) = true := decide_eq_true (by omega)
        have em : (s + (k : Int)).tmod 9 = (s + (k : Int)) % 9 := Int.tmod_eq_emod_of_nonneg (by omega)
        obtain ⟨i, hi1, ei⟩ : ∃ i : Nat, i < 9 ∧ (s + (k : Int)) % 9 = (i : Int) := ⟨((s + (k : Int)) % 9).toNat, by omega, by omega⟩
        rw [ei] at em
        have cv := A1.out.2 i hi1
        have hyb := HAB.out i hi1
        obtain ⟨y, hy⟩ : ∃ y, al.getD i 0 = y := ⟨_, rfl⟩
        rw [hy] at cv hyb
        clear hy
        have hi2 : (i : Int) < 9 := by omega
        have k1 := S1.out.hk.c (i := 1) rfl
        go_wp2_with fail
        refine reg_Sp wr kb n a j cp y gA 9 i s (k : Int) (fun W v => ∃ a5 c5, v = .slice a5 (j + 1) c5 ∧ AlF W gA 9 al ∧ SSt w code len c kb lo (j + 1) (B + 2 + 2 + 2 + 2) n a5 c5 (xs ++ [y]) W) (by omega) lo (by have := A1.out.1; omega) S1.out.hk S1.out.nk k1 cv (by omega) (by omega) (by omega) em hi1 hi2 (by omega) (fun W g => ⟨_, (S1.out.old g).ho, fun v' w' o5 g5 => by obtain ⟨a5, c5, rfl⟩ := sliceOfRowW o5; exact ⟨a5, c5, rfl, (S1.out.old g).alf (A1.out.chg (g.toChg c (c + 1)) hgc) hgA hgL _ g5, ((S1.out.old g).push y o5 g5).2⟩⟩) _ _ ?_ ?_ ?_ ?_ ?_ ?_
        iterate 5 (· exact rfl)
        intro us W7 a5 c5 h7
        obtain ⟨a6, c6, e6, A7, S7⟩ := h7
        have A7 := hid A7
        have S7 := hid S7
        injection e6 with e61 e62 e63
        subst e61 e63
        simp only [putAll, Act.put, slotSp, List.range, List.range.loop, List.map_cons, List.map_nil, List.getD_cons_zero, List.getD_cons_succ, List.setIfInBounds_toArray, List.set_cons_succ, List.set_cons_zero]
        go_wp2_with fail
        exact ⟨⟨j + 1, k', a5, c5, xs ++ [y], by omega, by first | rfl | go_num, (fun x hx => by rcases List.mem_append.1 hx with h1 | h1; exact HX.out x h1; simp at h1; subst h1; exact hyb), A7, S7⟩, by simp [intOf]; omega⟩
      · obtain rfl : k = 0 := by omega
        obtain rfl : j = n1 := by omega
        have d1 : decide ((0 : Int) < ((0 : Nat) : Int)) = false := rfl
        clear hlt hjk HAB
        have c7 := pick_c S1.out.hc (by omega) hl 40 (by omega) (by omega)
        go_wp2_with fail
        refine c7.mono ?_
        rintro e w15 ⟨⟨u, hu, rfl⟩, gq, Cq⟩
        have S2 := hid (S1.out.draw gq Cq)
        have A2 := hid (A1.out.chg gq hgc)
        clear gq Cq c7 S1
        clear A1 d1
        obtain ⟨ga, rfl⟩ := S2.out.addr (by omega)
        have hj0 : (0 : Int) < (j : Int) := by omega
        have hj1 : 0 < j := by omega
        by_cases u0 : u = 0
        · subst u0
          have dq : ((0 : Int) == 0) = true := rfl
          have c8 := among_lit3 S2.out.hc (by omega) hl [0, 3, 32] (by decide) (by decide) 3
          go_wp2_with fail
          refine c8.mono ?_
          rintro e w17 ⟨⟨y, hy, rfl⟩, gq, Cq⟩
          have S3 := hid (S2.out.draw gq Cq)
          clear gq Cq c8 S2
          have p0 := S3.out.hk.c (i := 0) rfl
          have p1 := frozen_of_row _ _ 0 _ _ S3.out.hk
          have S4 := hid (S3.out.size y)
          have hys : szD y := by simp at hy; unfold szD; omega
          have e0 := S4.out.hk.c (i := 0) rfl
          have e1 := S4.out.hk.c (i := 1) rfl
          have r0 := S4.out.hr.c (i := 0) rfl
          have r1 := S4.out.hr.c (i := 1) rfl
          have t0 := frozen_of_row _ _ 0 _ _ S4.out.hr
          have t1 := frozen_of_row _ _ 1 _ _ S4.out.hr
          go_wp2_with fail
          have q0 := (bk_put1W (bk_put0W S4.out.hr (.int .i64 y)) (.slice (some ⟨ga, 0, none⟩) j cp)).c (i := 0) rfl
          have q1 := (bk_put1W (bk_put0W S4.out.hr (.int .i64 y)) (.slice (some ⟨ga, 0, none⟩) j cp)).c (i := 1) rfl
          refine bodyPost_ret (v := .agg #[.int .i64 y, .slice (some ⟨ga, 0, none⟩) j cp]) (by simp [results, Tryd.results23, go_sem, q0, q1]) rfl ?_
          exact S4.out.ends hys (by omega) HX.out (by omega)
        have dq : (u == 0) = false := by simpa using u0
        by_cases u1 : u = 1
        · subst u1
          have dr : ((1 : Int) == 1) = true := rfl
          have e1 := S2.out.hk.c (i := 1) rfl
          have HAS : Hid (∀ W', Chg w15 W' c (c + 1) → W'.cell? ⟨kb, 1, none⟩ = some (.slice (some ⟨ga, 0, none⟩) j cp)) := fun W' q => (S2.out.hk.chg q (Or.inr (by have := S2.out.hlt; have := S2.out.hcl; omega))).c (i := 1) rfl
          go_wp2_with fail
          go_region_held3 (fun W' => W'.cell? ⟨kb, 1, none⟩ = some (.slice (some ⟨ga, 0, none⟩) j cp)) (first | with_reducible exact S11.out.hk.c (i := 1) rfl | with_reducible exact HAS.out _ Q10.out | with_reducible exact HAS.out _ (Old.toChg (Below.drew (Old.refl _)) _ _) | with_reducible exact HAS.out _ (Old.toChg ((Old.refl _).alloc _) _ _) | with_reducible exact HAS.out _ (Old.toChg (Below.drew ((Old.refl _).alloc _)) _ _) | with_reducible exact HAS.out _ (Old.toChg ((Below.drew (Old.refl _)).alloc _) _ _) | with_reducible exact HAS.out _ (Old.toChg (Old.refl _) _ _)) (first | (go_at_call 43; refine (among_c (S2.out.hc.old (Below.drew ((Old.refl w15).alloc _))) (by omega) hl _ [5, 91, 1] (by decide) (by decide) ((row_lit3 w15 [5, 91, 1] (by decide) 3).old (Below.drew (Old.refl _))) (fun b o n cap e => by have hcc := S2.out.hc.lt; injection e with e1; injection e1 with e2; injection e2 with e3; omega)).mono ?_; rintro e w10 ⟨⟨y, hy, rfl⟩, q10, C10⟩; have Q10 := hid ((Old.toChg (Below.drew ((Old.refl w15).alloc _)) c (c + 1)).trans q10); have S10 := hid (S2.out.draw Q10.out C10); have k2 := (S10.out.cell 0 hj1).1; have k3 := (S10.out.cell 0 hj1).2; have S11 := hid (S10.out.prime 0 y); have HY : Hid (∀ x ∈ xs.set 0 y, PrB x) := hid (fun x hx => (List.mem_or_eq_of_mem_set hx).elim (HX.out x) (fun h => by unfold PrB; simp at hy; omega)); clear q10 C10) | fail)
          have e0 := S11.out.hk.c (i := 0) rfl
          have e1 := S11.out.hk.c (i := 1) rfl
          have r0 := S11.out.hr.c (i := 0) rfl
          have r1 := S11.out.hr.c (i := 1) rfl
          have t0 := frozen_of_row _ _ 0 _ _ S11.out.hr
          have t1 := frozen_of_row _ _ 1 _ _ S11.out.hr
          go_wp2_with fail
          have q0 := (bk_put1W (bk_put0W S11.out.hr (.int .i64 n)) (.slice (some ⟨ga, 0, none⟩) j cp)).c (i := 0) rfl
          have q1 := (bk_put1W (bk_put0W S11.out.hr (.int .i64 n)) (.slice (some ⟨ga, 0, none⟩) j cp)).c (i := 1) rfl
          refine bodyPost_ret (v := .agg #[.int .i64 n, .slice (some ⟨ga, 0, none⟩) j cp]) (by simp [results, Tryd.results23, go_sem, q0, q1]) rfl ?_
          exact S11.out.ends hnz (by omega) HY.out (by omega)
        have dr : (u == 1) = false := by simpa using u1
        by_cases u2 : u = 2
        · subst u2
          have dt : ((2 : Int) == 2) = true := rfl
          have k2 := (S2.out.cell 0 hj1).1
          have hxl := S2.out.hl
          have hyb := HX.out (xs.getD 0 0) (by simp [List.getD, show 0 < xs.length by omega])
          obtain ⟨y, hy⟩ : ∃ y, xs.getD 0 0 = y := ⟨_, rfl⟩
          rw [hy] at k2 hyb
          clear hy hxl
          have k1 := S2.out.hk.c (i := 1) rfl
          go_wp2_with fail
          refine reg_Sr w15 kb n (some ⟨ga, 0, none⟩) j cp y ga (fun W v => ∃ a5 c5, v = .slice a5 (j + 1) c5 ∧ AlF W gA 9 al ∧ SSt w code len c kb lo (j + 1) (B + 2 + 2 + 2 + 2 + 2) n a5 c5 (xs ++ [y]) W) (by omega) lo (by have := A2.out.1; omega) S2.out.hk S2.out.nk k1 k2 rfl hj0 (fun W g => ⟨_, (S2.out.old g).ho, fun v' w' o5 g5 => by obtain ⟨a5, c5, rfl⟩ := sliceOfRowW o5; exact ⟨a5, c5, rfl, (S2.out.old g).alf (A2.out.chg (g.toChg c (c + 1)) hgc) hgA hgL _ g5, ((S2.out.old g).push y o5 g5).2⟩⟩) _ _ ?_ ?_ ?_
          iterate 2 (· exact rfl)
          intro us W7 a5 c5 h7
          obtain ⟨a6, c6, e6, A7, S7⟩ := h7
          have A7 := hid A7
          have S7 := hid S7
          injection e6 with e61 e62 e63
          subst e61 e63
          simp only [putAll, Act.put, slotSr, List.range, List.range.loop, List.map_cons, List.map_nil, List.getD_cons_zero, List.getD_cons_succ, List.setIfInBounds_toArray, List.set_cons_succ, List.set_cons_zero]
          have HY : Hid (∀ x ∈ xs ++ [y], PrB x) := hid (fun x hx => (List.mem_append.1 hx).elim (HX.out x) (fun h => by simp at h; subst h; exact hyb))
          have e0 := S7.out.hk.c (i := 0) rfl
          have e1 := S7.out.hk.c (i := 1) rfl
          have r0 := S7.out.hr.c (i := 0) rfl
          have r1 := S7.out.hr.c (i := 1) rfl
          have t0 := frozen_of_row _ _ 0 _ _ S7.out.hr
          have t1 := frozen_of_row _ _ 1 _ _ S7.out.hr
          go_wp2_with fail
          have q0 := (bk_put1W (bk_put0W S7.out.hr (.int .i64 n)) (.slice a5 (j + 1) c5)).c (i := 0) rfl
          have q1 := (bk_put1W (bk_put0W S7.out.hr (.int .i64 n)) (.slice a5 (j + 1) c5)).c (i := 1) rfl
          refine bodyPost_ret (v := .agg #[.int .i64 n, .slice a5 (j + 1) c5]) (by simp [results, Tryd.results23, go_sem, q0, q1]) rfl ?_
          exact S7.out.ends hnz (by omega) HY.out (by omega)
        have dt : (u == 2) = false := by simpa using u2
        have e0 := S2.out.hk.c (i := 0) rfl
        have e1 := S2.out.hk.c (i := 1) rfl
        have r0 := S2.out.hr.c (i := 0) rfl
        have r1 := S2.out.hr.c (i := 1) rfl
        have t0 := frozen_of_row _ _ 0 _ _ S2.out.hr
        have t1 := frozen_of_row _ _ 1 _ _ S2.out.hr
        go_wp2_with fail
        have q0 := (bk_put1W (bk_put0W S2.out.hr (.int .i64 n)) (.slice (some ⟨ga, 0, none⟩) j cp)).c (i := 0) rfl
        have q1 := (bk_put1W (bk_put0W S2.out.hr (.int .i64 n)) (.slice (some ⟨ga, 0, none⟩) j cp)).c (i := 1) rfl
        refine bodyPost_ret (v := .agg #[.int .i64 n, .slice (some ⟨ga, 0, none⟩) j cp]) (by simp [results, Tryd.results23, go_sem, q0, q1]) rfl ?_
        exact S2.out.ends hnz (by omega) HX.out (by omega)
end Go.Proofs.YtglbegbhekcddaaDoor
