/- Proved: several texts in one: what each proves is said ahead of it. -/
import Derived.Test.YtakleianimcmdaaGreatDoorP04
import Derived.Test.YtakleianimcmdaaGreatDoorP15
import Derived.Test.YtakleianimcmdaaGreatDoorP13
import Derived.Test.YtakleianimcmdaaGreatDoorP16
import Derived.Maps.AppendAt
/- Proved: drawn regions of the model: a Part is made and appended to the Parts. -/
namespace Go.Proofs.YtakleianimcmdaaGreatDoor
open Go.ChangeShapes Go.WideShapes Go.ChangeAt Go.RowKit
set_option linter.unusedVariables false
set_option linter.unusedSimpArgs false
theorem one_slC (a : Option Addr) (n c : Nat) : ∀ u ∈ [Value.slice a n c], u.oneCell' = true := by simp [Value.oneCell']
theorem growS {xss : List (List Int)} {W W' : World} {lo : Nat} {v : Value} (h : OwS xss W lo W.heap.size v) (g : Old W W') : OwS xss W' lo W'.heap.size v :=
  ((far_OwS xss).old h g (Nat.le_refl _)).high g.size (Nat.le_refl _)
theorem op_valW2 {P : Program} {a : Act} {W W' : World} {K : Act → World → Prop} {Q : Exit → Act → World → Prop} {o : Oper} (ρ : Operand → Value) (hρ : a.eval = ρ) (v : Value) (hr : (execOp ρ o).run P W = .ok (.value v) W') (hK : K (a.put o.dst v) W') : o.wp P a W K Q := by
  unfold Oper.wp
  rw [hρ, hr]
  exact hK
theorem op_append_at2 {P : Program} {o : Oper} {a : Act} {w : World} {K : Act → World → Prop} {Q : Exit → Act → World → Prop} (s x : Operand) (t : TypeId)
    (ho : o.op = .call { callee := .builtin .append, args := #[s, x], argTypes := #[t, t] })
    (base : Nat) (e : TypeId) (i : TypeInfo) (z : Value) (size bytes : Nat) (ht : P.underlying t = some (.slice e)) (hi : P.info? e = some i) (hz : i.zero = some z)
    (hsize : i.size = size) (hby : i.bytes = bytes) (hzs : z.cells.size = size) (hsz : 0 < size)
    (v : Value) (n : Nat) (xs : List Value) (hs : a.eval s = v) (hown : w.ownsRow base e size v n xs)
    (ad : Addr) (m c : Nat) (news : List Value) (hx : a.eval x = .slice (some ad) m c) (hl : news.length = m * size) (hnews : ∀ j u, news[j]? = some u → w.cell? (ad.add j) = some u) (h1 : ∀ u ∈ news, u.oneCell' = true)
    (h63 : n + m ≤ maxLen) (hbytes : (n + m) * bytes ≤ 140737488355328) (hbase : base ≤ w.heap.size)
    (h : ∀ v' w', w'.ownsRow base e size v' (n + m) (xs ++ news) → w.grownBy w' v.ownBlock → (v' = .slice none 0 0 ↔ v = .slice none 0 0 ∧ m = 0) → (v'.ownBlock = v.ownBlock ∨ v'.ownBlock = some w.heap.size) → K (a.put o.dst v') w') :
    o.wp P a w K Q := by
  obtain ⟨v', w', hr, h2, h3, h4, h5⟩ := run_append_own_at (P := P) w base t o.type e i z size bytes ht hi hz hsize hby hzs hsz v n xs hown ad m c news hl hnews h1 h63 hbytes hbase
  unfold Oper.wp execOp
  simp only [ho, resolve, invoke, builtin, Sem.run_bind, Sem.run_pure, Result.andThen_ok, List.map_toArray, List.map_cons, List.map_nil, hs, hx, hr]
  exact h v' w' h2 h3 h4 h5
end Go.Proofs.YtakleianimcmdaaGreatDoor
/- Proved: drawn regions of the model: a Part is made and appended to the Parts. -/
namespace Go.Proofs.YtakleianimcmdaaGreatDoor
open Go.ChangeShapes Go.WideShapes Go.ChangeAt Go.RowKit
set_option linter.unusedVariables false
set_option linter.unusedSimpArgs false
def slotDp (i : Nat) : Nat := [33, 34, 35, 36, 37, 38, 39, 40, 41, 42].getD i 0
theorem slotDp_lt : ∀ i, i < 10 → slotDp i < 54 := by decide
theorem slotDp_inj : ∀ i, i < 10 → ∀ j, j < 10 → slotDp i = slotDp j → i = j := by decide
theorem slotDp_no : ∀ s, s < 30 → ∀ i, i < 10 → slotDp i ≠ s := by decide
def qDp (N T E : Int) (a3 : Option Addr) (l3 c3 pb kb : Nat) (aa : Option Addr) (k cap : Nat) (x1 : Option Addr) (n1 y1 : Nat) (x2 : Option Addr) (n2 y2 : Nat) (yss zss : List (List Int)) (base : Nat) (i : Nat) (W : World) (xv : Value) : Prop :=
  match i with
  | 0 => xv = .pointer (some ⟨kb, 0, none⟩)
  | 1 => xv = .slice aa k cap
  | 2 => xv = .agg #[.int .i64 N, .int .i64 T, .int .i64 E, .slice a3 l3 c3]
  | 3 => xv = .agg #[.int .i64 N, .slice a3 l3 c3]
  | 4 => xv = .slice x1 n1 y1
  | 5 => xv = .agg #[.int .i64 N, .int .i64 T, .int .i64 E, .slice a3 l3 c3]
  | 6 => xv = .slice x2 n2 y2
  | 7 => ∃ ra rc, xv = .slice ra yss.length rc ∧ RowS W xv yss
  | 8 => ∃ ra rc, xv = .slice ra zss.length rc ∧ OwS zss W base W.heap.size xv
  | 9 => ∃ ra rc g, xv = .slice (some ⟨g, 0, none⟩) 1 1 ∧ OwS zss W base W.heap.size (.slice ra zss.length rc) ∧ W.cell? ⟨g, 0, none⟩ = some (.slice ra zss.length rc) ∧ g < W.heap.size
  | _ => True
theorem qDp_old (N T E : Int) (a3 : Option Addr) (l3 c3 pb kb : Nat) (aa : Option Addr) (k cap : Nat) (x1 : Option Addr) (n1 y1 : Nat) (x2 : Option Addr) (n2 y2 : Nat) (yss zss : List (List Int)) (base : Nat) (i : Nat) (W W' : World) (xv : Value) (h : qDp N T E a3 l3 c3 pb kb aa k cap x1 n1 y1 x2 n2 y2 yss zss base i W xv) (qo : Old W W') : qDp N T E a3 l3 c3 pb kb aa k cap x1 n1 y1 x2 n2 y2 yss zss base i W' xv := by
  unfold qDp at h ⊢
  split at h
  case h_8 =>
    obtain ⟨ra, rc, e, ow⟩ := h
    exact ⟨ra, rc, e, ow.old qo⟩
  case h_9 =>
    obtain ⟨ra, rc, e, ow⟩ := h
    exact ⟨ra, rc, e, growS ow qo⟩
  case h_10 =>
    obtain ⟨ra, rc, g, e, ow, hcell, hlt⟩ := h
    exact ⟨ra, rc, g, e, growS ow qo, (qo.cell (p := ⟨g, 0, none⟩) hlt).trans hcell, Nat.lt_of_lt_of_le hlt qo.size⟩
  all_goals first | exact h | trivial
set_option maxRecDepth 100000 in
set_option maxHeartbeats 4000000 in
theorem reg_Dp (w0 : World) (N T E : Int) (a3 : Option Addr) (l3 c3 pb kb : Nat) (aa : Option Addr) (k cap : Nat) (x1 : Option Addr) (n1 y1 : Nat) (x2 : Option Addr) (n2 y2 : Nat) (yss zss : List (List Int)) (FIN : World → Value → Prop) (hk9 : k ≤ 9) (bK : w0.heap[kb]? = some (.cells #[.slice aa k cap] 42 (0, 0))) (hkb : ∀ b, (Value.slice aa k cap).ownBlock = some b → b ≠ kb)
    (ck : w0.cell? ⟨kb, 0, none⟩ = some (.slice aa k cap))
    (bP : w0.heap[pb]? = some (.cells #[.int .i64 N, .int .i64 T, .int .i64 E, .slice a3 l3 c3] 28 (0, 0)))
    (KS : ∀ W, Old w0 W → Calls Tryz.prog 78 #[.agg #[.int .i64 N, .int .i64 T, .int .i64 E, .slice a3 l3 c3], .slice x2 n2 y2] W fun e w' => ∃ v', e = .returned v' ∧ Old W w' ∧ RowS w' v' yss)
    (KF : ∀ W, Old w0 W → ∀ u, RowS W u yss → Calls Tryz.prog 62 #[.agg #[.int .i64 N, .slice a3 l3 c3], .slice x1 n1 y1, u] W fun e w' => ∃ v', e = .returned v' ∧ Old W w' ∧ OwS zss w' W.heap.size w'.heap.size v')
    (HEM : ∀ (W : World) (u : Value), Old w0 W → OwS zss W w0.heap.size W.heap.size u → ∃ vs, W.ownsRow 0 93 1 (.slice aa k cap) k vs ∧ (∀ v' w', w'.ownsRow 0 93 1 v' (k + 1) (vs ++ [u]) → W.grownBy w' (Value.slice aa k cap).ownBlock → (v'.ownBlock = (Value.slice aa k cap).ownBlock ∨ v'.ownBlock = some W.heap.size) → FIN (w'.setCell ⟨kb, 0, none⟩ v') v'))
    (Q : Exit → Act → World → Prop) (a0 : Act) (hsz : a0.tmps.size = 54)
    (ha2 : a0.eval (.tmp 2) = .slice x2 n2 y2) (ha3 : a0.eval (.tmp 3) = .pointer (some ⟨pb, 0, none⟩)) (ha8 : a0.eval (.tmp 8) = .pointer (some ⟨kb, 0, none⟩)) (ha10 : a0.eval (.tmp 10) = .slice x1 n1 y1)
    (HK : Hid (∀ (us : Nat → Value) W a5 c5, FIN W (.slice a5 (k + 1) c5) → Q .normal (((putAll a0 ((List.range 10).map fun i => (slotDp i, us i))).put (some 43) (.slice a5 (k + 1) c5)).put (some 44) (.pointer (some ⟨kb, 0, none⟩))) W)) :
    Code.wp Tryz.prog ((Tryz.f29.body.bind (regionAtmul 8)).getD .skip) Q a0 w0 := by
  conv => arg 2; whnf
  obtain ⟨j0, ji, jz0, jz1, jz2⟩ := info_parts Tryz.infoIntSS
  have hkbl := block_lt_of_cell ck
  have un := slotDp_no
  refine wp_region_tail 10 (by decide) (by kernel_rfl) (by kernel_rfl) (by kernel_rfl) (by kernel_rfl) (by kernel_rfl) slotDp (fun i hi => by rw [hsz]; exact slotDp_lt i hi) (fun i j hi hj => slotDp_inj i hi j hj) (qDp N T E a3 l3 c3 pb kb aa k cap x1 n1 y1 x2 n2 y2 yss zss w0.heap.size) (qDp_old N T E a3 l3 c3 pb kb aa k cap x1 n1 y1 x2 n2 y2 yss zss w0.heap.size) ?_ ?_
  · refine ⟨?_, ?_, ?_, ?_, ?_, ?_, ?_, ?_, ?_, ?_, trivial⟩
    · intro a W g hF hd
      have e2 := (hF.same 2 (un 2 (by decide))).trans ha2
      have e3 := (hF.same 3 (un 3 (by decide))).trans ha3
      have e8 := (hF.same 8 (un 8 (by decide))).trans ha8
      have e10 := (hF.same 10 (un 10 (by decide))).trans ha10
      obtain ⟨ρ, hρ⟩ : ∃ ρ, a.eval = ρ := ⟨_, rfl⟩
      rw [hρ] at  e2 e3 e8 e10
      refine op_val ρ hρ (.pointer (some ⟨kb, 0, none⟩)) ?_ ⟨_, rfl, Old.refl _, rfl⟩
      clear g hF hd hρ HK un ha2 ha3 ha8 ha10 ck KF KS HEM bP bK hkb
      go_simp
      all_goals (rw [IntKind.wrap_i64]; omega)
    · intro a W g hF hd
      have e2 := (hF.same 2 (un 2 (by decide))).trans ha2
      have e3 := (hF.same 3 (un 3 (by decide))).trans ha3
      have e8 := (hF.same 8 (un 8 (by decide))).trans ha8
      have e10 := (hF.same 10 (un 10 (by decide))).trans ha10
      have h0 := hd ⟨0, .data⟩ (by simp) rfl
      simp only [qDp, slotDp, List.getD_cons_zero, List.getD_cons_succ] at h0
      have kck := (g.cell (p := ⟨kb, 0, none⟩) hkbl).trans ck
      obtain ⟨ρ, hρ⟩ : ∃ ρ, a.eval = ρ := ⟨_, rfl⟩
      rw [hρ] at h0 e2 e3 e8 e10
      refine op_val ρ hρ (.slice aa k cap) ?_ ⟨_, rfl, Old.refl _, rfl⟩
      clear g hF hd hρ HK un ha2 ha3 ha8 ha10 ck KF KS HEM bP bK hkb
      go_simp
      all_goals (rw [IntKind.wrap_i64]; omega)
    · intro a W g hF hd
      refine op_load (k := pb) ((hF.same 3 (un 3 (by decide))).trans ha3) ((g.block pb (lt_of_some bP)).trans bP) Tryz.underlying28 rfl (by kernel_rfl) ?_
      exact ⟨_, rfl, Old.refl _, rfl⟩
    · intro a W g hF hd
      have h2 : a.eval (.tmp 35) = .agg #[.int .i64 N, .int .i64 T, .int .i64 E, .slice a3 l3 c3] := hd ⟨2, .data⟩ (by simp) rfl
      refine op_call_ret (R := fun v w' => v = .agg #[.int .i64 N, .slice a3 l3 c3] ∧ Old W w') Tryz.call63 (vs := #[.agg #[.int .i64 N, .int .i64 T, .int .i64 E, .slice a3 l3 c3]]) (by simp [h2]) ((l8Space_any N T E a3 l3 c3 W).mono fun e w' h => ⟨_, h.1, rfl, h.2⟩) ?_
      rintro x w' ⟨rfl, g'⟩
      exact ⟨_, rfl, g', rfl⟩
    · intro a W g hF hd
      have e2 := (hF.same 2 (un 2 (by decide))).trans ha2
      have e3 := (hF.same 3 (un 3 (by decide))).trans ha3
      have e8 := (hF.same 8 (un 8 (by decide))).trans ha8
      have e10 := (hF.same 10 (un 10 (by decide))).trans ha10
      obtain ⟨ρ, hρ⟩ : ∃ ρ, a.eval = ρ := ⟨_, rfl⟩
      rw [hρ] at  e2 e3 e8 e10
      refine op_val ρ hρ (.slice x1 n1 y1) ?_ ⟨_, rfl, Old.refl _, rfl⟩
      clear g hF hd hρ HK un ha2 ha3 ha8 ha10 ck KF KS HEM bP bK hkb
      go_simp
      all_goals (rw [IntKind.wrap_i64]; omega)
    · intro a W g hF hd
      refine op_load (k := pb) ((hF.same 3 (un 3 (by decide))).trans ha3) ((g.block pb (lt_of_some bP)).trans bP) Tryz.underlying28 rfl (by kernel_rfl) ?_
      exact ⟨_, rfl, Old.refl _, rfl⟩
    · intro a W g hF hd
      have e2 := (hF.same 2 (un 2 (by decide))).trans ha2
      have e3 := (hF.same 3 (un 3 (by decide))).trans ha3
      have e8 := (hF.same 8 (un 8 (by decide))).trans ha8
      have e10 := (hF.same 10 (un 10 (by decide))).trans ha10
      obtain ⟨ρ, hρ⟩ : ∃ ρ, a.eval = ρ := ⟨_, rfl⟩
      rw [hρ] at  e2 e3 e8 e10
      refine op_val ρ hρ (.slice x2 n2 y2) ?_ ⟨_, rfl, Old.refl _, rfl⟩
      clear g hF hd hρ HK un ha2 ha3 ha8 ha10 ck KF KS HEM bP bK hkb
      go_simp
      all_goals (rw [IntKind.wrap_i64]; omega)
    · intro a W g hF hd
      have h5 : a.eval (.tmp 38) = .agg #[.int .i64 N, .int .i64 T, .int .i64 E, .slice a3 l3 c3] := hd ⟨5, .data⟩ (by simp) rfl
      have h6 : a.eval (.tmp 39) = .slice x2 n2 y2 := hd ⟨6, .data⟩ (by simp) rfl
      refine op_call_ret (R := fun v w' => Old W w' ∧ ∃ ra rc, v = .slice ra yss.length rc ∧ RowS w' v yss) Tryz.call78 (vs := #[.agg #[.int .i64 N, .int .i64 T, .int .i64 E, .slice a3 l3 c3], .slice x2 n2 y2]) (by simp [h5, h6]) ((KS W g).mono fun e w' h => by
        obtain ⟨v, rfl, q, o⟩ := h
        obtain ⟨ra, rc, e⟩ := o.slice
        exact ⟨_, rfl, q, ra, rc, e, o⟩) ?_
      rintro x w' ⟨g', ra, rc, rfl, o'⟩
      exact ⟨_, rfl, g', ra, rc, rfl, o'⟩
    · intro a W g hF hd
      have h3 : a.eval (.tmp 36) = .agg #[.int .i64 N, .slice a3 l3 c3] := hd ⟨3, .data⟩ (by simp) rfl
      have h4 : a.eval (.tmp 37) = .slice x1 n1 y1 := hd ⟨4, .data⟩ (by simp) rfl
      obtain ⟨sa, sc, h7, os⟩ : ∃ ra rc, a.eval (.tmp 40) = .slice ra yss.length rc ∧ RowS W (a.eval (.tmp 40)) yss := hd ⟨7, .data⟩ (by simp) rfl
      rw [h7] at os
      refine op_call_ret (R := fun v w' => Old W w' ∧ ∃ ra rc, v = .slice ra zss.length rc ∧ OwS zss w' W.heap.size w'.heap.size v) Tryz.call62 (vs := #[.agg #[.int .i64 N, .slice a3 l3 c3], .slice x1 n1 y1, .slice sa yss.length sc]) (by simp [h3, h4, h7]) ((KF W g _ os).mono fun e w' h => by
        obtain ⟨v, rfl, q, o⟩ := h
        obtain ⟨ra, rc, e⟩ := o.slice
        exact ⟨_, rfl, q, ra, rc, e, o⟩) ?_
      rintro x w' ⟨g', ra, rc, rfl, o'⟩
      exact ⟨_, rfl, g', ra, rc, rfl, o'.low g.size⟩
    · intro a W g hF hd
      obtain ⟨ra, rc, h7, ow⟩ : ∃ ra rc, a.eval (.tmp 41) = .slice ra zss.length rc ∧ OwS zss W w0.heap.size W.heap.size (a.eval (.tmp 41)) := hd ⟨8, .data⟩ (by simp) rfl
      rw [h7] at ow
      obtain ⟨ρ, hρ⟩ : ∃ ρ, a.eval = ρ := ⟨_, rfl⟩
      rw [hρ] at h7
      refine op_valW2 (W' := W.alloc (.cells #[.slice ra zss.length rc] 93)) ρ hρ (.slice (some ⟨W.heap.size, 0, none⟩) 1 1) ?_ ⟨_, rfl, (Old.refl W).alloc _, ra, rc, W.heap.size, rfl, growS ow ((Old.refl W).alloc _), cell_at _ _ _ _ _ rfl, by simp⟩
      clear g hF hd hρ HK un ha2 ha3 ha8 ha10 ck KF KS HEM bP bK hkb ow
      go_simp
  · intro a W g hF hq
    have h0 : a.eval (.tmp 34) = .slice aa k cap := hq 1 (by decide)
    have hb : a.eval (.tmp 8) = .pointer (some ⟨kb, 0, none⟩) := (hF.same 8 (un 8 (by decide))).trans ha8
    obtain ⟨ra, rc, gg, h8, ow, hcell, hlt⟩ : ∃ ra rc gg, a.eval (.tmp 42) = .slice (some ⟨gg, 0, none⟩) 1 1 ∧ OwS zss W w0.heap.size W.heap.size (.slice ra zss.length rc) ∧ W.cell? ⟨gg, 0, none⟩ = some (.slice ra zss.length rc) ∧ gg < W.heap.size := hq 9 (by decide)
    obtain ⟨vs, ov, hem⟩ := HEM W _ g ow
    have hp := fram_put hF (fun i j hi hj => slotDp_inj i hi j hj)
    refine op_append_at2 _ _ 32 rfl 0 93 j0 (.slice none 0 0) 1 24 Tryz.underlying32 ji jz0 jz1 jz2 rfl (by decide) _ k vs h0 ov ⟨gg, 0, none⟩ 1 1 [.slice ra zss.length rc] h8 rfl ?_ (one_slC _ _ _) (by unfold maxLen; omega) (by omega) (Nat.zero_le _) ?_
    · intro j u hj
      match j, hj with
      | 0, hj =>
        have : Value.slice ra zss.length rc = u := by simpa using hj
        subst this
        exact hcell
      | j + 1, hj => simp at hj
    · intro v' w' o5 g5 x5 l5
      have hfin := hem v' w' o5 g5 l5
      obtain ⟨a5, c5, e5⟩ : ∃ a5 c5, v' = .slice a5 (k + 1) c5 := by
        rcases o5.2 with ⟨h1, h2⟩ | ⟨p, cp, cur, h1, _⟩
        · omega
        · exact ⟨_, _, h1⟩
      subst e5
      have hk2 := HK.out (fun i => a.eval (.tmp (slotDp i))) _ a5 c5 hfin
      rw [← hp] at hk2
      have hkl : kb < W.heap.size := Nat.lt_of_lt_of_le (lt_of_some bK) g.size
      have hK5 : w'.heap[kb]? = some (.cells #[.slice aa k cap] 42 (0, 0)) := ((g5.block kb hkl (fun e => hkb kb e.symm rfl)).trans (g.block kb (lt_of_some bK))).trans bK
      have hc5 : w'.cell? ⟨kb, 0, none⟩ = some (.slice aa k cap) := by rw [cell_of_row _ _ _ _ _ _ hK5]; rfl
      have hf5 : w'.frozen? ⟨kb, 0, none⟩ = false := frozen_of_row _ _ _ _ _ hK5
      have sz0 : a.tmps.size = 54 := hF.size.trans hsz
      have e1 : (a.put (some 43) (.slice a5 (k + 1) c5)).eval (.tmp 8) = .pointer (some ⟨kb, 0, none⟩) := (eval_put_other _ _ _ _ (by decide)).trans hb
      have sz1 : (a.put (some 43) (.slice a5 (k + 1) c5)).tmps.size = 54 := by simpa [Act.put] using sz0
      have e2 : ((a.put (some 43) (.slice a5 (k + 1) c5)).put (some 44) (.pointer (some ⟨kb, 0, none⟩))).eval (.tmp 43) = .slice a5 (k + 1) c5 := (eval_put_other _ _ _ _ (by decide)).trans (eval_put_same _ _ _ (by rw [sz0]; decide))
      have e3 : ((a.put (some 43) (.slice a5 (k + 1) c5)).put (some 44) (.pointer (some ⟨kb, 0, none⟩))).eval (.tmp 44) = .pointer (some ⟨kb, 0, none⟩) := eval_put_same _ _ _ (by rw [sz1]; decide)
      clear hem ov hcell ow h8 h0 hq hF hb HK un g g5 o5 l5 x5 hp hkl hK5 hfin sz0 sz1 ha8
      generalize (a.put (some 43) (.slice a5 (k + 1) c5)) = b1 at *
      obtain ⟨ρ, hρ⟩ : ∃ ρ, b1.eval = ρ := ⟨_, rfl⟩
      rw [hρ] at e1
      refine op_val ρ hρ (.pointer (some ⟨kb, 0, none⟩)) ?_ ?_
      · clear hρ e2 e3 hk2
        go_simp
      · show tailWp _ _ [_] _ _
        generalize (b1.put (some 44) (.pointer (some ⟨kb, 0, none⟩))) = b2 at *
        obtain ⟨ρ2, hρ2⟩ : ∃ ρ, b2.eval = ρ := ⟨_, rfl⟩
        rw [hρ2] at e2 e3
        refine op_skp (W' := w'.setCell ⟨kb, 0, none⟩ (.slice a5 (k + 1) c5)) ρ2 hρ2 ?_ ?_
        · clear hρ hρ2 hk2 e1
          go_simp
        · exact hk2
def slotDo (i : Nat) : Nat := [45, 46, 47, 48, 49].getD i 0
theorem slotDo_lt : ∀ i, i < 5 → slotDo i < 54 := by decide
theorem slotDo_inj : ∀ i, i < 5 → ∀ j, j < 5 → slotDo i = slotDo j → i = j := by decide
theorem slotDo_no : ∀ s, s < 30 → ∀ i, i < 5 → slotDo i ≠ s := by decide
def qDo (kb : Nat) (aa : Option Addr) (k cap : Nat) (x1 : Option Addr) (n1 y1 : Nat) (zss : List (List Int)) (base : Nat) (i : Nat) (W : World) (xv : Value) : Prop :=
  match i with
  | 0 => xv = .pointer (some ⟨kb, 0, none⟩)
  | 1 => xv = .slice aa k cap
  | 2 => xv = .slice x1 n1 y1
  | 3 => ∃ ra rc, xv = .slice ra zss.length rc ∧ OwS zss W base W.heap.size xv
  | 4 => ∃ ra rc g, xv = .slice (some ⟨g, 0, none⟩) 1 1 ∧ OwS zss W base W.heap.size (.slice ra zss.length rc) ∧ W.cell? ⟨g, 0, none⟩ = some (.slice ra zss.length rc) ∧ g < W.heap.size
  | _ => True
theorem qDo_old (kb : Nat) (aa : Option Addr) (k cap : Nat) (x1 : Option Addr) (n1 y1 : Nat) (zss : List (List Int)) (base : Nat) (i : Nat) (W W' : World) (xv : Value) (h : qDo kb aa k cap x1 n1 y1 zss base i W xv) (qo : Old W W') : qDo kb aa k cap x1 n1 y1 zss base i W' xv := by
  unfold qDo at h ⊢
  split at h
  case h_4 =>
    obtain ⟨ra, rc, e, ow⟩ := h
    exact ⟨ra, rc, e, growS ow qo⟩
  case h_5 =>
    obtain ⟨ra, rc, g, e, ow, hcell, hlt⟩ := h
    exact ⟨ra, rc, g, e, growS ow qo, (qo.cell (p := ⟨g, 0, none⟩) hlt).trans hcell, Nat.lt_of_lt_of_le hlt qo.size⟩
  all_goals first | exact h | trivial
set_option maxRecDepth 100000 in
set_option maxHeartbeats 4000000 in
theorem reg_Do (w0 : World) (kb : Nat) (aa : Option Addr) (k cap : Nat) (x1 : Option Addr) (n1 y1 : Nat) (zss : List (List Int)) (FIN : World → Value → Prop) (hk9 : k ≤ 9) (bK : w0.heap[kb]? = some (.cells #[.slice aa k cap] 42 (0, 0))) (hkb : ∀ b, (Value.slice aa k cap).ownBlock = some b → b ≠ kb)
    (ck : w0.cell? ⟨kb, 0, none⟩ = some (.slice aa k cap))
    (KF : ∀ W, Old w0 W → Calls Tryz.prog 61 #[.slice x1 n1 y1] W fun e w' => ∃ v', e = .returned v' ∧ Old W w' ∧ OwS zss w' W.heap.size w'.heap.size v')
    (HEM : ∀ (W : World) (u : Value), Old w0 W → OwS zss W w0.heap.size W.heap.size u → ∃ vs, W.ownsRow 0 93 1 (.slice aa k cap) k vs ∧ (∀ v' w', w'.ownsRow 0 93 1 v' (k + 1) (vs ++ [u]) → W.grownBy w' (Value.slice aa k cap).ownBlock → (v'.ownBlock = (Value.slice aa k cap).ownBlock ∨ v'.ownBlock = some W.heap.size) → FIN (w'.setCell ⟨kb, 0, none⟩ v') v'))
    (Q : Exit → Act → World → Prop) (a0 : Act) (hsz : a0.tmps.size = 54)
    (ha8 : a0.eval (.tmp 8) = .pointer (some ⟨kb, 0, none⟩)) (ha10 : a0.eval (.tmp 10) = .slice x1 n1 y1)
    (HK : Hid (∀ (us : Nat → Value) W a5 c5, FIN W (.slice a5 (k + 1) c5) → Q .normal (((putAll a0 ((List.range 5).map fun i => (slotDo i, us i))).put (some 50) (.slice a5 (k + 1) c5)).put (some 51) (.pointer (some ⟨kb, 0, none⟩))) W)) :
    Code.wp Tryz.prog ((Tryz.f29.body.bind (regionAtmul 9)).getD .skip) Q a0 w0 := by
  conv => arg 2; whnf
  obtain ⟨j0, ji, jz0, jz1, jz2⟩ := info_parts Tryz.infoIntSS
  have hkbl := block_lt_of_cell ck
  have un := slotDo_no
  refine wp_region_tail 5 (by decide) (by kernel_rfl) (by kernel_rfl) (by kernel_rfl) (by kernel_rfl) (by kernel_rfl) slotDo (fun i hi => by rw [hsz]; exact slotDo_lt i hi) (fun i j hi hj => slotDo_inj i hi j hj) (qDo kb aa k cap x1 n1 y1 zss w0.heap.size) (qDo_old kb aa k cap x1 n1 y1 zss w0.heap.size) ?_ ?_
  · refine ⟨?_, ?_, ?_, ?_, ?_, trivial⟩
    · intro a W g hF hd
      have e8 := (hF.same 8 (un 8 (by decide))).trans ha8
      have e10 := (hF.same 10 (un 10 (by decide))).trans ha10
      obtain ⟨ρ, hρ⟩ : ∃ ρ, a.eval = ρ := ⟨_, rfl⟩
      rw [hρ] at  e8 e10
      refine op_val ρ hρ (.pointer (some ⟨kb, 0, none⟩)) ?_ ⟨_, rfl, Old.refl _, rfl⟩
      clear g hF hd hρ HK un ha8 ha10 ck KF HEM bK hkb
      go_simp
      all_goals (rw [IntKind.wrap_i64]; omega)
    · intro a W g hF hd
      have e8 := (hF.same 8 (un 8 (by decide))).trans ha8
      have e10 := (hF.same 10 (un 10 (by decide))).trans ha10
      have h0 := hd ⟨0, .data⟩ (by simp) rfl
      simp only [qDo, slotDo, List.getD_cons_zero, List.getD_cons_succ] at h0
      have kck := (g.cell (p := ⟨kb, 0, none⟩) hkbl).trans ck
      obtain ⟨ρ, hρ⟩ : ∃ ρ, a.eval = ρ := ⟨_, rfl⟩
      rw [hρ] at h0 e8 e10
      refine op_val ρ hρ (.slice aa k cap) ?_ ⟨_, rfl, Old.refl _, rfl⟩
      clear g hF hd hρ HK un ha8 ha10 ck KF HEM bK hkb
      go_simp
      all_goals (rw [IntKind.wrap_i64]; omega)
    · intro a W g hF hd
      have e8 := (hF.same 8 (un 8 (by decide))).trans ha8
      have e10 := (hF.same 10 (un 10 (by decide))).trans ha10
      obtain ⟨ρ, hρ⟩ : ∃ ρ, a.eval = ρ := ⟨_, rfl⟩
      rw [hρ] at  e8 e10
      refine op_val ρ hρ (.slice x1 n1 y1) ?_ ⟨_, rfl, Old.refl _, rfl⟩
      clear g hF hd hρ HK un ha8 ha10 ck KF HEM bK hkb
      go_simp
      all_goals (rw [IntKind.wrap_i64]; omega)
    · intro a W g hF hd
      have h2 : a.eval (.tmp 47) = .slice x1 n1 y1 := hd ⟨2, .data⟩ (by simp) rfl
      refine op_call_ret (R := fun v w' => Old W w' ∧ ∃ ra rc, v = .slice ra zss.length rc ∧ OwS zss w' W.heap.size w'.heap.size v) Tryz.call61 (vs := #[.slice x1 n1 y1]) (by simp [h2]) ((KF W g).mono fun e w' h => by
        obtain ⟨v, rfl, q, o⟩ := h
        obtain ⟨ra, rc, e⟩ := o.slice
        exact ⟨_, rfl, q, ra, rc, e, o⟩) ?_
      rintro x w' ⟨g', ra, rc, rfl, o'⟩
      exact ⟨_, rfl, g', ra, rc, rfl, o'.low g.size⟩
    · intro a W g hF hd
      obtain ⟨ra, rc, h7, ow⟩ : ∃ ra rc, a.eval (.tmp 48) = .slice ra zss.length rc ∧ OwS zss W w0.heap.size W.heap.size (a.eval (.tmp 48)) := hd ⟨3, .data⟩ (by simp) rfl
      rw [h7] at ow
      obtain ⟨ρ, hρ⟩ : ∃ ρ, a.eval = ρ := ⟨_, rfl⟩
      rw [hρ] at h7
      refine op_valW2 (W' := W.alloc (.cells #[.slice ra zss.length rc] 93)) ρ hρ (.slice (some ⟨W.heap.size, 0, none⟩) 1 1) ?_ ⟨_, rfl, (Old.refl W).alloc _, ra, rc, W.heap.size, rfl, growS ow ((Old.refl W).alloc _), cell_at _ _ _ _ _ rfl, by simp⟩
      clear g hF hd hρ HK un ha8 ha10 ck KF HEM bK hkb ow
      go_simp
  · intro a W g hF hq
    have h0 : a.eval (.tmp 46) = .slice aa k cap := hq 1 (by decide)
    have hb : a.eval (.tmp 8) = .pointer (some ⟨kb, 0, none⟩) := (hF.same 8 (un 8 (by decide))).trans ha8
    obtain ⟨ra, rc, gg, h8, ow, hcell, hlt⟩ : ∃ ra rc gg, a.eval (.tmp 49) = .slice (some ⟨gg, 0, none⟩) 1 1 ∧ OwS zss W w0.heap.size W.heap.size (.slice ra zss.length rc) ∧ W.cell? ⟨gg, 0, none⟩ = some (.slice ra zss.length rc) ∧ gg < W.heap.size := hq 4 (by decide)
    obtain ⟨vs, ov, hem⟩ := HEM W _ g ow
    have hp := fram_put hF (fun i j hi hj => slotDo_inj i hi j hj)
    refine op_append_at2 _ _ 32 rfl 0 93 j0 (.slice none 0 0) 1 24 Tryz.underlying32 ji jz0 jz1 jz2 rfl (by decide) _ k vs h0 ov ⟨gg, 0, none⟩ 1 1 [.slice ra zss.length rc] h8 rfl ?_ (one_slC _ _ _) (by unfold maxLen; omega) (by omega) (Nat.zero_le _) ?_
    · intro j u hj
      match j, hj with
      | 0, hj =>
        have : Value.slice ra zss.length rc = u := by simpa using hj
        subst this
        exact hcell
      | j + 1, hj => simp at hj
    · intro v' w' o5 g5 x5 l5
      have hfin := hem v' w' o5 g5 l5
      obtain ⟨a5, c5, e5⟩ : ∃ a5 c5, v' = .slice a5 (k + 1) c5 := by
        rcases o5.2 with ⟨h1, h2⟩ | ⟨p, cp, cur, h1, _⟩
        · omega
        · exact ⟨_, _, h1⟩
      subst e5
      have hk2 := HK.out (fun i => a.eval (.tmp (slotDo i))) _ a5 c5 hfin
      rw [← hp] at hk2
      have hkl : kb < W.heap.size := Nat.lt_of_lt_of_le (lt_of_some bK) g.size
      have hK5 : w'.heap[kb]? = some (.cells #[.slice aa k cap] 42 (0, 0)) := ((g5.block kb hkl (fun e => hkb kb e.symm rfl)).trans (g.block kb (lt_of_some bK))).trans bK
      have hc5 : w'.cell? ⟨kb, 0, none⟩ = some (.slice aa k cap) := by rw [cell_of_row _ _ _ _ _ _ hK5]; rfl
      have hf5 : w'.frozen? ⟨kb, 0, none⟩ = false := frozen_of_row _ _ _ _ _ hK5
      have sz0 : a.tmps.size = 54 := hF.size.trans hsz
      have e1 : (a.put (some 50) (.slice a5 (k + 1) c5)).eval (.tmp 8) = .pointer (some ⟨kb, 0, none⟩) := (eval_put_other _ _ _ _ (by decide)).trans hb
      have sz1 : (a.put (some 50) (.slice a5 (k + 1) c5)).tmps.size = 54 := by simpa [Act.put] using sz0
      have e2 : ((a.put (some 50) (.slice a5 (k + 1) c5)).put (some 51) (.pointer (some ⟨kb, 0, none⟩))).eval (.tmp 50) = .slice a5 (k + 1) c5 := (eval_put_other _ _ _ _ (by decide)).trans (eval_put_same _ _ _ (by rw [sz0]; decide))
      have e3 : ((a.put (some 50) (.slice a5 (k + 1) c5)).put (some 51) (.pointer (some ⟨kb, 0, none⟩))).eval (.tmp 51) = .pointer (some ⟨kb, 0, none⟩) := eval_put_same _ _ _ (by rw [sz1]; decide)
      clear hem ov hcell ow h8 h0 hq hF hb HK un g g5 o5 l5 x5 hp hkl hK5 hfin sz0 sz1 ha8
      generalize (a.put (some 50) (.slice a5 (k + 1) c5)) = b1 at *
      obtain ⟨ρ, hρ⟩ : ∃ ρ, b1.eval = ρ := ⟨_, rfl⟩
      rw [hρ] at e1
      refine op_val ρ hρ (.pointer (some ⟨kb, 0, none⟩)) ?_ ?_
      · clear hρ e2 e3 hk2
        go_simp
      · show tailWp _ _ [_] _ _
        generalize (b1.put (some 51) (.pointer (some ⟨kb, 0, none⟩))) = b2 at *
        obtain ⟨ρ2, hρ2⟩ : ∃ ρ, b2.eval = ρ := ⟨_, rfl⟩
        rw [hρ2] at e2 e3
        refine op_skp (W' := w'.setCell ⟨kb, 0, none⟩ (.slice a5 (k + 1) c5)) ρ2 hρ2 ?_ ?_
        · clear hρ hρ2 hk2 e1
          go_simp
        · exact hk2
end Go.Proofs.YtakleianimcmdaaGreatDoor
/- Proved: the contract of the model's NegCipher. -/
namespace Go.Proofs.YtakleianimcmdaaGreatDoor
open Go.ChangeShapes Go.WideShapes Go.ChangeAt Go.RowKit
set_option linter.unusedVariables false
set_option linter.unusedSimpArgs false
abbrev PaK (zsss : List (List (List Int))) (k : Nat) : Thing := TS 93 1 k (fun j => TSS (zsss.getD j []))
theorem good_PaK (zsss : List (List (List Int))) (k : Nat) : GoodT (PaK zsss k) := good_TS _ _ _ (fun _ => good_TSS _)
theorem parts_app {zsss : List (List (List Int))} {w w0 : World} {kb k cap : Nat} {aa : Option Addr} (HO : Ows (PaK zsss k) w0 (kb + 1) w0.heap.size [.slice aa k cap]) (hkl : kb < w0.heap.size) (hw : w.heap.size ≤ kb) (hO : Old w w0) (bK : w0.heap[kb]? = some (.cells #[.slice aa k cap] 42 (0, 0)))
    (W : World) (u : Value) (g : Old w0 W) (ou : OwS (zsss.getD k []) W w0.heap.size W.heap.size u) :
    ∃ vs, W.ownsRow 0 93 1 (.slice aa k cap) k vs ∧ (∀ v' w', w'.ownsRow 0 93 1 v' (k + 1) (vs ++ [u]) → W.grownBy w' (Value.slice aa k cap).ownBlock → (v'.ownBlock = (Value.slice aa k cap).ownBlock ∨ v'.ownBlock = some W.heap.size) →
      Ows (PaK zsss (k + 1)) (w'.setCell ⟨kb, 0, none⟩ v') (kb + 1) (w'.setCell ⟨kb, 0, none⟩ v').heap.size [v'] ∧ Bk (w'.setCell ⟨kb, 0, none⟩ v') kb #[v'] 42 ∧ Old w (w'.setCell ⟨kb, 0, none⟩ v') ∧ ∀ b, b < kb → (w'.setCell ⟨kb, 0, none⟩ v').heap[b]? = w0.heap[b]?) := by
  obtain ⟨Be, hE, hbe⟩ := ou.tss
  obtain ⟨vs, ho, hown, hap⟩ := Ows.app (fun j => good_TSS _) (good_TSS _) HO (by omega) g hE (fun b hb => (hbe b hb).1) rfl
  refine ⟨vs, ho, fun v' w' o5 g5 l5 => ?_⟩
  have h1 := hap v' w' o5 g5 l5
  have h2 : Ows (PaK zsss (k + 1)) w' (kb + 1) w'.heap.size [v'] := by
    obtain ⟨hh, B, hT, hB⟩ := h1
    refine ⟨hh, B, TS.ext (fun j hj => ?_) hT, hB⟩
    by_cases e : j = k
    · subst e
      simp
    · simp [e]
  have hne : (Value.slice aa k cap).ownBlock ≠ some kb := fun e => by have := hown kb e; omega
  have hblk : ∀ b, b < kb → w'.heap[b]? = w0.heap[b]? := fun b hb => (g5.block b (by have := g.size; omega) (fun e => by have := hown b e.symm; omega)).trans (g.block b (by omega))
  have hK5 : w'.heap[kb]? = some (.cells #[.slice aa k cap] 42 (0, 0)) := ((g5.block kb (Nat.lt_of_lt_of_le hkl g.size) (fun e => hne e.symm)).trans (g.block kb hkl)).trans bK
  refine ⟨?_, ?_, ?_, fun b hb => ?_⟩
  · have := far_Ows (good_PaK zsss (k + 1)) w' (w'.setCell ⟨kb, 0, none⟩ v') (kb + 1) w'.heap.size [v'] h2 (fun b h1 h2 => heap_setCell_other _ _ _ _ (by show b ≠ kb; omega)) (by simp)
    simpa using this
  · exact (heap_setCell_same w' kb 0 _ _ v' hK5).trans rfl
  · have hw' : Old w w' := ⟨g5.os.trans (g.os.trans hO.os), g5.tape.trans (g.tape.trans hO.tape), g5.output.trans (g.output.trans hO.output), Nat.le_trans hO.size (Nat.le_trans g.size g5.size), fun b hb => (hblk b (by omega)).trans (hO.block b hb)⟩
    exact hw'.own (p := ⟨kb, 0, none⟩) hw _
  · rw [heap_setCell_other _ _ _ _ (by show b ≠ kb; omega)]
    exact hblk b hb
theorem XC.nil {W : World} {lo hi : Nat} (h : hi ≤ W.heap.size) : XC [] W lo hi #[.slice none 0 0] := ⟨none, 0, rfl, Ows.nil h⟩
theorem ci_res {W : World} {k : Nat} {x : Value} {t : TypeId} (h : Bk W k #[x] t) (y : Value) : Bk (W.setCell ⟨k, 0, none⟩ y) k #[y] t := (heap_setCell_same W k 0 _ _ y h).trans rfl
end Go.Proofs.YtakleianimcmdaaGreatDoor
