/- Proved: several texts in one: what each proves is said ahead of it. -/
import Derived.Test.YtakleianimcmdaaGreatDoorA04
import Derived.Test.YtakleianimcmdaaGreatDoorMlr
import Derived.Test.YtakleianimcmdaaGreatDoorA13
import Derived.Test.YtakleianimcmdaaGreatDoorA17
import Derived.Maps.AppendAt
/- Proved: drawn regions of the model: a Part is made and appended to the Parts. -/
namespace Go.Proofs.YtakleianimcmdaaGreatDoor
open Go.ChangeShapes Go.WideShapes Go.ChangeAt Go.RowKit
set_option linter.unusedVariables false
set_option linter.unusedSimpArgs false
theorem one_slC (a : Option Addr) (n c : Nat) : ∀ u ∈ [Value.slice a n c], u.oneCell' = true := by simp [Value.oneCell']
theorem growS {xss : List (List Int)} {W W' : World} {lo : Nat} {v : Value} (h : OwS xss W lo W.heap.size v) (g : Old W W') : OwS xss W' lo W'.heap.size v :=
  ((far_OwS xss).old h g (Nat.le_refl _)).high g.size (Nat.le_refl _)
theorem op_valW2 {P : Program} {a : Act} {W W' : World} {K : Act → World → Prop} {Q : Exit → Act → World → Prop} {o : Oper} (ρ : Operand → Value) (hρ : a.eval = ρ) (v : Value) (hr : (execOp ρ o).run P W = .ok (.value v) W') (hK : K (a.put o.dst v) W') : o.wp P a W K Q := by
  unfold Oper.wp
  rw [hρ, hr]
  exact hK
theorem op_append_at2 {P : Program} {o : Oper} {a : Act} {w : World} {K : Act → World → Prop} {Q : Exit → Act → World → Prop} (s x : Operand) (t : TypeId)
    (ho : o.op = .call { callee := .builtin .append, args := #[s, x], argTypes := #[t, t] })
    (base : Nat) (e : TypeId) (i : TypeInfo) (z : Value) (size bytes : Nat) (ht : P.underlying t = some (.slice e)) (hi : P.info? e = some i) (hz : i.zero = some z)
    (hsize : i.size = size) (hby : i.bytes = bytes) (hzs : z.cells.size = size) (hsz : 0 < size)
    (v : Value) (n : Nat) (xs : List Value) (hs : a.eval s = v) (hown : w.ownsRow base e size v n xs)
    (ad : Addr) (m c : Nat) (news : List Value) (hx : a.eval x = .slice (some ad) m c) (hl : news.length = m * size) (hnews : ∀ j u, news[j]? = some u → w.cell? (ad.add j) = some u) (h1 : ∀ u ∈ news, u.oneCell' = true)
    (h63 : n + m ≤ maxLen) (hbytes : (n + m) * bytes ≤ 140737488355328) (hbase : base ≤ w.heap.size)
    (h : ∀ v' w', w'.ownsRow base e size v' (n + m) (xs ++ news) → w.grownBy w' v.ownBlock → (v' = .slice none 0 0 ↔ v = .slice none 0 0 ∧ m = 0) → (v'.ownBlock = v.ownBlock ∨ v'.ownBlock = some w.heap.size) → K (a.put o.dst v') w') :
    o.wp P a w K Q := by
  obtain ⟨v', w', hr, h2, h3, h4, h5⟩ := run_append_own_at (P := P) w base t o.type e i z size bytes ht hi hz hsize hby hzs hsz v n xs hown ad m c news hl hnews h1 h63 hbytes hbase
  unfold Oper.wp execOp
  simp only [ho, resolve, invoke, builtin, Sem.run_bind, Sem.run_pure, Result.andThen_ok, List.map_toArray, List.map_cons, List.map_nil, hs, hx, hr]
  exact h v' w' h2 h3 h4 h5
def slotNg (i : Nat) : Nat := [22, 23, 24, 25, 26, 27, 28].getD i 0
theorem slotNg_lt : ∀ i, i < 7 → slotNg i < 33 := by decide
theorem slotNg_inj : ∀ i, i < 7 → ∀ j, j < 7 → slotNg i = slotNg j → i = j := by decide
theorem slotNg_no : ∀ s, s < 20 → ∀ i, i < 7 → slotNg i ≠ s := by decide
def qNg (N T E : Int) (a3 : Option Addr) (l3 c3 pb kb : Nat) (aa : Option Addr) (k cap : Nat) (x1 : Option Addr) (n1 y1 : Nat) (zss : List (List Int)) (base : Nat) (i : Nat) (W : World) (xv : Value) : Prop :=
  match i with
  | 0 => xv = .pointer (some ⟨kb, 0, none⟩)
  | 1 => xv = .slice aa k cap
  | 2 => xv = .agg #[.int .i64 N, .int .i64 T, .int .i64 E, .slice a3 l3 c3]
  | 3 => xv = .agg #[.int .i64 N, .slice a3 l3 c3]
  | 4 => xv = .slice x1 n1 y1
  | 5 => ∃ ra rc, xv = .slice ra zss.length rc ∧ OwS zss W base W.heap.size xv
  | 6 => ∃ ra rc g, xv = .slice (some ⟨g, 0, none⟩) 1 1 ∧ OwS zss W base W.heap.size (.slice ra zss.length rc) ∧ W.cell? ⟨g, 0, none⟩ = some (.slice ra zss.length rc) ∧ g < W.heap.size
  | _ => True
theorem qNg_old (N T E : Int) (a3 : Option Addr) (l3 c3 pb kb : Nat) (aa : Option Addr) (k cap : Nat) (x1 : Option Addr) (n1 y1 : Nat) (zss : List (List Int)) (base : Nat) (i : Nat) (W W' : World) (xv : Value) (h : qNg N T E a3 l3 c3 pb kb aa k cap x1 n1 y1 zss base i W xv) (qo : Old W W') : qNg N T E a3 l3 c3 pb kb aa k cap x1 n1 y1 zss base i W' xv := by
  unfold qNg at h ⊢
  split at h
  case h_6 =>
    obtain ⟨ra, rc, e, ow⟩ := h
    exact ⟨ra, rc, e, growS ow qo⟩
  case h_7 =>
    obtain ⟨ra, rc, g, e, ow, hcell, hlt⟩ := h
    exact ⟨ra, rc, g, e, growS ow qo, (qo.cell (p := ⟨g, 0, none⟩) hlt).trans hcell, Nat.lt_of_lt_of_le hlt qo.size⟩
  all_goals first | exact h | trivial
set_option maxRecDepth 100000 in
set_option maxHeartbeats 4000000 in
theorem reg_Ng (w0 : World) (N T E : Int) (a3 : Option Addr) (l3 c3 pb kb : Nat) (aa : Option Addr) (k cap : Nat) (x1 : Option Addr) (n1 y1 : Nat) (zss : List (List Int)) (FIN : World → Value → Prop) (hk9 : k ≤ 9) (bK : w0.heap[kb]? = some (.cells #[.slice aa k cap] 42 (0, 0))) (hkb : ∀ b, (Value.slice aa k cap).ownBlock = some b → b ≠ kb)
    (ck : w0.cell? ⟨kb, 0, none⟩ = some (.slice aa k cap))
    (bP : w0.heap[pb]? = some (.cells #[.int .i64 N, .int .i64 T, .int .i64 E, .slice a3 l3 c3] 28 (0, 0)))
    (KF : ∀ W, Old w0 W → Calls Tryz.prog 71 #[.agg #[.int .i64 N, .slice a3 l3 c3], .slice x1 n1 y1] W fun e w' => ∃ v', e = .returned v' ∧ Old W w' ∧ OwS zss w' W.heap.size w'.heap.size v')
    (HEM : ∀ (W : World) (u : Value), Old w0 W → OwS zss W w0.heap.size W.heap.size u → ∃ vs, W.ownsRow 0 93 1 (.slice aa k cap) k vs ∧ (∀ v' w', w'.ownsRow 0 93 1 v' (k + 1) (vs ++ [u]) → W.grownBy w' (Value.slice aa k cap).ownBlock → (v'.ownBlock = (Value.slice aa k cap).ownBlock ∨ v'.ownBlock = some W.heap.size) → FIN (w'.setCell ⟨kb, 0, none⟩ v') v'))
    (Q : Exit → Act → World → Prop) (a0 : Act) (hsz : a0.tmps.size = 33)
    (ha2 : a0.eval (.tmp 2) = .pointer (some ⟨pb, 0, none⟩)) (ha6 : a0.eval (.tmp 6) = .pointer (some ⟨kb, 0, none⟩)) (ha8 : a0.eval (.tmp 8) = .slice x1 n1 y1)
    (HK : Hid (∀ (us : Nat → Value) W a5 c5, FIN W (.slice a5 (k + 1) c5) → Q .normal (((putAll a0 ((List.range 7).map fun i => (slotNg i, us i))).put (some 29) (.slice a5 (k + 1) c5)).put (some 30) (.pointer (some ⟨kb, 0, none⟩))) W)) :
    Code.wp Tryz.prog ((Tryz.f27.body.bind (regionAtmul 7)).getD .skip) Q a0 w0 := by
  conv => arg 2; whnf
  obtain ⟨j0, ji, jz0, jz1, jz2⟩ := info_parts Tryz.infoIntSS
  have hkbl := block_lt_of_cell ck
  have un := slotNg_no
  refine wp_region_tail 7 (by decide) (by kernel_rfl) (by kernel_rfl) (by kernel_rfl) (by kernel_rfl) (by kernel_rfl) slotNg (fun i hi => by rw [hsz]; exact slotNg_lt i hi) (fun i j hi hj => slotNg_inj i hi j hj) (qNg N T E a3 l3 c3 pb kb aa k cap x1 n1 y1 zss w0.heap.size) (qNg_old N T E a3 l3 c3 pb kb aa k cap x1 n1 y1 zss w0.heap.size) ?_ ?_
  · refine ⟨?_, ?_, ?_, ?_, ?_, ?_, ?_, trivial⟩
    · intro a W g hF hd
      have e2 := (hF.same 2 (un 2 (by decide))).trans ha2
      have e6 := (hF.same 6 (un 6 (by decide))).trans ha6
      have e8 := (hF.same 8 (un 8 (by decide))).trans ha8
      obtain ⟨ρ, hρ⟩ : ∃ ρ, a.eval = ρ := ⟨_, rfl⟩
      rw [hρ] at  e2 e6 e8
      refine op_val ρ hρ (.pointer (some ⟨kb, 0, none⟩)) ?_ ⟨_, rfl, Old.refl _, rfl⟩
      clear g hF hd hρ HK un ha2 ha6 ha8 ck KF HEM bP bK hkb
      go_simp
      all_goals (rw [IntKind.wrap_i64]; omega)
    · intro a W g hF hd
      have e2 := (hF.same 2 (un 2 (by decide))).trans ha2
      have e6 := (hF.same 6 (un 6 (by decide))).trans ha6
      have e8 := (hF.same 8 (un 8 (by decide))).trans ha8
      have h0 := hd ⟨0, .data⟩ (by simp) rfl
      simp only [qNg, slotNg, List.getD_cons_zero, List.getD_cons_succ] at h0
      have kck := (g.cell (p := ⟨kb, 0, none⟩) hkbl).trans ck
      obtain ⟨ρ, hρ⟩ : ∃ ρ, a.eval = ρ := ⟨_, rfl⟩
      rw [hρ] at h0 e2 e6 e8
      refine op_val ρ hρ (.slice aa k cap) ?_ ⟨_, rfl, Old.refl _, rfl⟩
      clear g hF hd hρ HK un ha2 ha6 ha8 ck KF HEM bP bK hkb
      go_simp
      all_goals (rw [IntKind.wrap_i64]; omega)
    · intro a W g hF hd
      refine op_load (k := pb) ((hF.same 2 (un 2 (by decide))).trans ha2) ((g.block pb (lt_of_some bP)).trans bP) Tryz.underlying28 rfl (by kernel_rfl) ?_
      exact ⟨_, rfl, Old.refl _, rfl⟩
    · intro a W g hF hd
      have h2 : a.eval (.tmp 24) = .agg #[.int .i64 N, .int .i64 T, .int .i64 E, .slice a3 l3 c3] := hd ⟨2, .data⟩ (by simp) rfl
      refine op_call_ret (R := fun v w' => v = .agg #[.int .i64 N, .slice a3 l3 c3] ∧ Old W w') Tryz.call63 (vs := #[.agg #[.int .i64 N, .int .i64 T, .int .i64 E, .slice a3 l3 c3]]) (by simp [h2]) ((l8Space_any N T E a3 l3 c3 W).mono fun e w' h => ⟨_, h.1, rfl, h.2⟩) ?_
      rintro x w' ⟨rfl, g'⟩
      exact ⟨_, rfl, g', rfl⟩
    · intro a W g hF hd
      have e2 := (hF.same 2 (un 2 (by decide))).trans ha2
      have e6 := (hF.same 6 (un 6 (by decide))).trans ha6
      have e8 := (hF.same 8 (un 8 (by decide))).trans ha8
      obtain ⟨ρ, hρ⟩ : ∃ ρ, a.eval = ρ := ⟨_, rfl⟩
      rw [hρ] at  e2 e6 e8
      refine op_val ρ hρ (.slice x1 n1 y1) ?_ ⟨_, rfl, Old.refl _, rfl⟩
      clear g hF hd hρ HK un ha2 ha6 ha8 ck KF HEM bP bK hkb
      go_simp
      all_goals (rw [IntKind.wrap_i64]; omega)
    · intro a W g hF hd
      have h3 : a.eval (.tmp 25) = .agg #[.int .i64 N, .slice a3 l3 c3] := hd ⟨3, .data⟩ (by simp) rfl
      have h4 : a.eval (.tmp 26) = .slice x1 n1 y1 := hd ⟨4, .data⟩ (by simp) rfl
      refine op_call_ret (R := fun v w' => Old W w' ∧ ∃ ra rc, v = .slice ra zss.length rc ∧ OwS zss w' W.heap.size w'.heap.size v) Tryz.call71 (vs := #[.agg #[.int .i64 N, .slice a3 l3 c3], .slice x1 n1 y1]) (by simp [h3, h4]) ((KF W g).mono fun e w' h => by
        obtain ⟨v, rfl, q, o⟩ := h
        obtain ⟨ra, rc, e⟩ := o.slice
        exact ⟨_, rfl, q, ra, rc, e, o⟩) ?_
      rintro x w' ⟨g', ra, rc, rfl, o'⟩
      exact ⟨_, rfl, g', ra, rc, rfl, o'.low g.size⟩
    · intro a W g hF hd
      obtain ⟨ra, rc, h7, ow⟩ : ∃ ra rc, a.eval (.tmp 27) = .slice ra zss.length rc ∧ OwS zss W w0.heap.size W.heap.size (a.eval (.tmp 27)) := hd ⟨5, .data⟩ (by simp) rfl
      rw [h7] at ow
      obtain ⟨ρ, hρ⟩ : ∃ ρ, a.eval = ρ := ⟨_, rfl⟩
      rw [hρ] at h7
      refine op_valW2 (W' := W.alloc (.cells #[.slice ra zss.length rc] 93)) ρ hρ (.slice (some ⟨W.heap.size, 0, none⟩) 1 1) ?_ ⟨_, rfl, (Old.refl W).alloc _, ra, rc, W.heap.size, rfl, growS ow ((Old.refl W).alloc _), cell_at _ _ _ _ _ rfl, by simp⟩
      clear g hF hd hρ HK un ha2 ha6 ha8 ck KF HEM bP bK hkb ow
      go_simp
  · intro a W g hF hq
    have h0 : a.eval (.tmp 23) = .slice aa k cap := hq 1 (by decide)
    have hb : a.eval (.tmp 6) = .pointer (some ⟨kb, 0, none⟩) := (hF.same 6 (un 6 (by decide))).trans ha6
    obtain ⟨ra, rc, gg, h8, ow, hcell, hlt⟩ : ∃ ra rc gg, a.eval (.tmp 28) = .slice (some ⟨gg, 0, none⟩) 1 1 ∧ OwS zss W w0.heap.size W.heap.size (.slice ra zss.length rc) ∧ W.cell? ⟨gg, 0, none⟩ = some (.slice ra zss.length rc) ∧ gg < W.heap.size := hq 6 (by decide)
    obtain ⟨vs, ov, hem⟩ := HEM W _ g ow
    have hp := fram_put hF (fun i j hi hj => slotNg_inj i hi j hj)
    refine op_append_at2 _ _ 32 rfl 0 93 j0 (.slice none 0 0) 1 24 Tryz.underlying32 ji jz0 jz1 jz2 rfl (by decide) _ k vs h0 ov ⟨gg, 0, none⟩ 1 1 [.slice ra zss.length rc] h8 rfl ?_ (one_slC _ _ _) (by unfold maxLen; omega) (by omega) (Nat.zero_le _) ?_
    · intro j u hj
      match j, hj with
      | 0, hj =>
        have : Value.slice ra zss.length rc = u := by simpa using hj
        subst this
        exact hcell
      | j + 1, hj => simp at hj
    · intro v' w' o5 g5 x5 l5
      have hfin := hem v' w' o5 g5 l5
      obtain ⟨a5, c5, e5⟩ : ∃ a5 c5, v' = .slice a5 (k + 1) c5 := by
        rcases o5.2 with ⟨h1, h2⟩ | ⟨p, cp, cur, h1, _⟩
        · omega
        · exact ⟨_, _, h1⟩
      subst e5
      have hk2 := HK.out (fun i => a.eval (.tmp (slotNg i))) _ a5 c5 hfin
      rw [← hp] at hk2
      have hkl : kb < W.heap.size := Nat.lt_of_lt_of_le (lt_of_some bK) g.size
      have hK5 : w'.heap[kb]? = some (.cells #[.slice aa k cap] 42 (0, 0)) := ((g5.block kb hkl (fun e => hkb kb e.symm rfl)).trans (g.block kb (lt_of_some bK))).trans bK
      have hc5 : w'.cell? ⟨kb, 0, none⟩ = some (.slice aa k cap) := by rw [cell_of_row _ _ _ _ _ _ hK5]; rfl
      have hf5 : w'.frozen? ⟨kb, 0, none⟩ = false := frozen_of_row _ _ _ _ _ hK5
      have sz0 : a.tmps.size = 33 := hF.size.trans hsz
      have e1 : (a.put (some 29) (.slice a5 (k + 1) c5)).eval (.tmp 6) = .pointer (some ⟨kb, 0, none⟩) := (eval_put_other _ _ _ _ (by decide)).trans hb
      have sz1 : (a.put (some 29) (.slice a5 (k + 1) c5)).tmps.size = 33 := by simpa [Act.put] using sz0
      have e2 : ((a.put (some 29) (.slice a5 (k + 1) c5)).put (some 30) (.pointer (some ⟨kb, 0, none⟩))).eval (.tmp 29) = .slice a5 (k + 1) c5 := (eval_put_other _ _ _ _ (by decide)).trans (eval_put_same _ _ _ (by rw [sz0]; decide))
      have e3 : ((a.put (some 29) (.slice a5 (k + 1) c5)).put (some 30) (.pointer (some ⟨kb, 0, none⟩))).eval (.tmp 30) = .pointer (some ⟨kb, 0, none⟩) := eval_put_same _ _ _ (by rw [sz1]; decide)
      clear hem ov hcell ow h8 h0 hq hF hb HK un g g5 o5 l5 x5 hp hkl hK5 hfin sz0 sz1 ha6
      generalize (a.put (some 29) (.slice a5 (k + 1) c5)) = b1 at *
      obtain ⟨ρ, hρ⟩ : ∃ ρ, b1.eval = ρ := ⟨_, rfl⟩
      rw [hρ] at e1
      refine op_val ρ hρ (.pointer (some ⟨kb, 0, none⟩)) ?_ ?_
      · clear hρ e2 e3 hk2
        go_simp
      · show tailWp _ _ [_] _ _
        generalize (b1.put (some 30) (.pointer (some ⟨kb, 0, none⟩))) = b2 at *
        obtain ⟨ρ2, hρ2⟩ : ∃ ρ, b2.eval = ρ := ⟨_, rfl⟩
        rw [hρ2] at e2 e3
        refine op_skp (W' := w'.setCell ⟨kb, 0, none⟩ (.slice a5 (k + 1) c5)) ρ2 hρ2 ?_ ?_
        · clear hρ hρ2 hk2 e1
          go_simp
        · exact hk2
end Go.Proofs.YtakleianimcmdaaGreatDoor
/- Proved: the contract of the model's NegCipher. -/
namespace Go.Proofs.YtakleianimcmdaaGreatDoor
open Go.ChangeShapes Go.WideShapes Go.ChangeAt Go.RowKit
set_option linter.unusedVariables false
set_option linter.unusedSimpArgs false
abbrev PaK (zsss : List (List (List Int))) (k : Nat) : Thing := TS 93 1 k (fun j => TSS (zsss.getD j []))
theorem good_PaK (zsss : List (List (List Int))) (k : Nat) : GoodT (PaK zsss k) := good_TS _ _ _ (fun _ => good_TSS _)
theorem parts_app {zsss : List (List (List Int))} {w w0 : World} {kb k cap : Nat} {aa : Option Addr} (HO : Ows (PaK zsss k) w0 (kb + 1) w0.heap.size [.slice aa k cap]) (hkl : kb < w0.heap.size) (hw : w.heap.size ≤ kb) (hO : Old w w0) (bK : w0.heap[kb]? = some (.cells #[.slice aa k cap] 42 (0, 0)))
    (W : World) (u : Value) (g : Old w0 W) (ou : OwS (zsss.getD k []) W w0.heap.size W.heap.size u) :
    ∃ vs, W.ownsRow 0 93 1 (.slice aa k cap) k vs ∧ (∀ v' w', w'.ownsRow 0 93 1 v' (k + 1) (vs ++ [u]) → W.grownBy w' (Value.slice aa k cap).ownBlock → (v'.ownBlock = (Value.slice aa k cap).ownBlock ∨ v'.ownBlock = some W.heap.size) →
      Ows (PaK zsss (k + 1)) (w'.setCell ⟨kb, 0, none⟩ v') (kb + 1) (w'.setCell ⟨kb, 0, none⟩ v').heap.size [v'] ∧ Bk (w'.setCell ⟨kb, 0, none⟩ v') kb #[v'] 42 ∧ Old w (w'.setCell ⟨kb, 0, none⟩ v') ∧ ∀ b, b < kb → (w'.setCell ⟨kb, 0, none⟩ v').heap[b]? = w0.heap[b]?) := by
  obtain ⟨Be, hE, hbe⟩ := ou.tss
  obtain ⟨vs, ho, hown, hap⟩ := Ows.app (fun j => good_TSS _) (good_TSS _) HO (by omega) g hE (fun b hb => (hbe b hb).1) rfl
  refine ⟨vs, ho, fun v' w' o5 g5 l5 => ?_⟩
  have h1 := hap v' w' o5 g5 l5
  have h2 : Ows (PaK zsss (k + 1)) w' (kb + 1) w'.heap.size [v'] := by
    obtain ⟨hh, B, hT, hB⟩ := h1
    refine ⟨hh, B, TS.ext (fun j hj => ?_) hT, hB⟩
    by_cases e : j = k
    · subst e
      simp
    · simp [e]
  have hne : (Value.slice aa k cap).ownBlock ≠ some kb := fun e => by have := hown kb e; omega
  have hblk : ∀ b, b < kb → w'.heap[b]? = w0.heap[b]? := fun b hb => (g5.block b (by have := g.size; omega) (fun e => by have := hown b e.symm; omega)).trans (g.block b (by omega))
  have hK5 : w'.heap[kb]? = some (.cells #[.slice aa k cap] 42 (0, 0)) := ((g5.block kb (Nat.lt_of_lt_of_le hkl g.size) (fun e => hne e.symm)).trans (g.block kb hkl)).trans bK
  refine ⟨?_, ?_, ?_, fun b hb => ?_⟩
  · have := far_Ows (good_PaK zsss (k + 1)) w' (w'.setCell ⟨kb, 0, none⟩ v') (kb + 1) w'.heap.size [v'] h2 (fun b h1 h2 => heap_setCell_other _ _ _ _ (by show b ≠ kb; omega)) (by simp)
    simpa using this
  · exact (heap_setCell_same w' kb 0 _ _ v' hK5).trans rfl
  · have hw' : Old w w' := ⟨g5.os.trans (g.os.trans hO.os), g5.tape.trans (g.tape.trans hO.tape), g5.output.trans (g.output.trans hO.output), Nat.le_trans hO.size (Nat.le_trans g.size g5.size), fun b hb => (hblk b (by omega)).trans (hO.block b hb)⟩
    exact hw'.own (p := ⟨kb, 0, none⟩) hw _
  · rw [heap_setCell_other _ _ _ _ (by show b ≠ kb; omega)]
    exact hblk b hb
theorem XC.nil {W : World} {lo hi : Nat} (h : hi ≤ W.heap.size) : XC [] W lo hi #[.slice none 0 0] := ⟨none, 0, rfl, Ows.nil h⟩
theorem ci_res {W : World} {k : Nat} {x : Value} {t : TypeId} (h : Bk W k #[x] t) (y : Value) : Bk (W.setCell ⟨k, 0, none⟩ y) k #[y] t := (heap_setCell_same W k 0 _ _ y h).trans rfl
set_option maxRecDepth 100000 in
set_option maxHeartbeats 4000000 in
theorem spec_NegCipher_no (N T E : Int) (a3 : Option Addr) (l3 c3 : Nat) (a1 : Option Addr) (l1 c1 : Nat) (w : World)
    (KG : ∀ W, Old w W → Calls Tryz.prog 59 #[.agg #[.int .i64 N, .int .i64 T, .int .i64 E, .slice a3 l3 c3], .agg #[.slice a1 l1 c1]] W fun e w' => e = .returned (.bool false) ∧ Old W w') :
    Calls Tryz.prog 27 #[.agg #[.int .i64 N, .int .i64 T, .int .i64 E, .slice a3 l3 c3], .agg #[.slice a1 l1 c1]] w fun e w' => ∃ r0, e = .returned (.tuple #[.agg r0, .bool false]) ∧ Old w w' ∧ XC [] w' w.heap.size w'.heap.size r0 := by
  have HA : Hid (Old w (((w.alloc (.cells #[.int .i64 N, .int .i64 T, .int .i64 E, .slice a3 l3 c3] 28)).alloc (.cells #[.slice a1 l1 c1] 42)).alloc (.cells #[.slice none 0 0] 42))) := (((Old.refl w).alloc _).alloc _).alloc _
  have BR : Hid (Bk (((w.alloc (.cells #[.int .i64 N, .int .i64 T, .int .i64 E, .slice a3 l3 c3] 28)).alloc (.cells #[.slice a1 l1 c1] 42)).alloc (.cells #[.slice none 0 0] 42)) (w.heap.size + 1 + 1) #[.slice none 0 0] 42) := Bk.new' _ _ _ (by simp)
  go_enter Tryz.func27, Tryz.ntmps27
  go_wp2_with fail
  refine (KG _ HA.out).mono ?_
  rintro e w1 ⟨rfl, g1⟩
  have HG1 : Hid (Old w w1) := Old.trans HA.out g1
  have B1 : Hid (Bk w1 (w.heap.size + 1 + 1) #[.slice none 0 0] 42) := BR.out.old g1
  have z0 := B1.out.c (i := 0) rfl
  have f0 : w1.frozen? ⟨w.heap.size + 1 + 1, 0, none⟩ = false := frozen_of_row _ _ _ _ _ B1.out
  clear g1
  go_wp2_with fail
  have q0 := (ci_res B1.out (.slice none 0 0)).c (i := 0) rfl
  refine bodyPost_ret (v := .tuple #[.agg #[.slice none 0 0], .bool false]) (by simp [results, Tryz.results27, go_sem, q0]) rfl ⟨_, rfl, ?_, XC.nil (Nat.le_refl _)⟩
  exact HG1.out.own (p := ⟨w.heap.size + 1 + 1, 0, none⟩) (by simp; omega) _
set_option maxRecDepth 100000 in
set_option maxHeartbeats 4000000 in
theorem spec_NegCipher_yes (N T E : Int) (a3 : Option Addr) (l3 c3 : Nat) (b o : Nat) (c1 : Nat) (zsss : List (List (List Int))) (us : Nat → Value) (w : World) (hm : 2 ≤ zsss.length ∧ zsss.length ≤ 3) (hb : b < w.heap.size) (hus : ∀ j, j < zsss.length → ∃ a l c, us j = .slice a l c) (hc : ∀ j, j < zsss.length → w.cell? ⟨b, o + j, none⟩ = some (us j))
    (KG : ∀ W, Old w W → Calls Tryz.prog 59 #[.agg #[.int .i64 N, .int .i64 T, .int .i64 E, .slice a3 l3 c3], .agg #[.slice (some ⟨b, o, none⟩) zsss.length c1]] W fun e w' => e = .returned (.bool true) ∧ Old W w')
    (KF : ∀ j, j < zsss.length → ∀ W, Old w W → Calls Tryz.prog 71 #[.agg #[.int .i64 N, .slice a3 l3 c3], us j] W fun e w' => ∃ v', e = .returned v' ∧ Old W w' ∧ OwS (zsss.getD j []) w' W.heap.size w'.heap.size v') :
    Calls Tryz.prog 27 #[.agg #[.int .i64 N, .int .i64 T, .int .i64 E, .slice a3 l3 c3], .agg #[.slice (some ⟨b, o, none⟩) zsss.length c1]] w fun e w' => ∃ r0, e = .returned (.tuple #[.agg r0, .bool true]) ∧ Old w w' ∧ XC zsss w' w.heap.size w'.heap.size r0 := by
  have HA : Hid (Old w (((w.alloc (.cells #[.int .i64 N, .int .i64 T, .int .i64 E, .slice a3 l3 c3] 28)).alloc (.cells #[.slice (some ⟨b, o, none⟩) zsss.length c1] 42)).alloc (.cells #[.slice none 0 0] 42))) := (((Old.refl w).alloc _).alloc _).alloc _
  have BP : Hid (Bk (((w.alloc (.cells #[.int .i64 N, .int .i64 T, .int .i64 E, .slice a3 l3 c3] 28)).alloc (.cells #[.slice (some ⟨b, o, none⟩) zsss.length c1] 42)).alloc (.cells #[.slice none 0 0] 42)) w.heap.size #[.int .i64 N, .int .i64 T, .int .i64 E, .slice a3 l3 c3] 28) := ((Bk.new' w _ _ rfl).alloc _).alloc _
  have BC : Hid (Bk (((w.alloc (.cells #[.int .i64 N, .int .i64 T, .int .i64 E, .slice a3 l3 c3] 28)).alloc (.cells #[.slice (some ⟨b, o, none⟩) zsss.length c1] 42)).alloc (.cells #[.slice none 0 0] 42)) (w.heap.size + 1) #[.slice (some ⟨b, o, none⟩) zsss.length c1] 42) := (Bk.new' _ _ _ (by simp)).alloc _
  have BR : Hid (Bk (((w.alloc (.cells #[.int .i64 N, .int .i64 T, .int .i64 E, .slice a3 l3 c3] 28)).alloc (.cells #[.slice (some ⟨b, o, none⟩) zsss.length c1] 42)).alloc (.cells #[.slice none 0 0] 42)) (w.heap.size + 1 + 1) #[.slice none 0 0] 42) := Bk.new' _ _ _ (by simp)
  have HUS : Hid (∀ j, j < zsss.length → ∃ a l c, us j = .slice a l c) := hus
  have HC : Hid (∀ j, j < zsss.length → w.cell? ⟨b, o + j, none⟩ = some (us j)) := hc
  have HKF : Hid (∀ j, j < zsss.length → ∀ W, Old w W → Calls Tryz.prog 71 #[.agg #[.int .i64 N, .slice a3 l3 c3], us j] W fun e w' => ∃ v', e = .returned v' ∧ Old W w' ∧ OwS (zsss.getD j []) w' W.heap.size w'.heap.size v') := KF
  clear hus hc KF
  go_enter Tryz.func27, Tryz.ntmps27
  go_wp2_with fail
  refine (KG _ HA.out).mono ?_
  rintro e w1 ⟨rfl, g1⟩
  have HG1 : Hid (Old w (w1.alloc (.cells #[.slice none 0 0] 42))) := (Old.trans HA.out g1).alloc _
  have BP1 : Hid (Bk (w1.alloc (.cells #[.slice none 0 0] 42)) w.heap.size #[.int .i64 N, .int .i64 T, .int .i64 E, .slice a3 l3 c3] 28) := (BP.out.old g1).alloc _
  have BC1 : Hid (Bk (w1.alloc (.cells #[.slice none 0 0] 42)) (w.heap.size + 1) #[.slice (some ⟨b, o, none⟩) zsss.length c1] 42) := (BC.out.old g1).alloc _
  have BR1 : Hid (Bk (w1.alloc (.cells #[.slice none 0 0] 42)) (w.heap.size + 1 + 1) #[.slice none 0 0] 42) := (BR.out.old g1).alloc _
  have BO1 : Hid (Bk (w1.alloc (.cells #[.slice none 0 0] 42)) w1.heap.size #[.slice none 0 0] 42) := Bk.new' w1 _ _ rfl
  have hs1 : w.heap.size + 3 ≤ w1.heap.size := by have := g1.size; simp at this; omega
  have z1 := BC1.out.c (i := 0) rfl
  have HO1 : Hid (Ows (PaK zsss 0) (w1.alloc (.cells #[.slice none 0 0] 42)) (w1.heap.size + 1) (w1.alloc (.cells #[.slice none 0 0] 42)).heap.size [.slice none 0 0]) := Ows.nil (Nat.le_refl _)
  clear g1 KG BP BC BR HA
  go_wp2_with fail
  go_loopw [18] (fun i W => ∃ (k : Nat) (aa : Option Addr) (cap : Nat), k ≤ zsss.length ∧ i = .int .i64 k ∧ Hid (Ows (PaK zsss k) W (w1.heap.size + 1) W.heap.size [.slice aa k cap]) ∧ Hid (Bk W w1.heap.size #[.slice aa k cap] 42) ∧ Hid (Old w W) ∧ Hid (Bk W w.heap.size #[.int .i64 N, .int .i64 T, .int .i64 E, .slice a3 l3 c3] 28) ∧ Hid (Bk W (w.heap.size + 1 + 1) #[.slice none 0 0] 42)) (fun i _ => zsss.length - (intOf i).toNat)
  case atStart => exact ⟨0, none, 0, by omega, rfl, HO1, BO1, HG1, BP1, BR1⟩
  case round =>
    obtain ⟨k, aa, cap, hk, rfl, HO, BO, HG, BP, BR⟩ := hrel
    clear HO1 BO1 HG1 BP1 BR1 BC1 z1
    by_cases hlt : k < zsss.length
    · have d1 : decide ((k : Int) < (zsss.length : Int)) = true := decide_eq_true (by omega)
      have c1' := (HG.out.cell (p := ⟨b, o + k, none⟩) hb).trans (HC.out k hlt)
      obtain ⟨au, lu, cu, eu⟩ := HUS.out k hlt
      have kf := HKF.out k hlt
      rw [eu] at c1' kf
      clear eu
      go_wp2_with fail
      refine reg_Ng wr N T E a3 l3 c3 w.heap.size w1.heap.size aa k cap au lu cu (zsss.getD k []) (fun W v' => Ows (PaK zsss (k + 1)) W (w1.heap.size + 1) W.heap.size [v'] ∧ Bk W w1.heap.size #[v'] 42 ∧ Old w W ∧ ∀ b, b < w1.heap.size → W.heap[b]? = wr.heap[b]?) (by omega) BO.out (fun bb hbb e => ?_) (BO.out.c (i := 0) rfl) BP.out (fun W g => kf W (Old.trans HG.out g)) (fun W u g ou => parts_app HO.out BO.out.lt (by omega) HG.out BO.out W u g ou) _ _ ?_ ?_ ?_ ?_ ?_
      · obtain ⟨_, B, hT, hB⟩ := HO.out
        rcases hT with ⟨_, e1, _⟩ | ⟨p, cp, vs, Bs, e1, hc, hbb2⟩
        · simp at e1
          rw [e1.1] at hbb
          cases hbb
        · simp at e1
          rw [e1.1] at hbb
          simp only [Value.ownBlock, Option.some.injEq] at hbb
          have := (hB p ((hbb2 p).2 (.inl rfl))).1
          omega
      iterate 4 (· exact rfl)
      intro us2 W a5 c5 hfin
      obtain ⟨n1, n2, n3, n4⟩ := hfin
      simp only [putAll, Act.put, slotNg, List.range, List.range.loop, List.map_cons, List.map_nil, List.getD_cons_zero, List.getD_cons_succ, List.setIfInBounds_toArray, List.set_cons_succ, List.set_cons_zero]
      have N1 : Hid (Ows (PaK zsss (k + 1)) W (w1.heap.size + 1) W.heap.size [.slice a5 (k + 1) c5]) := n1
      have N2 : Hid (Bk W w1.heap.size #[.slice a5 (k + 1) c5] 42) := n2
      have N3 : Hid (Old w W) := n3
      have N5 : Hid (Bk W w.heap.size #[.int .i64 N, .int .i64 T, .int .i64 E, .slice a3 l3 c3] 28) := (n4 _ (by omega)).trans BP.out
      have N6 : Hid (Bk W (w.heap.size + 1 + 1) #[.slice none 0 0] 42) := (n4 _ (by omega)).trans BR.out
      clear n1 n2 n3 n4 HO BO HG BP BR c1' kf
      go_wp2_with fail
      exact ⟨⟨k + 1, a5, c5, by omega, by go_num, N1, N2, N3, N5, N6⟩, by simp [intOf]; omega⟩
    · have d1 : decide ((k : Int) < (zsss.length : Int)) = false := decide_eq_false (by omega)
      obtain rfl : k = zsss.length := by omega
      have z0 := BO.out.c (i := 0) rfl
      have y0 := BR.out.c (i := 0) rfl
      have f0 : wr.frozen? ⟨w.heap.size + 1 + 1, 0, none⟩ = false := frozen_of_row _ _ _ _ _ BR.out
      go_wp2_with fail
      have q0 := (ci_res BR.out (.slice aa zsss.length cap)).c (i := 0) rfl
      refine bodyPost_ret (v := .tuple #[.agg #[.slice aa zsss.length cap], .bool true]) (by simp [results, Tryz.results27, go_sem, q0]) rfl ⟨_, rfl, ?_, aa, cap, rfl, ?_⟩
      · exact HG.out.own (p := ⟨w.heap.size + 1 + 1, 0, none⟩) (by simp; omega) _
      · have h1 : Ows (TTT zsss) wr (w1.heap.size + 1) wr.heap.size [.slice aa zsss.length cap] := HO.out
        have h2 := h1.putT (k := w.heap.size + 1 + 1) (j := 0) (x := .slice aa zsss.length cap) (.inl (by omega))
        exact h2.low (lo' := w.heap.size) (by omega) (by simp) (Nat.le_refl _)
end Go.Proofs.YtakleianimcmdaaGreatDoor
