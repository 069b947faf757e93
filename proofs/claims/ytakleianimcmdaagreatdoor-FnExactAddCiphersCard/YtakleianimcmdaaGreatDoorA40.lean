/- Proved: several texts in one: what each proves is said ahead of it. -/
import Derived.Test.YtakleianimcmdaaGreatDoorIne
import Derived.Test.YtakleianimcmdaaGreatDoorJnp
import Derived.Test.YtakleianimcmdaaGreatDoorPla
import Derived.Test.YtakleianimcmdaaGreatDoorA30
import Derived.Test.YtakleianimcmdaaGreatDoorA18
import Derived.Test.YtakleianimcmdaaGreatDoorA26
/- Proved: a Part of a cipher, or noughts where it lacks; the sum of two, by rows. -/
namespace Go.Proofs.YtakleianimcmdaaGreatDoor
open Go.ChangeShapes Go.WideShapes Go.ChangeAt Go.RowKit
set_option linter.unusedVariables false
set_option linter.unusedSimpArgs false
def RdX (N : Int) (ps : List Int) (Rf : Nat → Int) (xss : List (List Int)) (W : World) (v : Value) : Prop := ∃ us : Nat → Value, RdR W v ps.length N false ps Rf us ∧ ∀ k, k < ps.length → Row W (us k) (xss.getD k []) ∧ ∃ x c, us k = .slice x (xss.getD k []).length c
theorem RdX.old {N : Int} {ps : List Int} {Rf : Nat → Int} {xss : List (List Int)} {W W' : World} {v : Value} (h : RdX N ps Rf xss W v) (g : Old W W') : RdX N ps Rf xss W' v := by
  obtain ⟨us, h1, h2⟩ := h
  exact ⟨us, h1.old g, fun k hk => ⟨(h2 k hk).1.old g, (h2 k hk).2⟩⟩
theorem RdX.slice {N : Int} {ps : List Int} {Rf : Nat → Int} {xss : List (List Int)} {W : World} {v : Value} (h : RdX N ps Rf xss W v) : ∃ a c, v = .slice a ps.length c := by
  obtain ⟨us, ⟨b, cap, e, _⟩, _⟩ := h
  exact ⟨_, _, e⟩
def OkX (Nn : Nat) (ps : List Int) (xss : List (List Int)) : Prop := ∀ k, k < ps.length → (xss.getD k []).length = Nn ∧ ∀ i, i < Nn → 0 ≤ (xss.getD k []).getD i 0 ∧ (xss.getD k []).getD i 0 < ps.getD k 0
theorem okX_rw {Nn : Nat} {ps : List Int} {xss : List (List Int)} (h : rwB Nn ps xss = true) : OkX Nn ps xss := fun k hk => by
  obtain ⟨h1, h2⟩ := rw_parts h
  obtain ⟨p1, p2⟩ := poly_parts (h2 k hk)
  exact ⟨by omega, fun i hi => p2 i (by omega)⟩
theorem zero_get (Nn : Nat) (ps : List Int) (k i : Nat) (hk : k < ps.length) (hi : i < Nn) : ((smS ps (List.replicate Nn 0)).getD k []).getD i 0 = 0 := by
  rw [smS_get _ _ _ hk, smR_get _ _ _ (by simpa using hi)]
  simp [List.getD, List.getElem?_replicate, hi]
theorem okX_zero {Nn : Nat} {ps : List Int} (hp : ∀ k, k < ps.length → 2 ≤ ps.getD k 0 ∧ ps.getD k 0 ≤ 268435456) : OkX Nn ps (smS ps (List.replicate Nn 0)) := fun k hk => by
  refine ⟨by rw [smS_get _ _ _ hk, smR_len]; simp, fun i hi => ?_⟩
  rw [zero_get Nn ps k i hk hi]
  have := hp k hk
  omega
theorem get_some {α : Type} (l : List α) (i : Nat) (d : α) (h : i < l.length) : l[i]? = some (l.getD i d) := by simp [List.getD, h]
theorem add_zeroR {Nn : Nat} {ps : List Int} {xss : List (List Int)} (hx : xss.length = ps.length) (h : OkX Nn ps xss) : pairL addF ps xss (smS ps (List.replicate Nn 0)) = xss := by
  apply List.ext_getElem?
  intro k
  by_cases hk : k < ps.length
  · have e1 : (pairL addF ps xss (smS ps (List.replicate Nn 0)))[k]? = some ((pairL addF ps xss (smS ps (List.replicate Nn 0))).getD k []) := by simp [List.getD, pairL_len, hk]
    have e2 : xss[k]? = some (xss.getD k []) := by simp [List.getD, hx, hk]
    rw [e1, e2, pairL_get _ _ _ _ _ hk]
    congr 1
    obtain ⟨l1, l2⟩ := h k hk
    apply List.ext_getElem?
    intro i
    by_cases hi : i < Nn
    · have e3 := get_some (pairR addF (ps.getD k 0) (xss.getD k []) ((smS ps (List.replicate Nn 0)).getD k [])) i 0 (by rw [pairR_len]; omega)
      have e4 := get_some (xss.getD k []) i 0 (by omega)
      rw [e3, e4, pairR_get _ _ _ _ _ (by omega), zero_get Nn ps k i hk hi]
      have := l2 i hi
      unfold addF
      rw [Int.add_zero, Int.emod_eq_of_lt this.1 this.2]
    · rw [List.getElem?_eq_none (by rw [pairR_len]; omega), List.getElem?_eq_none (by omega)]
  · rw [List.getElem?_eq_none (by rw [pairL_len]; omega), List.getElem?_eq_none (by omega)]
theorem add_zeroL {Nn : Nat} {ps : List Int} {xss : List (List Int)} (hx : xss.length = ps.length) (h : OkX Nn ps xss) : pairL addF ps (smS ps (List.replicate Nn 0)) xss = xss := by
  refine Eq.trans ?_ (add_zeroR hx h)
  unfold pairL
  refine List.map_congr_left fun k hk => ?_
  have hk' : k < ps.length := by simpa using hk
  unfold pairR
  have l1 : ((smS ps (List.replicate Nn 0)).getD k []).length = Nn := by rw [smS_get _ _ _ hk', smR_len]; simp
  rw [l1, (h k hk').1]
  refine List.map_congr_left fun i hi => ?_
  unfold addF
  rw [Int.add_comm]
theorem add_part (Nn : Nat) (ps : List Int) (Rf : Nat → Int) (xss yss : List (List Int)) (v1 v2 : Value) (w : World) (hN : 2 ≤ Nn ∧ Nn ≤ 16) (hps : 1 ≤ ps.length ∧ ps.length ≤ 6) (hpb : ∀ k, k < ps.length → 2 ≤ ps.getD k 0 ∧ ps.getD k 0 ≤ 268435456) (hx : OkX Nn ps xss) (hy : OkX Nn ps yss) (h1 : RdX Nn ps Rf xss w v1) (h2 : RdX Nn ps Rf yss w v2) :
    Calls Tryz.prog 75 #[v1, v2, .func (.func 128) #[] #[]] w fun e w' => ∃ v', e = .returned v' ∧ Old w w' ∧ Ows (TS 118 5 ps.length (elR Nn false ps Rf (pairL addF ps xss yss))) w' w.heap.size w'.heap.size [v'] := by
  obtain ⟨us, hr, hus⟩ := h1
  obtain ⟨vs, hs, hvs⟩ := h2
  refine (joined_plus Nn false ps Rf us v1 ps Rf false vs v2 ps.length w hr (fun k hk => ?_) hs (fun k hk => ?_) (by omega) (pairL addF ps xss yss) (fun k hk W g => ?_)).mono fun e w' h => ⟨_, h.1, h.2.1, h.2.2⟩
  · obtain ⟨_, x, c, e⟩ := hus k hk
    exact ⟨x, _, c, e⟩
  · obtain ⟨_, x, c, e⟩ := hvs k hk
    exact ⟨x, _, c, e⟩
  · obtain ⟨r1, x, c, e⟩ := hus k hk
    obtain ⟨r2, y, d, f⟩ := hvs k hk
    rw [(hx k hk).1] at e
    rw [(hy k hk).1] at f
    rw [e] at r1 ⊢
    rw [f] at r2 ⊢
    refine (impl_plusA (ps.getD k 0) (Rf k) (ps.getD k 0) (Rf k) Nn false false Nn _ _ x y c d W (r1.old g) (r2.old g) (hpb k hk) hN (hx k hk).1 (hy k hk).1 (fun i hi => ⟨(hx k hk).2 i hi, (hy k hk).2 i hi⟩)).mono fun e w' h => ?_
    obtain ⟨g', rfl, g2, o2⟩ := h
    refine ⟨_, rfl, g2, ?_⟩
    rw [pairL_get _ _ _ _ k hk]
    exact o2
set_option maxRecDepth 100000 in
set_option maxHeartbeats 2000000 in
theorem partAt_in (N T E : Int) (a3 : Option Addr) (l3 c3 : Nat) (a4 : Option Addr) (l4 c4 : Nat) (b5 : Bool) (a6 : Option Addr) (l6 c6 : Nat) (gp m i : Nat) (au : Option Addr) (lu cu : Nat) (w : World) (hi : i < m) (hm : m ≤ 3) (hg : gp < w.heap.size) (hc : w.cell? ⟨gp, i, none⟩ = some (.slice au lu cu)) :
    Calls Tryz.prog 127 #[.agg #[.int .i64 N, .int .i64 T, .int .i64 E, .slice a3 l3 c3, .slice a4 l4 c4, .bool b5, .slice a6 l6 c6], .slice (some ⟨gp, 0, none⟩) m m, .int .i64 i] w fun e w' => e = .returned (.slice au lu cu) ∧ Old w w' := by
  have HA : Hid (Old w (w.alloc (.cells #[.int .i64 N, .int .i64 T, .int .i64 E, .slice a3 l3 c3, .slice a4 l4 c4, .bool b5, .slice a6 l6 c6] 73))) := (Old.refl w).alloc _
  have d1 : decide ((i : Int) < (m : Int)) = true := decide_eq_true (by omega)
  have i1 : (i : Int) < (m : Int) := by omega
  have c1 := (HA.out.cell (p := ⟨gp, i, none⟩) hg).trans hc
  clear hc
  go_enter Tryz.func127, Tryz.ntmps127
  go_wp2_with fail
  go_ret
  exact ⟨rfl, HA.out⟩
set_option maxRecDepth 100000 in
set_option maxHeartbeats 2000000 in
theorem partAt_out (Nn : Nat) (ps : List Int) (Rf : Nat → Int) (T E : Int) (a3 : Option Addr) (l3 c3 : Nat) (gr : Nat) (b5 : Bool) (a6 : Option Addr) (l6 c6 : Nat) (gp m i : Nat) (w : World) (hi : ¬ i < m) (hm : m ≤ 3) (hr : Rgs w gr Nn ps Rf ps.length) (hN : 2 ≤ Nn ∧ Nn ≤ 16) (hps : 1 ≤ ps.length ∧ ps.length ≤ 6) (hpb : ∀ k, k < ps.length → 2 ≤ ps.getD k 0 ∧ ps.getD k 0 ≤ 268435456) :
    Calls Tryz.prog 127 #[.agg #[.int .i64 Nn, .int .i64 T, .int .i64 E, .slice a3 l3 c3, .slice (some ⟨gr, 0, none⟩) ps.length ps.length, .bool b5, .slice a6 l6 c6], .slice (some ⟨gp, 0, none⟩) m m, .int .i64 i] w fun e w' => ∃ v', e = .returned v' ∧ Old w w' ∧ RdX Nn ps Rf (smS ps (List.replicate Nn 0)) w' v' := by
  have HA : Hid (Old w (w.alloc (.cells #[.int .i64 Nn, .int .i64 T, .int .i64 E, .slice a3 l3 c3, .slice (some ⟨gr, 0, none⟩) ps.length ps.length, .bool b5, .slice a6 l6 c6] 73))) := (Old.refl w).alloc _
  have d1 : decide ((i : Int) < (m : Int)) = false := decide_eq_false (by omega)
  have cz := impl_noughtRows Nn ps Rf gr _ (hr.old HA.out) (by omega) (by omega) (fun k hk => by have := hpb k hk; omega)
  have HPS : Hid (0 < ps.length) := hps.1
  clear hr hpb hps hN
  go_enter Tryz.func127, Tryz.ntmps127
  go_wp2_with fail
  refine cz.mono ?_
  rintro e w3 ⟨gz, hgz, rfl, g3, o3⟩
  have HG3 : Hid (Old w w3) := Old.trans HA.out g3
  have HO3 : Hid (Ows (TS 118 5 ps.length (elR Nn false ps Rf (smS ps (List.replicate Nn 0)))) w3 0 w3.heap.size [.slice (some ⟨gz, 0, none⟩) ps.length ps.length]) := o3.low (Nat.zero_le _) (Nat.le_refl _) (Nat.le_refl _)
  clear g3 o3 cz
  go_wp2_with fail
  go_ret
  exact ⟨_, rfl, HG3.out, Ows.rd HPS.out HO3.out⟩
end Go.Proofs.YtakleianimcmdaaGreatDoor
/- Proved: the drawn region of sum: a Part of each, their sum, which is laid into the sums. -/
namespace Go.Proofs.YtakleianimcmdaaGreatDoor
open Go.ChangeShapes Go.WideShapes Go.ChangeAt Go.RowKit
set_option linter.unusedVariables false
set_option linter.unusedSimpArgs false
def slotSm (i : Nat) : Nat := [26, 27, 28, 29, 30, 31, 32, 33, 34, 35, 36, 37].getD i 0
theorem slotSm_lt : ∀ i, i < 12 → slotSm i < 40 := by decide
theorem slotSm_inj : ∀ i, i < 12 → ∀ j, j < 12 → slotSm i = slotSm j → i = j := by decide
theorem slotSm_no : ∀ s, s < 20 → ∀ i, i < 12 → slotSm i ≠ s := by decide
def qSm (sb M k : Nat) (RK : Array Value) (gl ml gr mr : Nat) (N : Int) (ps : List Int) (Rf : Nat → Int) (A B : List (List Int)) (Es : Nat → Thing) (base : Nat) (i : Nat) (W : World) (xv : Value) : Prop :=
  match i with
  | 0 => xv = .slice (some ⟨sb, 0, none⟩) M M
  | 1 => xv = .int .i64 k
  | 2 => xv = .agg RK
  | 3 => xv = .slice (some ⟨gl, 0, none⟩) ml ml
  | 4 => xv = .int .i64 k
  | 5 => ∃ a c, xv = .slice a ps.length c ∧ RdX N ps Rf A W xv
  | 6 => xv = .agg RK
  | 7 => xv = .slice (some ⟨gr, 0, none⟩) mr mr
  | 8 => xv = .int .i64 k
  | 9 => ∃ a c, xv = .slice a ps.length c ∧ RdX N ps Rf B W xv
  | 10 => ∃ a c, xv = .slice a ps.length c ∧ Ows (TS 118 5 ps.length Es) W base W.heap.size [xv]
  | 11 => xv = .pointer (some ⟨sb, k, none⟩)
  | _ => True
theorem qSm_old (sb M k : Nat) (RK : Array Value) (gl ml gr mr : Nat) (N : Int) (ps : List Int) (Rf : Nat → Int) (A B : List (List Int)) (Es : Nat → Thing) (gE : ∀ j, GoodT (Es j)) (base : Nat) (i : Nat) (W W' : World) (xv : Value) (h : qSm sb M k RK gl ml gr mr N ps Rf A B Es base i W xv) (qo : Old W W') : qSm sb M k RK gl ml gr mr N ps Rf A B Es base i W' xv := by
  unfold qSm at h ⊢
  split at h
  case h_6 =>
    obtain ⟨a, c, e, o⟩ := h
    exact ⟨a, c, e, o.old qo⟩
  case h_10 =>
    obtain ⟨a, c, e, o⟩ := h
    exact ⟨a, c, e, o.old qo⟩
  case h_11 =>
    obtain ⟨a, c, e, o⟩ := h
    exact ⟨a, c, e, (Ows.old (good_TS _ _ _ gE) o qo).low (Nat.le_refl _) qo.size (Nat.le_refl _)⟩
  all_goals first | exact h | trivial
set_option maxRecDepth 100000 in
set_option maxHeartbeats 4000000 in
theorem reg_Sm (w0 : World) (bx sb M k : Nat) (N T E : Int) (a3 : Option Addr) (l3 c3 : Nat) (a4 : Option Addr) (l4 c4 : Nat) (b5 : Bool) (a6 : Option Addr) (l6 c6 : Nat) (gl ml gr mr : Nat) (N' : Int) (ps : List Int) (Rf : Nat → Int) (A B : List (List Int)) (Es : Nat → Thing) (gE : ∀ j, GoodT (Es j)) (hk : (k : Int) < (M : Int)) (hM : M ≤ 3)
    (bX : w0.heap[bx]? = some (.cells #[.int .i64 N, .int .i64 T, .int .i64 E, .slice a3 l3 c3, .slice a4 l4 c4, .bool b5, .slice a6 l6 c6] 73 (0, 0)))
    (hcs : ∀ W, Old w0 W → ∃ y, W.cell? ⟨sb, k, none⟩ = some y) (hfr : ∀ W, Old w0 W → W.frozen? ⟨sb, k, none⟩ = false)
    (KA : ∀ W, Old w0 W → Calls Tryz.prog 127 #[.agg #[.int .i64 N, .int .i64 T, .int .i64 E, .slice a3 l3 c3, .slice a4 l4 c4, .bool b5, .slice a6 l6 c6], .slice (some ⟨gl, 0, none⟩) ml ml, .int .i64 k] W fun e w' => ∃ v', e = .returned v' ∧ Old W w' ∧ RdX N' ps Rf A w' v')
    (KB : ∀ W, Old w0 W → Calls Tryz.prog 127 #[.agg #[.int .i64 N, .int .i64 T, .int .i64 E, .slice a3 l3 c3, .slice a4 l4 c4, .bool b5, .slice a6 l6 c6], .slice (some ⟨gr, 0, none⟩) mr mr, .int .i64 k] W fun e w' => ∃ v', e = .returned v' ∧ Old W w' ∧ RdX N' ps Rf B w' v')
    (KJ : ∀ W, Old w0 W → ∀ v1 v2, RdX N' ps Rf A W v1 → RdX N' ps Rf B W v2 → Calls Tryz.prog 75 #[v1, v2, .func (.func 128) #[] #[]] W fun e w' => ∃ v', e = .returned v' ∧ Old W w' ∧ Ows (TS 118 5 ps.length Es) w' W.heap.size w'.heap.size [v'])
    (Q : Exit → Act → World → Prop) (a0 : Act) (hsz : a0.tmps.size = 40)
    (ha3 : a0.eval (.tmp 3) = .pointer (some ⟨bx, 0, none⟩)) (ha7 : a0.eval (.tmp 7) = .slice (some ⟨gl, 0, none⟩) ml ml) (ha8 : a0.eval (.tmp 8) = .slice (some ⟨gr, 0, none⟩) mr mr) (ha9 : a0.eval (.tmp 9) = .slice (some ⟨sb, 0, none⟩) M M) (ha10 : a0.eval (.tmp 10) = .int .i64 k)
    (HK : Hid (∀ (us : Nat → Value) W a c, Old w0 W → Ows (TS 118 5 ps.length Es) W w0.heap.size W.heap.size [.slice a ps.length c] → Q .normal (putAll a0 ((List.range 12).map fun i => (slotSm i, us i))) (W.setCell ⟨sb, k, none⟩ (.slice a ps.length c)))) :
    Code.wp Tryz.prog ((Tryz.f67.body.bind (regionAtmul 6)).getD .skip) Q a0 w0 := by
  conv => arg 2; whnf
  have un := slotSm_no
  have px : ∀ W, Old w0 W → W.heap[bx]? = some (.cells #[.int .i64 N, .int .i64 T, .int .i64 E, .slice a3 l3 c3, .slice a4 l4 c4, .bool b5, .slice a6 l6 c6] 73 (0, 0)) := fun W g => (g.block bx (lt_of_some bX)).trans bX
  refine wp_region_tail 12 (by decide) (by kernel_rfl) (by kernel_rfl) (by kernel_rfl) (by kernel_rfl) (by kernel_rfl) slotSm (fun i hi => by rw [hsz]; exact slotSm_lt i hi) (fun i j hi hj => slotSm_inj i hi j hj) (qSm sb M k #[.int .i64 N, .int .i64 T, .int .i64 E, .slice a3 l3 c3, .slice a4 l4 c4, .bool b5, .slice a6 l6 c6] gl ml gr mr N' ps Rf A B Es w0.heap.size) (qSm_old sb M k _ gl ml gr mr N' ps Rf A B Es gE w0.heap.size) ?_ ?_
  · refine ⟨?_, ?_, ?_, ?_, ?_, ?_, ?_, ?_, ?_, ?_, ?_, ?_, trivial⟩
    · intro a W g hF hd
      refine op_move ?_
      exact ⟨_, rfl, Old.refl _, (hF.same 9 (un 9 (by decide))).trans ha9⟩
    · intro a W g hF hd
      refine op_move ?_
      exact ⟨_, rfl, Old.refl _, (hF.same 10 (un 10 (by decide))).trans ha10⟩
    · intro a W g hF hd
      refine op_load (k := bx) ((hF.same 3 (un 3 (by decide))).trans ha3) (px W g) Tryz.underlying73 rfl (by kernel_rfl) ?_
      exact ⟨_, rfl, Old.refl _, rfl⟩
    · intro a W g hF hd
      refine op_move ?_
      exact ⟨_, rfl, Old.refl _, (hF.same 7 (un 7 (by decide))).trans ha7⟩
    · intro a W g hF hd
      refine op_move ?_
      exact ⟨_, rfl, Old.refl _, (hF.same 10 (un 10 (by decide))).trans ha10⟩
    · intro a W g hF hd
      have h2 : a.eval (.tmp 28) = .agg #[.int .i64 N, .int .i64 T, .int .i64 E, .slice a3 l3 c3, .slice a4 l4 c4, .bool b5, .slice a6 l6 c6] := hd ⟨2, .data⟩ (by simp) rfl
      have h3 : a.eval (.tmp 29) = .slice (some ⟨gl, 0, none⟩) ml ml := hd ⟨3, .data⟩ (by simp) rfl
      have h4 : a.eval (.tmp 30) = .int .i64 k := hd ⟨4, .data⟩ (by simp) rfl
      refine op_call_ret (R := fun v w' => Old W w' ∧ ∃ ra rc, v = .slice ra ps.length rc ∧ RdX N' ps Rf A w' v) Tryz.call127 (vs := #[.agg #[.int .i64 N, .int .i64 T, .int .i64 E, .slice a3 l3 c3, .slice a4 l4 c4, .bool b5, .slice a6 l6 c6], .slice (some ⟨gl, 0, none⟩) ml ml, .int .i64 k]) (by simp [h2, h3, h4]) ((KA W g).mono fun e w' h => by
        obtain ⟨v, rfl, q, o⟩ := h
        obtain ⟨ra, rc, e⟩ := o.slice
        exact ⟨_, rfl, q, ra, rc, e, o⟩) ?_
      rintro x w' ⟨g', ra, rc, rfl, o'⟩
      exact ⟨_, rfl, g', ra, rc, rfl, o'⟩
    · intro a W g hF hd
      refine op_load (k := bx) ((hF.same 3 (un 3 (by decide))).trans ha3) (px W g) Tryz.underlying73 rfl (by kernel_rfl) ?_
      exact ⟨_, rfl, Old.refl _, rfl⟩
    · intro a W g hF hd
      refine op_move ?_
      exact ⟨_, rfl, Old.refl _, (hF.same 8 (un 8 (by decide))).trans ha8⟩
    · intro a W g hF hd
      refine op_move ?_
      exact ⟨_, rfl, Old.refl _, (hF.same 10 (un 10 (by decide))).trans ha10⟩
    · intro a W g hF hd
      have h2 : a.eval (.tmp 32) = .agg #[.int .i64 N, .int .i64 T, .int .i64 E, .slice a3 l3 c3, .slice a4 l4 c4, .bool b5, .slice a6 l6 c6] := hd ⟨6, .data⟩ (by simp) rfl
      have h3 : a.eval (.tmp 33) = .slice (some ⟨gr, 0, none⟩) mr mr := hd ⟨7, .data⟩ (by simp) rfl
      have h4 : a.eval (.tmp 34) = .int .i64 k := hd ⟨8, .data⟩ (by simp) rfl
      refine op_call_ret (R := fun v w' => Old W w' ∧ ∃ ra rc, v = .slice ra ps.length rc ∧ RdX N' ps Rf B w' v) Tryz.call127 (vs := #[.agg #[.int .i64 N, .int .i64 T, .int .i64 E, .slice a3 l3 c3, .slice a4 l4 c4, .bool b5, .slice a6 l6 c6], .slice (some ⟨gr, 0, none⟩) mr mr, .int .i64 k]) (by simp [h2, h3, h4]) ((KB W g).mono fun e w' h => by
        obtain ⟨v, rfl, q, o⟩ := h
        obtain ⟨ra, rc, e⟩ := o.slice
        exact ⟨_, rfl, q, ra, rc, e, o⟩) ?_
      rintro x w' ⟨g', ra, rc, rfl, o'⟩
      exact ⟨_, rfl, g', ra, rc, rfl, o'⟩
    · intro a W g hF hd
      obtain ⟨sa, sc, h5, os⟩ : ∃ a' c, a.eval (.tmp 31) = .slice a' ps.length c ∧ RdX N' ps Rf A W (a.eval (.tmp 31)) := hd ⟨5, .data⟩ (by simp) rfl
      obtain ⟨ta, tc, h9, ot⟩ : ∃ a' c, a.eval (.tmp 35) = .slice a' ps.length c ∧ RdX N' ps Rf B W (a.eval (.tmp 35)) := hd ⟨9, .data⟩ (by simp) rfl
      rw [h5] at os
      rw [h9] at ot
      refine op_call_ret (R := fun v w' => Old W w' ∧ ∃ ra rc, v = .slice ra ps.length rc ∧ Ows (TS 118 5 ps.length Es) w' W.heap.size w'.heap.size [v]) Tryz.call75 (vs := #[.slice sa ps.length sc, .slice ta ps.length tc, .func (.func 128) #[] #[]]) (by simp [h5, h9]; rfl) ((KJ W g _ _ os ot).mono fun e w' h => by
        obtain ⟨v, rfl, q, o⟩ := h
        obtain ⟨ra, rc, e⟩ : ∃ a c, v = .slice a ps.length c := by obtain ⟨_, B, hT, _⟩ := o; exact TS.slice hT
        exact ⟨_, rfl, q, ra, rc, e, o⟩) ?_
      rintro x w' ⟨g', ra, rc, rfl, o'⟩
      exact ⟨_, rfl, g', ra, rc, rfl, o'.low g.size (Nat.le_refl _) (Nat.le_refl _)⟩
    · intro a W g hF hd
      have h0 : a.eval (.tmp 26) = .slice (some ⟨sb, 0, none⟩) M M := hd ⟨0, .data⟩ (by simp) rfl
      have h1 : a.eval (.tmp 27) = .int .i64 k := hd ⟨1, .data⟩ (by simp) rfl
      obtain ⟨ρ, hρ⟩ : ∃ ρ, a.eval = ρ := ⟨_, rfl⟩
      rw [hρ] at h0 h1
      refine op_val ρ hρ (.pointer (some ⟨sb, k, none⟩)) ?_ ⟨_, rfl, Old.refl _, rfl⟩
      clear g hF hd hρ HK un ha3 ha7 ha8 ha9 ha10 KA KB KJ px bX hcs hfr
      go_simp
  · intro a W g hF hq
    obtain ⟨sa, sc, h5, ow⟩ : ∃ a' c, a.eval (.tmp 36) = .slice a' ps.length c ∧ Ows (TS 118 5 ps.length Es) W w0.heap.size W.heap.size [a.eval (.tmp 36)] := hq 10 (by decide)
    have h6 : a.eval (.tmp 37) = .pointer (some ⟨sb, k, none⟩) := hq 11 (by decide)
    rw [h5] at ow
    have hp := fram_put hF (fun i j hi hj => slotSm_inj i hi j hj)
    have hk2 := HK.out (fun i => a.eval (.tmp (slotSm i))) W sa sc g ow
    rw [← hp] at hk2
    obtain ⟨y, hc5⟩ := hcs W g
    have hf5 := hfr W g
    clear ow hq hF HK un g hp KA KB KJ px bX hcs hfr
    obtain ⟨ρ, hρ⟩ : ∃ ρ, a.eval = ρ := ⟨_, rfl⟩
    rw [hρ] at h5 h6
    refine op_skp (W' := W.setCell ⟨sb, k, none⟩ (.slice sa ps.length sc)) ρ hρ ?_ ?_
    · clear hρ hk2
      go_simp
    · exact hk2
end Go.Proofs.YtakleianimcmdaaGreatDoor
/- Proved: the sum of two ciphers, Part by Part. -/
namespace Go.Proofs.YtakleianimcmdaaGreatDoor
open Go.ChangeShapes Go.WideShapes Go.ChangeAt Go.RowKit
set_option linter.unusedVariables false
set_option linter.unusedSimpArgs false
set_option maxRecDepth 100000 in
set_option maxHeartbeats 4000000 in
theorem sum_22 (N T E : Int) (a3 : Option Addr) (l3 c3 : Nat) (a4 : Option Addr) (l4 c4 : Nat) (b5 : Bool) (a6 : Option Addr) (l6 c6 : Nat) (ps : List Int) (Rf : Nat → Int) (zsss : List (List (List Int))) (A B : Nat → List (List Int)) (L : Nat) (gf hf : Nat → Option Addr) (w : World)
    (KA : ∀ j : Nat, j < 2 → ∀ W, Old w W → ∀ p : Nat, p < W.heap.size → (∀ i : Nat, i < 2 → W.cell? ⟨p, i, none⟩ = some (.slice (gf i) L L)) → Calls Tryz.prog 127 #[.agg #[.int .i64 N, .int .i64 T, .int .i64 E, .slice a3 l3 c3, .slice a4 l4 c4, .bool b5, .slice a6 l6 c6], .slice (some ⟨p, 0, none⟩) 2 2, .int .i64 j] W fun e w' => ∃ v', e = .returned v' ∧ Old W w' ∧ RdX N ps Rf (A j) w' v')
    (KB : ∀ j : Nat, j < 2 → ∀ W, Old w W → ∀ p : Nat, p < W.heap.size → (∀ i : Nat, i < 2 → W.cell? ⟨p, i, none⟩ = some (.slice (hf i) L L)) → Calls Tryz.prog 127 #[.agg #[.int .i64 N, .int .i64 T, .int .i64 E, .slice a3 l3 c3, .slice a4 l4 c4, .bool b5, .slice a6 l6 c6], .slice (some ⟨p, 0, none⟩) 2 2, .int .i64 j] W fun e w' => ∃ v', e = .returned v' ∧ Old W w' ∧ RdX N ps Rf (B j) w' v')
    (KJ : ∀ j : Nat, j < 2 → ∀ W, Old w W → ∀ v1 v2, RdX N ps Rf (A j) W v1 → RdX N ps Rf (B j) W v2 → Calls Tryz.prog 75 #[v1, v2, .func (.func 128) #[] #[]] W fun e w' => ∃ v', e = .returned v' ∧ Old W w' ∧ Ows (TS 118 5 ps.length (elR N false ps Rf (zsss.getD j []))) w' W.heap.size w'.heap.size [v']) :
    Calls Tryz.prog 67 #[.agg #[.int .i64 N, .int .i64 T, .int .i64 E, .slice a3 l3 c3, .slice a4 l4 c4, .bool b5, .slice a6 l6 c6], .iface 125 (.agg #[.slice (gf 0) L L, .slice (gf 1) L L]), .iface 125 (.agg #[.slice (hf 0) L L, .slice (hf 1) L L])] w fun e w' => ∃ v', e = .returned v' ∧ Old w w' ∧ Ows (TS 109 1 2 (elP N false ps Rf zsss)) w' w.heap.size w'.heap.size [v'] := by
  obtain ⟨i0, hi, hz0, hz1, hz2⟩ := info_parts Tryz.infoRRs
  have HKA : Hid (∀ j : Nat, j < 2 → ∀ W, Old w W → ∀ p : Nat, p < W.heap.size → (∀ i : Nat, i < 2 → W.cell? ⟨p, i, none⟩ = some (.slice (gf i) L L)) → Calls Tryz.prog 127 #[.agg #[.int .i64 N, .int .i64 T, .int .i64 E, .slice a3 l3 c3, .slice a4 l4 c4, .bool b5, .slice a6 l6 c6], .slice (some ⟨p, 0, none⟩) 2 2, .int .i64 j] W fun e w' => ∃ v', e = .returned v' ∧ Old W w' ∧ RdX N ps Rf (A j) w' v') := KA
  have HKB : Hid (∀ j : Nat, j < 2 → ∀ W, Old w W → ∀ p : Nat, p < W.heap.size → (∀ i : Nat, i < 2 → W.cell? ⟨p, i, none⟩ = some (.slice (hf i) L L)) → Calls Tryz.prog 127 #[.agg #[.int .i64 N, .int .i64 T, .int .i64 E, .slice a3 l3 c3, .slice a4 l4 c4, .bool b5, .slice a6 l6 c6], .slice (some ⟨p, 0, none⟩) 2 2, .int .i64 j] W fun e w' => ∃ v', e = .returned v' ∧ Old W w' ∧ RdX N ps Rf (B j) w' v') := KB
  have HKJ : Hid (∀ j : Nat, j < 2 → ∀ W, Old w W → ∀ v1 v2, RdX N ps Rf (A j) W v1 → RdX N ps Rf (B j) W v2 → Calls Tryz.prog 75 #[v1, v2, .func (.func 128) #[] #[]] W fun e w' => ∃ v', e = .returned v' ∧ Old W w' ∧ Ows (TS 118 5 ps.length (elR N false ps Rf (zsss.getD j []))) w' W.heap.size w'.heap.size [v']) := KJ
  have HGD : Hid (∀ j, GoodT (elP N false ps Rf zsss j)) := good_elP N false ps Rf zsss
  have BX : Hid (Bk (w.alloc (.cells #[.int .i64 N, .int .i64 T, .int .i64 E, .slice a3 l3 c3, .slice a4 l4 c4, .bool b5, .slice a6 l6 c6] 73)) w.heap.size #[.int .i64 N, .int .i64 T, .int .i64 E, .slice a3 l3 c3, .slice a4 l4 c4, .bool b5, .slice a6 l6 c6] 73) := Bk.new' w _ _ rfl
  have HA : Hid (Old w (w.alloc (.cells #[.int .i64 N, .int .i64 T, .int .i64 E, .slice a3 l3 c3, .slice a4 l4 c4, .bool b5, .slice a6 l6 c6] 73))) := (Old.refl w).alloc _
  have cp := parts2 (gf 0) (gf 1) L (w.alloc (.cells #[.int .i64 N, .int .i64 T, .int .i64 E, .slice a3 l3 c3, .slice a4 l4 c4, .bool b5, .slice a6 l6 c6] 73))
  have hs0 : (w.alloc (.cells #[.int .i64 N, .int .i64 T, .int .i64 E, .slice a3 l3 c3, .slice a4 l4 c4, .bool b5, .slice a6 l6 c6] 73)).heap.size = w.heap.size + 1 := by simp
  rw [hs0] at cp
  clear KA KB KJ hs0
  go_enter Tryz.func67, Tryz.ntmps67
  go_wp2_with fail
  refine cp.mono ?_
  rintro e w1 ⟨rfl, g1, hs1, c0, c1⟩
  have HG1 : Hid (Old w w1) := Old.trans HA.out g1
  have BX1 : Hid (Bk w1 w.heap.size #[.int .i64 N, .int .i64 T, .int .i64 E, .slice a3 l3 c3, .slice a4 l4 c4, .bool b5, .slice a6 l6 c6] 73) := BX.out.old g1
  have HC1 : Hid (∀ i, i < 2 → w1.cell? ⟨w.heap.size + 1 + 1, i, none⟩ = some (.slice (gf i) L L)) := fun i hi => by
    rcases (show i = 0 ∨ i = 1 by omega) with rfl | rfl
    · exact c0
    · exact c1
  clear g1 cp c0 c1 BX
  have cp := parts2 (hf 0) (hf 1) L w1
  go_wp2_with fail
  refine cp.mono ?_
  rintro e w2 ⟨rfl, g1, hs2, c0, c1⟩
  have HG12 : Hid (Old w1 w2) := g1
  have HG2 : Hid (Old w w2) := Old.trans HG1.out g1
  have BX2 : Hid (Bk w2 w.heap.size #[.int .i64 N, .int .i64 T, .int .i64 E, .slice a3 l3 c3, .slice a4 l4 c4, .bool b5, .slice a6 l6 c6] 73) := BX1.out.old g1
  have HC2 : Hid (∀ i, i < 2 → w2.cell? ⟨w1.heap.size + 1, i, none⟩ = some (.slice (hf i) L L)) := fun i hi => by
    rcases (show i = 0 ∨ i = 1 by omega) with rfl | rfl
    · exact c0
    · exact c1
  have HC1' : Hid (∀ i, i < 2 → w2.cell? ⟨w.heap.size + 1 + 1, i, none⟩ = some (.slice (gf i) L L)) := fun i hi' => (HG12.out.cell (p := ⟨w.heap.size + 1 + 1, i, none⟩) hs1).trans (HC1.out i hi')
  have hs12 := g1.size
  have hsw := HG1.out.size
  clear g1 cp c0 c1 BX1 HC1 HG12
  go_wp2_with (at_make; refine wpList_make_full _ rfl _ _ 105 rfl 0 109 i0 (.slice none 0 0) 1 Tryz.underlying105 hi hz0 hz1 .i64 .i64 _ _ 2 rfl rfl rfl rfl (by rw [hz2]; omega) (by unfold maxLen; omega) (Nat.zero_le _) ?_; intro w3 hown hgrow)
  have HO : Hid (TSc 109 1 2 0 (elP N false ps Rf zsss) w3 w2.heap.size 2 _ (fun _ _ => False)) := TSc.start hown
  have HG23 : Hid (Old w2 w3) := grownBy_old hgrow
  clear hown hgrow
  go_loopw [23, 10] (fun i _ W => ∃ (k : Nat) (vs : List Value) (Bs : Nat → Nat → Prop), k ≤ 2 ∧ i = .int .i64 k ∧ Hid (TSc 109 1 2 k (elP N false ps Rf zsss) W w2.heap.size 2 vs Bs) ∧ Hid (∀ j b, j < k → Bs j b → w2.heap.size < b) ∧ Hid (Old w2 W)) (fun i _ _ => 2 - (intOf i).toNat)
  case atStart => exact ⟨0, _, _, by omega, rfl, HO, (fun j b hj => by omega), HG23⟩
  case round =>
    obtain ⟨k, vs, Bs, hk, rfl, H1, HB, HG⟩ := hrel
    clear HO HG23
    have hsr : w2.heap.size < wr.heap.size := ownsRow_lt H1.out.row
    have HGW : Hid (Old w wr) := Old.trans HG2.out HG.out
    by_cases hlt : k < 2
    · have d1 : decide ((k : Int) < 2) = true := by simp; omega
      go_wp2_with fail
      refine reg_Sm wr w.heap.size w2.heap.size 2 k N T E a3 l3 c3 a4 l4 c4 b5 a6 l6 c6 (w.heap.size + 1 + 1) 2 (w1.heap.size + 1) 2 N ps Rf (A k) (B k) (elR N false ps Rf (zsss.getD k [])) (good_elR _ _ _ _ _) (by omega) (by omega) (BX2.out.old HG.out) (fun W g => ?_) (fun W g => (H1.out.old HGD.out g).frozen _) (fun W g => HKA.out k hlt W (Old.trans HGW.out g) _ (by have := g.size; omega) (fun i hi' => ((Old.trans HG.out g).cell (p := ⟨w.heap.size + 1 + 1, i, none⟩) (by show w.heap.size + 1 + 1 < _; omega)).trans (HC1'.out i hi'))) (fun W g => HKB.out k hlt W (Old.trans HGW.out g) _ (by have := g.size; omega) (fun i hi' => ((Old.trans HG.out g).cell (p := ⟨w1.heap.size + 1, i, none⟩) hs2).trans (HC2.out i hi'))) (fun W g v1 v2 q1 q2 => HKJ.out k hlt W (Old.trans HGW.out g) v1 v2 q1 q2) _ _ ?_ ?_ ?_ ?_ ?_ ?_ ?_
      · have H2 := H1.out.old HGD.out g
        have h5 := H2.cell k 0 hlt (by omega)
        rw [Nat.mul_one, Nat.add_zero] at h5
        have h6 := cellsJ_len H2.row.1 k hlt
        exact ⟨_, h5.trans (List.getElem?_eq_getElem (by omega))⟩
      iterate 6 (· exact rfl)
      intro us3 w4 a9 c9 g3 o3
      simp only [putAll, Act.put, slotSm, List.range, List.range.loop, List.map_cons, List.map_nil, List.getD_cons_zero, List.getD_cons_succ, List.setIfInBounds_toArray, List.set_cons_succ, List.set_cons_zero]
      have H2 := H1.out.old HGD.out g3
      obtain ⟨_, BB, hT, hBlo⟩ := o3
      have hst := H2.storeT HGD.out hlt (.slice a9 ps.length c9) (B := BB) (fun W' hW' => (good_elP N false ps Rf zsss k).far hT (fun b hb => hW' b (by have := hBlo b hb; omega))) (fun hb => by have := hBlo _ hb; omega) (fun j hj b h1 h2 => by
          have h4 := H1.out.lt HGD.out j b hj h1
          have := hBlo b h2
          omega)
      obtain ⟨vs', H3⟩ := hst
      have HNN : Hid (TSc 109 1 2 (k + 1) (elP N false ps Rf zsss) (w4.setCell ⟨w2.heap.size, k, none⟩ (.slice a9 ps.length c9)) w2.heap.size 2 vs' (fun q => if q = k then BB else Bs q)) := H3
      have HNB : Hid (∀ j b, j < k + 1 → (fun q => if q = k then BB else Bs q) j b → w2.heap.size < b) := fun j b hj hb => by
        by_cases e : j = k
        · simp only [e, if_true] at hb
          have := hBlo b hb
          omega
        · simp only [e, if_false] at hb
          exact HB.out j b (by omega) hb
      have HG4 : Hid (Old w2 (w4.setCell ⟨w2.heap.size, k, none⟩ (.slice a9 ps.length c9))) := (Old.trans HG.out g3).own (p := ⟨w2.heap.size, k, none⟩) (Nat.le_refl _) _
      clear H1 H2 H3 HB g3 hT hBlo HG HGW
      go_wp2_with fail
      exact ⟨⟨k + 1, vs', _, by omega, by go_num, HNN, HNB, HG4⟩, by simp [intOf]; omega⟩
    · have d1 : decide ((k : Int) < 2) = false := by simp; omega
      obtain rfl : k = 2 := by omega
      have HE : Hid (Ows (TS 109 1 2 (elP N false ps Rf zsss)) wr w2.heap.size wr.heap.size [.slice (some ⟨w2.heap.size, 0, none⟩) 2 2]) := H1.out.done HGD.out (Nat.le_refl _) (fun j b hj hb => Nat.le_of_lt (HB.out j b hj hb))
      clear H1 HB
      go_wp2_with fail
      go_ret
      exact ⟨_, rfl, HGW.out, HE.out.low HG2.out.size (Nat.le_refl _) (Nat.le_refl _)⟩
set_option maxRecDepth 100000 in
set_option maxHeartbeats 4000000 in
theorem sum_23 (N T E : Int) (a3 : Option Addr) (l3 c3 : Nat) (a4 : Option Addr) (l4 c4 : Nat) (b5 : Bool) (a6 : Option Addr) (l6 c6 : Nat) (ps : List Int) (Rf : Nat → Int) (zsss : List (List (List Int))) (A B : Nat → List (List Int)) (L : Nat) (gf hf : Nat → Option Addr) (w : World)
    (KA : ∀ j : Nat, j < 3 → ∀ W, Old w W → ∀ p : Nat, p < W.heap.size → (∀ i : Nat, i < 2 → W.cell? ⟨p, i, none⟩ = some (.slice (gf i) L L)) → Calls Tryz.prog 127 #[.agg #[.int .i64 N, .int .i64 T, .int .i64 E, .slice a3 l3 c3, .slice a4 l4 c4, .bool b5, .slice a6 l6 c6], .slice (some ⟨p, 0, none⟩) 2 2, .int .i64 j] W fun e w' => ∃ v', e = .returned v' ∧ Old W w' ∧ RdX N ps Rf (A j) w' v')
    (KB : ∀ j : Nat, j < 3 → ∀ W, Old w W → ∀ p : Nat, p < W.heap.size → (∀ i : Nat, i < 3 → W.cell? ⟨p, i, none⟩ = some (.slice (hf i) L L)) → Calls Tryz.prog 127 #[.agg #[.int .i64 N, .int .i64 T, .int .i64 E, .slice a3 l3 c3, .slice a4 l4 c4, .bool b5, .slice a6 l6 c6], .slice (some ⟨p, 0, none⟩) 3 3, .int .i64 j] W fun e w' => ∃ v', e = .returned v' ∧ Old W w' ∧ RdX N ps Rf (B j) w' v')
    (KJ : ∀ j : Nat, j < 3 → ∀ W, Old w W → ∀ v1 v2, RdX N ps Rf (A j) W v1 → RdX N ps Rf (B j) W v2 → Calls Tryz.prog 75 #[v1, v2, .func (.func 128) #[] #[]] W fun e w' => ∃ v', e = .returned v' ∧ Old W w' ∧ Ows (TS 118 5 ps.length (elR N false ps Rf (zsss.getD j []))) w' W.heap.size w'.heap.size [v']) :
    Calls Tryz.prog 67 #[.agg #[.int .i64 N, .int .i64 T, .int .i64 E, .slice a3 l3 c3, .slice a4 l4 c4, .bool b5, .slice a6 l6 c6], .iface 125 (.agg #[.slice (gf 0) L L, .slice (gf 1) L L]), .iface 167 (.agg #[.slice (hf 0) L L, .slice (hf 1) L L, .slice (hf 2) L L])] w fun e w' => ∃ v', e = .returned v' ∧ Old w w' ∧ Ows (TS 109 1 3 (elP N false ps Rf zsss)) w' w.heap.size w'.heap.size [v'] := by
  obtain ⟨i0, hi, hz0, hz1, hz2⟩ := info_parts Tryz.infoRRs
  have HKA : Hid (∀ j : Nat, j < 3 → ∀ W, Old w W → ∀ p : Nat, p < W.heap.size → (∀ i : Nat, i < 2 → W.cell? ⟨p, i, none⟩ = some (.slice (gf i) L L)) → Calls Tryz.prog 127 #[.agg #[.int .i64 N, .int .i64 T, .int .i64 E, .slice a3 l3 c3, .slice a4 l4 c4, .bool b5, .slice a6 l6 c6], .slice (some ⟨p, 0, none⟩) 2 2, .int .i64 j] W fun e w' => ∃ v', e = .returned v' ∧ Old W w' ∧ RdX N ps Rf (A j) w' v') := KA
  have HKB : Hid (∀ j : Nat, j < 3 → ∀ W, Old w W → ∀ p : Nat, p < W.heap.size → (∀ i : Nat, i < 3 → W.cell? ⟨p, i, none⟩ = some (.slice (hf i) L L)) → Calls Tryz.prog 127 #[.agg #[.int .i64 N, .int .i64 T, .int .i64 E, .slice a3 l3 c3, .slice a4 l4 c4, .bool b5, .slice a6 l6 c6], .slice (some ⟨p, 0, none⟩) 3 3, .int .i64 j] W fun e w' => ∃ v', e = .returned v' ∧ Old W w' ∧ RdX N ps Rf (B j) w' v') := KB
  have HKJ : Hid (∀ j : Nat, j < 3 → ∀ W, Old w W → ∀ v1 v2, RdX N ps Rf (A j) W v1 → RdX N ps Rf (B j) W v2 → Calls Tryz.prog 75 #[v1, v2, .func (.func 128) #[] #[]] W fun e w' => ∃ v', e = .returned v' ∧ Old W w' ∧ Ows (TS 118 5 ps.length (elR N false ps Rf (zsss.getD j []))) w' W.heap.size w'.heap.size [v']) := KJ
  have HGD : Hid (∀ j, GoodT (elP N false ps Rf zsss j)) := good_elP N false ps Rf zsss
  have BX : Hid (Bk (w.alloc (.cells #[.int .i64 N, .int .i64 T, .int .i64 E, .slice a3 l3 c3, .slice a4 l4 c4, .bool b5, .slice a6 l6 c6] 73)) w.heap.size #[.int .i64 N, .int .i64 T, .int .i64 E, .slice a3 l3 c3, .slice a4 l4 c4, .bool b5, .slice a6 l6 c6] 73) := Bk.new' w _ _ rfl
  have HA : Hid (Old w (w.alloc (.cells #[.int .i64 N, .int .i64 T, .int .i64 E, .slice a3 l3 c3, .slice a4 l4 c4, .bool b5, .slice a6 l6 c6] 73))) := (Old.refl w).alloc _
  have cp := parts2 (gf 0) (gf 1) L (w.alloc (.cells #[.int .i64 N, .int .i64 T, .int .i64 E, .slice a3 l3 c3, .slice a4 l4 c4, .bool b5, .slice a6 l6 c6] 73))
  have hs0 : (w.alloc (.cells #[.int .i64 N, .int .i64 T, .int .i64 E, .slice a3 l3 c3, .slice a4 l4 c4, .bool b5, .slice a6 l6 c6] 73)).heap.size = w.heap.size + 1 := by simp
  rw [hs0] at cp
  clear KA KB KJ hs0
  go_enter Tryz.func67, Tryz.ntmps67
  go_wp2_with fail
  refine cp.mono ?_
  rintro e w1 ⟨rfl, g1, hs1, c0, c1⟩
  have HG1 : Hid (Old w w1) := Old.trans HA.out g1
  have BX1 : Hid (Bk w1 w.heap.size #[.int .i64 N, .int .i64 T, .int .i64 E, .slice a3 l3 c3, .slice a4 l4 c4, .bool b5, .slice a6 l6 c6] 73) := BX.out.old g1
  have HC1 : Hid (∀ i, i < 2 → w1.cell? ⟨w.heap.size + 1 + 1, i, none⟩ = some (.slice (gf i) L L)) := fun i hi => by
    rcases (show i = 0 ∨ i = 1 by omega) with rfl | rfl
    · exact c0
    · exact c1
  clear g1 cp c0 c1 BX
  have cp := parts3 (hf 0) (hf 1) (hf 2) L w1
  go_wp2_with fail
  refine cp.mono ?_
  rintro e w2 ⟨rfl, g1, hs2, c0, c1, c2⟩
  have HG12 : Hid (Old w1 w2) := g1
  have HG2 : Hid (Old w w2) := Old.trans HG1.out g1
  have BX2 : Hid (Bk w2 w.heap.size #[.int .i64 N, .int .i64 T, .int .i64 E, .slice a3 l3 c3, .slice a4 l4 c4, .bool b5, .slice a6 l6 c6] 73) := BX1.out.old g1
  have HC2 : Hid (∀ i, i < 3 → w2.cell? ⟨w1.heap.size + 1, i, none⟩ = some (.slice (hf i) L L)) := fun i hi => by
    rcases (show i = 0 ∨ i = 1 ∨ i = 2 by omega) with rfl | rfl | rfl
    · exact c0
    · exact c1
    · exact c2
  have HC1' : Hid (∀ i, i < 2 → w2.cell? ⟨w.heap.size + 1 + 1, i, none⟩ = some (.slice (gf i) L L)) := fun i hi' => (HG12.out.cell (p := ⟨w.heap.size + 1 + 1, i, none⟩) hs1).trans (HC1.out i hi')
  have hs12 := g1.size
  have hsw := HG1.out.size
  clear g1 cp c0 c1 c2 BX1 HC1 HG12
  go_wp2_with (at_make; refine wpList_make_full _ rfl _ _ 105 rfl 0 109 i0 (.slice none 0 0) 1 Tryz.underlying105 hi hz0 hz1 .i64 .i64 _ _ 3 rfl rfl rfl rfl (by rw [hz2]; omega) (by unfold maxLen; omega) (Nat.zero_le _) ?_; intro w3 hown hgrow)
  have HO : Hid (TSc 109 1 3 0 (elP N false ps Rf zsss) w3 w2.heap.size 3 _ (fun _ _ => False)) := TSc.start hown
  have HG23 : Hid (Old w2 w3) := grownBy_old hgrow
  clear hown hgrow
  go_loopw [23, 10] (fun i _ W => ∃ (k : Nat) (vs : List Value) (Bs : Nat → Nat → Prop), k ≤ 3 ∧ i = .int .i64 k ∧ Hid (TSc 109 1 3 k (elP N false ps Rf zsss) W w2.heap.size 3 vs Bs) ∧ Hid (∀ j b, j < k → Bs j b → w2.heap.size < b) ∧ Hid (Old w2 W)) (fun i _ _ => 3 - (intOf i).toNat)
  case atStart => exact ⟨0, _, _, by omega, rfl, HO, (fun j b hj => by omega), HG23⟩
  case round =>
    obtain ⟨k, vs, Bs, hk, rfl, H1, HB, HG⟩ := hrel
    clear HO HG23
    have hsr : w2.heap.size < wr.heap.size := ownsRow_lt H1.out.row
    have HGW : Hid (Old w wr) := Old.trans HG2.out HG.out
    by_cases hlt : k < 3
    · have d1 : decide ((k : Int) < 3) = true := by simp; omega
      go_wp2_with fail
      refine reg_Sm wr w.heap.size w2.heap.size 3 k N T E a3 l3 c3 a4 l4 c4 b5 a6 l6 c6 (w.heap.size + 1 + 1) 2 (w1.heap.size + 1) 3 N ps Rf (A k) (B k) (elR N false ps Rf (zsss.getD k [])) (good_elR _ _ _ _ _) (by omega) (by omega) (BX2.out.old HG.out) (fun W g => ?_) (fun W g => (H1.out.old HGD.out g).frozen _) (fun W g => HKA.out k hlt W (Old.trans HGW.out g) _ (by have := g.size; omega) (fun i hi' => ((Old.trans HG.out g).cell (p := ⟨w.heap.size + 1 + 1, i, none⟩) (by show w.heap.size + 1 + 1 < _; omega)).trans (HC1'.out i hi'))) (fun W g => HKB.out k hlt W (Old.trans HGW.out g) _ (by have := g.size; omega) (fun i hi' => ((Old.trans HG.out g).cell (p := ⟨w1.heap.size + 1, i, none⟩) hs2).trans (HC2.out i hi'))) (fun W g v1 v2 q1 q2 => HKJ.out k hlt W (Old.trans HGW.out g) v1 v2 q1 q2) _ _ ?_ ?_ ?_ ?_ ?_ ?_ ?_
      · have H2 := H1.out.old HGD.out g
        have h5 := H2.cell k 0 hlt (by omega)
        rw [Nat.mul_one, Nat.add_zero] at h5
        have h6 := cellsJ_len H2.row.1 k hlt
        exact ⟨_, h5.trans (List.getElem?_eq_getElem (by omega))⟩
      iterate 6 (· exact rfl)
      intro us3 w4 a9 c9 g3 o3
      simp only [putAll, Act.put, slotSm, List.range, List.range.loop, List.map_cons, List.map_nil, List.getD_cons_zero, List.getD_cons_succ, List.setIfInBounds_toArray, List.set_cons_succ, List.set_cons_zero]
      have H2 := H1.out.old HGD.out g3
      obtain ⟨_, BB, hT, hBlo⟩ := o3
      have hst := H2.storeT HGD.out hlt (.slice a9 ps.length c9) (B := BB) (fun W' hW' => (good_elP N false ps Rf zsss k).far hT (fun b hb => hW' b (by have := hBlo b hb; omega))) (fun hb => by have := hBlo _ hb; omega) (fun j hj b h1 h2 => by
          have h4 := H1.out.lt HGD.out j b hj h1
          have := hBlo b h2
          omega)
      obtain ⟨vs', H3⟩ := hst
      have HNN : Hid (TSc 109 1 3 (k + 1) (elP N false ps Rf zsss) (w4.setCell ⟨w2.heap.size, k, none⟩ (.slice a9 ps.length c9)) w2.heap.size 3 vs' (fun q => if q = k then BB else Bs q)) := H3
      have HNB : Hid (∀ j b, j < k + 1 → (fun q => if q = k then BB else Bs q) j b → w2.heap.size < b) := fun j b hj hb => by
        by_cases e : j = k
        · simp only [e, if_true] at hb
          have := hBlo b hb
          omega
        · simp only [e, if_false] at hb
          exact HB.out j b (by omega) hb
      have HG4 : Hid (Old w2 (w4.setCell ⟨w2.heap.size, k, none⟩ (.slice a9 ps.length c9))) := (Old.trans HG.out g3).own (p := ⟨w2.heap.size, k, none⟩) (Nat.le_refl _) _
      clear H1 H2 H3 HB g3 hT hBlo HG HGW
      go_wp2_with fail
      exact ⟨⟨k + 1, vs', _, by omega, by go_num, HNN, HNB, HG4⟩, by simp [intOf]; omega⟩
    · have d1 : decide ((k : Int) < 3) = false := by simp; omega
      obtain rfl : k = 3 := by omega
      have HE : Hid (Ows (TS 109 1 3 (elP N false ps Rf zsss)) wr w2.heap.size wr.heap.size [.slice (some ⟨w2.heap.size, 0, none⟩) 3 3]) := H1.out.done HGD.out (Nat.le_refl _) (fun j b hj hb => Nat.le_of_lt (HB.out j b hj hb))
      clear H1 HB
      go_wp2_with fail
      go_ret
      exact ⟨_, rfl, HGW.out, HE.out.low HG2.out.size (Nat.le_refl _) (Nat.le_refl _)⟩
set_option maxRecDepth 100000 in
set_option maxHeartbeats 4000000 in
theorem sum_32 (N T E : Int) (a3 : Option Addr) (l3 c3 : Nat) (a4 : Option Addr) (l4 c4 : Nat) (b5 : Bool) (a6 : Option Addr) (l6 c6 : Nat) (ps : List Int) (Rf : Nat → Int) (zsss : List (List (List Int))) (A B : Nat → List (List Int)) (L : Nat) (gf hf : Nat → Option Addr) (w : World)
    (KA : ∀ j : Nat, j < 3 → ∀ W, Old w W → ∀ p : Nat, p < W.heap.size → (∀ i : Nat, i < 3 → W.cell? ⟨p, i, none⟩ = some (.slice (gf i) L L)) → Calls Tryz.prog 127 #[.agg #[.int .i64 N, .int .i64 T, .int .i64 E, .slice a3 l3 c3, .slice a4 l4 c4, .bool b5, .slice a6 l6 c6], .slice (some ⟨p, 0, none⟩) 3 3, .int .i64 j] W fun e w' => ∃ v', e = .returned v' ∧ Old W w' ∧ RdX N ps Rf (A j) w' v')
    (KB : ∀ j : Nat, j < 3 → ∀ W, Old w W → ∀ p : Nat, p < W.heap.size → (∀ i : Nat, i < 2 → W.cell? ⟨p, i, none⟩ = some (.slice (hf i) L L)) → Calls Tryz.prog 127 #[.agg #[.int .i64 N, .int .i64 T, .int .i64 E, .slice a3 l3 c3, .slice a4 l4 c4, .bool b5, .slice a6 l6 c6], .slice (some ⟨p, 0, none⟩) 2 2, .int .i64 j] W fun e w' => ∃ v', e = .returned v' ∧ Old W w' ∧ RdX N ps Rf (B j) w' v')
    (KJ : ∀ j : Nat, j < 3 → ∀ W, Old w W → ∀ v1 v2, RdX N ps Rf (A j) W v1 → RdX N ps Rf (B j) W v2 → Calls Tryz.prog 75 #[v1, v2, .func (.func 128) #[] #[]] W fun e w' => ∃ v', e = .returned v' ∧ Old W w' ∧ Ows (TS 118 5 ps.length (elR N false ps Rf (zsss.getD j []))) w' W.heap.size w'.heap.size [v']) :
    Calls Tryz.prog 67 #[.agg #[.int .i64 N, .int .i64 T, .int .i64 E, .slice a3 l3 c3, .slice a4 l4 c4, .bool b5, .slice a6 l6 c6], .iface 167 (.agg #[.slice (gf 0) L L, .slice (gf 1) L L, .slice (gf 2) L L]), .iface 125 (.agg #[.slice (hf 0) L L, .slice (hf 1) L L])] w fun e w' => ∃ v', e = .returned v' ∧ Old w w' ∧ Ows (TS 109 1 3 (elP N false ps Rf zsss)) w' w.heap.size w'.heap.size [v'] := by
  obtain ⟨i0, hi, hz0, hz1, hz2⟩ := info_parts Tryz.infoRRs
  have HKA : Hid (∀ j : Nat, j < 3 → ∀ W, Old w W → ∀ p : Nat, p < W.heap.size → (∀ i : Nat, i < 3 → W.cell? ⟨p, i, none⟩ = some (.slice (gf i) L L)) → Calls Tryz.prog 127 #[.agg #[.int .i64 N, .int .i64 T, .int .i64 E, .slice a3 l3 c3, .slice a4 l4 c4, .bool b5, .slice a6 l6 c6], .slice (some ⟨p, 0, none⟩) 3 3, .int .i64 j] W fun e w' => ∃ v', e = .returned v' ∧ Old W w' ∧ RdX N ps Rf (A j) w' v') := KA
  have HKB : Hid (∀ j : Nat, j < 3 → ∀ W, Old w W → ∀ p : Nat, p < W.heap.size → (∀ i : Nat, i < 2 → W.cell? ⟨p, i, none⟩ = some (.slice (hf i) L L)) → Calls Tryz.prog 127 #[.agg #[.int .i64 N, .int .i64 T, .int .i64 E, .slice a3 l3 c3, .slice a4 l4 c4, .bool b5, .slice a6 l6 c6], .slice (some ⟨p, 0, none⟩) 2 2, .int .i64 j] W fun e w' => ∃ v', e = .returned v' ∧ Old W w' ∧ RdX N ps Rf (B j) w' v') := KB
  have HKJ : Hid (∀ j : Nat, j < 3 → ∀ W, Old w W → ∀ v1 v2, RdX N ps Rf (A j) W v1 → RdX N ps Rf (B j) W v2 → Calls Tryz.prog 75 #[v1, v2, .func (.func 128) #[] #[]] W fun e w' => ∃ v', e = .returned v' ∧ Old W w' ∧ Ows (TS 118 5 ps.length (elR N false ps Rf (zsss.getD j []))) w' W.heap.size w'.heap.size [v']) := KJ
  have HGD : Hid (∀ j, GoodT (elP N false ps Rf zsss j)) := good_elP N false ps Rf zsss
  have BX : Hid (Bk (w.alloc (.cells #[.int .i64 N, .int .i64 T, .int .i64 E, .slice a3 l3 c3, .slice a4 l4 c4, .bool b5, .slice a6 l6 c6] 73)) w.heap.size #[.int .i64 N, .int .i64 T, .int .i64 E, .slice a3 l3 c3, .slice a4 l4 c4, .bool b5, .slice a6 l6 c6] 73) := Bk.new' w _ _ rfl
  have HA : Hid (Old w (w.alloc (.cells #[.int .i64 N, .int .i64 T, .int .i64 E, .slice a3 l3 c3, .slice a4 l4 c4, .bool b5, .slice a6 l6 c6] 73))) := (Old.refl w).alloc _
  have cp := parts3 (gf 0) (gf 1) (gf 2) L (w.alloc (.cells #[.int .i64 N, .int .i64 T, .int .i64 E, .slice a3 l3 c3, .slice a4 l4 c4, .bool b5, .slice a6 l6 c6] 73))
  have hs0 : (w.alloc (.cells #[.int .i64 N, .int .i64 T, .int .i64 E, .slice a3 l3 c3, .slice a4 l4 c4, .bool b5, .slice a6 l6 c6] 73)).heap.size = w.heap.size + 1 := by simp
  rw [hs0] at cp
  clear KA KB KJ hs0
  go_enter Tryz.func67, Tryz.ntmps67
  go_wp2_with fail
  refine cp.mono ?_
  rintro e w1 ⟨rfl, g1, hs1, c0, c1, c2⟩
  have HG1 : Hid (Old w w1) := Old.trans HA.out g1
  have BX1 : Hid (Bk w1 w.heap.size #[.int .i64 N, .int .i64 T, .int .i64 E, .slice a3 l3 c3, .slice a4 l4 c4, .bool b5, .slice a6 l6 c6] 73) := BX.out.old g1
  have HC1 : Hid (∀ i, i < 3 → w1.cell? ⟨w.heap.size + 1 + 1, i, none⟩ = some (.slice (gf i) L L)) := fun i hi => by
    rcases (show i = 0 ∨ i = 1 ∨ i = 2 by omega) with rfl | rfl | rfl
    · exact c0
    · exact c1
    · exact c2
  clear g1 cp c0 c1 c2 BX
  have cp := parts2 (hf 0) (hf 1) L w1
  go_wp2_with fail
  refine cp.mono ?_
  rintro e w2 ⟨rfl, g1, hs2, c0, c1⟩
  have HG12 : Hid (Old w1 w2) := g1
  have HG2 : Hid (Old w w2) := Old.trans HG1.out g1
  have BX2 : Hid (Bk w2 w.heap.size #[.int .i64 N, .int .i64 T, .int .i64 E, .slice a3 l3 c3, .slice a4 l4 c4, .bool b5, .slice a6 l6 c6] 73) := BX1.out.old g1
  have HC2 : Hid (∀ i, i < 2 → w2.cell? ⟨w1.heap.size + 1, i, none⟩ = some (.slice (hf i) L L)) := fun i hi => by
    rcases (show i = 0 ∨ i = 1 by omega) with rfl | rfl
    · exact c0
    · exact c1
  have HC1' : Hid (∀ i, i < 3 → w2.cell? ⟨w.heap.size + 1 + 1, i, none⟩ = some (.slice (gf i) L L)) := fun i hi' => (HG12.out.cell (p := ⟨w.heap.size + 1 + 1, i, none⟩) hs1).trans (HC1.out i hi')
  have hs12 := g1.size
  have hsw := HG1.out.size
  clear g1 cp c0 c1 BX1 HC1 HG12
  go_wp2_with (at_make; refine wpList_make_full _ rfl _ _ 105 rfl 0 109 i0 (.slice none 0 0) 1 Tryz.underlying105 hi hz0 hz1 .i64 .i64 _ _ 3 rfl rfl rfl rfl (by rw [hz2]; omega) (by unfold maxLen; omega) (Nat.zero_le _) ?_; intro w3 hown hgrow)
  have HO : Hid (TSc 109 1 3 0 (elP N false ps Rf zsss) w3 w2.heap.size 3 _ (fun _ _ => False)) := TSc.start hown
  have HG23 : Hid (Old w2 w3) := grownBy_old hgrow
  clear hown hgrow
  go_loopw [23, 10] (fun i _ W => ∃ (k : Nat) (vs : List Value) (Bs : Nat → Nat → Prop), k ≤ 3 ∧ i = .int .i64 k ∧ Hid (TSc 109 1 3 k (elP N false ps Rf zsss) W w2.heap.size 3 vs Bs) ∧ Hid (∀ j b, j < k → Bs j b → w2.heap.size < b) ∧ Hid (Old w2 W)) (fun i _ _ => 3 - (intOf i).toNat)
  case atStart => exact ⟨0, _, _, by omega, rfl, HO, (fun j b hj => by omega), HG23⟩
  case round =>
    obtain ⟨k, vs, Bs, hk, rfl, H1, HB, HG⟩ := hrel
    clear HO HG23
    have hsr : w2.heap.size < wr.heap.size := ownsRow_lt H1.out.row
    have HGW : Hid (Old w wr) := Old.trans HG2.out HG.out
    by_cases hlt : k < 3
    · have d1 : decide ((k : Int) < 3) = true := by simp; omega
      go_wp2_with fail
      refine reg_Sm wr w.heap.size w2.heap.size 3 k N T E a3 l3 c3 a4 l4 c4 b5 a6 l6 c6 (w.heap.size + 1 + 1) 3 (w1.heap.size + 1) 2 N ps Rf (A k) (B k) (elR N false ps Rf (zsss.getD k [])) (good_elR _ _ _ _ _) (by omega) (by omega) (BX2.out.old HG.out) (fun W g => ?_) (fun W g => (H1.out.old HGD.out g).frozen _) (fun W g => HKA.out k hlt W (Old.trans HGW.out g) _ (by have := g.size; omega) (fun i hi' => ((Old.trans HG.out g).cell (p := ⟨w.heap.size + 1 + 1, i, none⟩) (by show w.heap.size + 1 + 1 < _; omega)).trans (HC1'.out i hi'))) (fun W g => HKB.out k hlt W (Old.trans HGW.out g) _ (by have := g.size; omega) (fun i hi' => ((Old.trans HG.out g).cell (p := ⟨w1.heap.size + 1, i, none⟩) hs2).trans (HC2.out i hi'))) (fun W g v1 v2 q1 q2 => HKJ.out k hlt W (Old.trans HGW.out g) v1 v2 q1 q2) _ _ ?_ ?_ ?_ ?_ ?_ ?_ ?_
      · have H2 := H1.out.old HGD.out g
        have h5 := H2.cell k 0 hlt (by omega)
        rw [Nat.mul_one, Nat.add_zero] at h5
        have h6 := cellsJ_len H2.row.1 k hlt
        exact ⟨_, h5.trans (List.getElem?_eq_getElem (by omega))⟩
      iterate 6 (· exact rfl)
      intro us3 w4 a9 c9 g3 o3
      simp only [putAll, Act.put, slotSm, List.range, List.range.loop, List.map_cons, List.map_nil, List.getD_cons_zero, List.getD_cons_succ, List.setIfInBounds_toArray, List.set_cons_succ, List.set_cons_zero]
      have H2 := H1.out.old HGD.out g3
      obtain ⟨_, BB, hT, hBlo⟩ := o3
      have hst := H2.storeT HGD.out hlt (.slice a9 ps.length c9) (B := BB) (fun W' hW' => (good_elP N false ps Rf zsss k).far hT (fun b hb => hW' b (by have := hBlo b hb; omega))) (fun hb => by have := hBlo _ hb; omega) (fun j hj b h1 h2 => by
          have h4 := H1.out.lt HGD.out j b hj h1
          have := hBlo b h2
          omega)
      obtain ⟨vs', H3⟩ := hst
      have HNN : Hid (TSc 109 1 3 (k + 1) (elP N false ps Rf zsss) (w4.setCell ⟨w2.heap.size, k, none⟩ (.slice a9 ps.length c9)) w2.heap.size 3 vs' (fun q => if q = k then BB else Bs q)) := H3
      have HNB : Hid (∀ j b, j < k + 1 → (fun q => if q = k then BB else Bs q) j b → w2.heap.size < b) := fun j b hj hb => by
        by_cases e : j = k
        · simp only [e, if_true] at hb
          have := hBlo b hb
          omega
        · simp only [e, if_false] at hb
          exact HB.out j b (by omega) hb
      have HG4 : Hid (Old w2 (w4.setCell ⟨w2.heap.size, k, none⟩ (.slice a9 ps.length c9))) := (Old.trans HG.out g3).own (p := ⟨w2.heap.size, k, none⟩) (Nat.le_refl _) _
      clear H1 H2 H3 HB g3 hT hBlo HG HGW
      go_wp2_with fail
      exact ⟨⟨k + 1, vs', _, by omega, by go_num, HNN, HNB, HG4⟩, by simp [intOf]; omega⟩
    · have d1 : decide ((k : Int) < 3) = false := by simp; omega
      obtain rfl : k = 3 := by omega
      have HE : Hid (Ows (TS 109 1 3 (elP N false ps Rf zsss)) wr w2.heap.size wr.heap.size [.slice (some ⟨w2.heap.size, 0, none⟩) 3 3]) := H1.out.done HGD.out (Nat.le_refl _) (fun j b hj hb => Nat.le_of_lt (HB.out j b hj hb))
      clear H1 HB
      go_wp2_with fail
      go_ret
      exact ⟨_, rfl, HGW.out, HE.out.low HG2.out.size (Nat.le_refl _) (Nat.le_refl _)⟩
set_option maxRecDepth 100000 in
set_option maxHeartbeats 4000000 in
theorem sum_33 (N T E : Int) (a3 : Option Addr) (l3 c3 : Nat) (a4 : Option Addr) (l4 c4 : Nat) (b5 : Bool) (a6 : Option Addr) (l6 c6 : Nat) (ps : List Int) (Rf : Nat → Int) (zsss : List (List (List Int))) (A B : Nat → List (List Int)) (L : Nat) (gf hf : Nat → Option Addr) (w : World)
    (KA : ∀ j : Nat, j < 3 → ∀ W, Old w W → ∀ p : Nat, p < W.heap.size → (∀ i : Nat, i < 3 → W.cell? ⟨p, i, none⟩ = some (.slice (gf i) L L)) → Calls Tryz.prog 127 #[.agg #[.int .i64 N, .int .i64 T, .int .i64 E, .slice a3 l3 c3, .slice a4 l4 c4, .bool b5, .slice a6 l6 c6], .slice (some ⟨p, 0, none⟩) 3 3, .int .i64 j] W fun e w' => ∃ v', e = .returned v' ∧ Old W w' ∧ RdX N ps Rf (A j) w' v')
    (KB : ∀ j : Nat, j < 3 → ∀ W, Old w W → ∀ p : Nat, p < W.heap.size → (∀ i : Nat, i < 3 → W.cell? ⟨p, i, none⟩ = some (.slice (hf i) L L)) → Calls Tryz.prog 127 #[.agg #[.int .i64 N, .int .i64 T, .int .i64 E, .slice a3 l3 c3, .slice a4 l4 c4, .bool b5, .slice a6 l6 c6], .slice (some ⟨p, 0, none⟩) 3 3, .int .i64 j] W fun e w' => ∃ v', e = .returned v' ∧ Old W w' ∧ RdX N ps Rf (B j) w' v')
    (KJ : ∀ j : Nat, j < 3 → ∀ W, Old w W → ∀ v1 v2, RdX N ps Rf (A j) W v1 → RdX N ps Rf (B j) W v2 → Calls Tryz.prog 75 #[v1, v2, .func (.func 128) #[] #[]] W fun e w' => ∃ v', e = .returned v' ∧ Old W w' ∧ Ows (TS 118 5 ps.length (elR N false ps Rf (zsss.getD j []))) w' W.heap.size w'.heap.size [v']) :
    Calls Tryz.prog 67 #[.agg #[.int .i64 N, .int .i64 T, .int .i64 E, .slice a3 l3 c3, .slice a4 l4 c4, .bool b5, .slice a6 l6 c6], .iface 167 (.agg #[.slice (gf 0) L L, .slice (gf 1) L L, .slice (gf 2) L L]), .iface 167 (.agg #[.slice (hf 0) L L, .slice (hf 1) L L, .slice (hf 2) L L])] w fun e w' => ∃ v', e = .returned v' ∧ Old w w' ∧ Ows (TS 109 1 3 (elP N false ps Rf zsss)) w' w.heap.size w'.heap.size [v'] := by
  obtain ⟨i0, hi, hz0, hz1, hz2⟩ := info_parts Tryz.infoRRs
  have HKA : Hid (∀ j : Nat, j < 3 → ∀ W, Old w W → ∀ p : Nat, p < W.heap.size → (∀ i : Nat, i < 3 → W.cell? ⟨p, i, none⟩ = some (.slice (gf i) L L)) → Calls Tryz.prog 127 #[.agg #[.int .i64 N, .int .i64 T, .int .i64 E, .slice a3 l3 c3, .slice a4 l4 c4, .bool b5, .slice a6 l6 c6], .slice (some ⟨p, 0, none⟩) 3 3, .int .i64 j] W fun e w' => ∃ v', e = .returned v' ∧ Old W w' ∧ RdX N ps Rf (A j) w' v') := KA
  have HKB : Hid (∀ j : Nat, j < 3 → ∀ W, Old w W → ∀ p : Nat, p < W.heap.size → (∀ i : Nat, i < 3 → W.cell? ⟨p, i, none⟩ = some (.slice (hf i) L L)) → Calls Tryz.prog 127 #[.agg #[.int .i64 N, .int .i64 T, .int .i64 E, .slice a3 l3 c3, .slice a4 l4 c4, .bool b5, .slice a6 l6 c6], .slice (some ⟨p, 0, none⟩) 3 3, .int .i64 j] W fun e w' => ∃ v', e = .returned v' ∧ Old W w' ∧ RdX N ps Rf (B j) w' v') := KB
  have HKJ : Hid (∀ j : Nat, j < 3 → ∀ W, Old w W → ∀ v1 v2, RdX N ps Rf (A j) W v1 → RdX N ps Rf (B j) W v2 → Calls Tryz.prog 75 #[v1, v2, .func (.func 128) #[] #[]] W fun e w' => ∃ v', e = .returned v' ∧ Old W w' ∧ Ows (TS 118 5 ps.length (elR N false ps Rf (zsss.getD j []))) w' W.heap.size w'.heap.size [v']) := KJ
  have HGD : Hid (∀ j, GoodT (elP N false ps Rf zsss j)) := good_elP N false ps Rf zsss
  have BX : Hid (Bk (w.alloc (.cells #[.int .i64 N, .int .i64 T, .int .i64 E, .slice a3 l3 c3, .slice a4 l4 c4, .bool b5, .slice a6 l6 c6] 73)) w.heap.size #[.int .i64 N, .int .i64 T, .int .i64 E, .slice a3 l3 c3, .slice a4 l4 c4, .bool b5, .slice a6 l6 c6] 73) := Bk.new' w _ _ rfl
  have HA : Hid (Old w (w.alloc (.cells #[.int .i64 N, .int .i64 T, .int .i64 E, .slice a3 l3 c3, .slice a4 l4 c4, .bool b5, .slice a6 l6 c6] 73))) := (Old.refl w).alloc _
  have cp := parts3 (gf 0) (gf 1) (gf 2) L (w.alloc (.cells #[.int .i64 N, .int .i64 T, .int .i64 E, .slice a3 l3 c3, .slice a4 l4 c4, .bool b5, .slice a6 l6 c6] 73))
  have hs0 : (w.alloc (.cells #[.int .i64 N, .int .i64 T, .int .i64 E, .slice a3 l3 c3, .slice a4 l4 c4, .bool b5, .slice a6 l6 c6] 73)).heap.size = w.heap.size + 1 := by simp
  rw [hs0] at cp
  clear KA KB KJ hs0
  go_enter Tryz.func67, Tryz.ntmps67
  go_wp2_with fail
  refine cp.mono ?_
  rintro e w1 ⟨rfl, g1, hs1, c0, c1, c2⟩
  have HG1 : Hid (Old w w1) := Old.trans HA.out g1
  have BX1 : Hid (Bk w1 w.heap.size #[.int .i64 N, .int .i64 T, .int .i64 E, .slice a3 l3 c3, .slice a4 l4 c4, .bool b5, .slice a6 l6 c6] 73) := BX.out.old g1
  have HC1 : Hid (∀ i, i < 3 → w1.cell? ⟨w.heap.size + 1 + 1, i, none⟩ = some (.slice (gf i) L L)) := fun i hi => by
    rcases (show i = 0 ∨ i = 1 ∨ i = 2 by omega) with rfl | rfl | rfl
    · exact c0
    · exact c1
    · exact c2
  clear g1 cp c0 c1 c2 BX
  have cp := parts3 (hf 0) (hf 1) (hf 2) L w1
  go_wp2_with fail
  refine cp.mono ?_
  rintro e w2 ⟨rfl, g1, hs2, c0, c1, c2⟩
  have HG12 : Hid (Old w1 w2) := g1
  have HG2 : Hid (Old w w2) := Old.trans HG1.out g1
  have BX2 : Hid (Bk w2 w.heap.size #[.int .i64 N, .int .i64 T, .int .i64 E, .slice a3 l3 c3, .slice a4 l4 c4, .bool b5, .slice a6 l6 c6] 73) := BX1.out.old g1
  have HC2 : Hid (∀ i, i < 3 → w2.cell? ⟨w1.heap.size + 1, i, none⟩ = some (.slice (hf i) L L)) := fun i hi => by
    rcases (show i = 0 ∨ i = 1 ∨ i = 2 by omega) with rfl | rfl | rfl
    · exact c0
    · exact c1
    · exact c2
  have HC1' : Hid (∀ i, i < 3 → w2.cell? ⟨w.heap.size + 1 + 1, i, none⟩ = some (.slice (gf i) L L)) := fun i hi' => (HG12.out.cell (p := ⟨w.heap.size + 1 + 1, i, none⟩) hs1).trans (HC1.out i hi')
  have hs12 := g1.size
  have hsw := HG1.out.size
  clear g1 cp c0 c1 c2 BX1 HC1 HG12
  go_wp2_with (at_make; refine wpList_make_full _ rfl _ _ 105 rfl 0 109 i0 (.slice none 0 0) 1 Tryz.underlying105 hi hz0 hz1 .i64 .i64 _ _ 3 rfl rfl rfl rfl (by rw [hz2]; omega) (by unfold maxLen; omega) (Nat.zero_le _) ?_; intro w3 hown hgrow)
  have HO : Hid (TSc 109 1 3 0 (elP N false ps Rf zsss) w3 w2.heap.size 3 _ (fun _ _ => False)) := TSc.start hown
  have HG23 : Hid (Old w2 w3) := grownBy_old hgrow
  clear hown hgrow
  go_loopw [23, 10] (fun i _ W => ∃ (k : Nat) (vs : List Value) (Bs : Nat → Nat → Prop), k ≤ 3 ∧ i = .int .i64 k ∧ Hid (TSc 109 1 3 k (elP N false ps Rf zsss) W w2.heap.size 3 vs Bs) ∧ Hid (∀ j b, j < k → Bs j b → w2.heap.size < b) ∧ Hid (Old w2 W)) (fun i _ _ => 3 - (intOf i).toNat)
  case atStart => exact ⟨0, _, _, by omega, rfl, HO, (fun j b hj => by omega), HG23⟩
  case round =>
    obtain ⟨k, vs, Bs, hk, rfl, H1, HB, HG⟩ := hrel
    clear HO HG23
    have hsr : w2.heap.size < wr.heap.size := ownsRow_lt H1.out.row
    have HGW : Hid (Old w wr) := Old.trans HG2.out HG.out
    by_cases hlt : k < 3
    · have d1 : decide ((k : Int) < 3) = true := by simp; omega
      go_wp2_with fail
      refine reg_Sm wr w.heap.size w2.heap.size 3 k N T E a3 l3 c3 a4 l4 c4 b5 a6 l6 c6 (w.heap.size + 1 + 1) 3 (w1.heap.size + 1) 3 N ps Rf (A k) (B k) (elR N false ps Rf (zsss.getD k [])) (good_elR _ _ _ _ _) (by omega) (by omega) (BX2.out.old HG.out) (fun W g => ?_) (fun W g => (H1.out.old HGD.out g).frozen _) (fun W g => HKA.out k hlt W (Old.trans HGW.out g) _ (by have := g.size; omega) (fun i hi' => ((Old.trans HG.out g).cell (p := ⟨w.heap.size + 1 + 1, i, none⟩) (by show w.heap.size + 1 + 1 < _; omega)).trans (HC1'.out i hi'))) (fun W g => HKB.out k hlt W (Old.trans HGW.out g) _ (by have := g.size; omega) (fun i hi' => ((Old.trans HG.out g).cell (p := ⟨w1.heap.size + 1, i, none⟩) hs2).trans (HC2.out i hi'))) (fun W g v1 v2 q1 q2 => HKJ.out k hlt W (Old.trans HGW.out g) v1 v2 q1 q2) _ _ ?_ ?_ ?_ ?_ ?_ ?_ ?_
      · have H2 := H1.out.old HGD.out g
        have h5 := H2.cell k 0 hlt (by omega)
        rw [Nat.mul_one, Nat.add_zero] at h5
        have h6 := cellsJ_len H2.row.1 k hlt
        exact ⟨_, h5.trans (List.getElem?_eq_getElem (by omega))⟩
      iterate 6 (· exact rfl)
      intro us3 w4 a9 c9 g3 o3
      simp only [putAll, Act.put, slotSm, List.range, List.range.loop, List.map_cons, List.map_nil, List.getD_cons_zero, List.getD_cons_succ, List.setIfInBounds_toArray, List.set_cons_succ, List.set_cons_zero]
      have H2 := H1.out.old HGD.out g3
      obtain ⟨_, BB, hT, hBlo⟩ := o3
      have hst := H2.storeT HGD.out hlt (.slice a9 ps.length c9) (B := BB) (fun W' hW' => (good_elP N false ps Rf zsss k).far hT (fun b hb => hW' b (by have := hBlo b hb; omega))) (fun hb => by have := hBlo _ hb; omega) (fun j hj b h1 h2 => by
          have h4 := H1.out.lt HGD.out j b hj h1
          have := hBlo b h2
          omega)
      obtain ⟨vs', H3⟩ := hst
      have HNN : Hid (TSc 109 1 3 (k + 1) (elP N false ps Rf zsss) (w4.setCell ⟨w2.heap.size, k, none⟩ (.slice a9 ps.length c9)) w2.heap.size 3 vs' (fun q => if q = k then BB else Bs q)) := H3
      have HNB : Hid (∀ j b, j < k + 1 → (fun q => if q = k then BB else Bs q) j b → w2.heap.size < b) := fun j b hj hb => by
        by_cases e : j = k
        · simp only [e, if_true] at hb
          have := hBlo b hb
          omega
        · simp only [e, if_false] at hb
          exact HB.out j b (by omega) hb
      have HG4 : Hid (Old w2 (w4.setCell ⟨w2.heap.size, k, none⟩ (.slice a9 ps.length c9))) := (Old.trans HG.out g3).own (p := ⟨w2.heap.size, k, none⟩) (Nat.le_refl _) _
      clear H1 H2 H3 HB g3 hT hBlo HG HGW
      go_wp2_with fail
      exact ⟨⟨k + 1, vs', _, by omega, by go_num, HNN, HNB, HG4⟩, by simp [intOf]; omega⟩
    · have d1 : decide ((k : Int) < 3) = false := by simp; omega
      obtain rfl : k = 3 := by omega
      have HE : Hid (Ows (TS 109 1 3 (elP N false ps Rf zsss)) wr w2.heap.size wr.heap.size [.slice (some ⟨w2.heap.size, 0, none⟩) 3 3]) := H1.out.done HGD.out (Nat.le_refl _) (fun j b hj hb => Nat.le_of_lt (HB.out j b hj hb))
      clear H1 HB
      go_wp2_with fail
      go_ret
      exact ⟨_, rfl, HGW.out, HE.out.low HG2.out.size (Nat.le_refl _) (Nat.le_refl _)⟩
end Go.Proofs.YtakleianimcmdaaGreatDoor
