/- Proved: several texts in one: what each proves is said ahead of it. -/
import Derived.Test.YtakleianimcmdaaGreatDoorA30
/- Proved: drawn regions of the model: a Part is made and appended to the Parts. -/
namespace Go.Proofs.YtakleianimcmdaaGreatDoor
open Go.ChangeShapes Go.WideShapes Go.ChangeAt Go.RowKit
set_option linter.unusedVariables false
set_option linter.unusedSimpArgs false
def slotOb (i : Nat) : Nat := [60, 61, 62, 63, 64, 65, 66, 67, 68].getD i 0
theorem slotOb_lt : ∀ i, i < 9 → slotOb i < 89 := by decide
theorem slotOb_inj : ∀ i, i < 9 → ∀ j, j < 9 → slotOb i = slotOb j → i = j := by decide
theorem slotOb_no : ∀ s, s < 30 → ∀ i, i < 9 → slotOb i ≠ s := by decide
def qOb (kb bb : Nat) (aa : Option Addr) (k cap : Nat) (q1 o1 m1 c1 : Nat) (x1 : Option Addr) (n1 y1 : Nat) (zss : List (List Int)) (base : Nat) (i : Nat) (W : World) (xv : Value) : Prop :=
  match i with
  | 0 => xv = .pointer (some ⟨kb, 0, none⟩)
  | 1 => xv = .slice aa k cap
  | 2 => xv = .pointer (some ⟨bb, 0, none⟩)
  | 3 => xv = .slice (some ⟨q1, o1, none⟩) m1 c1
  | 4 => xv = .int .i64 k
  | 5 => xv = .pointer (some ⟨q1, o1 + k, none⟩)
  | 6 => xv = .slice x1 n1 y1
  | 7 => ∃ ra rc, xv = .slice ra zss.length rc ∧ OwS zss W base W.heap.size xv
  | 8 => ∃ ra rc g, xv = .slice (some ⟨g, 0, none⟩) 1 1 ∧ OwS zss W base W.heap.size (.slice ra zss.length rc) ∧ W.cell? ⟨g, 0, none⟩ = some (.slice ra zss.length rc) ∧ g < W.heap.size
  | _ => True
theorem qOb_old (kb bb : Nat) (aa : Option Addr) (k cap : Nat) (q1 o1 m1 c1 : Nat) (x1 : Option Addr) (n1 y1 : Nat) (zss : List (List Int)) (base : Nat) (i : Nat) (W W' : World) (xv : Value) (h : qOb kb bb aa k cap q1 o1 m1 c1 x1 n1 y1 zss base i W xv) (qo : Old W W') : qOb kb bb aa k cap q1 o1 m1 c1 x1 n1 y1 zss base i W' xv := by
  unfold qOb at h ⊢
  split at h
  case h_8 =>
    obtain ⟨ra, rc, e, ow⟩ := h
    exact ⟨ra, rc, e, growS ow qo⟩
  case h_9 =>
    obtain ⟨ra, rc, g, e, ow, hcell, hlt⟩ := h
    exact ⟨ra, rc, g, e, growS ow qo, (qo.cell (p := ⟨g, 0, none⟩) hlt).trans hcell, Nat.lt_of_lt_of_le hlt qo.size⟩
  all_goals first | exact h | trivial
set_option maxRecDepth 100000 in
set_option maxHeartbeats 4000000 in
theorem reg_Ob (w0 : World) (kb bb : Nat) (aa : Option Addr) (k cap : Nat) (q1 o1 m1 c1 : Nat) (x1 : Option Addr) (n1 y1 : Nat) (zss : List (List Int)) (FIN : World → Value → Prop) (hk9 : k ≤ 9) (bK : w0.heap[kb]? = some (.cells #[.slice aa k cap] 42 (0, 0))) (hkb : ∀ b, (Value.slice aa k cap).ownBlock = some b → b ≠ kb)
    (ck : w0.cell? ⟨kb, 0, none⟩ = some (.slice aa k cap)) (cb : w0.cell? ⟨bb, 0, none⟩ = some (.slice (some ⟨q1, o1, none⟩) m1 c1)) (cx : w0.cell? ⟨q1, o1 + k, none⟩ = some (.slice x1 n1 y1))
    (hkn : (k : Int) < (m1 : Int))
    (KF : ∀ W, Old w0 W → Calls Tryz.prog 61 #[.slice x1 n1 y1] W fun e w' => ∃ v', e = .returned v' ∧ Old W w' ∧ OwS zss w' W.heap.size w'.heap.size v')
    (HEM : ∀ (W : World) (u : Value), Old w0 W → OwS zss W w0.heap.size W.heap.size u → ∃ vs, W.ownsRow 0 93 1 (.slice aa k cap) k vs ∧ (∀ v' w', w'.ownsRow 0 93 1 v' (k + 1) (vs ++ [u]) → W.grownBy w' (Value.slice aa k cap).ownBlock → (v'.ownBlock = (Value.slice aa k cap).ownBlock ∨ v'.ownBlock = some W.heap.size) → FIN (w'.setCell ⟨kb, 0, none⟩ v') v'))
    (Q : Exit → Act → World → Prop) (a0 : Act) (hsz : a0.tmps.size = 89)
    (ha5 : a0.eval (.tmp 5) = .pointer (some ⟨bb, 0, none⟩)) (ha8 : a0.eval (.tmp 8) = .pointer (some ⟨kb, 0, none⟩)) (ha9 : a0.eval (.tmp 9) = .int .i64 k)
    (HK : Hid (∀ (us : Nat → Value) W a5 c5, FIN W (.slice a5 (k + 1) c5) → Q .normal (((putAll a0 ((List.range 9).map fun i => (slotOb i, us i))).put (some 69) (.slice a5 (k + 1) c5)).put (some 70) (.pointer (some ⟨kb, 0, none⟩))) W)) :
    Code.wp Tryz.prog ((Tryz.f20.body.bind (regionAtmul 9)).getD .skip) Q a0 w0 := by
  conv => arg 2; whnf
  obtain ⟨j0, ji, jz0, jz1, jz2⟩ := info_parts Tryz.infoIntSS
  have hkbl := block_lt_of_cell ck
  have hbbl := block_lt_of_cell cb
  have hxl := block_lt_of_cell cx
  have un := slotOb_no
  refine wp_region_tail 9 (by decide) (by kernel_rfl) (by kernel_rfl) (by kernel_rfl) (by kernel_rfl) (by kernel_rfl) slotOb (fun i hi => by rw [hsz]; exact slotOb_lt i hi) (fun i j hi hj => slotOb_inj i hi j hj) (qOb kb bb aa k cap q1 o1 m1 c1 x1 n1 y1 zss w0.heap.size) (qOb_old kb bb aa k cap q1 o1 m1 c1 x1 n1 y1 zss w0.heap.size) ?_ ?_
  · refine ⟨?_, ?_, ?_, ?_, ?_, ?_, ?_, ?_, ?_, trivial⟩
    · intro a W g hF hd
      have e5 := (hF.same 5 (un 5 (by decide))).trans ha5
      have e8 := (hF.same 8 (un 8 (by decide))).trans ha8
      have e9 := (hF.same 9 (un 9 (by decide))).trans ha9
      obtain ⟨ρ, hρ⟩ : ∃ ρ, a.eval = ρ := ⟨_, rfl⟩
      rw [hρ] at  e5 e8 e9
      refine op_val ρ hρ (.pointer (some ⟨kb, 0, none⟩)) ?_ ⟨_, rfl, Old.refl _, rfl⟩
      clear g hF hd hρ HK un ha5 ha8 ha9 ck cb cx KF HEM bK hkb
      go_simp
      all_goals (rw [IntKind.wrap_i64]; omega)
    · intro a W g hF hd
      have e5 := (hF.same 5 (un 5 (by decide))).trans ha5
      have e8 := (hF.same 8 (un 8 (by decide))).trans ha8
      have e9 := (hF.same 9 (un 9 (by decide))).trans ha9
      have h0 := hd ⟨0, .data⟩ (by simp) rfl
      simp only [qOb, slotOb, List.getD_cons_zero, List.getD_cons_succ] at h0
      have kck := (g.cell (p := ⟨kb, 0, none⟩) hkbl).trans ck
      obtain ⟨ρ, hρ⟩ : ∃ ρ, a.eval = ρ := ⟨_, rfl⟩
      rw [hρ] at h0 e5 e8 e9
      refine op_val ρ hρ (.slice aa k cap) ?_ ⟨_, rfl, Old.refl _, rfl⟩
      clear g hF hd hρ HK un ha5 ha8 ha9 ck cb cx KF HEM bK hkb
      go_simp
      all_goals (rw [IntKind.wrap_i64]; omega)
    · intro a W g hF hd
      have e5 := (hF.same 5 (un 5 (by decide))).trans ha5
      have e8 := (hF.same 8 (un 8 (by decide))).trans ha8
      have e9 := (hF.same 9 (un 9 (by decide))).trans ha9
      obtain ⟨ρ, hρ⟩ : ∃ ρ, a.eval = ρ := ⟨_, rfl⟩
      rw [hρ] at  e5 e8 e9
      refine op_val ρ hρ (.pointer (some ⟨bb, 0, none⟩)) ?_ ⟨_, rfl, Old.refl _, rfl⟩
      clear g hF hd hρ HK un ha5 ha8 ha9 ck cb cx KF HEM bK hkb
      go_simp
      all_goals (rw [IntKind.wrap_i64]; omega)
    · intro a W g hF hd
      have e5 := (hF.same 5 (un 5 (by decide))).trans ha5
      have e8 := (hF.same 8 (un 8 (by decide))).trans ha8
      have e9 := (hF.same 9 (un 9 (by decide))).trans ha9
      have h2 := hd ⟨2, .data⟩ (by simp) rfl
      simp only [qOb, slotOb, List.getD_cons_zero, List.getD_cons_succ] at h2
      have kcb := (g.cell (p := ⟨bb, 0, none⟩) hbbl).trans cb
      obtain ⟨ρ, hρ⟩ : ∃ ρ, a.eval = ρ := ⟨_, rfl⟩
      rw [hρ] at h2 e5 e8 e9
      refine op_val ρ hρ (.slice (some ⟨q1, o1, none⟩) m1 c1) ?_ ⟨_, rfl, Old.refl _, rfl⟩
      clear g hF hd hρ HK un ha5 ha8 ha9 ck cb cx KF HEM bK hkb
      go_simp
      all_goals (rw [IntKind.wrap_i64]; omega)
    · intro a W g hF hd
      have e5 := (hF.same 5 (un 5 (by decide))).trans ha5
      have e8 := (hF.same 8 (un 8 (by decide))).trans ha8
      have e9 := (hF.same 9 (un 9 (by decide))).trans ha9
      obtain ⟨ρ, hρ⟩ : ∃ ρ, a.eval = ρ := ⟨_, rfl⟩
      rw [hρ] at  e5 e8 e9
      refine op_val ρ hρ (.int .i64 k) ?_ ⟨_, rfl, Old.refl _, rfl⟩
      clear g hF hd hρ HK un ha5 ha8 ha9 ck cb cx KF HEM bK hkb
      go_simp
      all_goals (rw [IntKind.wrap_i64]; omega)
    · intro a W g hF hd
      have e5 := (hF.same 5 (un 5 (by decide))).trans ha5
      have e8 := (hF.same 8 (un 8 (by decide))).trans ha8
      have e9 := (hF.same 9 (un 9 (by decide))).trans ha9
      have h3 := hd ⟨3, .data⟩ (by simp) rfl
      have h4 := hd ⟨4, .data⟩ (by simp) rfl
      simp only [qOb, slotOb, List.getD_cons_zero, List.getD_cons_succ] at h3 h4
      obtain ⟨ρ, hρ⟩ : ∃ ρ, a.eval = ρ := ⟨_, rfl⟩
      rw [hρ] at h3 h4 e5 e8 e9
      refine op_val ρ hρ (.pointer (some ⟨q1, o1 + k, none⟩)) ?_ ⟨_, rfl, Old.refl _, rfl⟩
      clear g hF hd hρ HK un ha5 ha8 ha9 ck cb cx KF HEM bK hkb
      go_simp
      all_goals (rw [IntKind.wrap_i64]; omega)
    · intro a W g hF hd
      have e5 := (hF.same 5 (un 5 (by decide))).trans ha5
      have e8 := (hF.same 8 (un 8 (by decide))).trans ha8
      have e9 := (hF.same 9 (un 9 (by decide))).trans ha9
      have h5 := hd ⟨5, .data⟩ (by simp) rfl
      simp only [qOb, slotOb, List.getD_cons_zero, List.getD_cons_succ] at h5
      have kcx := (g.cell (p := ⟨q1, o1 + k, none⟩) hxl).trans cx
      obtain ⟨ρ, hρ⟩ : ∃ ρ, a.eval = ρ := ⟨_, rfl⟩
      rw [hρ] at h5 e5 e8 e9
      refine op_val ρ hρ (.slice x1 n1 y1) ?_ ⟨_, rfl, Old.refl _, rfl⟩
      clear g hF hd hρ HK un ha5 ha8 ha9 ck cb cx KF HEM bK hkb
      go_simp
      all_goals (rw [IntKind.wrap_i64]; omega)
    · intro a W g hF hd
      have h6 : a.eval (.tmp 66) = .slice x1 n1 y1 := hd ⟨6, .data⟩ (by simp) rfl
      refine op_call_ret (R := fun v w' => Old W w' ∧ ∃ ra rc, v = .slice ra zss.length rc ∧ OwS zss w' W.heap.size w'.heap.size v) Tryz.call61 (vs := #[.slice x1 n1 y1]) (by simp [h6]) ((KF W g).mono fun e w' h => by
        obtain ⟨v, rfl, q, o⟩ := h
        obtain ⟨ra, rc, e⟩ := o.slice
        exact ⟨_, rfl, q, ra, rc, e, o⟩) ?_
      rintro x w' ⟨g', ra, rc, rfl, o'⟩
      exact ⟨_, rfl, g', ra, rc, rfl, o'.low g.size⟩
    · intro a W g hF hd
      obtain ⟨ra, rc, h7, ow⟩ : ∃ ra rc, a.eval (.tmp 67) = .slice ra zss.length rc ∧ OwS zss W w0.heap.size W.heap.size (a.eval (.tmp 67)) := hd ⟨7, .data⟩ (by simp) rfl
      rw [h7] at ow
      obtain ⟨ρ, hρ⟩ : ∃ ρ, a.eval = ρ := ⟨_, rfl⟩
      rw [hρ] at h7
      refine op_valW2 (W' := W.alloc (.cells #[.slice ra zss.length rc] 93)) ρ hρ (.slice (some ⟨W.heap.size, 0, none⟩) 1 1) ?_ ⟨_, rfl, (Old.refl W).alloc _, ra, rc, W.heap.size, rfl, growS ow ((Old.refl W).alloc _), cell_at _ _ _ _ _ rfl, by simp⟩
      clear g hF hd hρ HK un ha5 ha8 ha9 ck cb cx KF HEM bK hkb ow
      go_simp
  · intro a W g hF hq
    have h0 : a.eval (.tmp 61) = .slice aa k cap := hq 1 (by decide)
    have hb : a.eval (.tmp 8) = .pointer (some ⟨kb, 0, none⟩) := (hF.same 8 (un 8 (by decide))).trans ha8
    obtain ⟨ra, rc, gg, h8, ow, hcell, hlt⟩ : ∃ ra rc gg, a.eval (.tmp 68) = .slice (some ⟨gg, 0, none⟩) 1 1 ∧ OwS zss W w0.heap.size W.heap.size (.slice ra zss.length rc) ∧ W.cell? ⟨gg, 0, none⟩ = some (.slice ra zss.length rc) ∧ gg < W.heap.size := hq 8 (by decide)
    obtain ⟨vs, ov, hem⟩ := HEM W _ g ow
    have hp := fram_put hF (fun i j hi hj => slotOb_inj i hi j hj)
    refine op_append_at2 _ _ 32 rfl 0 93 j0 (.slice none 0 0) 1 24 Tryz.underlying32 ji jz0 jz1 jz2 rfl (by decide) _ k vs h0 ov ⟨gg, 0, none⟩ 1 1 [.slice ra zss.length rc] h8 rfl ?_ (one_slC _ _ _) (by unfold maxLen; omega) (by omega) (Nat.zero_le _) ?_
    · intro j u hj
      match j, hj with
      | 0, hj =>
        have : Value.slice ra zss.length rc = u := by simpa using hj
        subst this
        exact hcell
      | j + 1, hj => simp at hj
    · intro v' w' o5 g5 x5 l5
      have hfin := hem v' w' o5 g5 l5
      obtain ⟨a5, c5, e5⟩ : ∃ a5 c5, v' = .slice a5 (k + 1) c5 := by
        rcases o5.2 with ⟨h1, h2⟩ | ⟨p, cp, cur, h1, _⟩
        · omega
        · exact ⟨_, _, h1⟩
      subst e5
      have hk2 := HK.out (fun i => a.eval (.tmp (slotOb i))) _ a5 c5 hfin
      rw [← hp] at hk2
      have hkl : kb < W.heap.size := Nat.lt_of_lt_of_le (lt_of_some bK) g.size
      have hK5 : w'.heap[kb]? = some (.cells #[.slice aa k cap] 42 (0, 0)) := ((g5.block kb hkl (fun e => hkb kb e.symm rfl)).trans (g.block kb (lt_of_some bK))).trans bK
      have hc5 : w'.cell? ⟨kb, 0, none⟩ = some (.slice aa k cap) := by rw [cell_of_row _ _ _ _ _ _ hK5]; rfl
      have hf5 : w'.frozen? ⟨kb, 0, none⟩ = false := frozen_of_row _ _ _ _ _ hK5
      have sz0 : a.tmps.size = 89 := hF.size.trans hsz
      have e1 : (a.put (some 69) (.slice a5 (k + 1) c5)).eval (.tmp 8) = .pointer (some ⟨kb, 0, none⟩) := (eval_put_other _ _ _ _ (by decide)).trans hb
      have sz1 : (a.put (some 69) (.slice a5 (k + 1) c5)).tmps.size = 89 := by simpa [Act.put] using sz0
      have e2 : ((a.put (some 69) (.slice a5 (k + 1) c5)).put (some 70) (.pointer (some ⟨kb, 0, none⟩))).eval (.tmp 69) = .slice a5 (k + 1) c5 := (eval_put_other _ _ _ _ (by decide)).trans (eval_put_same _ _ _ (by rw [sz0]; decide))
      have e3 : ((a.put (some 69) (.slice a5 (k + 1) c5)).put (some 70) (.pointer (some ⟨kb, 0, none⟩))).eval (.tmp 70) = .pointer (some ⟨kb, 0, none⟩) := eval_put_same _ _ _ (by rw [sz1]; decide)
      clear hem ov hcell ow h8 h0 hq hF hb HK un g g5 o5 l5 x5 hp hkl hK5 hfin sz0 sz1 ha8
      generalize (a.put (some 69) (.slice a5 (k + 1) c5)) = b1 at *
      obtain ⟨ρ, hρ⟩ : ∃ ρ, b1.eval = ρ := ⟨_, rfl⟩
      rw [hρ] at e1
      refine op_val ρ hρ (.pointer (some ⟨kb, 0, none⟩)) ?_ ?_
      · clear hρ e2 e3 hk2
        go_simp
      · show tailWp _ _ [_] _ _
        generalize (b1.put (some 70) (.pointer (some ⟨kb, 0, none⟩))) = b2 at *
        obtain ⟨ρ2, hρ2⟩ : ∃ ρ, b2.eval = ρ := ⟨_, rfl⟩
        rw [hρ2] at e2 e3
        refine op_skp (W' := w'.setCell ⟨kb, 0, none⟩ (.slice a5 (k + 1) c5)) ρ2 hρ2 ?_ ?_
        · clear hρ hρ2 hk2 e1
          go_simp
        · exact hk2
def slotOa (i : Nat) : Nat := [77, 78, 79, 80, 81, 82, 83, 84, 85].getD i 0
theorem slotOa_lt : ∀ i, i < 9 → slotOa i < 89 := by decide
theorem slotOa_inj : ∀ i, i < 9 → ∀ j, j < 9 → slotOa i = slotOa j → i = j := by decide
theorem slotOa_no : ∀ s, s < 30 → ∀ i, i < 9 → slotOa i ≠ s := by decide
def qOa (kb bb : Nat) (aa : Option Addr) (k cap : Nat) (q1 o1 m1 c1 : Nat) (x1 : Option Addr) (n1 y1 : Nat) (zss : List (List Int)) (base : Nat) (i : Nat) (W : World) (xv : Value) : Prop :=
  match i with
  | 0 => xv = .pointer (some ⟨kb, 0, none⟩)
  | 1 => xv = .slice aa k cap
  | 2 => xv = .pointer (some ⟨bb, 0, none⟩)
  | 3 => xv = .slice (some ⟨q1, o1, none⟩) m1 c1
  | 4 => xv = .int .i64 k
  | 5 => xv = .pointer (some ⟨q1, o1 + k, none⟩)
  | 6 => xv = .slice x1 n1 y1
  | 7 => ∃ ra rc, xv = .slice ra zss.length rc ∧ OwS zss W base W.heap.size xv
  | 8 => ∃ ra rc g, xv = .slice (some ⟨g, 0, none⟩) 1 1 ∧ OwS zss W base W.heap.size (.slice ra zss.length rc) ∧ W.cell? ⟨g, 0, none⟩ = some (.slice ra zss.length rc) ∧ g < W.heap.size
  | _ => True
theorem qOa_old (kb bb : Nat) (aa : Option Addr) (k cap : Nat) (q1 o1 m1 c1 : Nat) (x1 : Option Addr) (n1 y1 : Nat) (zss : List (List Int)) (base : Nat) (i : Nat) (W W' : World) (xv : Value) (h : qOa kb bb aa k cap q1 o1 m1 c1 x1 n1 y1 zss base i W xv) (qo : Old W W') : qOa kb bb aa k cap q1 o1 m1 c1 x1 n1 y1 zss base i W' xv := by
  unfold qOa at h ⊢
  split at h
  case h_8 =>
    obtain ⟨ra, rc, e, ow⟩ := h
    exact ⟨ra, rc, e, growS ow qo⟩
  case h_9 =>
    obtain ⟨ra, rc, g, e, ow, hcell, hlt⟩ := h
    exact ⟨ra, rc, g, e, growS ow qo, (qo.cell (p := ⟨g, 0, none⟩) hlt).trans hcell, Nat.lt_of_lt_of_le hlt qo.size⟩
  all_goals first | exact h | trivial
set_option maxRecDepth 100000 in
set_option maxHeartbeats 4000000 in
theorem reg_Oa (w0 : World) (kb bb : Nat) (aa : Option Addr) (k cap : Nat) (q1 o1 m1 c1 : Nat) (x1 : Option Addr) (n1 y1 : Nat) (zss : List (List Int)) (FIN : World → Value → Prop) (hk9 : k ≤ 9) (bK : w0.heap[kb]? = some (.cells #[.slice aa k cap] 42 (0, 0))) (hkb : ∀ b, (Value.slice aa k cap).ownBlock = some b → b ≠ kb)
    (ck : w0.cell? ⟨kb, 0, none⟩ = some (.slice aa k cap)) (cb : w0.cell? ⟨bb, 0, none⟩ = some (.slice (some ⟨q1, o1, none⟩) m1 c1)) (cx : w0.cell? ⟨q1, o1 + k, none⟩ = some (.slice x1 n1 y1))
    (hkn : (k : Int) < (m1 : Int))
    (KF : ∀ W, Old w0 W → Calls Tryz.prog 61 #[.slice x1 n1 y1] W fun e w' => ∃ v', e = .returned v' ∧ Old W w' ∧ OwS zss w' W.heap.size w'.heap.size v')
    (HEM : ∀ (W : World) (u : Value), Old w0 W → OwS zss W w0.heap.size W.heap.size u → ∃ vs, W.ownsRow 0 93 1 (.slice aa k cap) k vs ∧ (∀ v' w', w'.ownsRow 0 93 1 v' (k + 1) (vs ++ [u]) → W.grownBy w' (Value.slice aa k cap).ownBlock → (v'.ownBlock = (Value.slice aa k cap).ownBlock ∨ v'.ownBlock = some W.heap.size) → FIN (w'.setCell ⟨kb, 0, none⟩ v') v'))
    (Q : Exit → Act → World → Prop) (a0 : Act) (hsz : a0.tmps.size = 89)
    (ha4 : a0.eval (.tmp 4) = .pointer (some ⟨bb, 0, none⟩)) (ha8 : a0.eval (.tmp 8) = .pointer (some ⟨kb, 0, none⟩)) (ha9 : a0.eval (.tmp 9) = .int .i64 k)
    (HK : Hid (∀ (us : Nat → Value) W a5 c5, FIN W (.slice a5 (k + 1) c5) → Q .normal (((putAll a0 ((List.range 9).map fun i => (slotOa i, us i))).put (some 86) (.slice a5 (k + 1) c5)).put (some 87) (.pointer (some ⟨kb, 0, none⟩))) W)) :
    Code.wp Tryz.prog ((Tryz.f20.body.bind (regionAtmul 11)).getD .skip) Q a0 w0 := by
  conv => arg 2; whnf
  obtain ⟨j0, ji, jz0, jz1, jz2⟩ := info_parts Tryz.infoIntSS
  have hkbl := block_lt_of_cell ck
  have hbbl := block_lt_of_cell cb
  have hxl := block_lt_of_cell cx
  have un := slotOa_no
  refine wp_region_tail 9 (by decide) (by kernel_rfl) (by kernel_rfl) (by kernel_rfl) (by kernel_rfl) (by kernel_rfl) slotOa (fun i hi => by rw [hsz]; exact slotOa_lt i hi) (fun i j hi hj => slotOa_inj i hi j hj) (qOa kb bb aa k cap q1 o1 m1 c1 x1 n1 y1 zss w0.heap.size) (qOa_old kb bb aa k cap q1 o1 m1 c1 x1 n1 y1 zss w0.heap.size) ?_ ?_
  · refine ⟨?_, ?_, ?_, ?_, ?_, ?_, ?_, ?_, ?_, trivial⟩
    · intro a W g hF hd
      have e4 := (hF.same 4 (un 4 (by decide))).trans ha4
      have e8 := (hF.same 8 (un 8 (by decide))).trans ha8
      have e9 := (hF.same 9 (un 9 (by decide))).trans ha9
      obtain ⟨ρ, hρ⟩ : ∃ ρ, a.eval = ρ := ⟨_, rfl⟩
      rw [hρ] at  e4 e8 e9
      refine op_val ρ hρ (.pointer (some ⟨kb, 0, none⟩)) ?_ ⟨_, rfl, Old.refl _, rfl⟩
      clear g hF hd hρ HK un ha4 ha8 ha9 ck cb cx KF HEM bK hkb
      go_simp
      all_goals (rw [IntKind.wrap_i64]; omega)
    · intro a W g hF hd
      have e4 := (hF.same 4 (un 4 (by decide))).trans ha4
      have e8 := (hF.same 8 (un 8 (by decide))).trans ha8
      have e9 := (hF.same 9 (un 9 (by decide))).trans ha9
      have h0 := hd ⟨0, .data⟩ (by simp) rfl
      simp only [qOa, slotOa, List.getD_cons_zero, List.getD_cons_succ] at h0
      have kck := (g.cell (p := ⟨kb, 0, none⟩) hkbl).trans ck
      obtain ⟨ρ, hρ⟩ : ∃ ρ, a.eval = ρ := ⟨_, rfl⟩
      rw [hρ] at h0 e4 e8 e9
      refine op_val ρ hρ (.slice aa k cap) ?_ ⟨_, rfl, Old.refl _, rfl⟩
      clear g hF hd hρ HK un ha4 ha8 ha9 ck cb cx KF HEM bK hkb
      go_simp
      all_goals (rw [IntKind.wrap_i64]; omega)
    · intro a W g hF hd
      have e4 := (hF.same 4 (un 4 (by decide))).trans ha4
      have e8 := (hF.same 8 (un 8 (by decide))).trans ha8
      have e9 := (hF.same 9 (un 9 (by decide))).trans ha9
      obtain ⟨ρ, hρ⟩ : ∃ ρ, a.eval = ρ := ⟨_, rfl⟩
      rw [hρ] at  e4 e8 e9
      refine op_val ρ hρ (.pointer (some ⟨bb, 0, none⟩)) ?_ ⟨_, rfl, Old.refl _, rfl⟩
      clear g hF hd hρ HK un ha4 ha8 ha9 ck cb cx KF HEM bK hkb
      go_simp
      all_goals (rw [IntKind.wrap_i64]; omega)
    · intro a W g hF hd
      have e4 := (hF.same 4 (un 4 (by decide))).trans ha4
      have e8 := (hF.same 8 (un 8 (by decide))).trans ha8
      have e9 := (hF.same 9 (un 9 (by decide))).trans ha9
      have h2 := hd ⟨2, .data⟩ (by simp) rfl
      simp only [qOa, slotOa, List.getD_cons_zero, List.getD_cons_succ] at h2
      have kcb := (g.cell (p := ⟨bb, 0, none⟩) hbbl).trans cb
      obtain ⟨ρ, hρ⟩ : ∃ ρ, a.eval = ρ := ⟨_, rfl⟩
      rw [hρ] at h2 e4 e8 e9
      refine op_val ρ hρ (.slice (some ⟨q1, o1, none⟩) m1 c1) ?_ ⟨_, rfl, Old.refl _, rfl⟩
      clear g hF hd hρ HK un ha4 ha8 ha9 ck cb cx KF HEM bK hkb
      go_simp
      all_goals (rw [IntKind.wrap_i64]; omega)
    · intro a W g hF hd
      have e4 := (hF.same 4 (un 4 (by decide))).trans ha4
      have e8 := (hF.same 8 (un 8 (by decide))).trans ha8
      have e9 := (hF.same 9 (un 9 (by decide))).trans ha9
      obtain ⟨ρ, hρ⟩ : ∃ ρ, a.eval = ρ := ⟨_, rfl⟩
      rw [hρ] at  e4 e8 e9
      refine op_val ρ hρ (.int .i64 k) ?_ ⟨_, rfl, Old.refl _, rfl⟩
      clear g hF hd hρ HK un ha4 ha8 ha9 ck cb cx KF HEM bK hkb
      go_simp
      all_goals (rw [IntKind.wrap_i64]; omega)
    · intro a W g hF hd
      have e4 := (hF.same 4 (un 4 (by decide))).trans ha4
      have e8 := (hF.same 8 (un 8 (by decide))).trans ha8
      have e9 := (hF.same 9 (un 9 (by decide))).trans ha9
      have h3 := hd ⟨3, .data⟩ (by simp) rfl
      have h4 := hd ⟨4, .data⟩ (by simp) rfl
      simp only [qOa, slotOa, List.getD_cons_zero, List.getD_cons_succ] at h3 h4
      obtain ⟨ρ, hρ⟩ : ∃ ρ, a.eval = ρ := ⟨_, rfl⟩
      rw [hρ] at h3 h4 e4 e8 e9
      refine op_val ρ hρ (.pointer (some ⟨q1, o1 + k, none⟩)) ?_ ⟨_, rfl, Old.refl _, rfl⟩
      clear g hF hd hρ HK un ha4 ha8 ha9 ck cb cx KF HEM bK hkb
      go_simp
      all_goals (rw [IntKind.wrap_i64]; omega)
    · intro a W g hF hd
      have e4 := (hF.same 4 (un 4 (by decide))).trans ha4
      have e8 := (hF.same 8 (un 8 (by decide))).trans ha8
      have e9 := (hF.same 9 (un 9 (by decide))).trans ha9
      have h5 := hd ⟨5, .data⟩ (by simp) rfl
      simp only [qOa, slotOa, List.getD_cons_zero, List.getD_cons_succ] at h5
      have kcx := (g.cell (p := ⟨q1, o1 + k, none⟩) hxl).trans cx
      obtain ⟨ρ, hρ⟩ : ∃ ρ, a.eval = ρ := ⟨_, rfl⟩
      rw [hρ] at h5 e4 e8 e9
      refine op_val ρ hρ (.slice x1 n1 y1) ?_ ⟨_, rfl, Old.refl _, rfl⟩
      clear g hF hd hρ HK un ha4 ha8 ha9 ck cb cx KF HEM bK hkb
      go_simp
      all_goals (rw [IntKind.wrap_i64]; omega)
    · intro a W g hF hd
      have h6 : a.eval (.tmp 83) = .slice x1 n1 y1 := hd ⟨6, .data⟩ (by simp) rfl
      refine op_call_ret (R := fun v w' => Old W w' ∧ ∃ ra rc, v = .slice ra zss.length rc ∧ OwS zss w' W.heap.size w'.heap.size v) Tryz.call61 (vs := #[.slice x1 n1 y1]) (by simp [h6]) ((KF W g).mono fun e w' h => by
        obtain ⟨v, rfl, q, o⟩ := h
        obtain ⟨ra, rc, e⟩ := o.slice
        exact ⟨_, rfl, q, ra, rc, e, o⟩) ?_
      rintro x w' ⟨g', ra, rc, rfl, o'⟩
      exact ⟨_, rfl, g', ra, rc, rfl, o'.low g.size⟩
    · intro a W g hF hd
      obtain ⟨ra, rc, h7, ow⟩ : ∃ ra rc, a.eval (.tmp 84) = .slice ra zss.length rc ∧ OwS zss W w0.heap.size W.heap.size (a.eval (.tmp 84)) := hd ⟨7, .data⟩ (by simp) rfl
      rw [h7] at ow
      obtain ⟨ρ, hρ⟩ : ∃ ρ, a.eval = ρ := ⟨_, rfl⟩
      rw [hρ] at h7
      refine op_valW2 (W' := W.alloc (.cells #[.slice ra zss.length rc] 93)) ρ hρ (.slice (some ⟨W.heap.size, 0, none⟩) 1 1) ?_ ⟨_, rfl, (Old.refl W).alloc _, ra, rc, W.heap.size, rfl, growS ow ((Old.refl W).alloc _), cell_at _ _ _ _ _ rfl, by simp⟩
      clear g hF hd hρ HK un ha4 ha8 ha9 ck cb cx KF HEM bK hkb ow
      go_simp
  · intro a W g hF hq
    have h0 : a.eval (.tmp 78) = .slice aa k cap := hq 1 (by decide)
    have hb : a.eval (.tmp 8) = .pointer (some ⟨kb, 0, none⟩) := (hF.same 8 (un 8 (by decide))).trans ha8
    obtain ⟨ra, rc, gg, h8, ow, hcell, hlt⟩ : ∃ ra rc gg, a.eval (.tmp 85) = .slice (some ⟨gg, 0, none⟩) 1 1 ∧ OwS zss W w0.heap.size W.heap.size (.slice ra zss.length rc) ∧ W.cell? ⟨gg, 0, none⟩ = some (.slice ra zss.length rc) ∧ gg < W.heap.size := hq 8 (by decide)
    obtain ⟨vs, ov, hem⟩ := HEM W _ g ow
    have hp := fram_put hF (fun i j hi hj => slotOa_inj i hi j hj)
    refine op_append_at2 _ _ 32 rfl 0 93 j0 (.slice none 0 0) 1 24 Tryz.underlying32 ji jz0 jz1 jz2 rfl (by decide) _ k vs h0 ov ⟨gg, 0, none⟩ 1 1 [.slice ra zss.length rc] h8 rfl ?_ (one_slC _ _ _) (by unfold maxLen; omega) (by omega) (Nat.zero_le _) ?_
    · intro j u hj
      match j, hj with
      | 0, hj =>
        have : Value.slice ra zss.length rc = u := by simpa using hj
        subst this
        exact hcell
      | j + 1, hj => simp at hj
    · intro v' w' o5 g5 x5 l5
      have hfin := hem v' w' o5 g5 l5
      obtain ⟨a5, c5, e5⟩ : ∃ a5 c5, v' = .slice a5 (k + 1) c5 := by
        rcases o5.2 with ⟨h1, h2⟩ | ⟨p, cp, cur, h1, _⟩
        · omega
        · exact ⟨_, _, h1⟩
      subst e5
      have hk2 := HK.out (fun i => a.eval (.tmp (slotOa i))) _ a5 c5 hfin
      rw [← hp] at hk2
      have hkl : kb < W.heap.size := Nat.lt_of_lt_of_le (lt_of_some bK) g.size
      have hK5 : w'.heap[kb]? = some (.cells #[.slice aa k cap] 42 (0, 0)) := ((g5.block kb hkl (fun e => hkb kb e.symm rfl)).trans (g.block kb (lt_of_some bK))).trans bK
      have hc5 : w'.cell? ⟨kb, 0, none⟩ = some (.slice aa k cap) := by rw [cell_of_row _ _ _ _ _ _ hK5]; rfl
      have hf5 : w'.frozen? ⟨kb, 0, none⟩ = false := frozen_of_row _ _ _ _ _ hK5
      have sz0 : a.tmps.size = 89 := hF.size.trans hsz
      have e1 : (a.put (some 86) (.slice a5 (k + 1) c5)).eval (.tmp 8) = .pointer (some ⟨kb, 0, none⟩) := (eval_put_other _ _ _ _ (by decide)).trans hb
      have sz1 : (a.put (some 86) (.slice a5 (k + 1) c5)).tmps.size = 89 := by simpa [Act.put] using sz0
      have e2 : ((a.put (some 86) (.slice a5 (k + 1) c5)).put (some 87) (.pointer (some ⟨kb, 0, none⟩))).eval (.tmp 86) = .slice a5 (k + 1) c5 := (eval_put_other _ _ _ _ (by decide)).trans (eval_put_same _ _ _ (by rw [sz0]; decide))
      have e3 : ((a.put (some 86) (.slice a5 (k + 1) c5)).put (some 87) (.pointer (some ⟨kb, 0, none⟩))).eval (.tmp 87) = .pointer (some ⟨kb, 0, none⟩) := eval_put_same _ _ _ (by rw [sz1]; decide)
      clear hem ov hcell ow h8 h0 hq hF hb HK un g g5 o5 l5 x5 hp hkl hK5 hfin sz0 sz1 ha8
      generalize (a.put (some 86) (.slice a5 (k + 1) c5)) = b1 at *
      obtain ⟨ρ, hρ⟩ : ∃ ρ, b1.eval = ρ := ⟨_, rfl⟩
      rw [hρ] at e1
      refine op_val ρ hρ (.pointer (some ⟨kb, 0, none⟩)) ?_ ?_
      · clear hρ e2 e3 hk2
        go_simp
      · show tailWp _ _ [_] _ _
        generalize (b1.put (some 87) (.pointer (some ⟨kb, 0, none⟩))) = b2 at *
        obtain ⟨ρ2, hρ2⟩ : ∃ ρ, b2.eval = ρ := ⟨_, rfl⟩
        rw [hρ2] at e2 e3
        refine op_skp (W' := w'.setCell ⟨kb, 0, none⟩ (.slice a5 (k + 1) c5)) ρ2 hρ2 ?_ ?_
        · clear hρ hρ2 hk2 e1
          go_simp
        · exact hk2
end Go.Proofs.YtakleianimcmdaaGreatDoor
/- Proved: drawn regions of the model: a Part is made and appended to the Parts. -/
namespace Go.Proofs.YtakleianimcmdaaGreatDoor
open Go.ChangeShapes Go.WideShapes Go.ChangeAt Go.RowKit
set_option linter.unusedVariables false
set_option linter.unusedSimpArgs false
def slotAd (i : Nat) : Nat := [36, 37, 38, 39, 40, 41, 42, 43, 44, 45, 46, 47, 48, 49, 50, 51].getD i 0
theorem slotAd_lt : ∀ i, i < 16 → slotAd i < 89 := by decide
theorem slotAd_inj : ∀ i, i < 16 → ∀ j, j < 16 → slotAd i = slotAd j → i = j := by decide
theorem slotAd_no : ∀ s, s < 30 → ∀ i, i < 16 → slotAd i ≠ s := by decide
def qAd (N T E : Int) (a3 : Option Addr) (l3 c3 pb kb ba bb : Nat) (aa : Option Addr) (k cap : Nat) (q1 o1 m1 c1 : Nat) (x1 : Option Addr) (n1 y1 : Nat) (q2 o2 m2 c2 : Nat) (x2 : Option Addr) (n2 y2 : Nat) (zss : List (List Int)) (base : Nat) (i : Nat) (W : World) (xv : Value) : Prop :=
  match i with
  | 0 => xv = .pointer (some ⟨kb, 0, none⟩)
  | 1 => xv = .slice aa k cap
  | 2 => xv = .agg #[.int .i64 N, .int .i64 T, .int .i64 E, .slice a3 l3 c3]
  | 3 => xv = .agg #[.int .i64 N, .slice a3 l3 c3]
  | 4 => xv = .pointer (some ⟨ba, 0, none⟩)
  | 5 => xv = .slice (some ⟨q1, o1, none⟩) m1 c1
  | 6 => xv = .int .i64 k
  | 7 => xv = .pointer (some ⟨q1, o1 + k, none⟩)
  | 8 => xv = .slice x1 n1 y1
  | 9 => xv = .pointer (some ⟨bb, 0, none⟩)
  | 10 => xv = .slice (some ⟨q2, o2, none⟩) m2 c2
  | 11 => xv = .int .i64 k
  | 12 => xv = .pointer (some ⟨q2, o2 + k, none⟩)
  | 13 => xv = .slice x2 n2 y2
  | 14 => ∃ ra rc, xv = .slice ra zss.length rc ∧ OwS zss W base W.heap.size xv
  | 15 => ∃ ra rc g, xv = .slice (some ⟨g, 0, none⟩) 1 1 ∧ OwS zss W base W.heap.size (.slice ra zss.length rc) ∧ W.cell? ⟨g, 0, none⟩ = some (.slice ra zss.length rc) ∧ g < W.heap.size
  | _ => True
theorem qAd_old (N T E : Int) (a3 : Option Addr) (l3 c3 pb kb ba bb : Nat) (aa : Option Addr) (k cap : Nat) (q1 o1 m1 c1 : Nat) (x1 : Option Addr) (n1 y1 : Nat) (q2 o2 m2 c2 : Nat) (x2 : Option Addr) (n2 y2 : Nat) (zss : List (List Int)) (base : Nat) (i : Nat) (W W' : World) (xv : Value) (h : qAd N T E a3 l3 c3 pb kb ba bb aa k cap q1 o1 m1 c1 x1 n1 y1 q2 o2 m2 c2 x2 n2 y2 zss base i W xv) (qo : Old W W') : qAd N T E a3 l3 c3 pb kb ba bb aa k cap q1 o1 m1 c1 x1 n1 y1 q2 o2 m2 c2 x2 n2 y2 zss base i W' xv := by
  unfold qAd at h ⊢
  split at h
  case h_15 =>
    obtain ⟨ra, rc, e, ow⟩ := h
    exact ⟨ra, rc, e, growS ow qo⟩
  case h_16 =>
    obtain ⟨ra, rc, g, e, ow, hcell, hlt⟩ := h
    exact ⟨ra, rc, g, e, growS ow qo, (qo.cell (p := ⟨g, 0, none⟩) hlt).trans hcell, Nat.lt_of_lt_of_le hlt qo.size⟩
  all_goals first | exact h | trivial
set_option maxRecDepth 100000 in
set_option maxHeartbeats 4000000 in
theorem reg_Ad (w0 : World) (N T E : Int) (a3 : Option Addr) (l3 c3 pb kb ba bb : Nat) (aa : Option Addr) (k cap : Nat) (q1 o1 m1 c1 : Nat) (x1 : Option Addr) (n1 y1 : Nat) (q2 o2 m2 c2 : Nat) (x2 : Option Addr) (n2 y2 : Nat) (zss : List (List Int)) (FIN : World → Value → Prop) (hk9 : k ≤ 9) (bK : w0.heap[kb]? = some (.cells #[.slice aa k cap] 42 (0, 0))) (hkb : ∀ b, (Value.slice aa k cap).ownBlock = some b → b ≠ kb)
    (ck : w0.cell? ⟨kb, 0, none⟩ = some (.slice aa k cap)) (ca : w0.cell? ⟨ba, 0, none⟩ = some (.slice (some ⟨q1, o1, none⟩) m1 c1)) (cb : w0.cell? ⟨bb, 0, none⟩ = some (.slice (some ⟨q2, o2, none⟩) m2 c2)) (cx : w0.cell? ⟨q1, o1 + k, none⟩ = some (.slice x1 n1 y1)) (cy : w0.cell? ⟨q2, o2 + k, none⟩ = some (.slice x2 n2 y2))
    (hkn : (k : Int) < (m1 : Int)) (hkn2 : (k : Int) < (m2 : Int))
    (bP : w0.heap[pb]? = some (.cells #[.int .i64 N, .int .i64 T, .int .i64 E, .slice a3 l3 c3] 28 (0, 0)))
    (KF : ∀ W, Old w0 W → Calls Tryz.prog 62 #[.agg #[.int .i64 N, .slice a3 l3 c3], .slice x1 n1 y1, .slice x2 n2 y2] W fun e w' => ∃ v', e = .returned v' ∧ Old W w' ∧ OwS zss w' W.heap.size w'.heap.size v')
    (HEM : ∀ (W : World) (u : Value), Old w0 W → OwS zss W w0.heap.size W.heap.size u → ∃ vs, W.ownsRow 0 93 1 (.slice aa k cap) k vs ∧ (∀ v' w', w'.ownsRow 0 93 1 v' (k + 1) (vs ++ [u]) → W.grownBy w' (Value.slice aa k cap).ownBlock → (v'.ownBlock = (Value.slice aa k cap).ownBlock ∨ v'.ownBlock = some W.heap.size) → FIN (w'.setCell ⟨kb, 0, none⟩ v') v'))
    (Q : Exit → Act → World → Prop) (a0 : Act) (hsz : a0.tmps.size = 89)
    (ha3 : a0.eval (.tmp 3) = .pointer (some ⟨pb, 0, none⟩)) (ha4 : a0.eval (.tmp 4) = .pointer (some ⟨ba, 0, none⟩)) (ha5 : a0.eval (.tmp 5) = .pointer (some ⟨bb, 0, none⟩)) (ha8 : a0.eval (.tmp 8) = .pointer (some ⟨kb, 0, none⟩)) (ha9 : a0.eval (.tmp 9) = .int .i64 k)
    (HK : Hid (∀ (us : Nat → Value) W a5 c5, FIN W (.slice a5 (k + 1) c5) → Q .normal (((putAll a0 ((List.range 16).map fun i => (slotAd i, us i))).put (some 52) (.slice a5 (k + 1) c5)).put (some 53) (.pointer (some ⟨kb, 0, none⟩))) W)) :
    Code.wp Tryz.prog ((Tryz.f20.body.bind (regionAtmul 7)).getD .skip) Q a0 w0 := by
  conv => arg 2; whnf
  obtain ⟨j0, ji, jz0, jz1, jz2⟩ := info_parts Tryz.infoIntSS
  have hkbl := block_lt_of_cell ck
  have hbal := block_lt_of_cell ca
  have hbbl := block_lt_of_cell cb
  have hxl := block_lt_of_cell cx
  have hyl := block_lt_of_cell cy
  have un := slotAd_no
  refine wp_region_tail 16 (by decide) (by kernel_rfl) (by kernel_rfl) (by kernel_rfl) (by kernel_rfl) (by kernel_rfl) slotAd (fun i hi => by rw [hsz]; exact slotAd_lt i hi) (fun i j hi hj => slotAd_inj i hi j hj) (qAd N T E a3 l3 c3 pb kb ba bb aa k cap q1 o1 m1 c1 x1 n1 y1 q2 o2 m2 c2 x2 n2 y2 zss w0.heap.size) (qAd_old N T E a3 l3 c3 pb kb ba bb aa k cap q1 o1 m1 c1 x1 n1 y1 q2 o2 m2 c2 x2 n2 y2 zss w0.heap.size) ?_ ?_
  · refine ⟨?_, ?_, ?_, ?_, ?_, ?_, ?_, ?_, ?_, ?_, ?_, ?_, ?_, ?_, ?_, ?_, trivial⟩
    · intro a W g hF hd
      have e3 := (hF.same 3 (un 3 (by decide))).trans ha3
      have e4 := (hF.same 4 (un 4 (by decide))).trans ha4
      have e5 := (hF.same 5 (un 5 (by decide))).trans ha5
      have e8 := (hF.same 8 (un 8 (by decide))).trans ha8
      have e9 := (hF.same 9 (un 9 (by decide))).trans ha9
      obtain ⟨ρ, hρ⟩ : ∃ ρ, a.eval = ρ := ⟨_, rfl⟩
      rw [hρ] at  e3 e4 e5 e8 e9
      refine op_val ρ hρ (.pointer (some ⟨kb, 0, none⟩)) ?_ ⟨_, rfl, Old.refl _, rfl⟩
      clear g hF hd hρ HK un ha3 ha4 ha5 ha8 ha9 ck ca cb cx cy KF HEM bP bK hkb
      go_simp
      all_goals (rw [IntKind.wrap_i64]; omega)
    · intro a W g hF hd
      have e3 := (hF.same 3 (un 3 (by decide))).trans ha3
      have e4 := (hF.same 4 (un 4 (by decide))).trans ha4
      have e5 := (hF.same 5 (un 5 (by decide))).trans ha5
      have e8 := (hF.same 8 (un 8 (by decide))).trans ha8
      have e9 := (hF.same 9 (un 9 (by decide))).trans ha9
      have h0 := hd ⟨0, .data⟩ (by simp) rfl
      simp only [qAd, slotAd, List.getD_cons_zero, List.getD_cons_succ] at h0
      have kck := (g.cell (p := ⟨kb, 0, none⟩) hkbl).trans ck
      obtain ⟨ρ, hρ⟩ : ∃ ρ, a.eval = ρ := ⟨_, rfl⟩
      rw [hρ] at h0 e3 e4 e5 e8 e9
      refine op_val ρ hρ (.slice aa k cap) ?_ ⟨_, rfl, Old.refl _, rfl⟩
      clear g hF hd hρ HK un ha3 ha4 ha5 ha8 ha9 ck ca cb cx cy KF HEM bP bK hkb
      go_simp
      all_goals (rw [IntKind.wrap_i64]; omega)
    · intro a W g hF hd
      refine op_load (k := pb) ((hF.same 3 (un 3 (by decide))).trans ha3) ((g.block pb (lt_of_some bP)).trans bP) Tryz.underlying28 rfl (by kernel_rfl) ?_
      exact ⟨_, rfl, Old.refl _, rfl⟩
    · intro a W g hF hd
      have h2 : a.eval (.tmp 38) = .agg #[.int .i64 N, .int .i64 T, .int .i64 E, .slice a3 l3 c3] := hd ⟨2, .data⟩ (by simp) rfl
      refine op_call_ret (R := fun v w' => v = .agg #[.int .i64 N, .slice a3 l3 c3] ∧ Old W w') Tryz.call63 (vs := #[.agg #[.int .i64 N, .int .i64 T, .int .i64 E, .slice a3 l3 c3]]) (by simp [h2]) ((l8Space_any N T E a3 l3 c3 W).mono fun e w' h => ⟨_, h.1, rfl, h.2⟩) ?_
      rintro x w' ⟨rfl, g'⟩
      exact ⟨_, rfl, g', rfl⟩
    · intro a W g hF hd
      have e3 := (hF.same 3 (un 3 (by decide))).trans ha3
      have e4 := (hF.same 4 (un 4 (by decide))).trans ha4
      have e5 := (hF.same 5 (un 5 (by decide))).trans ha5
      have e8 := (hF.same 8 (un 8 (by decide))).trans ha8
      have e9 := (hF.same 9 (un 9 (by decide))).trans ha9
      obtain ⟨ρ, hρ⟩ : ∃ ρ, a.eval = ρ := ⟨_, rfl⟩
      rw [hρ] at  e3 e4 e5 e8 e9
      refine op_val ρ hρ (.pointer (some ⟨ba, 0, none⟩)) ?_ ⟨_, rfl, Old.refl _, rfl⟩
      clear g hF hd hρ HK un ha3 ha4 ha5 ha8 ha9 ck ca cb cx cy KF HEM bP bK hkb
      go_simp
      all_goals (rw [IntKind.wrap_i64]; omega)
    · intro a W g hF hd
      have e3 := (hF.same 3 (un 3 (by decide))).trans ha3
      have e4 := (hF.same 4 (un 4 (by decide))).trans ha4
      have e5 := (hF.same 5 (un 5 (by decide))).trans ha5
      have e8 := (hF.same 8 (un 8 (by decide))).trans ha8
      have e9 := (hF.same 9 (un 9 (by decide))).trans ha9
      have h4 := hd ⟨4, .data⟩ (by simp) rfl
      simp only [qAd, slotAd, List.getD_cons_zero, List.getD_cons_succ] at h4
      have kca := (g.cell (p := ⟨ba, 0, none⟩) hbal).trans ca
      obtain ⟨ρ, hρ⟩ : ∃ ρ, a.eval = ρ := ⟨_, rfl⟩
      rw [hρ] at h4 e3 e4 e5 e8 e9
      refine op_val ρ hρ (.slice (some ⟨q1, o1, none⟩) m1 c1) ?_ ⟨_, rfl, Old.refl _, rfl⟩
      clear g hF hd hρ HK un ha3 ha4 ha5 ha8 ha9 ck ca cb cx cy KF HEM bP bK hkb
      go_simp
      all_goals (rw [IntKind.wrap_i64]; omega)
    · intro a W g hF hd
      have e3 := (hF.same 3 (un 3 (by decide))).trans ha3
      have e4 := (hF.same 4 (un 4 (by decide))).trans ha4
      have e5 := (hF.same 5 (un 5 (by decide))).trans ha5
      have e8 := (hF.same 8 (un 8 (by decide))).trans ha8
      have e9 := (hF.same 9 (un 9 (by decide))).trans ha9
      obtain ⟨ρ, hρ⟩ : ∃ ρ, a.eval = ρ := ⟨_, rfl⟩
      rw [hρ] at  e3 e4 e5 e8 e9
      refine op_val ρ hρ (.int .i64 k) ?_ ⟨_, rfl, Old.refl _, rfl⟩
      clear g hF hd hρ HK un ha3 ha4 ha5 ha8 ha9 ck ca cb cx cy KF HEM bP bK hkb
      go_simp
      all_goals (rw [IntKind.wrap_i64]; omega)
    · intro a W g hF hd
      have e3 := (hF.same 3 (un 3 (by decide))).trans ha3
      have e4 := (hF.same 4 (un 4 (by decide))).trans ha4
      have e5 := (hF.same 5 (un 5 (by decide))).trans ha5
      have e8 := (hF.same 8 (un 8 (by decide))).trans ha8
      have e9 := (hF.same 9 (un 9 (by decide))).trans ha9
      have h5 := hd ⟨5, .data⟩ (by simp) rfl
      have h6 := hd ⟨6, .data⟩ (by simp) rfl
      simp only [qAd, slotAd, List.getD_cons_zero, List.getD_cons_succ] at h5 h6
      obtain ⟨ρ, hρ⟩ : ∃ ρ, a.eval = ρ := ⟨_, rfl⟩
      rw [hρ] at h5 h6 e3 e4 e5 e8 e9
      refine op_val ρ hρ (.pointer (some ⟨q1, o1 + k, none⟩)) ?_ ⟨_, rfl, Old.refl _, rfl⟩
      clear g hF hd hρ HK un ha3 ha4 ha5 ha8 ha9 ck ca cb cx cy KF HEM bP bK hkb
      go_simp
      all_goals (rw [IntKind.wrap_i64]; omega)
    · intro a W g hF hd
      have e3 := (hF.same 3 (un 3 (by decide))).trans ha3
      have e4 := (hF.same 4 (un 4 (by decide))).trans ha4
      have e5 := (hF.same 5 (un 5 (by decide))).trans ha5
      have e8 := (hF.same 8 (un 8 (by decide))).trans ha8
      have e9 := (hF.same 9 (un 9 (by decide))).trans ha9
      have h7 := hd ⟨7, .data⟩ (by simp) rfl
      simp only [qAd, slotAd, List.getD_cons_zero, List.getD_cons_succ] at h7
      have kcx := (g.cell (p := ⟨q1, o1 + k, none⟩) hxl).trans cx
      obtain ⟨ρ, hρ⟩ : ∃ ρ, a.eval = ρ := ⟨_, rfl⟩
      rw [hρ] at h7 e3 e4 e5 e8 e9
      refine op_val ρ hρ (.slice x1 n1 y1) ?_ ⟨_, rfl, Old.refl _, rfl⟩
      clear g hF hd hρ HK un ha3 ha4 ha5 ha8 ha9 ck ca cb cx cy KF HEM bP bK hkb
      go_simp
      all_goals (rw [IntKind.wrap_i64]; omega)
    · intro a W g hF hd
      have e3 := (hF.same 3 (un 3 (by decide))).trans ha3
      have e4 := (hF.same 4 (un 4 (by decide))).trans ha4
      have e5 := (hF.same 5 (un 5 (by decide))).trans ha5
      have e8 := (hF.same 8 (un 8 (by decide))).trans ha8
      have e9 := (hF.same 9 (un 9 (by decide))).trans ha9
      obtain ⟨ρ, hρ⟩ : ∃ ρ, a.eval = ρ := ⟨_, rfl⟩
      rw [hρ] at  e3 e4 e5 e8 e9
      refine op_val ρ hρ (.pointer (some ⟨bb, 0, none⟩)) ?_ ⟨_, rfl, Old.refl _, rfl⟩
      clear g hF hd hρ HK un ha3 ha4 ha5 ha8 ha9 ck ca cb cx cy KF HEM bP bK hkb
      go_simp
      all_goals (rw [IntKind.wrap_i64]; omega)
    · intro a W g hF hd
      have e3 := (hF.same 3 (un 3 (by decide))).trans ha3
      have e4 := (hF.same 4 (un 4 (by decide))).trans ha4
      have e5 := (hF.same 5 (un 5 (by decide))).trans ha5
      have e8 := (hF.same 8 (un 8 (by decide))).trans ha8
      have e9 := (hF.same 9 (un 9 (by decide))).trans ha9
      have h9 := hd ⟨9, .data⟩ (by simp) rfl
      simp only [qAd, slotAd, List.getD_cons_zero, List.getD_cons_succ] at h9
      have kcb := (g.cell (p := ⟨bb, 0, none⟩) hbbl).trans cb
      obtain ⟨ρ, hρ⟩ : ∃ ρ, a.eval = ρ := ⟨_, rfl⟩
      rw [hρ] at h9 e3 e4 e5 e8 e9
      refine op_val ρ hρ (.slice (some ⟨q2, o2, none⟩) m2 c2) ?_ ⟨_, rfl, Old.refl _, rfl⟩
      clear g hF hd hρ HK un ha3 ha4 ha5 ha8 ha9 ck ca cb cx cy KF HEM bP bK hkb
      go_simp
      all_goals (rw [IntKind.wrap_i64]; omega)
    · intro a W g hF hd
      have e3 := (hF.same 3 (un 3 (by decide))).trans ha3
      have e4 := (hF.same 4 (un 4 (by decide))).trans ha4
      have e5 := (hF.same 5 (un 5 (by decide))).trans ha5
      have e8 := (hF.same 8 (un 8 (by decide))).trans ha8
      have e9 := (hF.same 9 (un 9 (by decide))).trans ha9
      obtain ⟨ρ, hρ⟩ : ∃ ρ, a.eval = ρ := ⟨_, rfl⟩
      rw [hρ] at  e3 e4 e5 e8 e9
      refine op_val ρ hρ (.int .i64 k) ?_ ⟨_, rfl, Old.refl _, rfl⟩
      clear g hF hd hρ HK un ha3 ha4 ha5 ha8 ha9 ck ca cb cx cy KF HEM bP bK hkb
      go_simp
      all_goals (rw [IntKind.wrap_i64]; omega)
    · intro a W g hF hd
      have e3 := (hF.same 3 (un 3 (by decide))).trans ha3
      have e4 := (hF.same 4 (un 4 (by decide))).trans ha4
      have e5 := (hF.same 5 (un 5 (by decide))).trans ha5
      have e8 := (hF.same 8 (un 8 (by decide))).trans ha8
      have e9 := (hF.same 9 (un 9 (by decide))).trans ha9
      have h10 := hd ⟨10, .data⟩ (by simp) rfl
      have h11 := hd ⟨11, .data⟩ (by simp) rfl
      simp only [qAd, slotAd, List.getD_cons_zero, List.getD_cons_succ] at h10 h11
      obtain ⟨ρ, hρ⟩ : ∃ ρ, a.eval = ρ := ⟨_, rfl⟩
      rw [hρ] at h10 h11 e3 e4 e5 e8 e9
      refine op_val ρ hρ (.pointer (some ⟨q2, o2 + k, none⟩)) ?_ ⟨_, rfl, Old.refl _, rfl⟩
      clear g hF hd hρ HK un ha3 ha4 ha5 ha8 ha9 ck ca cb cx cy KF HEM bP bK hkb
      go_simp
      all_goals (rw [IntKind.wrap_i64]; omega)
    · intro a W g hF hd
      have e3 := (hF.same 3 (un 3 (by decide))).trans ha3
      have e4 := (hF.same 4 (un 4 (by decide))).trans ha4
      have e5 := (hF.same 5 (un 5 (by decide))).trans ha5
      have e8 := (hF.same 8 (un 8 (by decide))).trans ha8
      have e9 := (hF.same 9 (un 9 (by decide))).trans ha9
      have h12 := hd ⟨12, .data⟩ (by simp) rfl
      simp only [qAd, slotAd, List.getD_cons_zero, List.getD_cons_succ] at h12
      have kcy := (g.cell (p := ⟨q2, o2 + k, none⟩) hyl).trans cy
      obtain ⟨ρ, hρ⟩ : ∃ ρ, a.eval = ρ := ⟨_, rfl⟩
      rw [hρ] at h12 e3 e4 e5 e8 e9
      refine op_val ρ hρ (.slice x2 n2 y2) ?_ ⟨_, rfl, Old.refl _, rfl⟩
      clear g hF hd hρ HK un ha3 ha4 ha5 ha8 ha9 ck ca cb cx cy KF HEM bP bK hkb
      go_simp
      all_goals (rw [IntKind.wrap_i64]; omega)
    · intro a W g hF hd
      have h3 : a.eval (.tmp 39) = .agg #[.int .i64 N, .slice a3 l3 c3] := hd ⟨3, .data⟩ (by simp) rfl
      have h8 : a.eval (.tmp 44) = .slice x1 n1 y1 := hd ⟨8, .data⟩ (by simp) rfl
      have h13 : a.eval (.tmp 49) = .slice x2 n2 y2 := hd ⟨13, .data⟩ (by simp) rfl
      refine op_call_ret (R := fun v w' => Old W w' ∧ ∃ ra rc, v = .slice ra zss.length rc ∧ OwS zss w' W.heap.size w'.heap.size v) Tryz.call62 (vs := #[.agg #[.int .i64 N, .slice a3 l3 c3], .slice x1 n1 y1, .slice x2 n2 y2]) (by simp [h3, h8, h13]) ((KF W g).mono fun e w' h => by
        obtain ⟨v, rfl, q, o⟩ := h
        obtain ⟨ra, rc, e⟩ := o.slice
        exact ⟨_, rfl, q, ra, rc, e, o⟩) ?_
      rintro x w' ⟨g', ra, rc, rfl, o'⟩
      exact ⟨_, rfl, g', ra, rc, rfl, o'.low g.size⟩
    · intro a W g hF hd
      obtain ⟨ra, rc, h7, ow⟩ : ∃ ra rc, a.eval (.tmp 50) = .slice ra zss.length rc ∧ OwS zss W w0.heap.size W.heap.size (a.eval (.tmp 50)) := hd ⟨14, .data⟩ (by simp) rfl
      rw [h7] at ow
      obtain ⟨ρ, hρ⟩ : ∃ ρ, a.eval = ρ := ⟨_, rfl⟩
      rw [hρ] at h7
      refine op_valW2 (W' := W.alloc (.cells #[.slice ra zss.length rc] 93)) ρ hρ (.slice (some ⟨W.heap.size, 0, none⟩) 1 1) ?_ ⟨_, rfl, (Old.refl W).alloc _, ra, rc, W.heap.size, rfl, growS ow ((Old.refl W).alloc _), cell_at _ _ _ _ _ rfl, by simp⟩
      clear g hF hd hρ HK un ha3 ha4 ha5 ha8 ha9 ck ca cb cx cy KF HEM bP bK hkb ow
      go_simp
  · intro a W g hF hq
    have h0 : a.eval (.tmp 37) = .slice aa k cap := hq 1 (by decide)
    have hb : a.eval (.tmp 8) = .pointer (some ⟨kb, 0, none⟩) := (hF.same 8 (un 8 (by decide))).trans ha8
    obtain ⟨ra, rc, gg, h8, ow, hcell, hlt⟩ : ∃ ra rc gg, a.eval (.tmp 51) = .slice (some ⟨gg, 0, none⟩) 1 1 ∧ OwS zss W w0.heap.size W.heap.size (.slice ra zss.length rc) ∧ W.cell? ⟨gg, 0, none⟩ = some (.slice ra zss.length rc) ∧ gg < W.heap.size := hq 15 (by decide)
    obtain ⟨vs, ov, hem⟩ := HEM W _ g ow
    have hp := fram_put hF (fun i j hi hj => slotAd_inj i hi j hj)
    refine op_append_at2 _ _ 32 rfl 0 93 j0 (.slice none 0 0) 1 24 Tryz.underlying32 ji jz0 jz1 jz2 rfl (by decide) _ k vs h0 ov ⟨gg, 0, none⟩ 1 1 [.slice ra zss.length rc] h8 rfl ?_ (one_slC _ _ _) (by unfold maxLen; omega) (by omega) (Nat.zero_le _) ?_
    · intro j u hj
      match j, hj with
      | 0, hj =>
        have : Value.slice ra zss.length rc = u := by simpa using hj
        subst this
        exact hcell
      | j + 1, hj => simp at hj
    · intro v' w' o5 g5 x5 l5
      have hfin := hem v' w' o5 g5 l5
      obtain ⟨a5, c5, e5⟩ : ∃ a5 c5, v' = .slice a5 (k + 1) c5 := by
        rcases o5.2 with ⟨h1, h2⟩ | ⟨p, cp, cur, h1, _⟩
        · omega
        · exact ⟨_, _, h1⟩
      subst e5
      have hk2 := HK.out (fun i => a.eval (.tmp (slotAd i))) _ a5 c5 hfin
      rw [← hp] at hk2
      have hkl : kb < W.heap.size := Nat.lt_of_lt_of_le (lt_of_some bK) g.size
      have hK5 : w'.heap[kb]? = some (.cells #[.slice aa k cap] 42 (0, 0)) := ((g5.block kb hkl (fun e => hkb kb e.symm rfl)).trans (g.block kb (lt_of_some bK))).trans bK
      have hc5 : w'.cell? ⟨kb, 0, none⟩ = some (.slice aa k cap) := by rw [cell_of_row _ _ _ _ _ _ hK5]; rfl
      have hf5 : w'.frozen? ⟨kb, 0, none⟩ = false := frozen_of_row _ _ _ _ _ hK5
      have sz0 : a.tmps.size = 89 := hF.size.trans hsz
      have e1 : (a.put (some 52) (.slice a5 (k + 1) c5)).eval (.tmp 8) = .pointer (some ⟨kb, 0, none⟩) := (eval_put_other _ _ _ _ (by decide)).trans hb
      have sz1 : (a.put (some 52) (.slice a5 (k + 1) c5)).tmps.size = 89 := by simpa [Act.put] using sz0
      have e2 : ((a.put (some 52) (.slice a5 (k + 1) c5)).put (some 53) (.pointer (some ⟨kb, 0, none⟩))).eval (.tmp 52) = .slice a5 (k + 1) c5 := (eval_put_other _ _ _ _ (by decide)).trans (eval_put_same _ _ _ (by rw [sz0]; decide))
      have e3 : ((a.put (some 52) (.slice a5 (k + 1) c5)).put (some 53) (.pointer (some ⟨kb, 0, none⟩))).eval (.tmp 53) = .pointer (some ⟨kb, 0, none⟩) := eval_put_same _ _ _ (by rw [sz1]; decide)
      clear hem ov hcell ow h8 h0 hq hF hb HK un g g5 o5 l5 x5 hp hkl hK5 hfin sz0 sz1 ha8
      generalize (a.put (some 52) (.slice a5 (k + 1) c5)) = b1 at *
      obtain ⟨ρ, hρ⟩ : ∃ ρ, b1.eval = ρ := ⟨_, rfl⟩
      rw [hρ] at e1
      refine op_val ρ hρ (.pointer (some ⟨kb, 0, none⟩)) ?_ ?_
      · clear hρ e2 e3 hk2
        go_simp
      · show tailWp _ _ [_] _ _
        generalize (b1.put (some 53) (.pointer (some ⟨kb, 0, none⟩))) = b2 at *
        obtain ⟨ρ2, hρ2⟩ : ∃ ρ, b2.eval = ρ := ⟨_, rfl⟩
        rw [hρ2] at e2 e3
        refine op_skp (W' := w'.setCell ⟨kb, 0, none⟩ (.slice a5 (k + 1) c5)) ρ2 hρ2 ?_ ?_
        · clear hρ hρ2 hk2 e1
          go_simp
        · exact hk2
end Go.Proofs.YtakleianimcmdaaGreatDoor
