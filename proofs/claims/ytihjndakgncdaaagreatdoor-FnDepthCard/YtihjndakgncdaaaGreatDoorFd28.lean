/- Proved: several texts in one: what each proves is said ahead of it. -/
import Derived.Test.YtihjndakgncdaaaGreatDoorFd01
import Derived.Test.YtihjndakgncdaaaGreatDoorFd04
import Derived.Test.YtihjndakgncdaaaGreatDoorFd26
import Derived.Maps.AppendAt
import Derived.KernelRfl
/- Proved: drawn regions of the draw of a space: a number is appended to the primes. -/
namespace Go.Proofs.YtihjndakgncdaaaGreatDoor
open Go.ChangeShapes Go.WideShapes Go.ChangeAt Go.RowKit
set_option linter.unusedVariables false
set_option linter.unusedSimpArgs false
theorem op_valRI {P : Program} {a : Act} {W W' : World} {K : Act → World → Prop} {Q : Exit → Act → World → Prop} {o : Oper} (ρ : Operand → Value) (hρ : a.eval = ρ) (v : Value) (hr : (execOp ρ o).run P W = .ok (.value v) W') (hK : K (a.put o.dst v) W') : o.wp P a W K Q := by
  unfold Oper.wp
  rw [hρ, hr]
  exact hK
theorem op_append_at3 {P : Program} {o : Oper} {a : Act} {w : World} {K : Act → World → Prop} {Q : Exit → Act → World → Prop} (s x : Operand) (t : TypeId)
    (ho : o.op = .call { callee := .builtin .append, args := #[s, x], argTypes := #[t, t] })
    (base : Nat) (e : TypeId) (i : TypeInfo) (z : Value) (size bytes : Nat) (ht : P.underlying t = some (.slice e)) (hi : P.info? e = some i) (hz : i.zero = some z)
    (hsize : i.size = size) (hby : i.bytes = bytes) (hzs : z.cells.size = size) (hsz : 0 < size)
    (v : Value) (n : Nat) (xs : List Value) (hs : a.eval s = v) (hown : w.ownsRow base e size v n xs)
    (ad : Addr) (m c : Nat) (news : List Value) (hx : a.eval x = .slice (some ad) m c) (hl : news.length = m * size) (hnews : ∀ j u, news[j]? = some u → w.cell? (ad.add j) = some u) (h1 : ∀ u ∈ news, u.oneCell' = true)
    (h63 : n + m ≤ maxLen) (hbytes : (n + m) * bytes ≤ 140737488355328) (hbase : base ≤ w.heap.size)
    (h : ∀ v' w', w'.ownsRow base e size v' (n + m) (xs ++ news) → w.grownBy w' v.ownBlock → (v' = .slice none 0 0 ↔ v = .slice none 0 0 ∧ m = 0) → (v'.ownBlock = v.ownBlock ∨ v'.ownBlock = some w.heap.size) → K (a.put o.dst v') w') :
    o.wp P a w K Q := by
  obtain ⟨v', w', hr, h2, h3, h4, h5⟩ := run_append_own_at (P := P) w base t o.type e i z size bytes ht hi hz hsize hby hzs hsz v n xs hown ad m c news hl hnews h1 h63 hbytes hbase
  unfold Oper.wp execOp
  simp only [ho, resolve, invoke, builtin, Sem.run_bind, Sem.run_pure, Result.andThen_ok, List.map_toArray, List.map_cons, List.map_nil, hs, hx, hr]
  exact h v' w' h2 h3 h4 h5
end Go.Proofs.YtihjndakgncdaaaGreatDoor
/- Proved: drawn regions of the draw of params: a number is appended to the primes. -/
namespace Go.Proofs.YtihjndakgncdaaaGreatDoor
open Go.ChangeShapes Go.WideShapes Go.ChangeAt Go.RowKit
set_option linter.unusedVariables false
set_option linter.unusedSimpArgs false
def slotPm (i : Nat) : Nat := [29, 30, 31, 32, 33, 34, 35, 36, 37, 38, 39, 40].getD i 0
theorem slotPm_lt : ∀ i, i < 12 → slotPm i < 82 := by decide
theorem slotPm_inj : ∀ i, i < 12 → ∀ j, j < 12 → slotPm i = slotPm j → i = j := by decide
theorem slotPm_no : ∀ s, s < 7 → ∀ i, i < 12 → slotPm i ≠ s := by decide
def qPm (kb : Nat) (nb nt ne : Int) (aa : Option Addr) (k cap : Nat) (y : Int) (gA L ii : Nat) (s kk : Int) (i : Nat) (W : World) (xv : Value) : Prop :=
  match i with
  | 0 => xv = .pointer (some ⟨kb, 3, none⟩)
  | 1 => xv = .slice aa k cap
  | 2 => xv = .slice (some ⟨gA, 0, none⟩) L L
  | 3 => xv = .int .i64 s
  | 4 => xv = .int .i64 kk
  | 5 => xv = .int .i64 (s + kk)
  | 6 => xv = .slice (some ⟨gA, 0, none⟩) L L
  | 7 => xv = .int .i64 (L : Int)
  | 8 => xv = .int .i64 (ii : Int)
  | 9 => xv = .pointer (some ⟨gA, ii, none⟩)
  | 10 => xv = .int .i64 y
  | 11 => ∃ g, xv = .slice (some ⟨g, 0, none⟩) 1 1 ∧ W.cell? ⟨g, 0, none⟩ = some (.int .i64 y) ∧ g < W.heap.size
  | _ => True
theorem qPm_old (kb : Nat) (nb nt ne : Int) (aa : Option Addr) (k cap : Nat) (y : Int) (gA L ii : Nat) (s kk : Int) (i : Nat) (W W' : World) (xv : Value) (h : qPm kb nb nt ne aa k cap y gA L ii s kk i W xv) (qo : Old W W') : qPm kb nb nt ne aa k cap y gA L ii s kk i W' xv := by
  unfold qPm at h ⊢
  split at h
  case h_12 =>
    obtain ⟨g, e, hcell, hlt⟩ := h
    exact ⟨g, e, (qo.cell (p := ⟨g, 0, none⟩) hlt).trans hcell, Nat.lt_of_lt_of_le hlt qo.size⟩
  all_goals first | exact h | trivial
set_option maxRecDepth 100000 in
set_option maxHeartbeats 4000000 in
theorem reg_Pm (w0 : World) (kb : Nat) (nb nt ne : Int) (aa : Option Addr) (k cap : Nat) (y : Int) (gA L ii : Nat) (s kk : Int) (FIN : World → Value → Prop) (hk9 : k ≤ 9) (lo : Nat) (hlo : lo ≤ w0.heap.size) (bK : w0.heap[kb]? = some (.cells #[.int .i64 nb, .int .i64 nt, .int .i64 ne, .slice aa k cap] 25 (0, 0))) (hkb : ∀ b, (Value.slice aa k cap).ownBlock = some b → b ≠ kb)
    (ck : w0.cell? ⟨kb, 3, none⟩ = some (.slice aa k cap)) (cy : w0.cell? ⟨gA, ii, none⟩ = some (.int .i64 y))
    (hs : 0 ≤ s ∧ s ≤ 100) (hkk : 0 ≤ kk ∧ kk ≤ 100) (hL : (L : Int) ≠ 0) (em : (s + kk).tmod (L : Int) = (ii : Int)) (hi1 : ii < L) (hi2 : (ii : Int) < (L : Int)) (hiL : ii ≤ 100)
    (HEM : ∀ (W : World), Old w0 W → ∃ vs, W.ownsRow lo 3 1 (.slice aa k cap) k vs ∧ (∀ v' w', w'.ownsRow lo 3 1 v' (k + 1) (vs ++ [.int .i64 y]) → W.grownBy w' (Value.slice aa k cap).ownBlock → FIN (w'.setCell ⟨kb, 3, none⟩ v') v'))
    (Q : Exit → Act → World → Prop) (a0 : Act) (hsz : a0.tmps.size = 82)
    (ha3 : a0.eval (.tmp 3) = .pointer (some ⟨kb, 0, none⟩)) (ha4 : a0.eval (.tmp 4) = .slice (some ⟨gA, 0, none⟩) L L) (ha5 : a0.eval (.tmp 5) = .int .i64 s) (ha6 : a0.eval (.tmp 6) = .int .i64 kk)
    (HK : Hid (∀ (us : Nat → Value) W a5 c5, FIN W (.slice a5 (k + 1) c5) → Q .normal (((putAll a0 ((List.range 12).map fun i => (slotPm i, us i))).put (some 41) (.slice a5 (k + 1) c5)).put (some 42) (.pointer (some ⟨kb, 3, none⟩))) W)) :
    Code.wp Tryz.prog ((Tryz.f13.body.bind (regionAtmul 7)).getD .skip) Q a0 w0 := by
  conv => arg 2; whnf
  obtain ⟨j0, ji, jz0, jz1, jz2⟩ := info_parts Tryz.infoInt
  have un := slotPm_no
  refine wp_region_tail 12 (by decide) (by kernel_rfl) (by kernel_rfl) (by kernel_rfl) (by kernel_rfl) (by kernel_rfl) slotPm (fun i hi => by rw [hsz]; exact slotPm_lt i hi) (fun i j hi hj => slotPm_inj i hi j hj) (qPm kb nb nt ne aa k cap y gA L ii s kk) (qPm_old kb nb nt ne aa k cap y gA L ii s kk) ?_ ?_
  · refine ⟨?_, ?_, ?_, ?_, ?_, ?_, ?_, ?_, ?_, ?_, ?_, ?_, trivial⟩
    · intro a W g hF hd
      have e3 := (hF.same 3 (un 3 (by decide))).trans ha3
      have e4 := (hF.same 4 (un 4 (by decide))).trans ha4
      have e5 := (hF.same 5 (un 5 (by decide))).trans ha5
      have e6 := (hF.same 6 (un 6 (by decide))).trans ha6
      obtain ⟨ρ, hρ⟩ : ∃ ρ, a.eval = ρ := ⟨_, rfl⟩
      rw [hρ] at  e3 e4 e5 e6 
      refine op_val ρ hρ (.pointer (some ⟨kb, 3, none⟩)) ?_ ⟨_, rfl, Old.refl _, rfl⟩
      clear g hF hd hρ HK HEM un ha3 ha4 ha5 ha6 ck cy ji jz0 jz1 jz2 
      go_simp
      all_goals (first | (rw [IntKind.wrap_i64]; omega) | omega | (intro hz; omega))
    · intro a W g hF hd
      have e3 := (hF.same 3 (un 3 (by decide))).trans ha3
      have e4 := (hF.same 4 (un 4 (by decide))).trans ha4
      have e5 := (hF.same 5 (un 5 (by decide))).trans ha5
      have e6 := (hF.same 6 (un 6 (by decide))).trans ha6
      have h0 := hd ⟨0, .data⟩ (by simp) rfl
      simp only [qPm, slotPm, List.getD_cons_zero, List.getD_cons_succ] at h0
      have kck := (g.cell (p := ⟨kb, 3, none⟩) (block_lt_of_cell ck)).trans ck
      obtain ⟨ρ, hρ⟩ : ∃ ρ, a.eval = ρ := ⟨_, rfl⟩
      rw [hρ] at h0 e3 e4 e5 e6 
      refine op_val ρ hρ (.slice aa k cap) ?_ ⟨_, rfl, Old.refl _, rfl⟩
      clear g hF hd hρ HK HEM un ha3 ha4 ha5 ha6 ck cy ji jz0 jz1 jz2 
      go_simp
      all_goals (first | (rw [IntKind.wrap_i64]; omega) | omega | (intro hz; omega))
    · intro a W g hF hd
      have e3 := (hF.same 3 (un 3 (by decide))).trans ha3
      have e4 := (hF.same 4 (un 4 (by decide))).trans ha4
      have e5 := (hF.same 5 (un 5 (by decide))).trans ha5
      have e6 := (hF.same 6 (un 6 (by decide))).trans ha6
      obtain ⟨ρ, hρ⟩ : ∃ ρ, a.eval = ρ := ⟨_, rfl⟩
      rw [hρ] at  e3 e4 e5 e6 
      refine op_val ρ hρ (.slice (some ⟨gA, 0, none⟩) L L) ?_ ⟨_, rfl, Old.refl _, rfl⟩
      clear g hF hd hρ HK HEM un ha3 ha4 ha5 ha6 ck cy ji jz0 jz1 jz2 
      go_simp
      all_goals (first | (rw [IntKind.wrap_i64]; omega) | omega | (intro hz; omega))
    · intro a W g hF hd
      have e3 := (hF.same 3 (un 3 (by decide))).trans ha3
      have e4 := (hF.same 4 (un 4 (by decide))).trans ha4
      have e5 := (hF.same 5 (un 5 (by decide))).trans ha5
      have e6 := (hF.same 6 (un 6 (by decide))).trans ha6
      obtain ⟨ρ, hρ⟩ : ∃ ρ, a.eval = ρ := ⟨_, rfl⟩
      rw [hρ] at  e3 e4 e5 e6 
      refine op_val ρ hρ (.int .i64 s) ?_ ⟨_, rfl, Old.refl _, rfl⟩
      clear g hF hd hρ HK HEM un ha3 ha4 ha5 ha6 ck cy ji jz0 jz1 jz2 
      go_simp
      all_goals (first | (rw [IntKind.wrap_i64]; omega) | omega | (intro hz; omega))
    · intro a W g hF hd
      have e3 := (hF.same 3 (un 3 (by decide))).trans ha3
      have e4 := (hF.same 4 (un 4 (by decide))).trans ha4
      have e5 := (hF.same 5 (un 5 (by decide))).trans ha5
      have e6 := (hF.same 6 (un 6 (by decide))).trans ha6
      obtain ⟨ρ, hρ⟩ : ∃ ρ, a.eval = ρ := ⟨_, rfl⟩
      rw [hρ] at  e3 e4 e5 e6 
      refine op_val ρ hρ (.int .i64 kk) ?_ ⟨_, rfl, Old.refl _, rfl⟩
      clear g hF hd hρ HK HEM un ha3 ha4 ha5 ha6 ck cy ji jz0 jz1 jz2 
      go_simp
      all_goals (first | (rw [IntKind.wrap_i64]; omega) | omega | (intro hz; omega))
    · intro a W g hF hd
      have e3 := (hF.same 3 (un 3 (by decide))).trans ha3
      have e4 := (hF.same 4 (un 4 (by decide))).trans ha4
      have e5 := (hF.same 5 (un 5 (by decide))).trans ha5
      have e6 := (hF.same 6 (un 6 (by decide))).trans ha6
      have h3 := hd ⟨3, .data⟩ (by simp) rfl
      have h4 := hd ⟨4, .data⟩ (by simp) rfl
      simp only [qPm, slotPm, List.getD_cons_zero, List.getD_cons_succ] at h3 h4
      obtain ⟨ρ, hρ⟩ : ∃ ρ, a.eval = ρ := ⟨_, rfl⟩
      rw [hρ] at h3 h4 e3 e4 e5 e6 
      refine op_val ρ hρ (.int .i64 (s + kk)) ?_ ⟨_, rfl, Old.refl _, rfl⟩
      clear g hF hd hρ HK HEM un ha3 ha4 ha5 ha6 ck cy ji jz0 jz1 jz2 
      go_simp
      all_goals (first | (rw [IntKind.wrap_i64]; omega) | omega | (intro hz; omega))
    · intro a W g hF hd
      have e3 := (hF.same 3 (un 3 (by decide))).trans ha3
      have e4 := (hF.same 4 (un 4 (by decide))).trans ha4
      have e5 := (hF.same 5 (un 5 (by decide))).trans ha5
      have e6 := (hF.same 6 (un 6 (by decide))).trans ha6
      obtain ⟨ρ, hρ⟩ : ∃ ρ, a.eval = ρ := ⟨_, rfl⟩
      rw [hρ] at  e3 e4 e5 e6 
      refine op_val ρ hρ (.slice (some ⟨gA, 0, none⟩) L L) ?_ ⟨_, rfl, Old.refl _, rfl⟩
      clear g hF hd hρ HK HEM un ha3 ha4 ha5 ha6 ck cy ji jz0 jz1 jz2 
      go_simp
      all_goals (first | (rw [IntKind.wrap_i64]; omega) | omega | (intro hz; omega))
    · intro a W g hF hd
      have e3 := (hF.same 3 (un 3 (by decide))).trans ha3
      have e4 := (hF.same 4 (un 4 (by decide))).trans ha4
      have e5 := (hF.same 5 (un 5 (by decide))).trans ha5
      have e6 := (hF.same 6 (un 6 (by decide))).trans ha6
      have h6 := hd ⟨6, .data⟩ (by simp) rfl
      simp only [qPm, slotPm, List.getD_cons_zero, List.getD_cons_succ] at h6
      obtain ⟨ρ, hρ⟩ : ∃ ρ, a.eval = ρ := ⟨_, rfl⟩
      rw [hρ] at h6 e3 e4 e5 e6 
      refine op_val ρ hρ (.int .i64 (L : Int)) ?_ ⟨_, rfl, Old.refl _, rfl⟩
      clear g hF hd hρ HK HEM un ha3 ha4 ha5 ha6 ck cy ji jz0 jz1 jz2 
      go_simp
      all_goals (first | (rw [IntKind.wrap_i64]; omega) | omega | (intro hz; omega))
    · intro a W g hF hd
      have e3 := (hF.same 3 (un 3 (by decide))).trans ha3
      have e4 := (hF.same 4 (un 4 (by decide))).trans ha4
      have e5 := (hF.same 5 (un 5 (by decide))).trans ha5
      have e6 := (hF.same 6 (un 6 (by decide))).trans ha6
      have h5 := hd ⟨5, .data⟩ (by simp) rfl
      have h7 := hd ⟨7, .data⟩ (by simp) rfl
      simp only [qPm, slotPm, List.getD_cons_zero, List.getD_cons_succ] at h5 h7
      obtain ⟨ρ, hρ⟩ : ∃ ρ, a.eval = ρ := ⟨_, rfl⟩
      rw [hρ] at h5 h7 e3 e4 e5 e6 
      refine op_val ρ hρ (.int .i64 (ii : Int)) ?_ ⟨_, rfl, Old.refl _, rfl⟩
      clear g hF hd hρ HK HEM un ha3 ha4 ha5 ha6 ck cy ji jz0 jz1 jz2 
      go_simp
      all_goals (first | (rw [IntKind.wrap_i64]; omega) | omega | (intro hz; omega))
    · intro a W g hF hd
      have e3 := (hF.same 3 (un 3 (by decide))).trans ha3
      have e4 := (hF.same 4 (un 4 (by decide))).trans ha4
      have e5 := (hF.same 5 (un 5 (by decide))).trans ha5
      have e6 := (hF.same 6 (un 6 (by decide))).trans ha6
      have h2 := hd ⟨2, .data⟩ (by simp) rfl
      have h8 := hd ⟨8, .data⟩ (by simp) rfl
      simp only [qPm, slotPm, List.getD_cons_zero, List.getD_cons_succ] at h2 h8
      obtain ⟨ρ, hρ⟩ : ∃ ρ, a.eval = ρ := ⟨_, rfl⟩
      rw [hρ] at h2 h8 e3 e4 e5 e6 
      refine op_val ρ hρ (.pointer (some ⟨gA, ii, none⟩)) ?_ ⟨_, rfl, Old.refl _, rfl⟩
      clear g hF hd hρ HK HEM un ha3 ha4 ha5 ha6 ck cy ji jz0 jz1 jz2 
      go_simp
      all_goals (first | (rw [IntKind.wrap_i64]; omega) | omega | (intro hz; omega))
    · intro a W g hF hd
      have e3 := (hF.same 3 (un 3 (by decide))).trans ha3
      have e4 := (hF.same 4 (un 4 (by decide))).trans ha4
      have e5 := (hF.same 5 (un 5 (by decide))).trans ha5
      have e6 := (hF.same 6 (un 6 (by decide))).trans ha6
      have h9 := hd ⟨9, .data⟩ (by simp) rfl
      simp only [qPm, slotPm, List.getD_cons_zero, List.getD_cons_succ] at h9
      have kcy := (g.cell (p := ⟨gA, ii, none⟩) (block_lt_of_cell cy)).trans cy
      obtain ⟨ρ, hρ⟩ : ∃ ρ, a.eval = ρ := ⟨_, rfl⟩
      rw [hρ] at h9 e3 e4 e5 e6 
      refine op_val ρ hρ (.int .i64 y) ?_ ⟨_, rfl, Old.refl _, rfl⟩
      clear g hF hd hρ HK HEM un ha3 ha4 ha5 ha6 ck cy ji jz0 jz1 jz2 
      go_simp
      all_goals (first | (rw [IntKind.wrap_i64]; omega) | omega | (intro hz; omega))
    · intro a W g hF hd
      have h7 : a.eval (.tmp 39) = .int .i64 y := hd ⟨10, .data⟩ (by simp) rfl
      obtain ⟨ρ, hρ⟩ : ∃ ρ, a.eval = ρ := ⟨_, rfl⟩
      rw [hρ] at h7
      refine op_valRI (W' := W.alloc (.cells #[.int .i64 y] 3)) ρ hρ (.slice (some ⟨W.heap.size, 0, none⟩) 1 1) ?_ ⟨_, rfl, (Old.refl W).alloc _, W.heap.size, rfl, cell_at _ _ _ _ _ rfl, by simp⟩
      clear g hF hd hρ HK HEM un ha3 ha4 ha5 ha6 ck cy ji jz0 jz1 jz2 
      go_simp
  · intro a W g hF hq
    have h0 : a.eval (.tmp 30) = .slice aa k cap := hq 1 (by decide)
    have hb : a.eval (.tmp 3) = .pointer (some ⟨kb, 0, none⟩) := (hF.same 3 (un 3 (by decide))).trans ha3
    obtain ⟨gg, h8, hcell, hlt⟩ : ∃ gg, a.eval (.tmp 40) = .slice (some ⟨gg, 0, none⟩) 1 1 ∧ W.cell? ⟨gg, 0, none⟩ = some (.int .i64 y) ∧ gg < W.heap.size := hq 11 (by decide)
    obtain ⟨vs, ov, hem⟩ := HEM W g
    have hp := fram_put hF (fun i j hi hj => slotPm_inj i hi j hj)
    refine op_append_at3 _ _ 23 rfl lo 3 j0 (.int .i64 0) 1 8 Tryz.underlying23 ji jz0 jz1 jz2 rfl (by decide) _ k vs h0 ov ⟨gg, 0, none⟩ 1 1 [.int .i64 y] h8 rfl ?_ (by simp [Value.oneCell']) (by unfold maxLen; omega) (by omega) (Nat.le_trans hlo g.size) ?_
    · intro j u hj
      match j, hj with
      | 0, hj =>
        have : Value.int .i64 y = u := by simpa using hj
        subst this
        exact hcell
      | j + 1, hj => simp at hj
    · intro v' w' o5 g5 x5 l5
      have hfin := hem v' w' o5 g5
      obtain ⟨a5, c5, e5⟩ : ∃ a5 c5, v' = .slice a5 (k + 1) c5 := by
        rcases o5.2 with ⟨h1, h2⟩ | ⟨p, cp, cur, h1, _⟩
        · omega
        · exact ⟨_, _, h1⟩
      subst e5
      have hk2 := HK.out (fun i => a.eval (.tmp (slotPm i))) _ a5 c5 hfin
      rw [← hp] at hk2
      have hkl : kb < W.heap.size := Nat.lt_of_lt_of_le (lt_of_some bK) g.size
      have hK5 : w'.heap[kb]? = some (.cells #[.int .i64 nb, .int .i64 nt, .int .i64 ne, .slice aa k cap] 25 (0, 0)) := ((g5.block kb hkl (fun e => hkb kb e.symm rfl)).trans (g.block kb (lt_of_some bK))).trans bK
      have hc5 : w'.cell? ⟨kb, 3, none⟩ = some (.slice aa k cap) := by rw [cell_of_row _ _ _ _ _ _ hK5]; rfl
      have hf5 : w'.frozen? ⟨kb, 3, none⟩ = false := frozen_of_row _ _ _ _ _ hK5
      have sz0 : a.tmps.size = 82 := hF.size.trans hsz
      have e1 : (a.put (some 41) (.slice a5 (k + 1) c5)).eval (.tmp 3) = .pointer (some ⟨kb, 0, none⟩) := (eval_put_other _ _ _ _ (by decide)).trans hb
      have sz1 : (a.put (some 41) (.slice a5 (k + 1) c5)).tmps.size = 82 := by simpa [Act.put] using sz0
      have e2 : ((a.put (some 41) (.slice a5 (k + 1) c5)).put (some 42) (.pointer (some ⟨kb, 3, none⟩))).eval (.tmp 41) = .slice a5 (k + 1) c5 := (eval_put_other _ _ _ _ (by decide)).trans (eval_put_same _ _ _ (by rw [sz0]; decide))
      have e3 : ((a.put (some 41) (.slice a5 (k + 1) c5)).put (some 42) (.pointer (some ⟨kb, 3, none⟩))).eval (.tmp 42) = .pointer (some ⟨kb, 3, none⟩) := eval_put_same _ _ _ (by rw [sz1]; decide)
      clear hem ov hcell h8 h0 hq hF hb un g g5 o5 l5 x5 hp hkl hK5 hfin sz0 sz1 ha3
      generalize (a.put (some 41) (.slice a5 (k + 1) c5)) = b1 at *
      obtain ⟨ρ, hρ⟩ : ∃ ρ, b1.eval = ρ := ⟨_, rfl⟩
      rw [hρ] at e1
      refine op_val ρ hρ (.pointer (some ⟨kb, 3, none⟩)) ?_ ?_
      · clear hρ e2 e3 hk2
        go_simp
      · show tailWp _ _ [_] _ _
        generalize (b1.put (some 42) (.pointer (some ⟨kb, 3, none⟩))) = b2 at *
        obtain ⟨ρ2, hρ2⟩ : ∃ ρ, b2.eval = ρ := ⟨_, rfl⟩
        rw [hρ2] at e2 e3
        refine op_skp (W' := w'.setCell ⟨kb, 3, none⟩ (.slice a5 (k + 1) c5)) ρ2 hρ2 ?_ ?_
        · clear hρ hρ2 hk2 e1
          go_simp
        · exact hk2
def slotPr (i : Nat) : Nat := [72, 73, 74, 75, 76, 77, 78].getD i 0
theorem slotPr_lt : ∀ i, i < 7 → slotPr i < 82 := by decide
theorem slotPr_inj : ∀ i, i < 7 → ∀ j, j < 7 → slotPr i = slotPr j → i = j := by decide
theorem slotPr_no : ∀ s, s < 4 → ∀ i, i < 7 → slotPr i ≠ s := by decide
def qPr (kb : Nat) (nb nt ne : Int) (aa : Option Addr) (k cap : Nat) (y : Int) (ga : Nat) (i : Nat) (W : World) (xv : Value) : Prop :=
  match i with
  | 0 => xv = .pointer (some ⟨kb, 3, none⟩)
  | 1 => xv = .slice aa k cap
  | 2 => xv = .pointer (some ⟨kb, 3, none⟩)
  | 3 => xv = .slice aa k cap
  | 4 => xv = .pointer (some ⟨ga, 0, none⟩)
  | 5 => xv = .int .i64 y
  | 6 => ∃ g, xv = .slice (some ⟨g, 0, none⟩) 1 1 ∧ W.cell? ⟨g, 0, none⟩ = some (.int .i64 y) ∧ g < W.heap.size
  | _ => True
theorem qPr_old (kb : Nat) (nb nt ne : Int) (aa : Option Addr) (k cap : Nat) (y : Int) (ga : Nat) (i : Nat) (W W' : World) (xv : Value) (h : qPr kb nb nt ne aa k cap y ga i W xv) (qo : Old W W') : qPr kb nb nt ne aa k cap y ga i W' xv := by
  unfold qPr at h ⊢
  split at h
  case h_7 =>
    obtain ⟨g, e, hcell, hlt⟩ := h
    exact ⟨g, e, (qo.cell (p := ⟨g, 0, none⟩) hlt).trans hcell, Nat.lt_of_lt_of_le hlt qo.size⟩
  all_goals first | exact h | trivial
set_option maxRecDepth 100000 in
set_option maxHeartbeats 4000000 in
theorem reg_Pr (w0 : World) (kb : Nat) (nb nt ne : Int) (aa : Option Addr) (k cap : Nat) (y : Int) (ga : Nat) (FIN : World → Value → Prop) (hk9 : k ≤ 9) (lo : Nat) (hlo : lo ≤ w0.heap.size) (bK : w0.heap[kb]? = some (.cells #[.int .i64 nb, .int .i64 nt, .int .i64 ne, .slice aa k cap] 25 (0, 0))) (hkb : ∀ b, (Value.slice aa k cap).ownBlock = some b → b ≠ kb)
    (ck : w0.cell? ⟨kb, 3, none⟩ = some (.slice aa k cap)) (cy : w0.cell? ⟨ga, 0, none⟩ = some (.int .i64 y))
    (haa : aa = some ⟨ga, 0, none⟩) (hk0 : (0 : Int) < (k : Int))
    (HEM : ∀ (W : World), Old w0 W → ∃ vs, W.ownsRow lo 3 1 (.slice aa k cap) k vs ∧ (∀ v' w', w'.ownsRow lo 3 1 v' (k + 1) (vs ++ [.int .i64 y]) → W.grownBy w' (Value.slice aa k cap).ownBlock → FIN (w'.setCell ⟨kb, 3, none⟩ v') v'))
    (Q : Exit → Act → World → Prop) (a0 : Act) (hsz : a0.tmps.size = 82)
    (ha3 : a0.eval (.tmp 3) = .pointer (some ⟨kb, 0, none⟩))
    (HK : Hid (∀ (us : Nat → Value) W a5 c5, FIN W (.slice a5 (k + 1) c5) → Q .normal (((putAll a0 ((List.range 7).map fun i => (slotPr i, us i))).put (some 79) (.slice a5 (k + 1) c5)).put (some 80) (.pointer (some ⟨kb, 3, none⟩))) W)) :
    Code.wp Tryz.prog ((Tryz.f13.body.bind (regionAtmul 18)).getD .skip) Q a0 w0 := by
  conv => arg 2; whnf
  obtain ⟨j0, ji, jz0, jz1, jz2⟩ := info_parts Tryz.infoInt
  have un := slotPr_no
  refine wp_region_tail 7 (by decide) (by kernel_rfl) (by kernel_rfl) (by kernel_rfl) (by kernel_rfl) (by kernel_rfl) slotPr (fun i hi => by rw [hsz]; exact slotPr_lt i hi) (fun i j hi hj => slotPr_inj i hi j hj) (qPr kb nb nt ne aa k cap y ga) (qPr_old kb nb nt ne aa k cap y ga) ?_ ?_
  · refine ⟨?_, ?_, ?_, ?_, ?_, ?_, ?_, trivial⟩
    · intro a W g hF hd
      have e3 := (hF.same 3 (un 3 (by decide))).trans ha3
      obtain ⟨ρ, hρ⟩ : ∃ ρ, a.eval = ρ := ⟨_, rfl⟩
      rw [hρ] at  e3 
      refine op_val ρ hρ (.pointer (some ⟨kb, 3, none⟩)) ?_ ⟨_, rfl, Old.refl _, rfl⟩
      clear g hF hd hρ HK HEM un ha3 ck cy ji jz0 jz1 jz2 
      go_simp
      all_goals (first | (rw [IntKind.wrap_i64]; omega) | omega | (intro hz; omega))
    · intro a W g hF hd
      have e3 := (hF.same 3 (un 3 (by decide))).trans ha3
      have h0 := hd ⟨0, .data⟩ (by simp) rfl
      simp only [qPr, slotPr, List.getD_cons_zero, List.getD_cons_succ] at h0
      have kck := (g.cell (p := ⟨kb, 3, none⟩) (block_lt_of_cell ck)).trans ck
      obtain ⟨ρ, hρ⟩ : ∃ ρ, a.eval = ρ := ⟨_, rfl⟩
      rw [hρ] at h0 e3 
      refine op_val ρ hρ (.slice aa k cap) ?_ ⟨_, rfl, Old.refl _, rfl⟩
      clear g hF hd hρ HK HEM un ha3 ck cy ji jz0 jz1 jz2 
      go_simp
      all_goals (first | (rw [IntKind.wrap_i64]; omega) | omega | (intro hz; omega))
    · intro a W g hF hd
      have e3 := (hF.same 3 (un 3 (by decide))).trans ha3
      obtain ⟨ρ, hρ⟩ : ∃ ρ, a.eval = ρ := ⟨_, rfl⟩
      rw [hρ] at  e3 
      refine op_val ρ hρ (.pointer (some ⟨kb, 3, none⟩)) ?_ ⟨_, rfl, Old.refl _, rfl⟩
      clear g hF hd hρ HK HEM un ha3 ck cy ji jz0 jz1 jz2 
      go_simp
      all_goals (first | (rw [IntKind.wrap_i64]; omega) | omega | (intro hz; omega))
    · intro a W g hF hd
      have e3 := (hF.same 3 (un 3 (by decide))).trans ha3
      have h2 := hd ⟨2, .data⟩ (by simp) rfl
      simp only [qPr, slotPr, List.getD_cons_zero, List.getD_cons_succ] at h2
      have kck := (g.cell (p := ⟨kb, 3, none⟩) (block_lt_of_cell ck)).trans ck
      obtain ⟨ρ, hρ⟩ : ∃ ρ, a.eval = ρ := ⟨_, rfl⟩
      rw [hρ] at h2 e3 
      refine op_val ρ hρ (.slice aa k cap) ?_ ⟨_, rfl, Old.refl _, rfl⟩
      clear g hF hd hρ HK HEM un ha3 ck cy ji jz0 jz1 jz2 
      go_simp
      all_goals (first | (rw [IntKind.wrap_i64]; omega) | omega | (intro hz; omega))
    · intro a W g hF hd
      have e3 := (hF.same 3 (un 3 (by decide))).trans ha3
      have h3 := hd ⟨3, .data⟩ (by simp) rfl
      simp only [qPr, slotPr, List.getD_cons_zero, List.getD_cons_succ] at h3
      have c0 : a.eval (.const (.int .i64 0)) = .int .i64 0 := rfl
      obtain ⟨ρ, hρ⟩ : ∃ ρ, a.eval = ρ := ⟨_, rfl⟩
      rw [hρ] at h3 e3 c0
      refine op_val ρ hρ (.pointer (some ⟨ga, 0, none⟩)) ?_ ⟨_, rfl, Old.refl _, rfl⟩
      clear g hF hd hρ HK HEM un ha3 ck cy ji jz0 jz1 jz2 
      go_simp
      all_goals (first | (rw [IntKind.wrap_i64]; omega) | omega | (intro hz; omega))
    · intro a W g hF hd
      have e3 := (hF.same 3 (un 3 (by decide))).trans ha3
      have h4 := hd ⟨4, .data⟩ (by simp) rfl
      simp only [qPr, slotPr, List.getD_cons_zero, List.getD_cons_succ] at h4
      have kcy := (g.cell (p := ⟨ga, 0, none⟩) (block_lt_of_cell cy)).trans cy
      obtain ⟨ρ, hρ⟩ : ∃ ρ, a.eval = ρ := ⟨_, rfl⟩
      rw [hρ] at h4 e3 
      refine op_val ρ hρ (.int .i64 y) ?_ ⟨_, rfl, Old.refl _, rfl⟩
      clear g hF hd hρ HK HEM un ha3 ck cy ji jz0 jz1 jz2 
      go_simp
      all_goals (first | (rw [IntKind.wrap_i64]; omega) | omega | (intro hz; omega))
    · intro a W g hF hd
      have h7 : a.eval (.tmp 77) = .int .i64 y := hd ⟨5, .data⟩ (by simp) rfl
      obtain ⟨ρ, hρ⟩ : ∃ ρ, a.eval = ρ := ⟨_, rfl⟩
      rw [hρ] at h7
      refine op_valRI (W' := W.alloc (.cells #[.int .i64 y] 3)) ρ hρ (.slice (some ⟨W.heap.size, 0, none⟩) 1 1) ?_ ⟨_, rfl, (Old.refl W).alloc _, W.heap.size, rfl, cell_at _ _ _ _ _ rfl, by simp⟩
      clear g hF hd hρ HK HEM un ha3 ck cy ji jz0 jz1 jz2 
      go_simp
  · intro a W g hF hq
    have h0 : a.eval (.tmp 73) = .slice aa k cap := hq 1 (by decide)
    have hb : a.eval (.tmp 3) = .pointer (some ⟨kb, 0, none⟩) := (hF.same 3 (un 3 (by decide))).trans ha3
    obtain ⟨gg, h8, hcell, hlt⟩ : ∃ gg, a.eval (.tmp 78) = .slice (some ⟨gg, 0, none⟩) 1 1 ∧ W.cell? ⟨gg, 0, none⟩ = some (.int .i64 y) ∧ gg < W.heap.size := hq 6 (by decide)
    obtain ⟨vs, ov, hem⟩ := HEM W g
    have hp := fram_put hF (fun i j hi hj => slotPr_inj i hi j hj)
    refine op_append_at3 _ _ 23 rfl lo 3 j0 (.int .i64 0) 1 8 Tryz.underlying23 ji jz0 jz1 jz2 rfl (by decide) _ k vs h0 ov ⟨gg, 0, none⟩ 1 1 [.int .i64 y] h8 rfl ?_ (by simp [Value.oneCell']) (by unfold maxLen; omega) (by omega) (Nat.le_trans hlo g.size) ?_
    · intro j u hj
      match j, hj with
      | 0, hj =>
        have : Value.int .i64 y = u := by simpa using hj
        subst this
        exact hcell
      | j + 1, hj => simp at hj
    · intro v' w' o5 g5 x5 l5
      have hfin := hem v' w' o5 g5
      obtain ⟨a5, c5, e5⟩ : ∃ a5 c5, v' = .slice a5 (k + 1) c5 := by
        rcases o5.2 with ⟨h1, h2⟩ | ⟨p, cp, cur, h1, _⟩
        · omega
        · exact ⟨_, _, h1⟩
      subst e5
      have hk2 := HK.out (fun i => a.eval (.tmp (slotPr i))) _ a5 c5 hfin
      rw [← hp] at hk2
      have hkl : kb < W.heap.size := Nat.lt_of_lt_of_le (lt_of_some bK) g.size
      have hK5 : w'.heap[kb]? = some (.cells #[.int .i64 nb, .int .i64 nt, .int .i64 ne, .slice aa k cap] 25 (0, 0)) := ((g5.block kb hkl (fun e => hkb kb e.symm rfl)).trans (g.block kb (lt_of_some bK))).trans bK
      have hc5 : w'.cell? ⟨kb, 3, none⟩ = some (.slice aa k cap) := by rw [cell_of_row _ _ _ _ _ _ hK5]; rfl
      have hf5 : w'.frozen? ⟨kb, 3, none⟩ = false := frozen_of_row _ _ _ _ _ hK5
      have sz0 : a.tmps.size = 82 := hF.size.trans hsz
      have e1 : (a.put (some 79) (.slice a5 (k + 1) c5)).eval (.tmp 3) = .pointer (some ⟨kb, 0, none⟩) := (eval_put_other _ _ _ _ (by decide)).trans hb
      have sz1 : (a.put (some 79) (.slice a5 (k + 1) c5)).tmps.size = 82 := by simpa [Act.put] using sz0
      have e2 : ((a.put (some 79) (.slice a5 (k + 1) c5)).put (some 80) (.pointer (some ⟨kb, 3, none⟩))).eval (.tmp 79) = .slice a5 (k + 1) c5 := (eval_put_other _ _ _ _ (by decide)).trans (eval_put_same _ _ _ (by rw [sz0]; decide))
      have e3 : ((a.put (some 79) (.slice a5 (k + 1) c5)).put (some 80) (.pointer (some ⟨kb, 3, none⟩))).eval (.tmp 80) = .pointer (some ⟨kb, 3, none⟩) := eval_put_same _ _ _ (by rw [sz1]; decide)
      clear hem ov hcell h8 h0 hq hF hb un g g5 o5 l5 x5 hp hkl hK5 hfin sz0 sz1 ha3
      generalize (a.put (some 79) (.slice a5 (k + 1) c5)) = b1 at *
      obtain ⟨ρ, hρ⟩ : ∃ ρ, b1.eval = ρ := ⟨_, rfl⟩
      rw [hρ] at e1
      refine op_val ρ hρ (.pointer (some ⟨kb, 3, none⟩)) ?_ ?_
      · clear hρ e2 e3 hk2
        go_simp
      · show tailWp _ _ [_] _ _
        generalize (b1.put (some 80) (.pointer (some ⟨kb, 3, none⟩))) = b2 at *
        obtain ⟨ρ2, hρ2⟩ : ∃ ρ, b2.eval = ρ := ⟨_, rfl⟩
        rw [hρ2] at e2 e3
        refine op_skp (W' := w'.setCell ⟨kb, 3, none⟩ (.slice a5 (k + 1) c5)) ρ2 hρ2 ?_ ?_
        · clear hρ hρ2 hk2 e1
          go_simp
        · exact hk2
end Go.Proofs.YtihjndakgncdaaaGreatDoor
