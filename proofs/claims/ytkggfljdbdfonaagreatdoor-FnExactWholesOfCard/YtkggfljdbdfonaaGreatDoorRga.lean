/- Proved: the drawn region of the model's l5Ahead and that of its l5Back: a row is transformed and appended. -/
import Derived.Test.YtkggfljdbdfonaaGreatDoorWo13
import Derived.Test.YtkggfljdbdfonaaGreatDoorMlr
import Derived.Test.YtkggfljdbdfonaaGreatDoorWo12
import Derived.Test.YtkggfljdbdfonaaGreatDoorWo24
import Derived.Maps.AppendAt
namespace Go.Proofs.YtkggfljdbdfonaaGreatDoor
open Go.ChangeShapes Go.WideShapes Go.ChangeAt Go.RowKit
set_option linter.unusedVariables false
set_option linter.unusedSimpArgs false
theorem op_valW {P : Program} {a : Act} {W W' : World} {K : Act → World → Prop} {Q : Exit → Act → World → Prop} {o : Oper} (ρ : Operand → Value) (hρ : a.eval = ρ) (v : Value) (hr : (execOp ρ o).run P W = .ok (.value v) W') (hK : K (a.put o.dst v) W') : o.wp P a W K Q := by
  unfold Oper.wp
  rw [hρ, hr]
  exact hK
theorem op_append_at {P : Program} {o : Oper} {a : Act} {w : World} {K : Act → World → Prop} {Q : Exit → Act → World → Prop} (s x : Operand) (t : TypeId)
    (ho : o.op = .call { callee := .builtin .append, args := #[s, x], argTypes := #[t, t] })
    (base : Nat) (e : TypeId) (i : TypeInfo) (z : Value) (size bytes : Nat) (ht : P.underlying t = some (.slice e)) (hi : P.info? e = some i) (hz : i.zero = some z)
    (hsize : i.size = size) (hby : i.bytes = bytes) (hzs : z.cells.size = size) (hsz : 0 < size)
    (v : Value) (n : Nat) (xs : List Value) (hs : a.eval s = v) (hown : w.ownsRow base e size v n xs)
    (ad : Addr) (m c : Nat) (news : List Value) (hx : a.eval x = .slice (some ad) m c) (hl : news.length = m * size) (hnews : ∀ j u, news[j]? = some u → w.cell? (ad.add j) = some u) (h1 : ∀ u ∈ news, u.oneCell' = true)
    (h63 : n + m ≤ maxLen) (hbytes : (n + m) * bytes ≤ 140737488355328) (hbase : base ≤ w.heap.size)
    (h : ∀ v' w', w'.ownsRow base e size v' (n + m) (xs ++ news) → w.grownBy w' v.ownBlock → (v' = .slice none 0 0 ↔ v = .slice none 0 0 ∧ m = 0) → (v'.ownBlock = v.ownBlock ∨ v'.ownBlock = some w.heap.size) → K (a.put o.dst v') w') :
    o.wp P a w K Q := by
  obtain ⟨v', w', hr, h2, h3, h4, h5⟩ := run_append_own_at (P := P) w base t o.type e i z size bytes ht hi hz hsize hby hzs hsz v n xs hown ad m c news hl hnews h1 h63 hbytes hbase
  unfold Oper.wp execOp
  simp only [ho, resolve, invoke, builtin, Sem.run_bind, Sem.run_pure, Result.andThen_ok, List.map_toArray, List.map_cons, List.map_nil, hs, hx, hr]
  exact h v' w' h2 h3 h4 h5
theorem own_fit {W : World} {base : Nat} {v : Value} {zs : List Int} (h : Own W base v zs) : ∃ ra rc, v = .slice ra zs.length rc ∧ zs.length ≤ rc := by
  rcases h.2 with ⟨e, hn⟩ | ⟨_, _, _, e, _, _, hn, _⟩
  · exact ⟨none, 0, by rw [e, hn], by omega⟩
  · exact ⟨_, _, e, hn⟩
/-- what each operation leaves in its slot -/
def aheadQ (p N r : Int) (k : Nat) (a : Option Addr) (cap ab b1 o1 L cap1 : Nat) (x1 : Option Addr) (n1 y1 : Nat) (zs : List Int) (base : Nat) (i : Nat) (W : World) (x : Value) : Prop :=
  match i with
  | 0 => x = .slice a k cap
  | 1 => x = .agg #[.int .i64 p, .int .i64 N, .int .i64 r]
  | 2 => x = .pointer (some ⟨ab, 1, none⟩)
  | 3 => x = .slice (some ⟨b1, o1, none⟩) L cap1
  | 4 => x = .int .i64 k
  | 5 => x = .pointer (some ⟨b1, o1 + k, none⟩)
  | 6 => x = .slice x1 n1 y1
  | 7 => ∃ ra rc, x = .slice ra zs.length rc ∧ zs.length ≤ rc ∧ Own W base x zs
  | 8 => ∃ ra rc g, x = .slice (some ⟨g, 0, none⟩) 1 1 ∧ zs.length ≤ rc ∧ Own W base (.slice ra zs.length rc) zs ∧ W.cell? ⟨g, 0, none⟩ = some (.slice ra zs.length rc) ∧ g < W.heap.size
  | _ => True
theorem aheadQ_old (p N r : Int) (k : Nat) (a : Option Addr) (cap ab b1 o1 L cap1 : Nat) (x1 : Option Addr) (n1 y1 : Nat) (zs : List Int) (base : Nat) (i : Nat) (W W' : World) (x : Value) (h : aheadQ p N r k a cap ab b1 o1 L cap1 x1 n1 y1 zs base i W x) (q : Old W W') : aheadQ p N r k a cap ab b1 o1 L cap1 x1 n1 y1 zs base i W' x := by
  unfold aheadQ at h ⊢
  split at h
  case h_8 =>
    obtain ⟨ra, rc, e, hc, ow⟩ := h
    exact ⟨ra, rc, e, hc, ow.old q⟩
  case h_9 =>
    obtain ⟨ra, rc, g, e, hc, ow, hcell, hlt⟩ := h
    exact ⟨ra, rc, g, e, hc, ow.old q, (q.cell (p := ⟨g, 0, none⟩) hlt).trans hcell, Nat.lt_of_lt_of_le hlt q.size⟩
  all_goals first | exact h | trivial
def slotRgB (i : Nat) : Nat := [18, 19, 20, 21, 22, 23, 24, 25, 26, 27, 5].getD i 0
theorem slotRgB_lt : ∀ i, i < 11 → slotRgB i < 40 := by decide
theorem slotRgB_inj : ∀ i, i < 11 → ∀ j, j < 11 → slotRgB i = slotRgB j → i = j := by decide
theorem slotRgB_no : ∀ s, s < 18 → ∀ i, i < 10 → slotRgB i ≠ s := by decide
set_option maxRecDepth 100000 in
set_option maxHeartbeats 4000000 in
theorem reg_RgB (w0 : World) (rb ab b1 o1 L cap1 k : Nat) (aa : Option Addr) (cap : Nat) (p N r : Int) (x1 : Option Addr) (n1 y1 : Nat) (zs : List Int) (base : Nat) (hbase : base ≤ w0.heap.size) (FIN : World → Value → Prop)
    (c0 : w0.cell? ⟨rb, 0, none⟩ = some (.int .i64 p)) (c1 : w0.cell? ⟨rb, 1, none⟩ = some (.int .i64 N)) (c2 : w0.cell? ⟨rb, 2, none⟩ = some (.int .i64 r))
    (cr : w0.cell? ⟨ab, 1, none⟩ = some (.slice (some ⟨b1, o1, none⟩) L cap1)) (cx : w0.cell? ⟨b1, o1 + k, none⟩ = some (.slice x1 n1 y1)) (hk : k < L) (hk6 : k ≤ 6) (hL : L ≤ 1048576)
    (KF : ∀ W, Old w0 W → Calls Tryz.prog 95 #[.agg #[.int .i64 p, .int .i64 N, .int .i64 r], .slice x1 n1 y1] W fun e w' => ∃ v', e = .returned v' ∧ Old W w' ∧ Own w' W.heap.size v' zs)
    (HEM : ∀ (W : World) (ra : Option Addr) (rc : Nat), Old w0 W → Own W w0.heap.size (.slice ra zs.length rc) zs → zs.length ≤ rc → ∃ vs, W.ownsRow base 22 1 (.slice aa k cap) k vs ∧ (∀ v' w', w'.ownsRow base 22 1 v' (k + 1) (vs ++ [.slice ra zs.length rc]) → W.grownBy w' (Value.slice aa k cap).ownBlock → (v'.ownBlock = (Value.slice aa k cap).ownBlock ∨ v'.ownBlock = some W.heap.size) → FIN w' v'))
    (Q : Exit → Act → World → Prop) (a0 : Act) (hsz : a0.tmps.size = 40)
    (ha3 : a0.eval (.tmp 3) = .pointer (some ⟨ab, 0, none⟩)) (ha5 : a0.eval (.tmp 5) = .slice aa k cap) (ha6 : a0.eval (.tmp 6) = .int .i64 k) (ha7 : a0.eval (.tmp 7) = .pointer (some ⟨rb, 0, none⟩))
    (HK : Hid (∀ (us : Nat → Value) W, FIN W (us 10) → Q .normal (putAll a0 ((List.range 11).map fun i => (slotRgB i, us i))) W)) :
    Code.wp Tryz.prog ((Tryz.f46.body.bind (regionAtmul 6)).getD .skip) Q a0 w0 := by
  conv => arg 2; whnf
  obtain ⟨j0, ji, jz0, jz1, jz2⟩ := info_parts Tryz.infoInts
  have hr := block_lt_of_cell c0
  have hab := block_lt_of_cell cr
  have hb1 := block_lt_of_cell cx
  have un := slotRgB_no
  refine wp_region_turn 9 rfl rfl rfl (by kernel_rfl) (by kernel_rfl) (by kernel_rfl) (by kernel_rfl) (by kernel_rfl) slotRgB (fun i hi => by rw [hsz]; exact slotRgB_lt i hi) (fun i j hi hj => slotRgB_inj i hi j hj) (aheadQ p N r k aa cap ab b1 o1 L cap1 x1 n1 y1 zs w0.heap.size) (aheadQ_old p N r k aa cap ab b1 o1 L cap1 x1 n1 y1 zs w0.heap.size) FIN ?_ ?_ ?_ ?_
  · refine ⟨?_, ?_, ?_, ?_, ?_, ?_, ?_, ?_, ?_, trivial⟩
    · intro a W g hF hd
      have e3 := (hF.same 3 (un 3 (by decide))).trans ha3
      have e5 := (hF.same 5 (un 5 (by decide))).trans ha5
      have e6 := (hF.same 6 (un 6 (by decide))).trans ha6
      have e7 := (hF.same 7 (un 7 (by decide))).trans ha7
      obtain ⟨ρ, hρ⟩ : ∃ ρ, a.eval = ρ := ⟨_, rfl⟩
      rw [hρ] at  e3 e5 e6 e7
      refine op_val ρ hρ (.slice aa k cap) ?_ ⟨_, rfl, Old.refl _, rfl⟩
      clear g hF hd hρ ha3 ha5 ha6 ha7 HK un KF HEM c0 c1 c2 cr cx
      go_simp
    · intro a W g hF hd
      have e3 := (hF.same 3 (un 3 (by decide))).trans ha3
      have e5 := (hF.same 5 (un 5 (by decide))).trans ha5
      have e6 := (hF.same 6 (un 6 (by decide))).trans ha6
      have e7 := (hF.same 7 (un 7 (by decide))).trans ha7
      have k0 := (g.cell (p := ⟨rb, 0, none⟩) hr).trans c0
      have k1 := (g.cell (p := ⟨rb, 1, none⟩) hr).trans c1
      have k2 := (g.cell (p := ⟨rb, 2, none⟩) hr).trans c2
      obtain ⟨ρ, hρ⟩ : ∃ ρ, a.eval = ρ := ⟨_, rfl⟩
      rw [hρ] at  e3 e5 e6 e7
      refine op_val ρ hρ (.agg #[.int .i64 p, .int .i64 N, .int .i64 r]) ?_ ⟨_, rfl, Old.refl _, rfl⟩
      clear g hF hd hρ ha3 ha5 ha6 ha7 HK un KF HEM c0 c1 c2 cr cx
      go_simp
    · intro a W g hF hd
      have e3 := (hF.same 3 (un 3 (by decide))).trans ha3
      have e5 := (hF.same 5 (un 5 (by decide))).trans ha5
      have e6 := (hF.same 6 (un 6 (by decide))).trans ha6
      have e7 := (hF.same 7 (un 7 (by decide))).trans ha7
      obtain ⟨ρ, hρ⟩ : ∃ ρ, a.eval = ρ := ⟨_, rfl⟩
      rw [hρ] at  e3 e5 e6 e7
      refine op_val ρ hρ (.pointer (some ⟨ab, 1, none⟩)) ?_ ⟨_, rfl, Old.refl _, rfl⟩
      clear g hF hd hρ ha3 ha5 ha6 ha7 HK un KF HEM c0 c1 c2 cr cx
      go_simp
    · intro a W g hF hd
      have e3 := (hF.same 3 (un 3 (by decide))).trans ha3
      have e5 := (hF.same 5 (un 5 (by decide))).trans ha5
      have e6 := (hF.same 6 (un 6 (by decide))).trans ha6
      have e7 := (hF.same 7 (un 7 (by decide))).trans ha7
      have h2 := hd ⟨2, .data⟩ (by simp) rfl
      simp only [aheadQ, slotRgB, List.getD_cons_zero, List.getD_cons_succ] at h2
      have k0 := (g.cell (p := ⟨ab, 1, none⟩) hab).trans cr
      obtain ⟨ρ, hρ⟩ : ∃ ρ, a.eval = ρ := ⟨_, rfl⟩
      rw [hρ] at h2 e3 e5 e6 e7
      refine op_val ρ hρ (.slice (some ⟨b1, o1, none⟩) L cap1) ?_ ⟨_, rfl, Old.refl _, rfl⟩
      clear g hF hd hρ ha3 ha5 ha6 ha7 HK un KF HEM c0 c1 c2 cr cx
      go_simp
    · intro a W g hF hd
      have e3 := (hF.same 3 (un 3 (by decide))).trans ha3
      have e5 := (hF.same 5 (un 5 (by decide))).trans ha5
      have e6 := (hF.same 6 (un 6 (by decide))).trans ha6
      have e7 := (hF.same 7 (un 7 (by decide))).trans ha7
      obtain ⟨ρ, hρ⟩ : ∃ ρ, a.eval = ρ := ⟨_, rfl⟩
      rw [hρ] at  e3 e5 e6 e7
      refine op_val ρ hρ (.int .i64 k) ?_ ⟨_, rfl, Old.refl _, rfl⟩
      clear g hF hd hρ ha3 ha5 ha6 ha7 HK un KF HEM c0 c1 c2 cr cx
      go_simp
    · intro a W g hF hd
      have e3 := (hF.same 3 (un 3 (by decide))).trans ha3
      have e5 := (hF.same 5 (un 5 (by decide))).trans ha5
      have e6 := (hF.same 6 (un 6 (by decide))).trans ha6
      have e7 := (hF.same 7 (un 7 (by decide))).trans ha7
      have h3 := hd ⟨3, .data⟩ (by simp) rfl
      have h4 := hd ⟨4, .data⟩ (by simp) rfl
      simp only [aheadQ, slotRgB, List.getD_cons_zero, List.getD_cons_succ] at h3 h4
      have hkL : (k : Int) < (L : Int) := by omega
      obtain ⟨ρ, hρ⟩ : ∃ ρ, a.eval = ρ := ⟨_, rfl⟩
      rw [hρ] at h3 h4 e3 e5 e6 e7
      refine op_val ρ hρ (.pointer (some ⟨b1, o1 + k, none⟩)) ?_ ⟨_, rfl, Old.refl _, rfl⟩
      clear g hF hd hρ ha3 ha5 ha6 ha7 HK un KF HEM c0 c1 c2 cr cx
      go_simp
    · intro a W g hF hd
      have e3 := (hF.same 3 (un 3 (by decide))).trans ha3
      have e5 := (hF.same 5 (un 5 (by decide))).trans ha5
      have e6 := (hF.same 6 (un 6 (by decide))).trans ha6
      have e7 := (hF.same 7 (un 7 (by decide))).trans ha7
      have h5 := hd ⟨5, .data⟩ (by simp) rfl
      simp only [aheadQ, slotRgB, List.getD_cons_zero, List.getD_cons_succ] at h5
      have k0 := (g.cell (p := ⟨b1, o1 + k, none⟩) hb1).trans cx
      obtain ⟨ρ, hρ⟩ : ∃ ρ, a.eval = ρ := ⟨_, rfl⟩
      rw [hρ] at h5 e3 e5 e6 e7
      refine op_val ρ hρ (.slice x1 n1 y1) ?_ ⟨_, rfl, Old.refl _, rfl⟩
      clear g hF hd hρ ha3 ha5 ha6 ha7 HK un KF HEM c0 c1 c2 cr cx
      go_simp
    · intro a W g hF hd
      have h1 : a.eval (.tmp 19) = .agg #[.int .i64 p, .int .i64 N, .int .i64 r] := hd ⟨1, .data⟩ (by simp) rfl
      have h6 : a.eval (.tmp 24) = .slice x1 n1 y1 := hd ⟨6, .data⟩ (by simp) rfl
      refine op_call_ret Tryz.call95 (vs := #[.agg #[.int .i64 p, .int .i64 N, .int .i64 r], .slice x1 n1 y1]) (by simp [h1, h6]) (KF W g) ?_
      rintro x w' ⟨g', o'⟩
      obtain ⟨ra, rc, e, hc⟩ := own_fit o'
      subst e
      exact ⟨_, rfl, g', ra, rc, rfl, hc, o'.low g.size⟩
    · intro a W g hF hd
      obtain ⟨ra, rc, h7, hc, ow⟩ : ∃ ra rc, a.eval (.tmp 25) = .slice ra zs.length rc ∧ zs.length ≤ rc ∧ Own W w0.heap.size (a.eval (.tmp 25)) zs := hd ⟨7, .data⟩ (by simp) rfl
      rw [h7] at ow
      obtain ⟨ρ, hρ⟩ : ∃ ρ, a.eval = ρ := ⟨_, rfl⟩
      rw [hρ] at h7
      refine op_valW (W' := W.alloc (.cells #[.slice ra zs.length rc] 22)) ρ hρ (.slice (some ⟨W.heap.size, 0, none⟩) 1 1) ?_ ⟨_, rfl, (Old.refl W).alloc _, ra, rc, W.heap.size, rfl, hc, ow.alloc _, cell_at _ _ _ _ _ rfl, by simp⟩
      clear g hF hd hρ ha3 ha5 ha6 ha7 HK un KF HEM c0 c1 c2 cr cx ow hc
      go_simp
  · intro a W g hF hq
    have h0 : a.eval (.tmp 18) = .slice aa k cap := hq 0 (by decide)
    obtain ⟨ra, rc, gg, h8, hc, ow, hcell, hlt⟩ : ∃ ra rc gg, a.eval (.tmp 26) = .slice (some ⟨gg, 0, none⟩) 1 1 ∧ zs.length ≤ rc ∧ Own W w0.heap.size (.slice ra zs.length rc) zs ∧ W.cell? ⟨gg, 0, none⟩ = some (.slice ra zs.length rc) ∧ gg < W.heap.size := hq 8 (by decide)
    obtain ⟨vs, ov, hem⟩ := HEM W ra rc g ow hc
    refine op_append_at _ _ 25 rfl base 22 j0 (.slice none 0 0) 1 24 Tryz.underlying25 ji jz0 jz1 jz2 rfl (by decide) _ k vs h0 ov ⟨gg, 0, none⟩ 1 1 [.slice ra zs.length rc] h8 rfl ?_ (one_sl _ _ _) (by unfold maxLen; omega) (by omega) (Nat.le_trans hbase g.size) ?_
    · intro j u hj
      match j, hj with
      | 0, hj =>
        have : Value.slice ra zs.length rc = u := by simpa using hj
        subst this
        exact hcell
      | j + 1, hj => simp at hj
    · intro v' w' o5 g5 x5 l5
      exact ⟨v', rfl, hem v' w' o5 g5 l5⟩
  · intro a W v hv
    exact op_assign (by rw [show a.eval (.tmp 27) = v from hv]; exact ⟨rfl, rfl⟩)
  · intro a W hF hq
    have hp := fram_put hF (fun i j hi hj => slotRgB_inj i hi j hj)
    have hk := HK.out (fun i => a.eval (.tmp (slotRgB i))) W hq
    rw [← hp] at hk
    exact hk
end Go.Proofs.YtkggfljdbdfonaaGreatDoor
