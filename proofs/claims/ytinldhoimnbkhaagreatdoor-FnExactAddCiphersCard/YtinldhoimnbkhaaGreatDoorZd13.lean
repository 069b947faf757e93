/- Proved: several texts in one: what each proves is said ahead of it. -/
import Derived.Test.YtinldhoimnbkhaaGreatDoorZd04
import Derived.Test.YtinldhoimnbkhaaGreatDoorZd12
import Derived.Test.YtinldhoimnbkhaaGreatDoorZd11
import Derived.Test.YtinldhoimnbkhaaGreatDoorZd09
/- Proved: rows beside their rings as things; rows of rows out of things; contracts of with and numbersOf. -/
namespace Go.Proofs.YtinldhoimnbkhaaGreatDoor
open Go.ChangeShapes Go.WideShapes Go.ChangeAt Go.RowKit
set_option linter.unusedVariables false
set_option linter.unusedSimpArgs false
/-- a thing beside its ring -/
def TR (P N R : Int) (a : Bool) (E : Thing) : Thing := fun W B cs => ∃ x, cs = [.int .i64 P, .int .i64 N, .int .i64 R, .bool a, x] ∧ E W B [x]
theorem good_TR (P N R : Int) (a : Bool) {E : Thing} (g : GoodT E) : GoodT (TR P N R a E) := by
  constructor
  · rintro W W' B cs ⟨x, e, h⟩ hf
    exact ⟨x, e, g.far h hf⟩
  · rintro W B cs ⟨x, e, h⟩ b hb
    exact g.lt h b hb
abbrev elR (N : Int) (a : Bool) (ps : List Int) (Rf : Nat → Int) (zss : List (List Int)) : Nat → Thing := fun k => TR (ps.getD k 0) N (Rf k) a (TI (zss.getD k []))
theorem good_elR (N : Int) (a : Bool) (ps : List Int) (Rf : Nat → Int) (zss : List (List Int)) (k : Nat) : GoodT (elR N a ps Rf zss k) := good_TR _ _ _ _ (good_TI _)
/-- rows beside their rings can be read at v: the rows themselves where us says -/
def RdR (w : World) (v : Value) (m : Nat) (N : Int) (a : Bool) (ps : List Int) (Rf : Nat → Int) (us : Nat → Value) : Prop :=
  ∃ b cap, v = .slice (some ⟨b, 0, none⟩) m cap ∧ b < w.heap.size ∧ ∀ k, k < m → w.cell? ⟨b, k * 5, none⟩ = some (.int .i64 (ps.getD k 0)) ∧ w.cell? ⟨b, k * 5 + 1, none⟩ = some (.int .i64 N) ∧ w.cell? ⟨b, k * 5 + 2, none⟩ = some (.int .i64 (Rf k)) ∧ w.cell? ⟨b, k * 5 + 3, none⟩ = some (.bool a) ∧ w.cell? ⟨b, k * 5 + 4, none⟩ = some (us k)
theorem RdR.old {w w' : World} {v : Value} {m : Nat} {N : Int} {a : Bool} {ps : List Int} {Rf : Nat → Int} {us : Nat → Value} (h : RdR w v m N a ps Rf us) (g : Old w w') : RdR w' v m N a ps Rf us := by
  obtain ⟨b, cap, e, hb, hc⟩ := h
  refine ⟨b, cap, e, Nat.lt_of_lt_of_le hb g.size, fun k hk => ?_⟩
  obtain ⟨h0, h1, h2, h3, h4⟩ := hc k hk
  exact ⟨(g.cell (p := ⟨b, k * 5, none⟩) hb).trans h0, (g.cell (p := ⟨b, k * 5 + 1, none⟩) hb).trans h1, (g.cell (p := ⟨b, k * 5 + 2, none⟩) hb).trans h2, (g.cell (p := ⟨b, k * 5 + 3, none⟩) hb).trans h3, (g.cell (p := ⟨b, k * 5 + 4, none⟩) hb).trans h4⟩
theorem RRs.rd {W : World} {g : Nat} {N : Int} {n : Bool} {ps : List Int} {Rf : Nat → Int} {us : Nat → Option Addr} (h : RRs W g N n ps Rf us ps.length) : RdR W (.slice (some ⟨g, 0, none⟩) ps.length ps.length) ps.length N n ps Rf (fun k => .slice (us k) N.toNat N.toNat) :=
  ⟨g, ps.length, rfl, h.lt, fun k hk => h.at k hk hk⟩
theorem Ows.rd {N : Int} {a : Bool} {ps : List Int} {Rf : Nat → Int} {zss : List (List Int)} {m : Nat} {W : World} {lo hi : Nat} {v : Value} (h0 : 0 < m) (h : Ows (TS 82 5 m (elR N a ps Rf zss)) W lo hi [v]) :
    ∃ us : Nat → Value, RdR W v m N a ps Rf us ∧ ∀ k, k < m → Row W (us k) (zss.getD k []) ∧ ∃ x c, us k = .slice x (zss.getD k []).length c := by
  obtain ⟨_, B, hT, _⟩ := h
  rcases hT with ⟨e, _⟩ | ⟨p, cap, vs, Bs, e, hc, _⟩
  · omega
  simp at e
  subst e
  have hx : ∀ k, k < m → ∃ x, cellsJ 5 vs k = [.int .i64 (ps.getD k 0), .int .i64 N, .int .i64 (Rf k), .bool a, x] ∧ TI (zss.getD k []) W (Bs k) [x] := fun k hk => hc.el k hk
  refine ⟨fun k => (cellsJ 5 vs k).getD 4 (.slice none 0 0), ⟨p, cap, rfl, ownsRow_lt hc.row, fun k hk => ?_⟩, fun k hk => ?_⟩
  · obtain ⟨x, e, hE⟩ := hx k hk
    have c0 := hc.cell k 0 hk (by omega)
    have c1 := hc.cell k 1 hk (by omega)
    have c2 := hc.cell k 2 hk (by omega)
    have c3 := hc.cell k 3 hk (by omega)
    have c4 := hc.cell k 4 hk (by omega)
    show _ ∧ _ ∧ _ ∧ _ ∧ W.cell? ⟨p, k * 5 + 4, none⟩ = some ((cellsJ 5 vs k).getD 4 (.slice none 0 0))
    rw [e] at c0 c1 c2 c3 c4 ⊢
    exact ⟨c0, c1, c2, c3, c4⟩
  · obtain ⟨x, e, hE⟩ := hx k hk
    show Row W ((cellsJ 5 vs k).getD 4 (.slice none 0 0)) _ ∧ ∃ y c, (cellsJ 5 vs k).getD 4 (.slice none 0 0) = .slice y _ c
    rw [e]
    exact ⟨hE.row, hE.slice⟩
theorem cells_five {m k : Nat} {vs : List Value} (h : vs.length = m * 5) (hk : k < m) (a b c d e : Value) : cellsJ 5 (((((vs.set (k * 5 + 0) a).set (k * 5 + 1) b).set (k * 5 + 2) c).set (k * 5 + 3) d).set (k * 5 + 4) e) k = [a, b, c, d, e] := by
  have hl := cellsJ_len (n := 5) h k hk
  rw [cellsJ_set 5 _ k 4 k e (by omega), if_pos rfl, cellsJ_set 5 _ k 3 k d (by omega), if_pos rfl, cellsJ_set 5 _ k 2 k c (by omega), if_pos rfl, cellsJ_set 5 _ k 1 k b (by omega), if_pos rfl, cellsJ_set 5 _ k 0 k a (by omega), if_pos rfl]
  match cellsJ 5 vs k, hl with
  | [_, _, _, _, _], _ => rfl
/-- one element of five cells is stored -/
theorem TSc.store5 {T : TypeId} {m k : Nat} {Es : Nat → Thing} {W : World} {p cap : Nat} {vs : List Value} {Bs : Nat → Nat → Prop} {B : Nat → Prop} (g : ∀ j, GoodT (Es j)) (h : TSc T 5 m k Es W p cap vs Bs) (hk : k < m) (a b c d e : Value)
    (he : ∀ W' : World, (∀ b, b ≠ p → W'.heap[b]? = W.heap[b]?) → Es k W' B [a, b, c, d, e]) (hp : ¬ B p) (hd : ∀ j, j < k → ∀ b, Bs j b → B b → False) :
    ∃ vs', TSc T 5 m (k + 1) Es (((((W.setCell ⟨p, k * 5, none⟩ a).setCell ⟨p, k * 5 + 1, none⟩ b).setCell ⟨p, k * 5 + 2, none⟩ c).setCell ⟨p, k * 5 + 3, none⟩ d).setCell ⟨p, k * 5 + 4, none⟩ e) p cap vs' (fun q => if q = k then B else Bs q) := by
  have h1 := h.fill g 0 (by omega) a
  have h2 := h1.fill g 1 (by omega) b
  have h3 := h2.fill g 2 (by omega) c
  have h4 := h3.fill g 3 (by omega) d
  have h5 := h4.fill g 4 (by omega) e
  refine ⟨_, h5.more (B := B) ?_ hp hd⟩
  rw [cells_five h.row.1 hk a b c d e]
  refine he _ (fun b hb => ?_)
  rw [heap_setCell_other _ _ _ _ hb, heap_setCell_other _ _ _ _ hb, heap_setCell_other _ _ _ _ hb, heap_setCell_other _ _ _ _ hb]
  exact heap_setCell_other _ _ _ _ hb
theorem cells_one {m k : Nat} {vs : List Value} (h : vs.length = m * 1) (hk : k < m) (a : Value) : cellsJ 1 (vs.set (k * 1 + 0) a) k = [a] := by
  have hl := cellsJ_len (n := 1) h k hk
  rw [cellsJ_set 1 _ k 0 k a (by omega), if_pos rfl]
  match cellsJ 1 vs k, hl with
  | [_], _ => rfl
/-- one element of one cell is stored -/
theorem TSc.store1 {T : TypeId} {m k : Nat} {Es : Nat → Thing} {W : World} {p cap : Nat} {vs : List Value} {Bs : Nat → Nat → Prop} {B : Nat → Prop} (g : ∀ j, GoodT (Es j)) (h : TSc T 1 m k Es W p cap vs Bs) (hk : k < m) (a : Value)
    (he : ∀ W' : World, (∀ b, b ≠ p → W'.heap[b]? = W.heap[b]?) → Es k W' B [a]) (hp : ¬ B p) (hd : ∀ j, j < k → ∀ b, Bs j b → B b → False) :
    ∃ vs', TSc T 1 m (k + 1) Es (W.setCell ⟨p, k, none⟩ a) p cap vs' (fun q => if q = k then B else Bs q) := by
  have h1 := h.fill g 0 (by omega) a
  rw [Nat.mul_one, Nat.add_zero] at h1
  refine ⟨_, h1.more (B := B) ?_ hp hd⟩
  have := cells_one h.row.1 hk a
  rw [Nat.mul_one, Nat.add_zero] at this
  rw [this]
  exact he _ (fun b hb => heap_setCell_other _ _ _ _ hb)
/-- rows of rows out of things -/
theorem Ows.owS {zss : List (List Int)} {m : Nat} {W : World} {lo hi : Nat} {v : Value} (hz : zss.length = m) (h : Ows (TS 22 1 m (fun k => TI (zss.getD k []))) W lo hi [v]) : OwS zss W lo hi v := by
  obtain ⟨hh, B, hT, hB⟩ := h
  rcases hT with ⟨e, e1, _⟩ | ⟨p, cap, vs, Bs, e, hc, hb⟩
  · simp at e1
    exact ⟨hh, .inl ⟨e1, List.length_eq_zero_iff.1 (hz.trans e)⟩⟩
  simp at e
  subst e
  have hp := hB p ((hb p).2 (.inl rfl))
  have hcap : m ≤ cap := by
    rcases hc.row.2 with ⟨hn, _⟩ | ⟨p', cap', cur, e', _, _, h3, _⟩
    · cases hn
    · simp only [Value.slice.injEq] at e'
      omega
  have hvl : vs.length = m := by have := hc.row.1; omega
  have hcell : ∀ j, j < m → ∃ x, vs[j]? = some x ∧ TI (zss.getD j []) W (Bs j) [x] := fun j hj => by
    have h1 := hc.el j hj
    have h2 := cellsJ_len (n := 1) hc.row.1 j hj
    have h3 := cellsJ_get 1 vs j 0 (by omega)
    rw [Nat.mul_one, Nat.add_zero] at h3
    match hcs : cellsJ 1 vs j, h2 with
    | [x], _ =>
      rw [hcs] at h1 h3
      exact ⟨x, h3.symm, h1⟩
  refine ⟨hh, .inr ⟨p, cap, vs, by rw [hz], by omega, hp.1, hp.2, ?_, by omega, fun j hj => ?_, fun i j x y b hij hx hy hbx hby => ?_⟩⟩
  · rw [hz]
    refine ⟨hc.row.1, ?_⟩
    rcases hc.row.2 with ⟨hn, _⟩ | ⟨p', cap', cur, e', _, rest⟩
    · cases hn
    · simp only [Value.slice.injEq, Option.some.injEq, Addr.mk.injEq, true_and, and_true] at e'
      obtain ⟨rfl, rfl⟩ := e'
      exact .inr ⟨p, cap, cur, rfl, hp.1, rest⟩
  · rw [hz] at hj
    obtain ⟨x, e, hE⟩ := hcell j hj
    obtain ⟨a, c, rfl⟩ := hE.slice
    have hbl := hE.blocks
    have ho := hE.own (lo := lo) (fun b hb' => (hB b ((hb b).2 (.inr ⟨j, hj, hb'⟩))).1)
    refine ⟨a, c, e, ?_, ⟨ho, hh, fun b hb' => (hB b ((hb b).2 (.inr ⟨j, hj, (hbl b).2 hb'⟩))).2⟩, fun b hb' e2 => ?_⟩
    · obtain ⟨a2, c2, e2, _, f2, _⟩ := hE
      simp at e2
      rw [e2.2]
      exact f2
    · subst e2
      exact hc.np j hj ((hbl b).2 hb')
  · have hi' : i < m := by have := (List.getElem?_eq_some_iff.1 hx).1; omega
    have hj' : j < m := by have := (List.getElem?_eq_some_iff.1 hy).1; omega
    obtain ⟨x2, e, hE⟩ := hcell i hi'
    obtain ⟨y2, e2, hE2⟩ := hcell j hj'
    rw [e] at hx
    rw [e2] at hy
    obtain rfl := Option.some.inj hx
    obtain rfl := Option.some.inj hy
    exact hc.dis i j hi' hj' (by omega) b ((hE.blocks b).2 hbx) ((hE2.blocks b).2 hby)
theorem with_any (P N R : Int) (a : Bool) (x y : Option Addr) (n c n' c' : Nat) (w : World) :
    Calls Tryz.prog 69 #[.agg #[.int .i64 P, .int .i64 N, .int .i64 R, .bool a, .slice x n c], .slice y n' c'] w fun e w' => e = .returned (.agg #[.int .i64 P, .int .i64 N, .int .i64 R, .bool a, .slice y n' c']) ∧ Old w w' := by
  go_enter Tryz.func69, Tryz.ntmps69
  go_wp2_with fail
  refine bodyPost_ret (v := .agg #[.int .i64 P, .int .i64 N, .int .i64 R, .bool a, .slice y n' c']) (by simp [results, Tryz.results69, go_sem]) rfl ⟨rfl, ?_⟩
  exact ((Old.refl w).alloc _).alloc _
end Go.Proofs.YtinldhoimnbkhaaGreatDoor
/- Proved: rows of rows that are made whole and filled row by row. -/
namespace Go.Proofs.YtinldhoimnbkhaaGreatDoor
open Go.ChangeShapes Go.WideShapes Go.ChangeAt Go.RowKit
set_option linter.unusedVariables false
set_option linter.unusedSimpArgs false
/-- the first k rows are filled -/
def MkS (zss : List (List Int)) (W : World) (lo p k : Nat) : Prop :=
  ∃ vs : List Value, W.ownsRow lo 22 1 (.slice (some ⟨p, 0, none⟩) zss.length zss.length) zss.length vs ∧ vs.length = zss.length
    ∧ (∀ j, j < k → ∃ a c, vs[j]? = some (.slice a (zss.getD j []).length c) ∧ (zss.getD j []).length ≤ c ∧ Own W lo (.slice a (zss.getD j []).length c) (zss.getD j []) ∧ (∀ b, (Value.slice a (zss.getD j []).length c).ownBlock = some b → b ≠ p))
    ∧ (∀ (i j : Nat) (x y : Value) (b : Nat), i < j → j < k → vs[i]? = some x → vs[j]? = some y → x.ownBlock = some b → y.ownBlock = some b → False)
theorem MkS.start {zss : List (List Int)} {W : World} {lo p : Nat} (h : W.ownsRow lo 22 1 (.slice (some ⟨p, 0, none⟩) zss.length zss.length) zss.length (List.replicate zss.length (Value.slice none 0 0))) : MkS zss W lo p 0 :=
  ⟨_, h, by simp, fun j hj => by omega, fun i j x y b h1 h2 => by omega⟩
theorem MkS.own_old {zss : List (List Int)} {W W' : World} {lo p k : Nat} (h : MkS zss W lo p k) (g : Old W W') : MkS zss W' lo p k := by
  obtain ⟨vs, ho, hl, hj, hd⟩ := h
  refine ⟨vs, ⟨ho.1, ?_⟩, hl, fun j hjk => ?_, hd⟩
  · rcases ho.2 with hn | ⟨q, cap', cur, e, hb', hgg, rest⟩
    · exact .inl hn
    · refine .inr ⟨q, cap', cur, e, hb', ?_, rest⟩
      rw [g.block q (Array.getElem?_eq_some_iff.1 hgg).1]
      exact hgg
  · obtain ⟨a, c, h1, h2, h3, h4⟩ := hj j hjk
    exact ⟨a, c, h1, h2, h3.old g, h4⟩
theorem MkS.cell {zss : List (List Int)} {W : World} {lo p k : Nat} (h : MkS zss W lo p k) (j : Nat) (hj : j < zss.length) : (∃ y, W.cell? ⟨p, j, none⟩ = some y) ∧ W.frozen? ⟨p, j, none⟩ = false := by
  obtain ⟨vs, ho, hl, _, _⟩ := h
  refine ⟨⟨vs[j]'(by omega), ?_⟩, World.ownsRow.frozenAt ho j⟩
  rw [World.ownsRow.cellAt ho j (by omega)]
  exact List.getElem?_eq_getElem _
theorem MkS.step {zss : List (List Int)} {W W' : World} {lo p k g : Nat} {n c : Nat} (h : MkS zss W lo p k) (hk : k < zss.length) (q : Old W W') (hlo : lo ≤ W.heap.size) (hp : p < W.heap.size) (hn : (zss.getD k []).length = n) (hc : n ≤ c) (o : Own W' W.heap.size (.slice (some ⟨g, 0, none⟩) n c) (zss.getD k [])) (hg : W.heap.size ≤ g) :
    MkS zss (W'.setCell ⟨p, k, none⟩ (.slice (some ⟨g, 0, none⟩) n c)) lo p (k + 1) := by
  subst hn
  obtain ⟨vs, ho, hl, hj, hd⟩ := h.own_old q
  obtain ⟨vs0, ho0, hl0, hj0, hd0⟩ := h
  have hbw : ∀ i x b, i < k → vs[i]? = some x → x.ownBlock = some b → b < W.heap.size := fun i x b hi hx hb => by
    have e : vs0 = vs := by
      have e1 := fun i (hi : i < zss.length) => World.ownsRow.cellAt ho0 i (by omega)
      have e2 := fun i (hi : i < zss.length) => World.ownsRow.cellAt ho i (by omega)
      apply List.ext_getElem?
      intro i
      rcases Nat.lt_or_ge i zss.length with h1 | h1
      · rw [← e1 i h1, ← e2 i h1]
        exact (q.cell (p := ⟨p, i, none⟩) hp).symm
      · rw [List.getElem?_eq_none (by omega), List.getElem?_eq_none (by omega)]
    obtain ⟨a, c, h1, h2, h3, h4⟩ := hj0 i hi
    rw [← e, h1] at hx
    obtain rfl := Option.some.inj hx
    exact (h3.lt b hb).2
  refine ⟨vs.set k (.slice (some ⟨g, 0, none⟩) (zss.getD k []).length c), (World.ownsRow.stored ho k _).1, by simp [hl], fun j hjk => ?_, fun i j x y b hij hjk hx hy hbx hby => ?_⟩
  · rcases Nat.lt_or_ge j k with h1 | h1
    · obtain ⟨a, c2, e1, e2, e3, e4⟩ := hj j h1
      refine ⟨a, c2, ?_, e2, ?_, e4⟩
      · rw [List.getElem?_set_ne (by omega)]
        exact e1
      · exact ownsRow_setCell_other e3 (fun e => e4 _ e rfl) _
    · obtain rfl : j = k := by omega
      refine ⟨_, _, by rw [List.getElem?_set_self (by omega)], hc, Own.low (ownsRow_setCell_other o (by simp [Value.ownBlock]; omega) _) hlo, fun b hb => ?_⟩
      simp [Value.ownBlock] at hb
      omega
  · rcases Nat.lt_or_ge j k with h1 | h1
    · rw [List.getElem?_set_ne (by omega)] at hx hy
      exact hd i j x y b hij h1 hx hy hbx hby
    · obtain rfl : j = k := by omega
      rw [List.getElem?_set_ne (by omega)] at hx
      rw [List.getElem?_set_self (by omega)] at hy
      obtain rfl := Option.some.inj hy
      simp [Value.ownBlock] at hby
      have := hbw i x b hij hx hbx
      omega
theorem MkS.done {zss : List (List Int)} {W : World} {lo p : Nat} (h : MkS zss W lo p zss.length) (hlo : lo ≤ p) (hp : p < W.heap.size) : OwS zss W lo W.heap.size (.slice (some ⟨p, 0, none⟩) zss.length zss.length) := by
  obtain ⟨vs, ho, hl, hj, hd⟩ := h
  refine ⟨Nat.le_refl _, Or.inr ⟨p, zss.length, vs, rfl, Nat.le_refl _, hlo, hp, ho, hl, fun j hjl => ?_, fun i j x y b hij hx hy => ?_⟩⟩
  · obtain ⟨a, c, h1, h2, h3, h4⟩ := hj j hjl
    exact ⟨a, c, h1, h2, ⟨h3, Nat.le_refl _, fun b hb => (h3.lt b hb).2⟩, h4⟩
  · have hjl := (List.getElem?_eq_some_iff.1 hy).1
    exact hd i j x y b hij (by omega) hx hy
theorem Row.recap {W : World} {a : Option Addr} {n c c' : Nat} {xs : List Int} (h : Row W (.slice a n c) xs) (h0 : xs ≠ []) : Row W (.slice a n c') xs := by
  rcases h with ⟨_, _, e, e'⟩ | ⟨b, o, cap, e, r⟩
  · exact absurd e' h0
  · simp only [Value.slice.injEq] at e
    obtain ⟨rfl, rfl, rfl⟩ := e
    exact Or.inr ⟨b, o, c', rfl, r⟩
end Go.Proofs.YtinldhoimnbkhaaGreatDoor
/- Proved: rows of rows as a law carries them: marks that are held still. -/
namespace Go.Proofs.YtinldhoimnbkhaaGreatDoor
open Go.ChangeShapes Go.WideShapes Go.ChangeAt Go.RowKit
set_option linter.unusedVariables false
set_option linter.unusedSimpArgs false
set_option maxRecDepth 100000 in
set_option maxHeartbeats 2000000 in
theorem heldIntSS_any (xss : List (List Int)) (v : Value) (k : Int) (lo hi : Nat) (w : World) (hv : OwM k xss w lo hi v) (hl : xss.length ≤ 1048576) (hr : ∀ r ∈ xss, r.length ≤ 1048576) (hk : 0 ≤ k) (hs : k + (offL xss xss.length : Int) ≤ 1073741824) :
    Calls Tryz.prog 67 #[v, .int .i64 k] w fun e w' => e = .returned (.int .i64 (k + offL xss xss.length)) ∧ Old w w' := by
  obtain ⟨a0, cap0, ev⟩ := hv.slice
  subst ev
  obtain ⟨yss, hyl, hym, hyo⟩ := hv
  have HR : Hid (∀ r ∈ xss, r.length ≤ 1048576) := hr
  have HY : Hid (RowS w (.slice a0 xss.length cap0) yss) := hyo.rowS
  have HL : Hid (yss.length = xss.length) := hyl
  have HM : Hid (∀ j, j < xss.length → yss.getD j [] = marks (k + offL xss j) (xss.getD j []).length) := hym
  have HS : Hid (k + (offL xss xss.length : Int) ≤ 1073741824) := hs
  clear hyl hym hyo hr hs
  go_enter Tryz.func67, Tryz.ntmps67
  go_wp2_with fail
  go_loopw [5, 1] (fun i l W => ∃ j : Nat, j ≤ xss.length ∧ i = .int .i64 j ∧ l = .int .i64 (k + offL xss j) ∧ Hid (Old w W)) (fun i _ _ => xss.length - (intOf i).toNat)
  case atStart => exact ⟨0, by omega, rfl, by rw [offL_zero]; simp, Old.refl _⟩
  case round =>
    obtain ⟨j, hj, rfl, rfl, HG⟩ := hrel
    by_cases hlt : j < xss.length
    · have d1 : decide ((j : Int) < (xss.length : Int)) = true := by simp; omega
      rcases HY.out with ⟨a, cap, e, e2⟩ | ⟨b, o, cap, us, e, hb2, h3, hc⟩
      · have := HL.out
        subst e2
        simp at this
        omega
      have hyl := HL.out
      rw [← hyl] at e
      simp only [Value.slice.injEq, true_and] at e
      obtain ⟨rfl, rfl⟩ := e
      obtain ⟨c0, r0⟩ := hc j (by omega)
      have exy := HM.out j hlt
      rw [exy] at r0
      have hm : xss.getD j [] ∈ xss := by simp [List.getD, hlt]
      have hrl := HR.out _ hm
      have hoj := offL_le xss (j + 1)
      have hos := offL_succ xss j hlt
      have hsum := HS.out
      obtain ⟨x1, y1, e1⟩ := r0.slice
      rw [e1] at c0 r0
      have q1 := (HG.out.cell (p := ⟨b, o + j, none⟩) hb2).trans c0
      have R1 : Hid (Row wr (.slice x1 (marks (k + offL xss j) (xss.getD j []).length).length y1) (marks (k + offL xss j) (xss.getD j []).length)) := r0.old HG.out
      have HN4 : Hid (k + (offL xss (j + 1) : Int) = k + (offL xss j : Int) + ((xss.getD j []).length : Int)) := by show _ = _; rw [hos]; omega
      have hkb : 0 ≤ k + (offL xss j : Int) ∧ k + (offL xss j : Int) + ((xss.getD j []).length : Int) ≤ 1073741824 := by omega
      clear hc c0 r0 e1 hm exy hyl h3 hoj hos hsum
      generalize hnn : (offL xss (j + 1)) = nxt at *
      generalize (offL xss j : Nat) = off at *
      generalize (xss.getD j []).length = n at *
      rw [marks_len] at *
      have cm := fun W h => heldInts_yes n (.slice x1 n y1) (k + off) W h (by omega) (by omega) (by omega)
      have d2 : decide (k + (off : Int) + (n : Int) < 0) = false := by simp; omega
      go_wp2_with fail
      refine (cm _ R1.out).mono ?_
      rintro e w2 ⟨rfl, g2⟩
      have N2 : Hid (Old w w2) := Old.trans HG.out g2
      clear g2 cm
      go_wp2_with fail
      refine ⟨⟨j + 1, by omega, by go_num, ?_, N2⟩, by simp [intOf]; omega⟩
      rw [hnn, HN4.out]
    · have d1 : decide ((j : Int) < (xss.length : Int)) = false := by simp; omega
      obtain rfl : j = xss.length := by omega
      go_wp2_with fail
      go_ret
      exact ⟨rfl, HG.out⟩
theorem offL_bd : ∀ (xss : List (List Int)) (m : Nat), (∀ r ∈ xss, r.length ≤ m) → offL xss xss.length ≤ xss.length * m
  | [], m, h => by simp [offL]
  | r :: rs, m, h => by
    have h1 := offL_bd rs m (fun r hr => h r (List.mem_cons_of_mem _ hr))
    have h2 := h r (List.mem_cons_self ..)
    show r.length + offL rs rs.length ≤ (rs.length + 1) * m
    rw [Nat.add_mul]
    omega
end Go.Proofs.YtinldhoimnbkhaaGreatDoor
