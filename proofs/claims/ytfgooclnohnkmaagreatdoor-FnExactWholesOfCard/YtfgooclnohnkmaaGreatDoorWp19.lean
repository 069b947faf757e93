/- Proved: several texts in one: what each proves is said ahead of it. -/
import Derived.Test.YtfgooclnohnkmaaGreatDoorWp18
import Derived.Test.YtfgooclnohnkmaaGreatDoorWp11
import Derived.Test.YtfgooclnohnkmaaGreatDoorWp17
import Derived.Test.YtfgooclnohnkmaaGreatDoorWp16
import Derived.Test.YtfgooclnohnkmaaGreatDoorWp06
import Derived.Test.YtfgooclnohnkmaaGreatDoorWp15
import Derived.Test.YtfgooclnohnkmaaGreatDoorWp04
import Derived.Deep.RegionHeld3
/- Proved: a row copied by the program, and its changes madeAhead and madeBack. -/
namespace Go.Proofs.YtfgooclnohnkmaaGreatDoor
open Go.ChangeShapes Go.WideShapes Go.ChangeAt Go.RowKit
set_option linter.unusedVariables false
set_option linter.unusedSimpArgs false
theorem own_some {W : World} {base : Nat} {v : Value} {zs : List Int} (h : Own W base v zs) (h0 : 0 < zs.length) : ∃ g rc, v = .slice (some ⟨g, 0, none⟩) zs.length rc ∧ zs.length ≤ rc := by
  rcases h.2 with ⟨e, hn⟩ | ⟨_, _, _, e, _, _, hn, _⟩
  · omega
  · exact ⟨_, _, e, hn⟩
set_option maxRecDepth 100000 in
set_option maxHeartbeats 4000000 in
theorem impl_copied (p r : Int) (n : Bool) (Nn : Nat) (zs : List Int) (ua : Option Addr) (w : World) (hv : Row w (.slice ua Nn Nn) zs) (hN : 2 ≤ Nn ∧ Nn ≤ 16) (la : zs.length = Nn) :
    Calls Tryz.prog 190 #[.agg #[.int .i64 p, .int .i64 Nn, .int .i64 r, .bool n, .slice ua Nn Nn]] w fun e w' => ∃ g cp, e = .returned (.slice (some ⟨g, 0, none⟩) Nn cp) ∧ Nn ≤ cp ∧ Old w w' ∧ Own w' w.heap.size (.slice (some ⟨g, 0, none⟩) Nn cp) zs := by
  obtain ⟨i0, hi, hz0, hz1, hz2⟩ := info_parts Tryz.infoInt
  rcases hv with ⟨_, _, e, e'⟩ | ⟨b1, o1, cap1, e, hb1, h01, hc1⟩
  · subst e'
    simp at la
    omega
  simp only [Value.slice.injEq] at e
  obtain ⟨rfl, e7, e8⟩ := e
  have HC1 : Hid (∀ j, j < Nn → w.cell? ⟨b1, o1 + j, none⟩ = some (.int .i64 (zs.getD j 0))) := fun j hj => hc1 j (by omega)
  clear hc1 e7 e8 h01
  obtain ⟨wB, hwB⟩ : ∃ wB, wB = w.alloc (.cells #[.int .i64 p, .int .i64 Nn, .int .i64 r, .bool n, .slice (some ⟨b1, o1, none⟩) Nn Nn] 153) := ⟨_, rfl⟩
  have HWB : Hid (Old w wB) := by rw [hwB]; exact (Old.refl w).alloc _
  have HB : Hid (∀ W', Old wB W' → (W'.cell? ⟨w.heap.size, 1, none⟩ = some (.int .i64 Nn) ∧ W'.cell? ⟨w.heap.size, 4, none⟩ = some (.slice (some ⟨b1, o1, none⟩) Nn Nn))) := fun W' g => by
    rw [hwB] at g
    exact ⟨(g.cell (p := ⟨w.heap.size, 1, none⟩) (by simp)).trans (cell_at _ _ _ _ _ rfl), (g.cell (p := ⟨w.heap.size, 4, none⟩) (by simp)).trans (cell_at _ _ _ _ _ rfl)⟩
  have HSZ : wB.heap.size = w.heap.size + 1 := by rw [hwB]; simp
  go_enter Tryz.func190, Tryz.ntmps190
  go_wp2_with (first
    | (at_make; rw [← hwB]; refine wpList_make_full _ rfl _ _ 23 rfl wB.heap.size 3 i0 (.int .i64 0) 1 Tryz.underlying23 hi hz0 hz1 .i64 .i64 _ _ Nn rfl rfl rfl rfl (by rw [hz2]; omega) (by unfold maxLen; omega) (Nat.le_refl _) ?_; intro w1 hown hgrow; have HO1 : Hid (OwnI w1 (w.heap.size + 1) (w.heap.size + 1) Nn (List.replicate Nn 0)) := (by rw [made_ints, HSZ] at hown; exact hown); have HG1 : Hid (Old wB w1) := Old.by_ (Old.refl _) hgrow (fun b hb => by cases hb); have z4 := (HB.out w1 HG1.out).2; rw [HSZ]; clear hown hgrow)
    | ((with_reducible refine copy_row (w.heap.size + 1) (w.heap.size + 1) Nn b1 o1 Nn (List.replicate Nn 0) zs ?_ ?_ HO1.out ?_ la ?_ ?_); exact rfl; exact rfl; (simp); (intro j hj; exact ((Old.trans HWB.out HG1.out).cell (p := ⟨b1, o1 + j, none⟩) hb1).trans (HC1.out j hj)); intro w2 ho2 hbe2; have HO2 : Hid (OwnI w2 (w.heap.size + 1) (w.heap.size + 1) Nn zs) := ho2; have HG2 : Hid (Old w w2) := Old.trans HWB.out (Below.trans HG1.out (hbe2.mono (by rw [HSZ]; omega))); clear ho2 hbe2))
  go_ret
  exact ⟨_, _, rfl, Nat.le_refl _, HG2.out, (HO2.out.own la).low (by omega)⟩
set_option maxRecDepth 100000 in
set_option maxHeartbeats 4000000 in
theorem impl_madeBack_c (p r : Int) (Nn : Nat) (zs : List Int) (ua : Option Addr) (w : World) (KC : ∀ W, Old w W → Calls Tryz.prog 190 #[.agg #[.int .i64 p, .int .i64 Nn, .int .i64 r, .bool false, .slice ua Nn Nn]] W fun e w' => ∃ g cp, e = .returned (.slice (some ⟨g, 0, none⟩) Nn cp) ∧ Nn ≤ cp ∧ Old W w' ∧ Own w' W.heap.size (.slice (some ⟨g, 0, none⟩) Nn cp) zs) :
    Calls Tryz.prog 157 #[.agg #[.int .i64 p, .int .i64 Nn, .int .i64 r, .bool false, .slice ua Nn Nn]] w fun e w' => ∃ g cp, e = .returned (.slice (some ⟨g, 0, none⟩) Nn cp) ∧ Nn ≤ cp ∧ Old w w' ∧ Own w' w.heap.size (.slice (some ⟨g, 0, none⟩) Nn cp) zs := by
  obtain ⟨wB, hwB⟩ : ∃ wB, wB = w.alloc (.cells #[.int .i64 p, .int .i64 Nn, .int .i64 r, .bool false, .slice ua Nn Nn] 153) := ⟨_, rfl⟩
  have HWB : Hid (Old w wB) := by rw [hwB]; exact (Old.refl w).alloc _
  have kc := KC wB HWB.out
  clear KC
  go_enter Tryz.func157, Tryz.ntmps157
  go_wp2_with fail
  rw [← hwB]
  refine kc.mono ?_
  rintro e w2 ⟨g, cp, rfl, hcp, g2, o2⟩
  have HG2 : Hid (Old w w2) := Old.trans HWB.out g2
  have HO2 : Hid (Own w2 w.heap.size (.slice (some ⟨g, 0, none⟩) Nn cp) zs) := o2.low HWB.out.size
  clear g2 o2
  go_wp2_with fail
  go_ret
  exact ⟨g, cp, rfl, hcp, HG2.out, HO2.out⟩
set_option maxRecDepth 100000 in
set_option maxHeartbeats 4000000 in
theorem impl_madeBack_t (p r : Int) (Nn : Nat) (zs : List Int) (ua : Option Addr) (w : World) (KC : ∀ W, Old w W → Calls Tryz.prog 189 #[.agg #[.int .i64 p, .int .i64 Nn, .int .i64 r], .slice ua Nn Nn] W fun e w' => ∃ v', e = .returned v' ∧ Old W w' ∧ Own w' W.heap.size v' zs) (hz : zs.length = Nn) (h0 : 0 < Nn) :
    Calls Tryz.prog 157 #[.agg #[.int .i64 p, .int .i64 Nn, .int .i64 r, .bool true, .slice ua Nn Nn]] w fun e w' => ∃ g cp, e = .returned (.slice (some ⟨g, 0, none⟩) Nn cp) ∧ Nn ≤ cp ∧ Old w w' ∧ Own w' w.heap.size (.slice (some ⟨g, 0, none⟩) Nn cp) zs := by
  obtain ⟨wB, hwB⟩ : ∃ wB, wB = w.alloc (.cells #[.int .i64 p, .int .i64 Nn, .int .i64 r, .bool true, .slice ua Nn Nn] 153) := ⟨_, rfl⟩
  have HWB : Hid (Old w wB) := by rw [hwB]; exact (Old.refl w).alloc _
  have kc := KC wB HWB.out
  clear KC
  go_enter Tryz.func157, Tryz.ntmps157
  go_wp2_with fail
  rw [← hwB]
  refine kc.mono ?_
  rintro e w2 ⟨v2, rfl, g2, o2⟩
  have HG2 : Hid (Old w w2) := Old.trans HWB.out g2
  obtain ⟨g, cp, e2, hcp⟩ := own_some o2 (by omega)
  rw [hz] at e2 hcp
  subst e2
  have HO2 : Hid (Own w2 w.heap.size (.slice (some ⟨g, 0, none⟩) Nn cp) zs) := o2.low HWB.out.size
  clear g2 o2
  go_wp2_with fail
  go_ret
  exact ⟨g, cp, rfl, hcp, HG2.out, HO2.out⟩
end Go.Proofs.YtfgooclnohnkmaaGreatDoor
/- Proved: rows beside their rings as things; rows of rows out of things; contracts of with and numbersOf. -/
namespace Go.Proofs.YtfgooclnohnkmaaGreatDoor
open Go.ChangeShapes Go.WideShapes Go.ChangeAt Go.RowKit
set_option linter.unusedVariables false
set_option linter.unusedSimpArgs false
/-- a thing beside its ring -/
def TR (P N R : Int) (a : Bool) (E : Thing) : Thing := fun W B cs => ∃ x, cs = [.int .i64 P, .int .i64 N, .int .i64 R, .bool a, x] ∧ E W B [x]
theorem good_TR (P N R : Int) (a : Bool) {E : Thing} (g : GoodT E) : GoodT (TR P N R a E) := by
  constructor
  · rintro W W' B cs ⟨x, e, h⟩ hf
    exact ⟨x, e, g.far h hf⟩
  · rintro W B cs ⟨x, e, h⟩ b hb
    exact g.lt h b hb
abbrev elR (N : Int) (a : Bool) (ps : List Int) (Rf : Nat → Int) (zss : List (List Int)) : Nat → Thing := fun k => TR (ps.getD k 0) N (Rf k) a (TI (zss.getD k []))
theorem good_elR (N : Int) (a : Bool) (ps : List Int) (Rf : Nat → Int) (zss : List (List Int)) (k : Nat) : GoodT (elR N a ps Rf zss k) := good_TR _ _ _ _ (good_TI _)
/-- rows beside their rings can be read at v: the rows themselves where us says -/
def RdR (w : World) (v : Value) (m : Nat) (N : Int) (a : Bool) (ps : List Int) (Rf : Nat → Int) (us : Nat → Value) : Prop :=
  ∃ b cap, v = .slice (some ⟨b, 0, none⟩) m cap ∧ b < w.heap.size ∧ ∀ k, k < m → w.cell? ⟨b, k * 5, none⟩ = some (.int .i64 (ps.getD k 0)) ∧ w.cell? ⟨b, k * 5 + 1, none⟩ = some (.int .i64 N) ∧ w.cell? ⟨b, k * 5 + 2, none⟩ = some (.int .i64 (Rf k)) ∧ w.cell? ⟨b, k * 5 + 3, none⟩ = some (.bool a) ∧ w.cell? ⟨b, k * 5 + 4, none⟩ = some (us k)
theorem RdR.old {w w' : World} {v : Value} {m : Nat} {N : Int} {a : Bool} {ps : List Int} {Rf : Nat → Int} {us : Nat → Value} (h : RdR w v m N a ps Rf us) (g : Old w w') : RdR w' v m N a ps Rf us := by
  obtain ⟨b, cap, e, hb, hc⟩ := h
  refine ⟨b, cap, e, Nat.lt_of_lt_of_le hb g.size, fun k hk => ?_⟩
  obtain ⟨h0, h1, h2, h3, h4⟩ := hc k hk
  exact ⟨(g.cell (p := ⟨b, k * 5, none⟩) hb).trans h0, (g.cell (p := ⟨b, k * 5 + 1, none⟩) hb).trans h1, (g.cell (p := ⟨b, k * 5 + 2, none⟩) hb).trans h2, (g.cell (p := ⟨b, k * 5 + 3, none⟩) hb).trans h3, (g.cell (p := ⟨b, k * 5 + 4, none⟩) hb).trans h4⟩
theorem RRs.rd {W : World} {g : Nat} {N : Int} {n : Bool} {ps : List Int} {Rf : Nat → Int} {us : Nat → Option Addr} (h : RRs W g N n ps Rf us ps.length) : RdR W (.slice (some ⟨g, 0, none⟩) ps.length ps.length) ps.length N n ps Rf (fun k => .slice (us k) N.toNat N.toNat) :=
  ⟨g, ps.length, rfl, h.lt, fun k hk => h.at k hk hk⟩
theorem Ows.rd {N : Int} {a : Bool} {ps : List Int} {Rf : Nat → Int} {zss : List (List Int)} {m : Nat} {W : World} {lo hi : Nat} {v : Value} (h0 : 0 < m) (h : Ows (TS 153 5 m (elR N a ps Rf zss)) W lo hi [v]) :
    ∃ us : Nat → Value, RdR W v m N a ps Rf us ∧ ∀ k, k < m → Row W (us k) (zss.getD k []) ∧ ∃ x c, us k = .slice x (zss.getD k []).length c := by
  obtain ⟨_, B, hT, _⟩ := h
  rcases hT with ⟨e, _⟩ | ⟨p, cap, vs, Bs, e, hc, _⟩
  · omega
  simp at e
  subst e
  have hx : ∀ k, k < m → ∃ x, cellsJ 5 vs k = [.int .i64 (ps.getD k 0), .int .i64 N, .int .i64 (Rf k), .bool a, x] ∧ TI (zss.getD k []) W (Bs k) [x] := fun k hk => hc.el k hk
  refine ⟨fun k => (cellsJ 5 vs k).getD 4 (.slice none 0 0), ⟨p, cap, rfl, ownsRow_lt hc.row, fun k hk => ?_⟩, fun k hk => ?_⟩
  · obtain ⟨x, e, hE⟩ := hx k hk
    have c0 := hc.cell k 0 hk (by omega)
    have c1 := hc.cell k 1 hk (by omega)
    have c2 := hc.cell k 2 hk (by omega)
    have c3 := hc.cell k 3 hk (by omega)
    have c4 := hc.cell k 4 hk (by omega)
    show _ ∧ _ ∧ _ ∧ _ ∧ W.cell? ⟨p, k * 5 + 4, none⟩ = some ((cellsJ 5 vs k).getD 4 (.slice none 0 0))
    rw [e] at c0 c1 c2 c3 c4 ⊢
    exact ⟨c0, c1, c2, c3, c4⟩
  · obtain ⟨x, e, hE⟩ := hx k hk
    show Row W ((cellsJ 5 vs k).getD 4 (.slice none 0 0)) _ ∧ ∃ y c, (cellsJ 5 vs k).getD 4 (.slice none 0 0) = .slice y _ c
    rw [e]
    exact ⟨hE.row, hE.slice⟩
theorem cells_five {m k : Nat} {vs : List Value} (h : vs.length = m * 5) (hk : k < m) (a b c d e : Value) : cellsJ 5 (((((vs.set (k * 5 + 0) a).set (k * 5 + 1) b).set (k * 5 + 2) c).set (k * 5 + 3) d).set (k * 5 + 4) e) k = [a, b, c, d, e] := by
  have hl := cellsJ_len (n := 5) h k hk
  rw [cellsJ_set 5 _ k 4 k e (by omega), if_pos rfl, cellsJ_set 5 _ k 3 k d (by omega), if_pos rfl, cellsJ_set 5 _ k 2 k c (by omega), if_pos rfl, cellsJ_set 5 _ k 1 k b (by omega), if_pos rfl, cellsJ_set 5 _ k 0 k a (by omega), if_pos rfl]
  match cellsJ 5 vs k, hl with
  | [_, _, _, _, _], _ => rfl
/-- one element of five cells is stored -/
theorem TSc.store5 {T : TypeId} {m k : Nat} {Es : Nat → Thing} {W : World} {p cap : Nat} {vs : List Value} {Bs : Nat → Nat → Prop} {B : Nat → Prop} (g : ∀ j, GoodT (Es j)) (h : TSc T 5 m k Es W p cap vs Bs) (hk : k < m) (a b c d e : Value)
    (he : ∀ W' : World, (∀ b, b ≠ p → W'.heap[b]? = W.heap[b]?) → Es k W' B [a, b, c, d, e]) (hp : ¬ B p) (hd : ∀ j, j < k → ∀ b, Bs j b → B b → False) :
    ∃ vs', TSc T 5 m (k + 1) Es (((((W.setCell ⟨p, k * 5, none⟩ a).setCell ⟨p, k * 5 + 1, none⟩ b).setCell ⟨p, k * 5 + 2, none⟩ c).setCell ⟨p, k * 5 + 3, none⟩ d).setCell ⟨p, k * 5 + 4, none⟩ e) p cap vs' (fun q => if q = k then B else Bs q) := by
  have h1 := h.fill g 0 (by omega) a
  have h2 := h1.fill g 1 (by omega) b
  have h3 := h2.fill g 2 (by omega) c
  have h4 := h3.fill g 3 (by omega) d
  have h5 := h4.fill g 4 (by omega) e
  refine ⟨_, h5.more (B := B) ?_ hp hd⟩
  rw [cells_five h.row.1 hk a b c d e]
  refine he _ (fun b hb => ?_)
  rw [heap_setCell_other _ _ _ _ hb, heap_setCell_other _ _ _ _ hb, heap_setCell_other _ _ _ _ hb, heap_setCell_other _ _ _ _ hb]
  exact heap_setCell_other _ _ _ _ hb
theorem cells_one {m k : Nat} {vs : List Value} (h : vs.length = m * 1) (hk : k < m) (a : Value) : cellsJ 1 (vs.set (k * 1 + 0) a) k = [a] := by
  have hl := cellsJ_len (n := 1) h k hk
  rw [cellsJ_set 1 _ k 0 k a (by omega), if_pos rfl]
  match cellsJ 1 vs k, hl with
  | [_], _ => rfl
/-- one element of one cell is stored -/
theorem TSc.store1 {T : TypeId} {m k : Nat} {Es : Nat → Thing} {W : World} {p cap : Nat} {vs : List Value} {Bs : Nat → Nat → Prop} {B : Nat → Prop} (g : ∀ j, GoodT (Es j)) (h : TSc T 1 m k Es W p cap vs Bs) (hk : k < m) (a : Value)
    (he : ∀ W' : World, (∀ b, b ≠ p → W'.heap[b]? = W.heap[b]?) → Es k W' B [a]) (hp : ¬ B p) (hd : ∀ j, j < k → ∀ b, Bs j b → B b → False) :
    ∃ vs', TSc T 1 m (k + 1) Es (W.setCell ⟨p, k, none⟩ a) p cap vs' (fun q => if q = k then B else Bs q) := by
  have h1 := h.fill g 0 (by omega) a
  rw [Nat.mul_one, Nat.add_zero] at h1
  refine ⟨_, h1.more (B := B) ?_ hp hd⟩
  have := cells_one h.row.1 hk a
  rw [Nat.mul_one, Nat.add_zero] at this
  rw [this]
  exact he _ (fun b hb => heap_setCell_other _ _ _ _ hb)
/-- rows of rows out of things -/
theorem Ows.owS {zss : List (List Int)} {m : Nat} {W : World} {lo hi : Nat} {v : Value} (hz : zss.length = m) (h : Ows (TS 23 1 m (fun k => TI (zss.getD k []))) W lo hi [v]) : OwS zss W lo hi v := by
  obtain ⟨hh, B, hT, hB⟩ := h
  rcases hT with ⟨e, e1, _⟩ | ⟨p, cap, vs, Bs, e, hc, hb⟩
  · simp at e1
    exact ⟨hh, .inl ⟨e1, List.length_eq_zero_iff.1 (hz.trans e)⟩⟩
  simp at e
  subst e
  have hp := hB p ((hb p).2 (.inl rfl))
  have hcap : m ≤ cap := by
    rcases hc.row.2 with ⟨hn, _⟩ | ⟨p', cap', cur, e', _, _, h3, _⟩
    · cases hn
    · simp only [Value.slice.injEq] at e'
      omega
  have hvl : vs.length = m := by have := hc.row.1; omega
  have hcell : ∀ j, j < m → ∃ x, vs[j]? = some x ∧ TI (zss.getD j []) W (Bs j) [x] := fun j hj => by
    have h1 := hc.el j hj
    have h2 := cellsJ_len (n := 1) hc.row.1 j hj
    have h3 := cellsJ_get 1 vs j 0 (by omega)
    rw [Nat.mul_one, Nat.add_zero] at h3
    match hcs : cellsJ 1 vs j, h2 with
    | [x], _ =>
      rw [hcs] at h1 h3
      exact ⟨x, h3.symm, h1⟩
  refine ⟨hh, .inr ⟨p, cap, vs, by rw [hz], by omega, hp.1, hp.2, ?_, by omega, fun j hj => ?_, fun i j x y b hij hx hy hbx hby => ?_⟩⟩
  · rw [hz]
    refine ⟨hc.row.1, ?_⟩
    rcases hc.row.2 with ⟨hn, _⟩ | ⟨p', cap', cur, e', _, rest⟩
    · cases hn
    · simp only [Value.slice.injEq, Option.some.injEq, Addr.mk.injEq, true_and, and_true] at e'
      obtain ⟨rfl, rfl⟩ := e'
      exact .inr ⟨p, cap, cur, rfl, hp.1, rest⟩
  · rw [hz] at hj
    obtain ⟨x, e, hE⟩ := hcell j hj
    obtain ⟨a, c, rfl⟩ := hE.slice
    have hbl := hE.blocks
    have ho := hE.own (lo := lo) (fun b hb' => (hB b ((hb b).2 (.inr ⟨j, hj, hb'⟩))).1)
    refine ⟨a, c, e, ?_, ⟨ho, hh, fun b hb' => (hB b ((hb b).2 (.inr ⟨j, hj, (hbl b).2 hb'⟩))).2⟩, fun b hb' e2 => ?_⟩
    · obtain ⟨a2, c2, e2, _, f2, _⟩ := hE
      simp at e2
      rw [e2.2]
      exact f2
    · subst e2
      exact hc.np j hj ((hbl b).2 hb')
  · have hi' : i < m := by have := (List.getElem?_eq_some_iff.1 hx).1; omega
    have hj' : j < m := by have := (List.getElem?_eq_some_iff.1 hy).1; omega
    obtain ⟨x2, e, hE⟩ := hcell i hi'
    obtain ⟨y2, e2, hE2⟩ := hcell j hj'
    rw [e] at hx
    rw [e2] at hy
    obtain rfl := Option.some.inj hx
    obtain rfl := Option.some.inj hy
    exact hc.dis i j hi' hj' (by omega) b ((hE.blocks b).2 hbx) ((hE2.blocks b).2 hby)
theorem with_any (P N R : Int) (a : Bool) (x y : Option Addr) (n c n' c' : Nat) (w : World) :
    Calls Tryz.prog 164 #[.agg #[.int .i64 P, .int .i64 N, .int .i64 R, .bool a, .slice x n c], .slice y n' c'] w fun e w' => e = .returned (.agg #[.int .i64 P, .int .i64 N, .int .i64 R, .bool a, .slice y n' c']) ∧ Old w w' := by
  go_enter Tryz.func164, Tryz.ntmps164
  go_wp2_with fail
  refine bodyPost_ret (v := .agg #[.int .i64 P, .int .i64 N, .int .i64 R, .bool a, .slice y n' c']) (by simp [results, Tryz.results164, go_sem]) rfl ⟨rfl, ?_⟩
  exact ((Old.refl w).alloc _).alloc _
set_option maxRecDepth 100000 in
set_option maxHeartbeats 4000000 in
theorem numbersOf_any (N : Int) (a : Bool) (ps : List Int) (Rf : Nat → Int) (zss : List (List Int)) (m lo : Nat) (v : Value) (w : World) (hm : 1 ≤ m ∧ m ≤ 1000) (hz : zss.length = m) (h : Ows (TS 153 5 m (elR N a ps Rf zss)) w lo w.heap.size [v]) (hlo : lo ≤ w.heap.size) :
    Calls Tryz.prog 111 #[v] w fun e w' => e = .returned (.slice (some ⟨w.heap.size, 0, none⟩) m m) ∧ Old w w' ∧ OwS zss w' lo w'.heap.size (.slice (some ⟨w.heap.size, 0, none⟩) m m) := by
  obtain ⟨j0, ji, jz0, jz1, jz2⟩ := info_parts Tryz.infoInts
  obtain ⟨_, B, hT, hB⟩ := h
  rcases hT with ⟨e, _⟩ | ⟨p, cap, vs0, Bs, e, hc, hb⟩
  · omega
  simp at e
  subst e
  have HC : Hid (∀ k, k < m → ∃ x y c, (w.cell? ⟨p, k * 5, none⟩ = some (.int .i64 (ps.getD k 0)) ∧ w.cell? ⟨p, k * 5 + 1, none⟩ = some (.int .i64 N) ∧ w.cell? ⟨p, k * 5 + 2, none⟩ = some (.int .i64 (Rf k)) ∧ w.cell? ⟨p, k * 5 + 3, none⟩ = some (.bool a) ∧ w.cell? ⟨p, k * 5 + 4, none⟩ = some x) ∧ x = .slice y (zss.getD k []).length c ∧ TI (zss.getD k []) w (Bs k) [x]) := fun k hk => by
    obtain ⟨x, e, hE⟩ := hc.el k hk
    obtain ⟨y, c, ex⟩ := hE.slice
    have c0 := hc.cell k 0 hk (by omega)
    have c1 := hc.cell k 1 hk (by omega)
    have c2 := hc.cell k 2 hk (by omega)
    have c3 := hc.cell k 3 hk (by omega)
    have c4 := hc.cell k 4 hk (by omega)
    rw [e] at c0 c1 c2 c3 c4
    exact ⟨x, y, c, ⟨c0, c1, c2, c3, c4⟩, ex, hE⟩
  have hpl : p < w.heap.size := ownsRow_lt hc.row
  have HBL : Hid (∀ k b, k < m → Bs k b → lo ≤ b ∧ b < w.heap.size) := fun k b hk h => hB b ((hb b).2 (.inr ⟨k, hk, h⟩))
  have HDI : Hid (∀ i j, i < m → j < m → i ≠ j → ∀ b, Bs i b → Bs j b → False) := hc.dis
  have HFI : Hid (∀ w' v, Ows (TS 23 1 m (fun k => TI (zss.getD k []))) w' lo w'.heap.size [v] → OwS zss w' lo w'.heap.size v) := fun w' v h => h.owS hz
  clear hc hb hB hz
  go_enter Tryz.func111, Tryz.ntmps111
  go_wp2_with (at_make; refine wpList_make_full _ rfl _ _ 48 rfl 0 23 j0 (.slice none 0 0) 1 Tryz.underlying48 ji jz0 jz1 .i64 .i64 _ _ m rfl rfl rfl rfl (by rw [jz2]; omega) (by unfold maxLen; omega) (Nat.zero_le _) ?_; intro w1 hown hgrow)
  have HO : Hid (TSc 23 1 m 0 (fun k => TI (zss.getD k [])) w1 w.heap.size m _ (fun _ _ => False)) := TSc.start hown
  have HG : Hid (Old w w1) := Below.grown (Below.refl _ _) hgrow (Nat.le_refl _) (fun _ h => by cases h)
  clear hown hgrow
  go_loopw [11, 4, 5] (fun i _ _ W => ∃ (k : Nat) (vs : List Value) (Ds : Nat → Nat → Prop), k ≤ m ∧ i = .int .i64 k ∧ Hid (TSc 23 1 m k (fun k => TI (zss.getD k [])) W w.heap.size m vs Ds) ∧ Hid (∀ j, j < k → Ds j = Bs j) ∧ Hid (Old w W)) (fun i _ _ _ => m - (intOf i).toNat)
  case atStart => exact ⟨0, _, _, by omega, rfl, HO, (fun j hj => by omega), HG⟩
  case round =>
    obtain ⟨k, vs, Ds, hk, rfl, H1, HD, HG1⟩ := hrel
    clear HO HG
    by_cases hlt : k < m
    · have d1 : decide ((k : Int) < (m : Int)) = true := by simp; omega
      obtain ⟨x, y, c, ⟨c0, c1, c2, c3, c4⟩, rfl, hE⟩ := HC.out k hlt
      have q0 := (HG1.out.cell (p := ⟨p, k * 5, none⟩) hpl).trans c0
      have q1 := (HG1.out.cell (p := ⟨p, k * 5 + 1, none⟩) hpl).trans c1
      have q2 := (HG1.out.cell (p := ⟨p, k * 5 + 2, none⟩) hpl).trans c2
      have q3 := (HG1.out.cell (p := ⟨p, k * 5 + 3, none⟩) hpl).trans c3
      have q4 := (HG1.out.cell (p := ⟨p, k * 5 + 4, none⟩) hpl).trans c4
      have hsr : w.heap.size < wr.heap.size := ownsRow_lt H1.out.row
      have hE1 : TI (zss.getD k []) wr (Bs k) [.slice y (zss.getD k []).length c] := (good_TI _).far hE (fun b hb => HG1.out.block b (HBL.out k b hlt hb).2)
      have hst : ∃ vs', TSc 23 1 m (k + 1) (fun k => TI (zss.getD k [])) (wr.setCell ⟨w.heap.size, k, none⟩ (.slice y (zss.getD k []).length c)) w.heap.size m vs' (fun q => if q = k then Bs k else Ds q) :=
        H1.out.store1 (fun j => good_TI _) hlt _ (B := Bs k) (fun W' hW' => (good_TI _).far hE1 (fun b hb => hW' b (by have := (HBL.out k b hlt hb).2; omega))) (fun hb => by have := (HBL.out k _ hlt hb).2; omega) (fun j hj b h1 h2 => by
          rw [HD.out j hj] at h1
          exact HDI.out j k (by omega) hlt (by omega) b h1 h2)
      obtain ⟨vs', hst⟩ := hst
      have HST : Hid (∀ o : Obj, TSc 23 1 m (k + 1) (fun k => TI (zss.getD k [])) ((wr.setCell ⟨w.heap.size, k, none⟩ (.slice y (zss.getD k []).length c)).alloc o) w.heap.size m vs' (fun q => if q = k then Bs k else Ds q)) := fun o => hst.old (fun j => by
        by_cases e : j = k
        · exact good_TI _
        · exact good_TI _) ((Old.refl _).alloc o)
      have HND : Hid (∀ j, j < k + 1 → (fun q => if q = k then Bs k else Ds q) j = Bs j) := fun j hj => by
        by_cases e : j = k
        · simp only [e, if_true]
        · simp only [e, if_false]
          exact HD.out j (by omega)
      obtain ⟨z, hz⟩ : ∃ z, wr.cell? ⟨w.heap.size, k, none⟩ = some z := by
        have h5 := H1.out.cell k 0 hlt (by omega)
        rw [Nat.mul_one, Nat.add_zero] at h5
        have h6 := cellsJ_len H1.out.row.1 k hlt
        exact ⟨_, h5.trans (List.getElem?_eq_getElem (by omega))⟩
      have hfz : wr.frozen? ⟨w.heap.size, k, none⟩ = false := H1.out.frozen _
      clear c0 c1 c2 c3 c4 hE hE1 hst H1 HD
      generalize ps.getD k 0 = P at *
      generalize Rf k = R at *
      obtain ⟨n, hn⟩ : ∃ n, (zss.getD k []).length = n := ⟨_, rfl⟩
      rw [hn] at HST q4
      clear hn
      have HN : Hid (TSc 23 1 m (k + 1) (fun k => TI (zss.getD k [])) ((wr.setCell ⟨w.heap.size, k, none⟩ (.slice y n c)).alloc (.cells #[.int .i64 P, .int .i64 N, .int .i64 R, .bool a, .slice y n c] 153)) w.heap.size m vs' (fun q => if q = k then Bs k else Ds q)) := HST.out _
      have HG2 : Hid (Old w ((wr.setCell ⟨w.heap.size, k, none⟩ (.slice y n c)).alloc (.cells #[.int .i64 P, .int .i64 N, .int .i64 R, .bool a, .slice y n c] 153))) := (HG1.out.own (p := ⟨w.heap.size, k, none⟩) (Nat.le_refl _) _).alloc _
      clear HST
      go_wp2_with fail
      exact ⟨⟨k + 1, vs', _, by omega, by go_num, HN, HND, HG2⟩, by simp [intOf]; omega⟩
    · have d1 : decide ((k : Int) < (m : Int)) = false := by simp; omega
      obtain rfl : k = m := by omega
      have HE : Hid (OwS zss wr lo wr.heap.size (.slice (some ⟨w.heap.size, 0, none⟩) k k)) := HFI.out _ _ (H1.out.done (fun j => good_TI _) hlo (fun j b hj hb => by rw [HD.out j hj] at hb; exact (HBL.out j b hj hb).1))
      go_wp2_with fail
      go_ret
      exact ⟨rfl, HG1.out, HE.out⟩
end Go.Proofs.YtfgooclnohnkmaaGreatDoor
/- Proved: the program's changedRows with madeBack. -/
namespace Go.Proofs.YtfgooclnohnkmaaGreatDoor
open Go.ChangeShapes Go.WideShapes Go.ChangeAt Go.RowKit
set_option linter.unusedVariables false
set_option linter.unusedSimpArgs false
set_option maxRecDepth 100000 in
set_option maxHeartbeats 8000000 in
theorem changed_back (N : Int) (a : Bool) (ps : List Int) (Rf : Nat → Int) (us : Nat → Value) (v : Value) (m : Nat) (w : World) (hr : RdR w v m N a ps Rf us) (hus : ∀ k, k < m → ∃ x n c, us k = .slice x n c) (hm : 1 ≤ m ∧ m ≤ 1000) (zss : List (List Int))
    (cj : ∀ k, k < m → ∀ W, Old w W → Calls Tryz.prog 157 #[.agg #[.int .i64 (ps.getD k 0), .int .i64 N, .int .i64 (Rf k), .bool a, us k]] W fun e w' => ∃ v', e = .returned v' ∧ Old W w' ∧ Own w' W.heap.size v' (zss.getD k [])) :
    Calls Tryz.prog 188 #[v, .func (.func 157) #[] #[]] w fun e w' => e = .returned (.slice (some ⟨w.heap.size, 0, none⟩) m m) ∧ Old w w' ∧ Ows (TS 153 5 m (elR N a ps Rf zss)) w' w.heap.size w'.heap.size [.slice (some ⟨w.heap.size, 0, none⟩) m m] := by
  obtain ⟨i0, hi, hz0, hz1, hz2⟩ := info_parts Tryz.infoRingRow
  obtain ⟨b, cap, rfl, hb, hc⟩ := hr
  have HC : Hid (∀ k, k < m → w.cell? ⟨b, k * 5, none⟩ = some (.int .i64 (ps.getD k 0)) ∧ w.cell? ⟨b, k * 5 + 1, none⟩ = some (.int .i64 N) ∧ w.cell? ⟨b, k * 5 + 2, none⟩ = some (.int .i64 (Rf k)) ∧ w.cell? ⟨b, k * 5 + 3, none⟩ = some (.bool a) ∧ w.cell? ⟨b, k * 5 + 4, none⟩ = some (us k)) := hc
  have HUS : Hid (∀ k, k < m → ∃ x n c, us k = .slice x n c) := hus
  have HCJ : Hid (∀ k, k < m → ∀ W, Old w W → Calls Tryz.prog 157 #[.agg #[.int .i64 (ps.getD k 0), .int .i64 N, .int .i64 (Rf k), .bool a, us k]] W fun e w' => ∃ v', e = .returned v' ∧ Old W w' ∧ Own w' W.heap.size v' (zss.getD k [])) := cj
  have HEL : Hid (∀ k, elR N a ps Rf zss k = TR (ps.getD k 0) N (Rf k) a (TI (zss.getD k []))) := fun k => rfl
  have HGD : Hid (∀ k, GoodT (elR N a ps Rf zss k)) := good_elR N a ps Rf zss
  generalize elR N a ps Rf zss = Es at *
  clear hc hus cj
  go_enter Tryz.func188, Tryz.ntmps188
  go_wp2_with (at_make; refine wpList_make_full _ rfl _ _ 139 rfl 0 153 i0 (.agg #[.int .i64 0, .int .i64 0, .int .i64 0, .bool false, .slice none 0 0]) 5 Tryz.underlying139 hi hz0 hz1 .i64 .i64 _ _ m rfl rfl rfl rfl (by rw [hz2]; omega) (by unfold maxLen; omega) (Nat.zero_le _) ?_; intro w1 hown hgrow)
  have HO : Hid (TSc 153 5 m 0 Es w1 w.heap.size m _ (fun _ _ => False)) := TSc.start hown
  have HG : Hid (Old w w1) := Below.grown (Below.refl _ _) hgrow (Nat.le_refl _) (fun _ h => by cases h)
  clear hown hgrow
  go_loopw [13, 6, 7] (fun i _ _ W => ∃ (k : Nat) (vs : List Value) (Bs : Nat → Nat → Prop), k ≤ m ∧ i = .int .i64 k ∧ Hid (TSc 153 5 m k Es W w.heap.size m vs Bs) ∧ Hid (∀ j b, j < k → Bs j b → w.heap.size < b) ∧ Hid (Old w W)) (fun i _ _ _ => m - (intOf i).toNat)
  case atStart => exact ⟨0, _, _, by omega, rfl, HO, (fun j b hj => by omega), HG⟩
  case round =>
    obtain ⟨k, vs, Bs, hk, rfl, H1, HB, HG1⟩ := hrel
    clear HO HG
    by_cases hlt : k < m
    · have d1 : decide ((k : Int) < (m : Int)) = true := by simp; omega
      have ilt : (k : Int) < (m : Int) := by omega
      obtain ⟨c0, c1, c2, c3, c4⟩ := HC.out k hlt
      obtain ⟨xu, nu, cu, eu⟩ := HUS.out k hlt
      have cj := HCJ.out k hlt
      rw [eu] at c4 cj
      have q0 := (HG1.out.cell (p := ⟨b, k * 5, none⟩) hb).trans c0
      have q1 := (HG1.out.cell (p := ⟨b, k * 5 + 1, none⟩) hb).trans c1
      have q2 := (HG1.out.cell (p := ⟨b, k * 5 + 2, none⟩) hb).trans c2
      have q3 := (HG1.out.cell (p := ⟨b, k * 5 + 3, none⟩) hb).trans c3
      have q4 := (HG1.out.cell (p := ⟨b, k * 5 + 4, none⟩) hb).trans c4
      have hsr : w.heap.size < wr.heap.size := ownsRow_lt H1.out.row
      have HEK : Hid (Es k = TR (ps.getD k 0) N (Rf k) a (TI (zss.getD k []))) := HEL.out k
      clear c0 c1 c2 c3 c4 eu
      generalize ps.getD k 0 = P at *
      generalize Rf k = R at *
      generalize zss.getD k [] = zs at *
      have HAS5 : Hid (∀ W', Old (wr.alloc (.cells #[.int .i64 P, .int .i64 N, .int .i64 R, .bool a, .slice xu nu cu] 153)) W' → (W'.cell? ⟨wr.heap.size, 0, none⟩ = some (.int .i64 P) ∧ W'.cell? ⟨wr.heap.size, 1, none⟩ = some (.int .i64 N) ∧ W'.cell? ⟨wr.heap.size, 2, none⟩ = some (.int .i64 R) ∧ W'.cell? ⟨wr.heap.size, 3, none⟩ = some (.bool a) ∧ W'.cell? ⟨wr.heap.size, 4, none⟩ = some (.slice xu nu cu))) := fun W' q => by
        have q' := Old.trans ((Old.refl wr).alloc _) q
        exact ⟨(q.cell (p := ⟨wr.heap.size, 0, none⟩) (by simp)).trans (cell_at _ _ _ _ _ rfl), (q.cell (p := ⟨wr.heap.size, 1, none⟩) (by simp)).trans (cell_at _ _ _ _ _ rfl), (q.cell (p := ⟨wr.heap.size, 2, none⟩) (by simp)).trans (cell_at _ _ _ _ _ rfl), (q.cell (p := ⟨wr.heap.size, 3, none⟩) (by simp)).trans (cell_at _ _ _ _ _ rfl), (q.cell (p := ⟨wr.heap.size, 4, none⟩) (by simp)).trans (cell_at _ _ _ _ _ rfl)⟩
      have HAS6 : Hid (∀ W' y0 y1 y2 y3 y4, Old (wr.alloc (.cells #[.int .i64 P, .int .i64 N, .int .i64 R, .bool a, .slice xu nu cu] 153)) W' → ((fun W' => W'.cell? ⟨wr.heap.size, 0, none⟩ = some (.int .i64 P) ∧ W'.cell? ⟨wr.heap.size, 1, none⟩ = some (.int .i64 N) ∧ W'.cell? ⟨wr.heap.size, 2, none⟩ = some (.int .i64 R) ∧ W'.cell? ⟨wr.heap.size, 3, none⟩ = some (.bool a) ∧ W'.cell? ⟨wr.heap.size, 4, none⟩ = some (.slice xu nu cu)) (((((W'.setCell ⟨w.heap.size, k * 5, none⟩ y0).setCell ⟨w.heap.size, k * 5 + 1, none⟩ y1).setCell ⟨w.heap.size, k * 5 + 2, none⟩ y2).setCell ⟨w.heap.size, k * 5 + 3, none⟩ y3).setCell ⟨w.heap.size, k * 5 + 4, none⟩ y4))) := fun W' y0 y1 y2 y3 y4 q => by
        obtain ⟨s0, s1, s2, s3, s4⟩ := HAS5.out W' q
        have key : ∀ (bb j : Nat) (z : Value), bb ≠ w.heap.size → W'.cell? ⟨bb, j, none⟩ = some z → (((((W'.setCell ⟨w.heap.size, k * 5, none⟩ y0).setCell ⟨w.heap.size, k * 5 + 1, none⟩ y1).setCell ⟨w.heap.size, k * 5 + 2, none⟩ y2).setCell ⟨w.heap.size, k * 5 + 3, none⟩ y3).setCell ⟨w.heap.size, k * 5 + 4, none⟩ y4).cell? ⟨bb, j, none⟩ = some z := fun bb j z hb hz => by
          rw [cellO _ _ _ _ hb, cellO _ _ _ _ hb, cellO _ _ _ _ hb, cellO _ _ _ _ hb, cellO _ _ _ _ hb]
          exact hz
        exact ⟨key _ _ _ (by omega) s0, key _ _ _ (by omega) s1, key _ _ _ (by omega) s2, key _ _ _ (by omega) s3, key _ _ _ (by omega) s4⟩
      have HGA : Hid (Old w (wr.alloc (.cells #[.int .i64 P, .int .i64 N, .int .i64 R, .bool a, .slice xu nu cu] 153))) := HG1.out.alloc _
      have HX : Hid (∀ w6 y n c Bz, Old (wr.alloc (.cells #[.int .i64 P, .int .i64 N, .int .i64 R, .bool a, .slice xu nu cu] 153)) w6 → TI zs w6 Bz [.slice y n c] → (∀ b, Bz b → wr.heap.size + 1 ≤ b) → (∃ vs', TSc 153 5 m (k + 1) Es (((((w6.setCell ⟨w.heap.size, k * 5, none⟩ (.int .i64 P)).setCell ⟨w.heap.size, k * 5 + 1, none⟩ (.int .i64 N)).setCell ⟨w.heap.size, k * 5 + 2, none⟩ (.int .i64 R)).setCell ⟨w.heap.size, k * 5 + 3, none⟩ (.bool a)).setCell ⟨w.heap.size, k * 5 + 4, none⟩ (.slice y n c)) w.heap.size m vs' (fun q => if q = k then Bz else Bs q)) ∧ (∀ j b, j < k + 1 → (fun q => if q = k then Bz else Bs q) j b → w.heap.size < b) ∧ Old w (((((w6.setCell ⟨w.heap.size, k * 5, none⟩ (.int .i64 P)).setCell ⟨w.heap.size, k * 5 + 1, none⟩ (.int .i64 N)).setCell ⟨w.heap.size, k * 5 + 2, none⟩ (.int .i64 R)).setCell ⟨w.heap.size, k * 5 + 3, none⟩ (.bool a)).setCell ⟨w.heap.size, k * 5 + 4, none⟩ (.slice y n c))) := fun w6 y n c Bz g6 hTI hlo => by
        have g7 := Old.trans ((Old.refl wr).alloc _) g6
        refine ⟨(H1.out.old HGD.out g7).store5 HGD.out hlt _ _ _ _ _ (B := Bz) (fun W' hW' => ?_) (fun hb => by have := hlo _ hb; omega) (fun j hj b h1 h2 => ?_), fun j b hj hb => ?_, ?_⟩
        · rw [HEK.out]
          exact ⟨_, rfl, (good_TI zs).far hTI (fun b hb => hW' b (by have := hlo b hb; omega))⟩
        · have h4 := H1.out.lt HGD.out j b hj h1
          have := hlo b h2
          omega
        · by_cases e : j = k
          · simp only [e, if_true] at hb
            have := hlo b hb
            omega
          · simp only [e, if_false] at hb
            exact HB.out j b (by omega) hb
        · exact (((((Old.trans HG1.out g7).own (p := ⟨w.heap.size, k * 5, none⟩) (Nat.le_refl _) _).own (p := ⟨w.heap.size, k * 5 + 1, none⟩) (Nat.le_refl _) _).own (p := ⟨w.heap.size, k * 5 + 2, none⟩) (Nat.le_refl _) _).own (p := ⟨w.heap.size, k * 5 + 3, none⟩) (Nat.le_refl _) _).own (p := ⟨w.heap.size, k * 5 + 4, none⟩) (Nat.le_refl _) _
      have HCE : Hid (∀ w6, Old (wr.alloc (.cells #[.int .i64 P, .int .i64 N, .int .i64 R, .bool a, .slice xu nu cu] 153)) w6 → ∀ i, i < 5 → (∃ z, w6.cell? ⟨w.heap.size, k * 5 + i, none⟩ = some z) ∧ w6.frozen? ⟨w.heap.size, k * 5 + i, none⟩ = false) := fun w6 g6 i hi5 => by
        have H2 := H1.out.old HGD.out (Old.trans ((Old.refl wr).alloc _) g6)
        have h5 := H2.cell k i hlt hi5
        have h6 := cellsJ_len H2.row.1 k hlt
        exact ⟨⟨_, h5.trans (List.getElem?_eq_getElem (by omega))⟩, H2.frozen _⟩
      clear H1 HB HEK
      go_wp2_with fail
      go_region_held3 (fun W' => W'.cell? ⟨wr.heap.size, 0, none⟩ = some (.int .i64 P) ∧ W'.cell? ⟨wr.heap.size, 1, none⟩ = some (.int .i64 N) ∧ W'.cell? ⟨wr.heap.size, 2, none⟩ = some (.int .i64 R) ∧ W'.cell? ⟨wr.heap.size, 3, none⟩ = some (.bool a) ∧ W'.cell? ⟨wr.heap.size, 4, none⟩ = some (.slice xu nu cu)) (first | with_reducible exact HAS5.out _ Q6.out | with_reducible exact HAS5.out _ Q5.out | with_reducible exact HAS5.out _ (Below.drew (Old.refl _)) | with_reducible exact HAS6.out _ _ _ _ _ _ Q6.out | with_reducible exact HAS5.out _ (Old.refl _)) (first
        | (go_at_call 157; refine (cj _ (Below.drew HGA.out)).mono ?_; rintro e w5 ⟨v5, rfl, q5, o5⟩; obtain ⟨x5, c5, rfl⟩ := (Own.row o5).slice; have Q5 : Hid (Old (wr.alloc (.cells #[.int .i64 P, .int .i64 N, .int .i64 R, .bool a, .slice xu nu cu] 153)) w5) := Old.trans (Below.drew (Old.refl _)) q5; have O5 : Hid (Own w5 (wr.heap.size + 1) (.slice x5 zs.length c5) zs) := (by simp at o5; exact o5); clear q5 o5)
        | (go_at_call 164; refine (with_any _ _ _ _ _ _ _ _ _ _ _).mono ?_; rintro e w6 ⟨rfl, q6⟩; have Q6 : Hid (Old (wr.alloc (.cells #[.int .i64 P, .int .i64 N, .int .i64 R, .bool a, .slice xu nu cu] 153)) w6) := Old.trans Q5.out q6; have O6 : Hid (Own w6 (wr.heap.size + 1) (.slice x5 zs.length c5) zs) := O5.out.old q6; clear q6; obtain ⟨⟨z0, hz0⟩, hf0⟩ := HCE.out w6 Q6.out 0 (by omega); obtain ⟨⟨z1, hz1⟩, hf1⟩ := HCE.out w6 Q6.out 1 (by omega); obtain ⟨⟨z2, hz2⟩, hf2⟩ := HCE.out w6 Q6.out 2 (by omega); obtain ⟨⟨z3, hz3⟩, hf3⟩ := HCE.out w6 Q6.out 3 (by omega); obtain ⟨⟨z4, hz4⟩, hf4⟩ := HCE.out w6 Q6.out 4 (by omega); rw [Nat.add_zero] at hz0 hf0)
        | fail)
      all_goals
        obtain ⟨Bz, hTI, hlo⟩ := TI.of O6.out
        obtain ⟨⟨vs', n1⟩, n2, n3⟩ := HX.out w6 x5 zs.length c5 Bz Q6.out hTI hlo
        have N1 : Hid (TSc 153 5 m (k + 1) Es (((((w6.setCell ⟨w.heap.size, k * 5, none⟩ (.int .i64 P)).setCell ⟨w.heap.size, k * 5 + 1, none⟩ (.int .i64 N)).setCell ⟨w.heap.size, k * 5 + 2, none⟩ (.int .i64 R)).setCell ⟨w.heap.size, k * 5 + 3, none⟩ (.bool a)).setCell ⟨w.heap.size, k * 5 + 4, none⟩ (.slice x5 zs.length c5)) w.heap.size m vs' (fun q => if q = k then Bz else Bs q)) := n1
        have N2 : Hid (∀ j b, j < k + 1 → (fun q => if q = k then Bz else Bs q) j b → w.heap.size < b) := n2
        have N3 : Hid (Old w (((((w6.setCell ⟨w.heap.size, k * 5, none⟩ (.int .i64 P)).setCell ⟨w.heap.size, k * 5 + 1, none⟩ (.int .i64 N)).setCell ⟨w.heap.size, k * 5 + 2, none⟩ (.int .i64 R)).setCell ⟨w.heap.size, k * 5 + 3, none⟩ (.bool a)).setCell ⟨w.heap.size, k * 5 + 4, none⟩ (.slice x5 zs.length c5))) := n3
        clear n1 n2 n3 hTI hlo HX
        go_wp2_with fail
        exact ⟨⟨k + 1, vs', _, by omega, by go_num, N1, N2, N3⟩, by simp [intOf]; omega⟩
    · have d1 : decide ((k : Int) < (m : Int)) = false := by simp; omega
      obtain rfl : k = m := by omega
      have HE : Hid (Ows (TS 153 5 k Es) wr w.heap.size wr.heap.size [.slice (some ⟨w.heap.size, 0, none⟩) k k]) := H1.out.done HGD.out (Nat.le_refl _) (fun j b hj hb => Nat.le_of_lt (HB.out j b hj hb))
      go_wp2_with fail
      go_ret
      exact ⟨rfl, HG1.out, HE.out⟩
end Go.Proofs.YtfgooclnohnkmaaGreatDoor
/- Proved: the program's eachRow. -/
namespace Go.Proofs.YtfgooclnohnkmaaGreatDoor
open Go.ChangeShapes Go.WideShapes Go.ChangeAt Go.RowKit
open M1
set_option linter.unusedVariables false
set_option linter.unusedSimpArgs false
set_option maxRecDepth 100000 in
set_option maxHeartbeats 4000000 in
theorem eachRow_back_no (N : Int) (ps : List Int) (a ah : Bool) (xss : List (List Int)) (Rf : Nat → Int) (us1 : Nat → Option Addr) (v : Value) (a1 : Option Addr) (cap1 : Nat) (w : World) (hP : PrsW w) (hT : TabW w) (hv : Row w v ps)
    (c1 : ∀ W, PrsW W → TabW W → Old w W → Calls Tryz.prog 102 #[.agg #[.int .i64 N, v], .agg #[.bool a, .slice a1 xss.length cap1]] W fun e w' => Old W w' ∧ ((grB N ps xss = false ∧ e = .returned (.tuple #[.slice none 0 0, .bool false])) ∨ (grB N ps xss = true ∧ ∃ g, W.heap.size ≤ g ∧ e = .returned (.tuple #[.slice (some ⟨g, 0, none⟩) ps.length ps.length, .bool true]) ∧ RRs w' g N a ps Rf us1 ps.length))) (hno : grB N ps xss = false) :
    Calls Tryz.prog 156 #[.agg #[.int .i64 N, v], .agg #[.bool a, .slice a1 xss.length cap1], .bool ah, .func (.func 157) #[] #[]] w (Rs w false [] false) := by
  have HP : Hid (PrsW w) := hP
  have HT : Hid (TabW w) := hT
  obtain ⟨a0, cap0, ev⟩ := hv.slice
  subst ev
  have HA : Hid (Old w (((w.alloc (.cells #[.int .i64 N, .slice a0 ps.length cap0] 56)).alloc (.cells #[.bool a, .slice a1 xss.length cap1] 58)).alloc (.cells #[.bool false, .slice none 0 0] 58))) := (((Old.refl w).alloc _).alloc _).alloc _
  have HS : Hid (StW (((w.alloc (.cells #[.int .i64 N, .slice a0 ps.length cap0] 56)).alloc (.cells #[.bool a, .slice a1 xss.length cap1] 58)).alloc (.cells #[.bool false, .slice none 0 0] 58)) (w.heap.size + 1 + 1) (.bool false) (.slice none 0 0) 58) := by
    have := StW.new ((w.alloc (.cells #[.int .i64 N, .slice a0 ps.length cap0] 56)).alloc (.cells #[.bool a, .slice a1 xss.length cap1] 58)) (.bool false) (.slice none 0 0) 58
    simp at this
    exact this
  clear hv hP hT
  go_enter Tryz.func156, Tryz.ntmps156
  go_wp2_with fail
  refine (c1 _ (HP.out.old HA.out) (HT.out.old HA.out) HA.out).mono ?_
  rintro e w2 ⟨g1, hl⟩
  have HG2 : Hid (Old w w2) := Old.trans HA.out g1
  have S2 : Hid (StW w2 (w.heap.size + 1 + 1) (.bool false) (.slice none 0 0) 58) := HS.out.old g1
  have hs2 : w.heap.size + 1 + 1 < w2.heap.size := S2.out.lt
  clear g1
  rcases hl with ⟨hB, rfl⟩ | ⟨hB, g, hg, rfl, hrr⟩
  · have q0 := S2.out.c0
    have q1 := S2.out.c1
    have f0 := S2.out.f0
    have f1 := S2.out.f1
    clear hB hno
    go_wp2_with fail
    refine bodyPost_ret (ret_rb (x := .bool false) (y := .slice none 0 0) (z := .bool false) Tryz.results156 _ _ rfl rfl (st_put2 S2.out _ _)) rfl ⟨_, rfl, ?_, XR.nil _ _ _ _ (Nat.le_refl _)⟩
    exact (HG2.out.own (p := ⟨w.heap.size + 1 + 1, 0, none⟩) (by simp; omega) _).own (p := ⟨w.heap.size + 1 + 1, 1, none⟩) (by simp; omega) _
  · rw [hno] at hB
    cases hB
set_option maxRecDepth 100000 in
set_option maxHeartbeats 8000000 in
theorem eachRow_back_yes (Nn : Nat) (ps : List Int) (a ah : Bool) (xss : List (List Int)) (Rf : Nat → Int) (us1 : Nat → Option Addr) (v : Value) (a1 : Option Addr) (cap1 : Nat) (w : World) (hP : PrsW w) (hT : TabW w) (hv : Row w v ps)
    (c1 : ∀ W, PrsW W → TabW W → Old w W → Calls Tryz.prog 102 #[.agg #[.int .i64 Nn, v], .agg #[.bool a, .slice a1 xss.length cap1]] W fun e w' => Old W w' ∧ ((grB Nn ps xss = false ∧ e = .returned (.tuple #[.slice none 0 0, .bool false])) ∨ (grB Nn ps xss = true ∧ ∃ g, W.heap.size ≤ g ∧ e = .returned (.tuple #[.slice (some ⟨g, 0, none⟩) ps.length ps.length, .bool true]) ∧ RRs w' g Nn a ps Rf us1 ps.length))) (hx : grB Nn ps xss = true) (zss : List (List Int)) (hzl : zss.length = ps.length) (hps : ps.length ≤ 6)
    (cj : ∀ k, k < ps.length → (zss.getD k []).length = Nn ∧ ∀ W, Old w W → Calls Tryz.prog 157 #[.agg #[.int .i64 (ps.getD k 0), .int .i64 Nn, .int .i64 (Rf k), .bool a, .slice (us1 k) Nn Nn]] W fun e w' => ∃ g cp, e = .returned (.slice (some ⟨g, 0, none⟩) Nn cp) ∧ Nn ≤ cp ∧ Old W w' ∧ Own w' W.heap.size (.slice (some ⟨g, 0, none⟩) Nn cp) (zss.getD k [])) :
    Calls Tryz.prog 156 #[.agg #[.int .i64 Nn, v], .agg #[.bool a, .slice a1 xss.length cap1], .bool ah, .func (.func 157) #[] #[]] w (Rs w ah zss true) := by
  have HZL : Hid (zss.length = ps.length) := hzl
  have HCJ : Hid (∀ k, k < ps.length → (zss.getD k []).length = Nn ∧ ∀ W, Old w W → Calls Tryz.prog 157 #[.agg #[.int .i64 (ps.getD k 0), .int .i64 Nn, .int .i64 (Rf k), .bool a, .slice (us1 k) Nn Nn]] W fun e w' => ∃ g cp, e = .returned (.slice (some ⟨g, 0, none⟩) Nn cp) ∧ Nn ≤ cp ∧ Old W w' ∧ Own w' W.heap.size (.slice (some ⟨g, 0, none⟩) Nn cp) (zss.getD k [])) := cj
  have HPS : Hid (ps.length ≠ 0) := fun h0 => by
    have hsp : spB Nn ps = true := (Bool.and_eq_true_iff.1 hx).1
    have h1 := (bas_at (sp_ring hsp).2.1).1
    omega
  clear hzl cj
  have HP : Hid (PrsW w) := hP
  have HT : Hid (TabW w) := hT
  obtain ⟨a0, cap0, ev⟩ := hv.slice
  subst ev
  have HA : Hid (Old w (((w.alloc (.cells #[.int .i64 Nn, .slice a0 ps.length cap0] 56)).alloc (.cells #[.bool a, .slice a1 xss.length cap1] 58)).alloc (.cells #[.bool false, .slice none 0 0] 58))) := (((Old.refl w).alloc _).alloc _).alloc _
  have HS : Hid (StW (((w.alloc (.cells #[.int .i64 Nn, .slice a0 ps.length cap0] 56)).alloc (.cells #[.bool a, .slice a1 xss.length cap1] 58)).alloc (.cells #[.bool false, .slice none 0 0] 58)) (w.heap.size + 1 + 1) (.bool false) (.slice none 0 0) 58) := by
    have := StW.new ((w.alloc (.cells #[.int .i64 Nn, .slice a0 ps.length cap0] 56)).alloc (.cells #[.bool a, .slice a1 xss.length cap1] 58)) (.bool false) (.slice none 0 0) 58
    simp at this
    exact this
  clear hv hP hT
  go_enter Tryz.func156, Tryz.ntmps156
  go_wp2_with fail
  refine (c1 _ (HP.out.old HA.out) (HT.out.old HA.out) HA.out).mono ?_
  rintro e w2 ⟨g1, hl⟩
  have HG2 : Hid (Old w w2) := Old.trans HA.out g1
  have S2 : Hid (StW w2 (w.heap.size + 1 + 1) (.bool false) (.slice none 0 0) 58) := HS.out.old g1
  have hs2 : w.heap.size + 1 + 1 < w2.heap.size := S2.out.lt
  clear g1
  rcases hl with ⟨hB, rfl⟩ | ⟨hB, g, hg, rfl, hrr⟩
  · rw [hx] at hB
    cases hB
  · have HLB : Hid (RRs w2 g Nn a ps Rf us1 ps.length) := hrr
    clear hrr hg hB hx
    have hpos : 1 ≤ ps.length := Nat.pos_of_ne_zero HPS.out
    have KC := changed_back (Nn : Int) a ps Rf (fun k => .slice (us1 k) (Nn : Int).toNat (Nn : Int).toNat) (.slice (some ⟨g, 0, none⟩) ps.length ps.length) ps.length w2 HLB.out.rd (fun k hk => ⟨_, _, _, rfl⟩) ⟨hpos, by omega⟩ zss (fun k hk W q => by
      rw [Int.toNat_natCast]
      exact ((HCJ.out k hk).2 W (Old.trans HG2.out q)).mono fun e w' h => by
        obtain ⟨g, cp, h1, h2, h3, h4⟩ := h
        exact ⟨_, h1, h3, h4⟩)
    have HKC : Hid (Calls Tryz.prog 188 #[.slice (some ⟨g, 0, none⟩) ps.length ps.length, .func (.func 157) #[] #[]] w2 fun e w' => e = .returned (.slice (some ⟨w2.heap.size, 0, none⟩) ps.length ps.length) ∧ Old w2 w' ∧ Ows (TS 153 5 ps.length (elR (Nn : Int) a ps Rf zss)) w' w2.heap.size w'.heap.size [.slice (some ⟨w2.heap.size, 0, none⟩) ps.length ps.length]) := KC
    have HKN : Hid (∀ W lo, Ows (TS 153 5 ps.length (elR (Nn : Int) a ps Rf zss)) W lo W.heap.size [.slice (some ⟨w2.heap.size, 0, none⟩) ps.length ps.length] → lo ≤ W.heap.size → Calls Tryz.prog 111 #[.slice (some ⟨w2.heap.size, 0, none⟩) ps.length ps.length] W fun e w' => e = .returned (.slice (some ⟨W.heap.size, 0, none⟩) ps.length ps.length) ∧ Old W w' ∧ OwS zss w' lo w'.heap.size (.slice (some ⟨W.heap.size, 0, none⟩) ps.length ps.length)) := fun W lo h hlo => numbersOf_any (Nn : Int) a ps Rf zss ps.length lo _ W ⟨hpos, by omega⟩ HZL.out h hlo
    clear KC HLB
    go_wp2_with fail
    refine HKC.out.mono ?_
    rintro e w3 ⟨rfl, g3, o3⟩
    have O3 : Hid (Ows (TS 153 5 ps.length (elR (Nn : Int) a ps Rf zss)) w3 w2.heap.size w3.heap.size [.slice (some ⟨w2.heap.size, 0, none⟩) ps.length ps.length]) := o3
    have G3 : Hid (Old w2 w3) := g3
    clear g3 o3 HKC
    go_wp2_with fail
    refine (HKN.out w3 w2.heap.size O3.out G3.out.size).mono ?_
    rintro e w4 ⟨rfl, g4, o4⟩
    have G4 : Hid (Old w2 w4) := Old.trans G3.out g4
    have O4 : Hid (OwS zss w4 w2.heap.size w4.heap.size (.slice (some ⟨w3.heap.size, 0, none⟩) ps.length ps.length)) := o4
    have SF : Hid (StW w4 (w.heap.size + 1 + 1) (.bool false) (.slice none 0 0) 58) := S2.out.old G4.out
    clear g4 o4 HKN O3
    have q0 := SF.out.c0
    have q1 := SF.out.c1
    have f0 := SF.out.f0
    have f1 := SF.out.f1
    go_wp2_with fail
    refine bodyPost_ret (ret_rb Tryz.results156 _ _ rfl rfl (st_put2 SF.out _ _)) rfl ⟨_, rfl, ?_, some ⟨w3.heap.size, 0, none⟩, ps.length, by rw [HZL.out], ?_⟩
    · exact ((Old.trans HG2.out G4.out).own (p := ⟨w.heap.size + 1 + 1, 0, none⟩) (by simp; omega) _).own (p := ⟨w.heap.size + 1 + 1, 1, none⟩) (by simp; omega) _
    · rw [HZL.out]
      have h2 := (O4.out.put (k := w.heap.size + 1 + 1) (j := 0) (x := .bool ah) (by omega)).put (k := w.heap.size + 1 + 1) (j := 1) (x := .slice (some ⟨w3.heap.size, 0, none⟩) ps.length ps.length) (by omega)
      have h3 := h2.low (lo' := w.heap.size) (by omega)
      exact h3.high (by simp) (Nat.le_refl _)
end Go.Proofs.YtfgooclnohnkmaaGreatDoor
/- Proved: the two drawn regions of the program's forward. -/
namespace Go.Proofs.YtfgooclnohnkmaaGreatDoor
open Go.ChangeShapes Go.WideShapes Go.ChangeAt Go.RowKit
set_option linter.unusedVariables false
set_option linter.unusedSimpArgs false
theorem run_storeCells_pw {W : World} {g : Nat} {ls : List Nat} (hs : Pw W g ls) (ls' : List Nat) (hl : ls'.length = 32) : (storeCells ⟨g, 0, none⟩ (pwA ls').toList 0).run Tryz.prog W = .ok () (W.setRow g (pwA ls')) := by
  have := run_storeVar_row (P := Tryz.prog) W g 217 217 (pwA ls) (pwA ls') hs.blk (by rw [pwA_size hl]; exact infoPw) (by rw [pwA_size hs.len, pwA_size hl]) (pwA_one _)
  cases hq : Tryz.prog.info? 217 with
  | none => have h2 := infoPw; rw [hq] at h2; cases h2
  | some i =>
    have h2 := infoPw
    rw [hq] at h2
    have h3 : i.size = 32 := by simpa using h2
    simpa [storeVar, Go.sizeOf, typeInfo, hq, Value.cells, pwA_size hl, h3] using this
theorem upon_pw {o : Oper} {a : Act} {K : Act → World → Prop} {Q : Exit → Act → World → Prop} {f : Unit → World → Result Next} {W : World} {g : Nat} {ls : List Nat} (hs : Pw W g ls) (ls' : List Nat) (hl : ls'.length = 32)
    (h : Oper.upon Tryz.prog o a K Q (f () (W.setRow g (pwA ls')))) : Oper.upon Tryz.prog o a K Q ((Sem.run Tryz.prog (storeCells ⟨g, 0, none⟩ (pwA ls').toList 0) W).andThen f) := by
  rw [run_storeCells_pw hs ls' hl]
  exact h
theorem Pw.drw {w : World} {g : Nat} {ls : List Nat} (h : Pw w g ls) : Pw w.drew g ls := ⟨h.blk, h.len⟩
def regionAtF (n : Nat) : Code → Option Code
  | .region i ops b => if i = n then some (.region i ops b) else none
  | .seq a b => match regionAtF n a with
    | some c => some c
    | none => regionAtF n b
  | .block _ c => regionAtF n c
  | .scope c => regionAtF n c
  | .loop c => regionAtF n c
  | .cond _ a b => match regionAtF n a with
    | some c => some c
    | none => regionAtF n b
  | _ => none
theorem pw_zero (W : World) : Pw (W.alloc (.cells #[.int .i64 0, .int .i64 0, .int .i64 0, .int .i64 0, .int .i64 0, .int .i64 0, .int .i64 0, .int .i64 0, .int .i64 0, .int .i64 0, .int .i64 0, .int .i64 0, .int .i64 0, .int .i64 0, .int .i64 0, .int .i64 0, .int .i64 0, .int .i64 0, .int .i64 0, .int .i64 0, .int .i64 0, .int .i64 0, .int .i64 0, .int .i64 0, .int .i64 0, .int .i64 0, .int .i64 0, .int .i64 0, .int .i64 0, .int .i64 0, .int .i64 0, .int .i64 0] 217)) W.heap.size (List.replicate 32 0) := Pw.new' W (List.replicate 32 0) _ rfl rfl
end Go.Proofs.YtfgooclnohnkmaaGreatDoor
/- Proved: what a join of a part of a row does to the row, in place. -/
namespace Go.Proofs.YtfgooclnohnkmaaGreatDoor
open Go.ChangeShapes Go.WideShapes Go.ChangeAt Go.RowKit
set_option linter.unusedVariables false
set_option linter.unusedSimpArgs false
/-- a join's first i steps: at off and at off + hh -/
def jnS (P w0 off hh : Nat) (fs : List Nat) : Nat → List Nat
  | 0 => fs
  | i + 1 => ((jnS P w0 off hh fs i).set (off + i) (((jnS P w0 off hh fs i).getD (off + i) 0 + (jnS P w0 off hh fs i).getD (off + hh + i) 0) % P)).set (off + hh + i) (((jnS P w0 off hh fs i).getD (off + i) 0 + P - (jnS P w0 off hh fs i).getD (off + hh + i) 0) * w0 % P)
theorem jnS_len (P w0 off hh : Nat) (fs : List Nat) : ∀ i, (jnS P w0 off hh fs i).length = fs.length
  | 0 => rfl
  | i + 1 => by rw [jnS, List.length_set, List.length_set, jnS_len P w0 off hh fs i]
theorem jnS_lt (P w0 off hh : Nat) (fs : List Nat) (hP : 0 < P) (h : ∀ x ∈ fs, x < P) : ∀ i, ∀ x ∈ jnS P w0 off hh fs i, x < P
  | 0 => h
  | i + 1 => by
    rw [jnS]
    exact set_lt (set_lt (jnS_lt P w0 off hh fs hP h i) _ _ (Nat.mod_lt _ hP)) _ _ (Nat.mod_lt _ hP)
set_option maxRecDepth 100000 in
set_option maxHeartbeats 2000000 in
theorem impl_join (P N R w0 off hh cap g base : Nat) (fs : List Nat) (w : World) (hP : 2 ≤ P ∧ P ≤ 268435456) (hw0 : w0 < P) (hN : N ≤ 16) (hof : off + 2 * hh ≤ N) (hO : OwnI w base g N (toZ fs)) (hgl : g < w.heap.size) (lf : fs.length = N) (hf : ∀ x ∈ fs, x < P) :
    Calls Tryz.prog 211 #[.agg #[.int .i64 P, .int .i64 N, .int .i64 R], .slice (some ⟨g, off, none⟩) (2 * hh) cap, .int .i64 w0] w fun e w' => e = .returned (.tuple #[]) ∧ w.grownBy w' (some g) ∧ OwnI w' base g N (toZ (jnS P w0 off hh fs hh)) := by
  have HO : Hid (OwnI w base g N (toZ fs)) := hO
  have HLT : Hid (∀ i j, (jnS P w0 off hh fs i).getD j 0 < P) := fun i j => getD_lt (jnS_lt P w0 off hh fs (by omega) hf i) (by omega) j
  have HLN : Hid (∀ i, (toZ (jnS P w0 off hh fs i)).length = N) := fun i => by rw [toZ_len, jnS_len, lf]
  have HST : Hid (∀ i, toZ (jnS P w0 off hh fs (i + 1)) = ((toZ (jnS P w0 off hh fs i)).set (off + i) (((jnS P w0 off hh fs i).getD (off + i) 0 + (jnS P w0 off hh fs i).getD (off + hh + i) 0) % P : Nat)).set (off + hh + i) (((jnS P w0 off hh fs i).getD (off + i) 0 + P - (jnS P w0 off hh fs i).getD (off + hh + i) 0) * w0 % P : Nat)) := fun i => by rw [jnS, toZ_set, toZ_set]
  have H0 : Hid (jnS P w0 off hh fs 0 = fs) := rfl
  generalize jnS P w0 off hh fs = F at *
  clear hO lf hf
  obtain ⟨ln, hln⟩ : ∃ ln, ln = 2 * hh := ⟨_, rfl⟩
  have el : (ln : Int) / 2 = (hh : Int) := by omega
  rw [← hln]
  have hln2 : off + ln ≤ N := by omega
  have hlb : ln ≤ 16 := by omega
  have HLH : Hid (ln = 2 * hh) := hln
  have hhl : hh ≤ 8 := by omega
  clear hln
  have RC0 : Hid (Rc (w.alloc (.cells #[.int .i64 P, .int .i64 N, .int .i64 R] 151)) w.heap.size P N R) := Rc.new w _ _ _
  have HG0 : Hid (w.grownBy (w.alloc (.cells #[.int .i64 P, .int .i64 N, .int .i64 R] 151)) (some g)) := World.grownBy_alloc _ _ _
  have HO0 : Hid (OwnI (w.alloc (.cells #[.int .i64 P, .int .i64 N, .int .i64 R] 151)) base g N (toZ (F 0))) := by
    show OwnI _ _ _ _ _
    rw [H0.out]
    exact HO.out.old ((Old.refl w).alloc _)
  have hpn : ¬ (P : Int) = 0 := by omega
  have hpn2 : ¬ P = 0 := by omega
  clear HO H0
  go_enter Tryz.func211, Tryz.ntmps211
  go_wp2_with fail
  go_loopw [7, 8, 9, 14] (fun x y z i W => ∃ k : Nat, k ≤ hh ∧ i = .int .i64 k ∧ Hid (OwnI W base g N (toZ (F k))) ∧ Hid (w.grownBy W (some g)) ∧ Hid (Rc W w.heap.size P N R)) (fun _ _ _ i _ => hh - (intOf i).toNat)
  case atStart => exact ⟨0, by omega, rfl, HO0, HG0, RC0⟩
  case round =>
    obtain ⟨k, hk, rfl, HO1, HG1, RC1⟩ := hrel
    clear HO0 HG0 RC0
    by_cases hlt : k < hh
    · have d1 : decide ((k : Int) < (hh : Int)) = true := by simp; omega
      have hk2 : off + k < N := by omega
      have hk3 : off + hh + k < N := by omega
      have i1 : (k : Int) < (ln : Int) := by have := HLH.out; omega
      have z0 := RC1.out.c0
      have c1 := HO1.out.get (HLN.out k) (off + k) hk2
      have c2 := HO1.out.get (HLN.out k) (off + hh + k) hk3
      rw [toZ_get] at c1 c2
      have c3 := HO1.out.free (off + k)
      have c4 := HO1.out.free (off + hh + k)
      have hx := HLT.out k (off + k)
      have hy := HLT.out k (off + hh + k)
      have HS := HST.out k
      generalize (F k).getD (off + k) 0 = x at *
      generalize (F k).getD (off + hh + k) 0 = y at *
      obtain ⟨jj, hjj⟩ : ∃ jj, jj = hh + k := ⟨_, rfl⟩
      have ej : (hh : Int) + (k : Int) = (jj : Int) := by omega
      have i2 : (jj : Int) < (ln : Int) := by have := HLH.out; omega
      have ewj : IntKind.i64.wrap (jj : Int) = (jj : Int) := by rw [IntKind.wrap_i64]; omega
      rw [show off + hh + k = off + jj by omega] at c2 c4 HS
      have hne : off + k ≠ off + jj := by omega
      have HJ : Hid (jj = hh + k) := hjj
      have HSS : Hid (toZ (F (k + 1)) = _) := HS
      clear hjj HS
      go_wp2_with fail
      go_quiet (fail)
      have HO2 : Hid (OwnI (wr.drewN nq) base g N (toZ (F k))) := HO1.out
      have HG2 : Hid (w.grownBy (wr.drewN nq) (some g)) := gby_drewN HG1.out nq
      have RC2 : Hid (Rc (wr.drewN nq) w.heap.size P N R) := RC1.out.old ((Old.refl _).drewN nq)
      have c1' : (wr.drewN nq).cell? ⟨g, off + k, none⟩ = some (.int .i64 (x : Int)) := c1
      have c2' : (wr.drewN nq).cell? ⟨g, off + jj, none⟩ = some (.int .i64 (y : Int)) := c2
      have c3' : (wr.drewN nq).frozen? ⟨g, off + k, none⟩ = false := c3
      have c4' : (wr.drewN nq).frozen? ⟨g, off + jj, none⟩ = false := c4
      have z0' : (wr.drewN nq).cell? ⟨w.heap.size, 0, none⟩ = some (.int .i64 (P : Int)) := z0
      clear c1 c2 c3 c4 z0 HO1 HG1 RC1
      generalize wr.drewN nq = W2 at *
      have e5 : (x : Int) + (y : Int) = ((x + y : Nat) : Int) := by simp
      have ewS : IntKind.i64.wrap ((x : Int) - (y : Int)) = (x : Int) - (y : Int) := by rw [IntKind.wrap_i64]; omega
      have e6 : (x : Int) - (y : Int) + (P : Int) = ((x + P - y : Nat) : Int) := by omega
      have b5 : x + y ≤ 600000000 := by omega
      have b6 : x + P - y ≤ 600000000 := by omega
      generalize x + y = sA at *
      generalize x + P - y = sB at *
      have ewA : IntKind.i64.wrap ((sA : Nat) : Int) = (sA : Int) := by rw [IntKind.wrap_i64]; omega
      have ewB : IntKind.i64.wrap ((sB : Nat) : Int) = (sB : Int) := by rw [IntKind.wrap_i64]; omega
      have b7 : sB * w0 ≤ 161061273600000000 := Nat.le_trans (Nat.mul_le_mul b6 (show w0 ≤ 268435456 by omega)) (by decide)
      have e7 : (sB : Int) * (w0 : Int) = ((sB * w0 : Nat) : Int) := by simp
      generalize sB * w0 = sC at *
      have ewC : IntKind.i64.wrap ((sC : Nat) : Int) = (sC : Int) := by rw [IntKind.wrap_i64]; omega
      have tA : Int.tmod (sA : Int) (P : Int) = ((sA % P : Nat) : Int) := by rw [Int.tmod_eq_emod_of_nonneg (by omega)]; simp
      have tC : Int.tmod (sC : Int) (P : Int) = ((sC % P : Nat) : Int) := by rw [Int.tmod_eq_emod_of_nonneg (by omega)]; simp
      have mA : (sA : Int) % (P : Int) = ((sA % P : Nat) : Int) := by simp
      have mC : (sC : Int) % (P : Int) = ((sC % P : Nat) : Int) := by simp
      generalize sA % P = A at *
      generalize sC % P = B at *
      have HO3 : Hid (OwnI ((W2.setCell ⟨g, off + k, none⟩ (.int .i64 (A : Int))).setCell ⟨g, off + jj, none⟩ (.int .i64 (B : Int))) base g N (toZ (F (k + 1)))) := by
        show OwnI _ _ _ _ _
        rw [HSS.out]
        exact (HO2.out.put (off + k) _).put (off + jj) _
      have HG3 : Hid (w.grownBy ((W2.setCell ⟨g, off + k, none⟩ (.int .i64 (A : Int))).setCell ⟨g, off + jj, none⟩ (.int .i64 (B : Int))) (some g)) := gby_trans HG2.out (gby_trans (HO2.out.gby (off + k) _) ((HO2.out.put (off + k) _).gby (off + jj) _))
      have HR3 : Hid (Rc ((W2.setCell ⟨g, off + k, none⟩ (.int .i64 (A : Int))).setCell ⟨g, off + jj, none⟩ (.int .i64 (B : Int))) w.heap.size P N R) := (RC2.out.by_ (HO2.out.gby (off + k) _) (fun b hb => by injection hb with hb; omega)).by_ ((HO2.out.put (off + k) _).gby (off + jj) _) (fun b hb => by injection hb with hb; omega)
      clear HSS
      go_wp2_with fail
      go_region
      all_goals
        go_wp2_with fail
        exact ⟨⟨k + 1, by omega, by go_num, HO3.out, gby_drewN HG3.out 1, HR3.out.old ((Old.refl _).drewN 1)⟩, by simp [intOf]; omega⟩
    · have d1 : decide ((k : Int) < (hh : Int)) = false := by simp; omega
      obtain rfl : k = hh := by omega
      go_wp2_with fail
      go_end0
      exact ⟨rfl, HG1.out, HO1.out⟩
end Go.Proofs.YtfgooclnohnkmaaGreatDoor
