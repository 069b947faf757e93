/- Proved: several texts in one: what each proves is said ahead of it. -/
import Derived.Test.YtcgnndenmcmieaaDoorMF
import Derived.Test.YtcgnndenmcmieaaDoorMC
import Derived.Deep.RegionHeld3
import Derived.Test.YtcgnndenmcmieaaDoorROps
import Derived.Deep.RegionWith
import Derived.Test.YtcgnndenmcmieaaDoorMG
import Derived.Test.YtcgnndenmcmieaaDoorKE
import Derived.Test.YtcgnndenmcmieaaDoorCopy
import Derived.Test.YtcgnndenmcmieaaDoorMH
import Derived.Test.YtcgnndenmcmieaaDoorFwd
import Derived.Test.YtcgnndenmcmieaaDoorSpFwd
import Derived.Test.YtcgnndenmcmieaaDoorIvd
import Derived.Test.YtcgnndenmcmieaaDoorSpInv
import Derived.Test.YtcgnndenmcmieaaDoorIvn
import Derived.Test.YtcgnndenmcmieaaDoorRpr
/- Proved: the model's AddRows. -/
namespace Go.Proofs.YtcgnndenmcmieaaDoor
open Go.ChangeShapes Go.WideShapes Go.ChangeAt Go.RowKit
open M1
set_option linter.unusedVariables false
set_option linter.unusedSimpArgs false
theorem infoRw : (Tryd.prog.info? 46).map (·.size) = some 2 := by kernel_rfl
/-- rows and a bool that are answered -/
theorem ret_rb {fn : Func} {p u : Tmp} (h : fn.results = #[.cell p 46, .tmp u]) (tmps : Array Value) (w : World) {g : Nat} {x y z : Value} (hp : tmps.getD p undef = .pointer (some ⟨g, 0, none⟩)) (hu : tmps.getD u undef = z) (hs : StW w g x y 46) :
    (results fn tmps).run Tryd.prog w = .ok (.tuple #[.agg #[x, y], z]) w := by
  have hld := run_loadVar_row (P := Tryd.prog) w g 46 46 #[x, y] (0, 0) _ hs Tryd.underlying46 rfl infoRw
  rw [results_cell_tmp h, hp, hu]
  simp [asAddr, Result.andThen, hld]
/-- both rows good and both ahead or both not -/
def twoB (N : Int) (ps : List Int) (a b : Bool) (xss yss : List (List Int)) : Bool := grB N ps xss && (rwB N ps yss && (a == b))
theorem gr_sp {N : Int} {ps : List Int} {xss : List (List Int)} (h : grB N ps xss = true) : spB N ps = true := by
  unfold grB at h
  rw [Bool.and_eq_true] at h
  exact h.1
set_option maxRecDepth 100000 in
set_option maxHeartbeats 4000000 in
theorem spec_l5Two (N : Int) (ps : List Int) (a b : Bool) (xss yss : List (List Int)) (v u1 u2 : Value) (w : World) (hv : Row w v ps) (hf : Fit v) (h1 : RowS w u1 xss) (h2 : RowS w u2 yss) (hlp : ps.length ≤ 1048576) (hx : ∀ x ∈ ps, -9223372036854775808 ≤ x ∧ x ≤ 9223372036854775807) (hl1 : xss.length ≤ 1048576) (hr1 : ∀ r ∈ xss, r.length ≤ 1048576) (hl2 : yss.length ≤ 1048576) (hr2 : ∀ r ∈ yss, r.length ≤ 1048576) :
    Calls Tryd.prog 71 #[.agg #[.int .i64 N, v], .agg #[.bool a, u1], .agg #[.bool b, u2]] w fun e w' => e = .returned (.bool (twoB N ps a b xss yss)) ∧ Old w w' := by
  have c1 := fun W (h : Old w W) => spec_goodRows N ps a xss v u1 W (hv.old h) hf (h1.old h) hlp hx hl1 hr1
  have c2 := fun hs W (h : Old w W) => spec_l5Rows N ps yss v u2 W (hv.old h) (h2.old h) hl2 hr2 hs
  obtain ⟨a0, cap0, ev⟩ := hv.slice
  obtain ⟨a1, cap1, e1⟩ := h1.slice
  obtain ⟨a2, cap2, e2⟩ := h2.slice
  subst ev e1 e2
  have HA : Hid (Old w (((w.alloc (.cells #[.int .i64 N, .slice a0 ps.length cap0] 49)).alloc (.cells #[.bool a, .slice a1 xss.length cap1] 46)).alloc (.cells #[.bool b, .slice a2 yss.length cap2] 46))) := (((Old.refl w).alloc _).alloc _).alloc _
  have HC : Hid (∀ W', Old (((w.alloc (.cells #[.int .i64 N, .slice a0 ps.length cap0] 49)).alloc (.cells #[.bool a, .slice a1 xss.length cap1] 46)).alloc (.cells #[.bool b, .slice a2 yss.length cap2] 46)) W' → (W'.cell? ⟨w.heap.size, 0, none⟩ = some (.int .i64 N) ∧ W'.cell? ⟨w.heap.size, 1, none⟩ = some (.slice a0 ps.length cap0) ∧ W'.cell? ⟨w.heap.size + 1, 0, none⟩ = some (.bool a) ∧ W'.cell? ⟨w.heap.size + 1 + 1, 0, none⟩ = some (.bool b) ∧ W'.cell? ⟨w.heap.size + 1 + 1, 1, none⟩ = some (.slice a2 yss.length cap2))) := fun W' g => ⟨((StW.at31 w _ _ _ _ _ _ _ _ _).old g).c0, ((StW.at31 w _ _ _ _ _ _ _ _ _).old g).c1, ((StW.at32 w _ _ _ _ _ _ _ _ _).old g).c0, ((StW.at33 w _ _ _ _ _ _ _ _ _).old g).c0, ((StW.at33 w _ _ _ _ _ _ _ _ _).old g).c1⟩
  clear hv h1 h2 hf hx hr1 hr2
  unfold twoB
  cases hg : grB N ps xss
  · rw [hg] at c1
    go_enter Tryd.func71, Tryd.ntmps71
    go_wp2_with fail
    refine (c1 _ HA.out).mono ?_
    rintro e w1 ⟨rfl, g1⟩
    have HG1 : Hid (Old w w1) := Old.trans HA.out g1
    clear g1
    go_wp2_with fail
    go_ret
    exact ⟨rfl, HG1.out⟩
  · rw [hg] at c1
    have c3 := c2 (gr_sp hg)
    cases hh : rwB N ps yss
    · rw [hh] at c3
      clear hg hh c2
      go_enter Tryd.func71, Tryd.ntmps71
      go_wp2_with fail
      refine (c1 _ HA.out).mono ?_
      rintro e w1 ⟨rfl, g1⟩
      have HG1 : Hid (Old w w1) := Old.trans HA.out g1
      obtain ⟨z1, z2, z3, z4, z5⟩ := HC.out _ g1
      clear g1
      go_wp2_with fail
      refine (c3 _ HG1.out).mono ?_
      rintro e w2 ⟨rfl, g2⟩
      have HG2 : Hid (Old w w2) := Old.trans HG1.out g2
      clear g2 z1 z2 z3 z4 z5
      go_wp2_with fail
      go_ret
      exact ⟨rfl, HG2.out⟩
    · rw [hh] at c3
      clear hg hh c2
      go_enter Tryd.func71, Tryd.ntmps71
      go_wp2_with fail
      refine (c1 _ HA.out).mono ?_
      rintro e w1 ⟨rfl, g1⟩
      have HG1 : Hid (Old w w1) := Old.trans HA.out g1
      have G1 : Hid (Old _ w1) := g1
      obtain ⟨z1, z2, z3, z4, z5⟩ := HC.out _ g1
      clear g1
      go_wp2_with fail
      refine (c3 _ HG1.out).mono ?_
      rintro e w2 ⟨rfl, g2⟩
      have HG2 : Hid (Old w w2) := Old.trans HG1.out g2
      clear z1 z2 z3 z4 z5
      obtain ⟨z1, z2, z3, z4, z5⟩ := HC.out _ (Old.trans G1.out g2)
      clear g2
      go_wp2_with fail
      go_ret
      exact ⟨by simp, HG2.out⟩
theorem two_parts {N : Int} {ps : List Int} {a b : Bool} {xss yss : List (List Int)} (h : twoB N ps a b xss yss = true) : (N = 2 ∨ N = 4 ∨ N = 8 ∨ N = 16) ∧ (1 ≤ ps.length ∧ ps.length ≤ 6) ∧ xss.length = ps.length ∧ yss.length = ps.length ∧ a = b ∧
    ∀ k, k < ps.length → ((xss.getD k []).length : Int) = N ∧ ((yss.getD k []).length : Int) = N ∧ (2 ≤ ps.getD k 0 ∧ ps.getD k 0 ≤ 268435456) ∧ ∀ i, i < (xss.getD k []).length → (0 ≤ (xss.getD k []).getD i 0 ∧ (xss.getD k []).getD i 0 < ps.getD k 0) ∧ (0 ≤ (yss.getD k []).getD i 0 ∧ (yss.getD k []).getD i 0 < ps.getD k 0) := by
  unfold twoB grB at h
  rw [Bool.and_eq_true, Bool.and_eq_true, Bool.and_eq_true] at h
  obtain ⟨⟨h1, h2⟩, h3, h4⟩ := h
  obtain ⟨s1, s2, s3⟩ := sp_ring h1
  obtain ⟨b1, b2⟩ := bas_at s2
  unfold rwB at h2 h3
  rw [Bool.and_eq_true] at h2 h3
  have l1 := of_decide_eq_true h2.1
  have l2 := of_decide_eq_true h3.1
  refine ⟨s1, b1, l1, l2, by simpa using h4, fun k hk => ?_⟩
  have r1 := of_decide_eq_true h2.2 k hk (Nat.zero_le _)
  have r2 := of_decide_eq_true h3.2 k hk (Nat.zero_le _)
  unfold polyB at r1 r2
  rw [Bool.and_eq_true] at r1 r2
  have e1 := of_decide_eq_true r1.1
  have e2 := of_decide_eq_true r2.1
  refine ⟨e1, e2, pm_bd (b2 k hk), fun i hi => ?_⟩
  have key : ∀ (xs : List Int) (p : Int), xs.all (fun x => resB x p) = true → ∀ i, i < xs.length → 0 ≤ xs.getD i 0 ∧ xs.getD i 0 < p := fun xs p ha i hi => by
    have := List.all_eq_true.1 ha (xs.getD i 0) (by simp [List.getD, hi])
    simpa [resB] using this
  exact ⟨key _ _ r1.2 i hi, key _ _ r2.2 i (by omega)⟩
end Go.Proofs.YtcgnndenmcmieaaDoor
/- Proved: the model's AddRows. -/
namespace Go.Proofs.YtcgnndenmcmieaaDoor
open Go.ChangeShapes Go.WideShapes Go.ChangeAt Go.RowKit
open M1
set_option linter.unusedVariables false
set_option linter.unusedSimpArgs false
/-- rows that are answered, and whether -/
def Rs (w : World) (n : Bool) (zss : List (List Int)) (ok : Bool) (e : Ending) (w' : World) : Prop := ∃ r0, e = .returned (.tuple #[.agg r0, .bool ok]) ∧ Old w w' ∧ XR n zss w' w.heap.size w'.heap.size r0
theorem st_put2 {w : World} {k : Nat} {x y : Value} {t : TypeId} (h : StW w k x y t) (x' y' : Value) : StW ((w.setCell ⟨k, 0, none⟩ x').setCell ⟨k, 1, none⟩ y') k x' y' t := by
  have h1 := heap_setCell_same w k 0 _ _ x' h
  have h2 := heap_setCell_same _ k 1 _ _ y' h1
  exact h2
theorem XR.nil (n : Bool) (W : World) (lo hi : Nat) (h : hi ≤ W.heap.size) : XR n [] W lo hi #[.bool n, .slice none 0 0] := ⟨none, 0, rfl, h, Or.inl ⟨rfl, rfl⟩⟩
end Go.Proofs.YtcgnndenmcmieaaDoor
/- Proved: rows of rows that are made whole and filled row by row. -/
namespace Go.Proofs.YtcgnndenmcmieaaDoor
open Go.ChangeShapes Go.WideShapes Go.ChangeAt Go.RowKit
set_option linter.unusedVariables false
set_option linter.unusedSimpArgs false
/-- the first k rows are filled -/
def MkS (zss : List (List Int)) (W : World) (lo p k : Nat) : Prop :=
  ∃ vs : List Value, W.ownsRow lo 24 1 (.slice (some ⟨p, 0, none⟩) zss.length zss.length) zss.length vs ∧ vs.length = zss.length
    ∧ (∀ j, j < k → ∃ a c, vs[j]? = some (.slice a (zss.getD j []).length c) ∧ (zss.getD j []).length ≤ c ∧ Own W lo (.slice a (zss.getD j []).length c) (zss.getD j []) ∧ (∀ b, (Value.slice a (zss.getD j []).length c).ownBlock = some b → b ≠ p))
    ∧ (∀ (i j : Nat) (x y : Value) (b : Nat), i < j → j < k → vs[i]? = some x → vs[j]? = some y → x.ownBlock = some b → y.ownBlock = some b → False)
theorem MkS.start {zss : List (List Int)} {W : World} {lo p : Nat} (h : W.ownsRow lo 24 1 (.slice (some ⟨p, 0, none⟩) zss.length zss.length) zss.length (List.replicate zss.length (Value.slice none 0 0))) : MkS zss W lo p 0 :=
  ⟨_, h, by simp, fun j hj => by omega, fun i j x y b h1 h2 => by omega⟩
theorem MkS.own_old {zss : List (List Int)} {W W' : World} {lo p k : Nat} (h : MkS zss W lo p k) (g : Old W W') : MkS zss W' lo p k := by
  obtain ⟨vs, ho, hl, hj, hd⟩ := h
  refine ⟨vs, ⟨ho.1, ?_⟩, hl, fun j hjk => ?_, hd⟩
  · rcases ho.2 with hn | ⟨q, cap', cur, e, hb', hgg, rest⟩
    · exact .inl hn
    · refine .inr ⟨q, cap', cur, e, hb', ?_, rest⟩
      rw [g.block q (Array.getElem?_eq_some_iff.1 hgg).1]
      exact hgg
  · obtain ⟨a, c, h1, h2, h3, h4⟩ := hj j hjk
    exact ⟨a, c, h1, h2, h3.old g, h4⟩
theorem MkS.cell {zss : List (List Int)} {W : World} {lo p k : Nat} (h : MkS zss W lo p k) (j : Nat) (hj : j < zss.length) : (∃ y, W.cell? ⟨p, j, none⟩ = some y) ∧ W.frozen? ⟨p, j, none⟩ = false := by
  obtain ⟨vs, ho, hl, _, _⟩ := h
  refine ⟨⟨vs[j]'(by omega), ?_⟩, World.ownsRow.frozenAt ho j⟩
  rw [World.ownsRow.cellAt ho j (by omega)]
  exact List.getElem?_eq_getElem _
theorem MkS.step {zss : List (List Int)} {W W' : World} {lo p k g : Nat} {n c : Nat} (h : MkS zss W lo p k) (hk : k < zss.length) (q : Old W W') (hlo : lo ≤ W.heap.size) (hp : p < W.heap.size) (hn : (zss.getD k []).length = n) (hc : n ≤ c) (o : Own W' W.heap.size (.slice (some ⟨g, 0, none⟩) n c) (zss.getD k [])) (hg : W.heap.size ≤ g) :
    MkS zss (W'.setCell ⟨p, k, none⟩ (.slice (some ⟨g, 0, none⟩) n c)) lo p (k + 1) := by
  subst hn
  obtain ⟨vs, ho, hl, hj, hd⟩ := h.own_old q
  obtain ⟨vs0, ho0, hl0, hj0, hd0⟩ := h
  have hbw : ∀ i x b, i < k → vs[i]? = some x → x.ownBlock = some b → b < W.heap.size := fun i x b hi hx hb => by
    have e : vs0 = vs := by
      have e1 := fun i (hi : i < zss.length) => World.ownsRow.cellAt ho0 i (by omega)
      have e2 := fun i (hi : i < zss.length) => World.ownsRow.cellAt ho i (by omega)
      apply List.ext_getElem?
      intro i
      rcases Nat.lt_or_ge i zss.length with h1 | h1
      · rw [← e1 i h1, ← e2 i h1]
        exact (q.cell (p := ⟨p, i, none⟩) hp).symm
      · rw [List.getElem?_eq_none (by omega), List.getElem?_eq_none (by omega)]
    obtain ⟨a, c, h1, h2, h3, h4⟩ := hj0 i hi
    rw [← e, h1] at hx
    obtain rfl := Option.some.inj hx
    exact (h3.lt b hb).2
  refine ⟨vs.set k (.slice (some ⟨g, 0, none⟩) (zss.getD k []).length c), (World.ownsRow.stored ho k _).1, by simp [hl], fun j hjk => ?_, fun i j x y b hij hjk hx hy hbx hby => ?_⟩
  · rcases Nat.lt_or_ge j k with h1 | h1
    · obtain ⟨a, c2, e1, e2, e3, e4⟩ := hj j h1
      refine ⟨a, c2, ?_, e2, ?_, e4⟩
      · rw [List.getElem?_set_ne (by omega)]
        exact e1
      · exact ownsRow_setCell_other e3 (fun e => e4 _ e rfl) _
    · obtain rfl : j = k := by omega
      refine ⟨_, _, by rw [List.getElem?_set_self (by omega)], hc, Own.low (ownsRow_setCell_other o (by simp [Value.ownBlock]; omega) _) hlo, fun b hb => ?_⟩
      simp [Value.ownBlock] at hb
      omega
  · rcases Nat.lt_or_ge j k with h1 | h1
    · rw [List.getElem?_set_ne (by omega)] at hx hy
      exact hd i j x y b hij h1 hx hy hbx hby
    · obtain rfl : j = k := by omega
      rw [List.getElem?_set_ne (by omega)] at hx
      rw [List.getElem?_set_self (by omega)] at hy
      obtain rfl := Option.some.inj hy
      simp [Value.ownBlock] at hby
      have := hbw i x b hij hx hbx
      omega
theorem MkS.done {zss : List (List Int)} {W : World} {lo p : Nat} (h : MkS zss W lo p zss.length) (hlo : lo ≤ p) (hp : p < W.heap.size) : OwS zss W lo W.heap.size (.slice (some ⟨p, 0, none⟩) zss.length zss.length) := by
  obtain ⟨vs, ho, hl, hj, hd⟩ := h
  refine ⟨Nat.le_refl _, Or.inr ⟨p, zss.length, vs, rfl, Nat.le_refl _, hlo, hp, ho, hl, fun j hjl => ?_, fun i j x y b hij hx hy => ?_⟩⟩
  · obtain ⟨a, c, h1, h2, h3, h4⟩ := hj j hjl
    exact ⟨a, c, h1, h2, ⟨h3, Nat.le_refl _, fun b hb => (h3.lt b hb).2⟩, h4⟩
  · have hjl := (List.getElem?_eq_some_iff.1 hy).1
    exact hd i j x y b hij (by omega) hx hy
theorem Row.recap {W : World} {a : Option Addr} {n c c' : Nat} {xs : List Int} (h : Row W (.slice a n c) xs) (h0 : xs ≠ []) : Row W (.slice a n c') xs := by
  rcases h with ⟨_, _, e, e'⟩ | ⟨b, o, cap, e, r⟩
  · exact absurd e' h0
  · simp only [Value.slice.injEq] at e
    obtain ⟨rfl, rfl, rfl⟩ := e
    exact Or.inr ⟨b, o, c', rfl, r⟩
end Go.Proofs.YtcgnndenmcmieaaDoor
/- Proved: the program's eachPair. -/
namespace Go.Proofs.YtcgnndenmcmieaaDoor
open Go.ChangeShapes Go.WideShapes Go.ChangeAt Go.RowKit
open M1
set_option linter.unusedVariables false
set_option linter.unusedSimpArgs false
end Go.Proofs.YtcgnndenmcmieaaDoor
/- Proved: the program's eachPair where both rows are good. -/
namespace Go.Proofs.YtcgnndenmcmieaaDoor
open Go.ChangeShapes Go.WideShapes Go.ChangeAt Go.RowKit
open M1
set_option linter.unusedVariables false
set_option linter.unusedSimpArgs false
end Go.Proofs.YtcgnndenmcmieaaDoor
/- Proved: the program's two rows, number by number. -/
namespace Go.Proofs.YtcgnndenmcmieaaDoor
open Go.ChangeShapes Go.WideShapes Go.ChangeAt Go.RowKit
set_option linter.unusedVariables false
set_option linter.unusedSimpArgs false
end Go.Proofs.YtcgnndenmcmieaaDoor
/- Proved: the program's AddRows. -/
namespace Go.Proofs.YtcgnndenmcmieaaDoor
open Go.ChangeShapes Go.WideShapes Go.ChangeAt Go.RowKit
open M1
set_option linter.unusedVariables false
set_option linter.unusedSimpArgs false
theorem two_of {N : Int} {ps : List Int} {a b : Bool} {xss yss : List (List Int)} : twoB N ps a b xss yss = true ↔ (grB N ps xss = true ∧ grB N ps yss = true ∧ a = b) := by
  unfold twoB grB
  cases spB N ps <;> cases rwB N ps xss <;> cases rwB N ps yss <;> cases a <;> cases b <;> simp
theorem OwS.ats {xss : List (List Int)} {W : World} {lo hi : Nat} {v : Value} (ps : List Int) (h : OwS xss W lo hi v) : ∃ us cs, 0 < xss.length → RowsAt W v ps xss us cs := by
  rcases Nat.eq_zero_or_pos xss.length with h0 | h0
  · exact ⟨fun _ => none, fun _ => 0, fun h => by omega⟩
  · obtain ⟨us, cs, h⟩ := h.at ps h0
    exact ⟨us, cs, fun _ => h⟩
end Go.Proofs.YtcgnndenmcmieaaDoor
/- Proved: the model's AheadRows and BackRows, out of their rows. -/
namespace Go.Proofs.YtcgnndenmcmieaaDoor
open Go.ChangeShapes Go.WideShapes Go.ChangeAt Go.RowKit
set_option linter.unusedVariables false
set_option linter.unusedSimpArgs false
set_option maxRecDepth 100000 in
set_option maxHeartbeats 4000000 in
theorem spec_AheadRows_no (N : Int) (ps : List Int) (a : Bool) (xss : List (List Int)) (v u1 : Value) (w : World) (hv : Row w v ps) (hf : Fit v) (h1 : RowS w u1 xss) (hlp : ps.length ≤ 1048576) (hx : ∀ x ∈ ps, -9223372036854775808 ≤ x ∧ x ≤ 9223372036854775807) (hl1 : xss.length ≤ 1048576) (hr1 : ∀ r ∈ xss, r.length ≤ 1048576) (hg : grB N ps xss = false) :
    Calls Tryd.prog 39 #[.agg #[.int .i64 N, v], .agg #[.bool a, u1]] w (Rs w false [] false) := by
  have c1 := fun W (h : Old w W) => spec_goodRows N ps a xss v u1 W (hv.old h) hf (h1.old h) hlp hx hl1 hr1
  rw [hg] at c1
  obtain ⟨a0, cap0, ev⟩ := hv.slice
  obtain ⟨a1, cap1, e1⟩ := h1.slice
  subst ev e1
  have HA : Hid (Old w (((w.alloc (.cells #[.int .i64 N, .slice a0 ps.length cap0] 49)).alloc (.cells #[.bool a, .slice a1 xss.length cap1] 46)).alloc (.cells #[.bool false, .slice none 0 0] 46))) := (((Old.refl w).alloc _).alloc _).alloc _
  have HS : Hid (StW (((w.alloc (.cells #[.int .i64 N, .slice a0 ps.length cap0] 49)).alloc (.cells #[.bool a, .slice a1 xss.length cap1] 46)).alloc (.cells #[.bool false, .slice none 0 0] 46)) (w.heap.size + 1 + 1) (.bool false) (.slice none 0 0) 46) := by
    have := StW.new ((w.alloc (.cells #[.int .i64 N, .slice a0 ps.length cap0] 49)).alloc (.cells #[.bool a, .slice a1 xss.length cap1] 46)) (.bool false) (.slice none 0 0) 46
    simp at this
    exact this
  have HBX : Hid (∀ W', Old (((w.alloc (.cells #[.int .i64 N, .slice a0 ps.length cap0] 49)).alloc (.cells #[.bool a, .slice a1 xss.length cap1] 46)).alloc (.cells #[.bool false, .slice none 0 0] 46)) W' → StW W' w.heap.size (.int .i64 N) (.slice a0 ps.length cap0) 49 ∧ StW W' (w.heap.size + 1) (.bool a) (.slice a1 xss.length cap1) 46) := fun W' g => by
    have g1 := Old.trans ((Old.refl _).alloc _) g
    have g0 := Old.trans ((Old.refl _).alloc _) g1
    refine ⟨(StW.new w (.int .i64 N) (.slice a0 ps.length cap0) 49).old g0, ?_⟩
    have h := (StW.new (w.alloc (.cells #[.int .i64 N, .slice a0 ps.length cap0] 49)) (.bool a) (.slice a1 xss.length cap1) 46).old g1
    simp at h
    exact h
  clear hv h1 hf hx hr1 hg
  go_enter Tryd.func39, Tryd.ntmps39
  go_wp2_with fail
  refine (c1 _ HA.out).mono ?_
  rintro e w1 ⟨rfl, g1⟩
  have HG1 : Hid (Old w w1) := Old.trans HA.out g1
  have S1 : Hid (StW w1 (w.heap.size + 1 + 1) (.bool false) (.slice none 0 0) 46) := HS.out.old g1
  have hs : w.heap.size + 1 + 1 < w1.heap.size := S1.out.lt
  have q0 := S1.out.c0
  have q1 := S1.out.c1
  have f0 := S1.out.f0
  have f1 := S1.out.f1
  clear g1
  go_wp2_with fail
  refine bodyPost_ret (ret_rb (x := .bool false) (y := .slice none 0 0) (z := .bool false) Tryd.results39 _ _ rfl rfl (st_put2 S1.out _ _)) rfl ⟨_, rfl, ?_, XR.nil _ _ _ _ (Nat.le_refl _)⟩
  exact (HG1.out.own (p := ⟨w.heap.size + 1 + 1, 0, none⟩) (by simp; omega) _).own (p := ⟨w.heap.size + 1 + 1, 1, none⟩) (by simp; omega) _
set_option maxRecDepth 100000 in
set_option maxHeartbeats 4000000 in
theorem spec_AheadRows_yes (N : Int) (ps : List Int) (a : Bool) (xss : List (List Int)) (v u1 : Value) (w : World) (hv : Row w v ps) (hf : Fit v) (h1 : RowS w u1 xss) (hlp : ps.length ≤ 1048576) (hx : ∀ x ∈ ps, -9223372036854775808 ≤ x ∧ x ≤ 9223372036854775807) (hl1 : xss.length ≤ 1048576) (hr1 : ∀ r ∈ xss, r.length ≤ 1048576) (hg : grB N ps xss = true) (zss : List (List Int))
    (c4 : ∀ W, Old w W → Calls Tryd.prog 80 #[.agg #[.int .i64 N, v], .agg #[.bool a, u1]] W fun e w' => ∃ v', e = .returned v' ∧ Old W w' ∧ OwS zss w' W.heap.size w'.heap.size v') :
    Calls Tryd.prog 39 #[.agg #[.int .i64 N, v], .agg #[.bool a, u1]] w (Rs w true zss true) := by
  have c1 := fun W (h : Old w W) => spec_goodRows N ps a xss v u1 W (hv.old h) hf (h1.old h) hlp hx hl1 hr1
  rw [hg] at c1
  obtain ⟨a0, cap0, ev⟩ := hv.slice
  obtain ⟨a1, cap1, e1⟩ := h1.slice
  subst ev e1
  have HA : Hid (Old w (((w.alloc (.cells #[.int .i64 N, .slice a0 ps.length cap0] 49)).alloc (.cells #[.bool a, .slice a1 xss.length cap1] 46)).alloc (.cells #[.bool false, .slice none 0 0] 46))) := (((Old.refl w).alloc _).alloc _).alloc _
  have HS : Hid (StW (((w.alloc (.cells #[.int .i64 N, .slice a0 ps.length cap0] 49)).alloc (.cells #[.bool a, .slice a1 xss.length cap1] 46)).alloc (.cells #[.bool false, .slice none 0 0] 46)) (w.heap.size + 1 + 1) (.bool false) (.slice none 0 0) 46) := by
    have := StW.new ((w.alloc (.cells #[.int .i64 N, .slice a0 ps.length cap0] 49)).alloc (.cells #[.bool a, .slice a1 xss.length cap1] 46)) (.bool false) (.slice none 0 0) 46
    simp at this
    exact this
  have HBX : Hid (∀ W', Old (((w.alloc (.cells #[.int .i64 N, .slice a0 ps.length cap0] 49)).alloc (.cells #[.bool a, .slice a1 xss.length cap1] 46)).alloc (.cells #[.bool false, .slice none 0 0] 46)) W' → StW W' w.heap.size (.int .i64 N) (.slice a0 ps.length cap0) 49 ∧ StW W' (w.heap.size + 1) (.bool a) (.slice a1 xss.length cap1) 46) := fun W' g => by
    have g1 := Old.trans ((Old.refl _).alloc _) g
    have g0 := Old.trans ((Old.refl _).alloc _) g1
    refine ⟨(StW.new w (.int .i64 N) (.slice a0 ps.length cap0) 49).old g0, ?_⟩
    have h := (StW.new (w.alloc (.cells #[.int .i64 N, .slice a0 ps.length cap0] 49)) (.bool a) (.slice a1 xss.length cap1) 46).old g1
    simp at h
    exact h
  clear hv h1 hf hx hr1 hg
  go_enter Tryd.func39, Tryd.ntmps39
  go_wp2_with fail
  refine (c1 _ HA.out).mono ?_
  rintro e w1 ⟨rfl, g1⟩
  have HG1 : Hid (Old w w1) := Old.trans HA.out g1
  have S1 : Hid (StW w1 (w.heap.size + 1 + 1) (.bool false) (.slice none 0 0) 46) := HS.out.old g1
  have hs : w.heap.size + 1 + 1 < w1.heap.size := S1.out.lt
  have x0 := (HBX.out w1 g1).1.c0
  have x1 := (HBX.out w1 g1).1.c1
  have x2 := (HBX.out w1 g1).2.c0
  have x3 := (HBX.out w1 g1).2.c1
  clear g1
  go_wp2_with fail
  refine (c4 _ HG1.out).mono ?_
  rintro e w2 ⟨v2, rfl, g2, o2⟩
  obtain ⟨a5, cap5, rfl⟩ := o2.slice
  have HG2 : Hid (Old w w2) := Old.trans HG1.out g2
  have S2 : Hid (StW w2 (w.heap.size + 1 + 1) (.bool false) (.slice none 0 0) 46) := S1.out.old g2
  have OX : Hid (OwS zss w2 w1.heap.size w2.heap.size (.slice a5 zss.length cap5)) := o2
  have q0 := S2.out.c0
  have q1 := S2.out.c1
  have f0 := S2.out.f0
  have f1 := S2.out.f1
  clear g2 o2 x0 x1 x2 x3
  go_wp2_with fail
  refine bodyPost_ret (ret_rb Tryd.results39 _ _ rfl rfl (st_put2 S2.out _ _)) rfl ⟨_, rfl, ?_, a5, cap5, rfl, ?_⟩
  · exact (HG2.out.own (p := ⟨w.heap.size + 1 + 1, 0, none⟩) (by simp; omega) _).own (p := ⟨w.heap.size + 1 + 1, 1, none⟩) (by simp; omega) _
  · have h2 := (OX.out.put (k := w.heap.size + 1 + 1) (j := 0) (x := .bool true) (by omega)).put (k := w.heap.size + 1 + 1) (j := 1) (x := .slice a5 zss.length cap5) (by omega)
    have h3 := h2.low (lo' := w.heap.size) (by omega)
    exact h3.high (by simp) (Nat.le_refl _)
set_option maxRecDepth 100000 in
set_option maxHeartbeats 4000000 in
theorem spec_BackRows_no (N : Int) (ps : List Int) (a : Bool) (xss : List (List Int)) (v u1 : Value) (w : World) (hv : Row w v ps) (hf : Fit v) (h1 : RowS w u1 xss) (hlp : ps.length ≤ 1048576) (hx : ∀ x ∈ ps, -9223372036854775808 ≤ x ∧ x ≤ 9223372036854775807) (hl1 : xss.length ≤ 1048576) (hr1 : ∀ r ∈ xss, r.length ≤ 1048576) (hg : grB N ps xss = false) :
    Calls Tryd.prog 41 #[.agg #[.int .i64 N, v], .agg #[.bool a, u1]] w (Rs w false [] false) := by
  have c1 := fun W (h : Old w W) => spec_goodRows N ps a xss v u1 W (hv.old h) hf (h1.old h) hlp hx hl1 hr1
  rw [hg] at c1
  obtain ⟨a0, cap0, ev⟩ := hv.slice
  obtain ⟨a1, cap1, e1⟩ := h1.slice
  subst ev e1
  have HA : Hid (Old w (((w.alloc (.cells #[.int .i64 N, .slice a0 ps.length cap0] 49)).alloc (.cells #[.bool a, .slice a1 xss.length cap1] 46)).alloc (.cells #[.bool false, .slice none 0 0] 46))) := (((Old.refl w).alloc _).alloc _).alloc _
  have HS : Hid (StW (((w.alloc (.cells #[.int .i64 N, .slice a0 ps.length cap0] 49)).alloc (.cells #[.bool a, .slice a1 xss.length cap1] 46)).alloc (.cells #[.bool false, .slice none 0 0] 46)) (w.heap.size + 1 + 1) (.bool false) (.slice none 0 0) 46) := by
    have := StW.new ((w.alloc (.cells #[.int .i64 N, .slice a0 ps.length cap0] 49)).alloc (.cells #[.bool a, .slice a1 xss.length cap1] 46)) (.bool false) (.slice none 0 0) 46
    simp at this
    exact this
  have HBX : Hid (∀ W', Old (((w.alloc (.cells #[.int .i64 N, .slice a0 ps.length cap0] 49)).alloc (.cells #[.bool a, .slice a1 xss.length cap1] 46)).alloc (.cells #[.bool false, .slice none 0 0] 46)) W' → StW W' w.heap.size (.int .i64 N) (.slice a0 ps.length cap0) 49 ∧ StW W' (w.heap.size + 1) (.bool a) (.slice a1 xss.length cap1) 46) := fun W' g => by
    have g1 := Old.trans ((Old.refl _).alloc _) g
    have g0 := Old.trans ((Old.refl _).alloc _) g1
    refine ⟨(StW.new w (.int .i64 N) (.slice a0 ps.length cap0) 49).old g0, ?_⟩
    have h := (StW.new (w.alloc (.cells #[.int .i64 N, .slice a0 ps.length cap0] 49)) (.bool a) (.slice a1 xss.length cap1) 46).old g1
    simp at h
    exact h
  clear hv h1 hf hx hr1 hg
  go_enter Tryd.func41, Tryd.ntmps41
  go_wp2_with fail
  refine (c1 _ HA.out).mono ?_
  rintro e w1 ⟨rfl, g1⟩
  have HG1 : Hid (Old w w1) := Old.trans HA.out g1
  have S1 : Hid (StW w1 (w.heap.size + 1 + 1) (.bool false) (.slice none 0 0) 46) := HS.out.old g1
  have hs : w.heap.size + 1 + 1 < w1.heap.size := S1.out.lt
  have q0 := S1.out.c0
  have q1 := S1.out.c1
  have f0 := S1.out.f0
  have f1 := S1.out.f1
  clear g1
  go_wp2_with fail
  refine bodyPost_ret (ret_rb (x := .bool false) (y := .slice none 0 0) (z := .bool false) Tryd.results41 _ _ rfl rfl (st_put2 S1.out _ _)) rfl ⟨_, rfl, ?_, XR.nil _ _ _ _ (Nat.le_refl _)⟩
  exact (HG1.out.own (p := ⟨w.heap.size + 1 + 1, 0, none⟩) (by simp; omega) _).own (p := ⟨w.heap.size + 1 + 1, 1, none⟩) (by simp; omega) _
set_option maxRecDepth 100000 in
set_option maxHeartbeats 4000000 in
theorem spec_BackRows_yes (N : Int) (ps : List Int) (a : Bool) (xss : List (List Int)) (v u1 : Value) (w : World) (hv : Row w v ps) (hf : Fit v) (h1 : RowS w u1 xss) (hlp : ps.length ≤ 1048576) (hx : ∀ x ∈ ps, -9223372036854775808 ≤ x ∧ x ≤ 9223372036854775807) (hl1 : xss.length ≤ 1048576) (hr1 : ∀ r ∈ xss, r.length ≤ 1048576) (hg : grB N ps xss = true) (zss : List (List Int))
    (c4 : ∀ W, Old w W → Calls Tryd.prog 79 #[.agg #[.int .i64 N, v], .agg #[.bool a, u1]] W fun e w' => ∃ v', e = .returned v' ∧ Old W w' ∧ OwS zss w' W.heap.size w'.heap.size v') :
    Calls Tryd.prog 41 #[.agg #[.int .i64 N, v], .agg #[.bool a, u1]] w (Rs w false zss true) := by
  have c1 := fun W (h : Old w W) => spec_goodRows N ps a xss v u1 W (hv.old h) hf (h1.old h) hlp hx hl1 hr1
  rw [hg] at c1
  obtain ⟨a0, cap0, ev⟩ := hv.slice
  obtain ⟨a1, cap1, e1⟩ := h1.slice
  subst ev e1
  have HA : Hid (Old w (((w.alloc (.cells #[.int .i64 N, .slice a0 ps.length cap0] 49)).alloc (.cells #[.bool a, .slice a1 xss.length cap1] 46)).alloc (.cells #[.bool false, .slice none 0 0] 46))) := (((Old.refl w).alloc _).alloc _).alloc _
  have HS : Hid (StW (((w.alloc (.cells #[.int .i64 N, .slice a0 ps.length cap0] 49)).alloc (.cells #[.bool a, .slice a1 xss.length cap1] 46)).alloc (.cells #[.bool false, .slice none 0 0] 46)) (w.heap.size + 1 + 1) (.bool false) (.slice none 0 0) 46) := by
    have := StW.new ((w.alloc (.cells #[.int .i64 N, .slice a0 ps.length cap0] 49)).alloc (.cells #[.bool a, .slice a1 xss.length cap1] 46)) (.bool false) (.slice none 0 0) 46
    simp at this
    exact this
  have HBX : Hid (∀ W', Old (((w.alloc (.cells #[.int .i64 N, .slice a0 ps.length cap0] 49)).alloc (.cells #[.bool a, .slice a1 xss.length cap1] 46)).alloc (.cells #[.bool false, .slice none 0 0] 46)) W' → StW W' w.heap.size (.int .i64 N) (.slice a0 ps.length cap0) 49 ∧ StW W' (w.heap.size + 1) (.bool a) (.slice a1 xss.length cap1) 46) := fun W' g => by
    have g1 := Old.trans ((Old.refl _).alloc _) g
    have g0 := Old.trans ((Old.refl _).alloc _) g1
    refine ⟨(StW.new w (.int .i64 N) (.slice a0 ps.length cap0) 49).old g0, ?_⟩
    have h := (StW.new (w.alloc (.cells #[.int .i64 N, .slice a0 ps.length cap0] 49)) (.bool a) (.slice a1 xss.length cap1) 46).old g1
    simp at h
    exact h
  clear hv h1 hf hx hr1 hg
  go_enter Tryd.func41, Tryd.ntmps41
  go_wp2_with fail
  refine (c1 _ HA.out).mono ?_
  rintro e w1 ⟨rfl, g1⟩
  have HG1 : Hid (Old w w1) := Old.trans HA.out g1
  have S1 : Hid (StW w1 (w.heap.size + 1 + 1) (.bool false) (.slice none 0 0) 46) := HS.out.old g1
  have hs : w.heap.size + 1 + 1 < w1.heap.size := S1.out.lt
  have x0 := (HBX.out w1 g1).1.c0
  have x1 := (HBX.out w1 g1).1.c1
  have x2 := (HBX.out w1 g1).2.c0
  have x3 := (HBX.out w1 g1).2.c1
  clear g1
  go_wp2_with fail
  refine (c4 _ HG1.out).mono ?_
  rintro e w2 ⟨v2, rfl, g2, o2⟩
  obtain ⟨a5, cap5, rfl⟩ := o2.slice
  have HG2 : Hid (Old w w2) := Old.trans HG1.out g2
  have S2 : Hid (StW w2 (w.heap.size + 1 + 1) (.bool false) (.slice none 0 0) 46) := S1.out.old g2
  have OX : Hid (OwS zss w2 w1.heap.size w2.heap.size (.slice a5 zss.length cap5)) := o2
  have q0 := S2.out.c0
  have q1 := S2.out.c1
  have f0 := S2.out.f0
  have f1 := S2.out.f1
  clear g2 o2 x0 x1 x2 x3
  go_wp2_with fail
  refine bodyPost_ret (ret_rb Tryd.results41 _ _ rfl rfl (st_put2 S2.out _ _)) rfl ⟨_, rfl, ?_, a5, cap5, rfl, ?_⟩
  · exact (HG2.out.own (p := ⟨w.heap.size + 1 + 1, 0, none⟩) (by simp; omega) _).own (p := ⟨w.heap.size + 1 + 1, 1, none⟩) (by simp; omega) _
  · have h2 := (OX.out.put (k := w.heap.size + 1 + 1) (j := 0) (x := .bool false) (by omega)).put (k := w.heap.size + 1 + 1) (j := 1) (x := .slice a5 zss.length cap5) (by omega)
    have h3 := h2.low (lo' := w.heap.size) (by omega)
    exact h3.high (by simp) (Nat.le_refl _)
end Go.Proofs.YtcgnndenmcmieaaDoor
/- Proved: the program's AheadRows and BackRows, out of eachRow. -/
namespace Go.Proofs.YtcgnndenmcmieaaDoor
open Go.ChangeShapes Go.WideShapes Go.ChangeAt Go.RowKit
set_option linter.unusedVariables false
set_option linter.unusedSimpArgs false
set_option maxRecDepth 100000 in
set_option maxHeartbeats 4000000 in
theorem impl_AheadRows_of (N : Int) (ps : List Int) (xss : List (List Int)) (a : Bool) (a0 a1 : Option Addr) (cap0 cap1 : Nat) (w : World) (n : Bool) (zss : List (List Int)) (ok : Bool)
    (c : ∀ W, Old w W → Calls Tryd.prog 82 #[.agg #[.int .i64 N, .slice a0 ps.length cap0], .agg #[.bool a, .slice a1 xss.length cap1], .bool true, .func (.func 86) #[] #[]] W (Rs W n zss ok)) :
    Calls Tryd.prog 40 #[.agg #[.int .i64 N, .slice a0 ps.length cap0], .agg #[.bool a, .slice a1 xss.length cap1]] w (Rs w n zss ok) := by
  have HA : Hid (Old w (((w.alloc (.cells #[.int .i64 N, .slice a0 ps.length cap0] 49)).alloc (.cells #[.bool a, .slice a1 xss.length cap1] 46)).alloc (.cells #[.bool false, .slice none 0 0] 46))) := (((Old.refl w).alloc _).alloc _).alloc _
  have HS : Hid (StW (((w.alloc (.cells #[.int .i64 N, .slice a0 ps.length cap0] 49)).alloc (.cells #[.bool a, .slice a1 xss.length cap1] 46)).alloc (.cells #[.bool false, .slice none 0 0] 46)) (w.heap.size + 1 + 1) (.bool false) (.slice none 0 0) 46) := by
    have := StW.new ((w.alloc (.cells #[.int .i64 N, .slice a0 ps.length cap0] 49)).alloc (.cells #[.bool a, .slice a1 xss.length cap1] 46)) (.bool false) (.slice none 0 0) 46
    simp at this
    exact this
  have HBX : Hid (∀ W', Old (((w.alloc (.cells #[.int .i64 N, .slice a0 ps.length cap0] 49)).alloc (.cells #[.bool a, .slice a1 xss.length cap1] 46)).alloc (.cells #[.bool false, .slice none 0 0] 46)) W' → StW W' w.heap.size (.int .i64 N) (.slice a0 ps.length cap0) 49 ∧ StW W' (w.heap.size + 1) (.bool a) (.slice a1 xss.length cap1) 46) := fun W' g => by
    have g1 := Old.trans ((Old.refl _).alloc _) g
    have g0 := Old.trans ((Old.refl _).alloc _) g1
    refine ⟨(StW.new w (.int .i64 N) (.slice a0 ps.length cap0) 49).old g0, ?_⟩
    have h := (StW.new (w.alloc (.cells #[.int .i64 N, .slice a0 ps.length cap0] 49)) (.bool a) (.slice a1 xss.length cap1) 46).old g1
    simp at h
    exact h
  go_enter Tryd.func40, Tryd.ntmps40
  go_wp2_with fail
  refine (c _ HA.out).mono ?_
  rintro e w2 ⟨r0, rfl, g2, xr⟩
  obtain ⟨ax, cx, rfl, ox⟩ := xr
  have HG2 : Hid (Old w w2) := Old.trans HA.out g2
  have S2 : Hid (StW w2 (w.heap.size + 1 + 1) (.bool false) (.slice none 0 0) 46) := HS.out.old g2
  have OX : Hid (OwS zss w2 (((w.alloc (.cells #[.int .i64 N, .slice a0 ps.length cap0] 49)).alloc (.cells #[.bool a, .slice a1 xss.length cap1] 46)).alloc (.cells #[.bool false, .slice none 0 0] 46)).heap.size w2.heap.size (.slice ax zss.length cx)) := ox
  have HSZ : Hid ((((w.alloc (.cells #[.int .i64 N, .slice a0 ps.length cap0] 49)).alloc (.cells #[.bool a, .slice a1 xss.length cap1] 46)).alloc (.cells #[.bool false, .slice none 0 0] 46)).heap.size = w.heap.size + 1 + 1 + 1) := by show _ = _; simp
  have q0 := S2.out.c0
  have q1 := S2.out.c1
  have f0 := S2.out.f0
  have f1 := S2.out.f1
  clear g2 ox
  go_wp2_with fail
  have hs3 := HSZ.out
  refine bodyPost_ret (ret_rb Tryd.results40 _ _ rfl rfl (st_put2 S2.out _ _)) rfl ⟨_, rfl, ?_, ax, cx, rfl, ?_⟩
  · exact (HG2.out.own (p := ⟨w.heap.size + 1 + 1, 0, none⟩) (by simp; omega) _).own (p := ⟨w.heap.size + 1 + 1, 1, none⟩) (by simp; omega) _
  · have h2 := (OX.out.put (k := w.heap.size + 1 + 1) (j := 0) (x := .bool n) (by omega)).put (k := w.heap.size + 1 + 1) (j := 1) (x := .slice ax zss.length cx) (by omega)
    have h3 := h2.low (lo' := w.heap.size) (by omega)
    exact h3.high (by simp) (Nat.le_refl _)
set_option maxRecDepth 100000 in
set_option maxHeartbeats 4000000 in
theorem impl_BackRows_of (N : Int) (ps : List Int) (xss : List (List Int)) (a : Bool) (a0 a1 : Option Addr) (cap0 cap1 : Nat) (w : World) (n : Bool) (zss : List (List Int)) (ok : Bool)
    (c : ∀ W, Old w W → Calls Tryd.prog 82 #[.agg #[.int .i64 N, .slice a0 ps.length cap0], .agg #[.bool a, .slice a1 xss.length cap1], .bool false, .func (.func 87) #[] #[]] W (Rs W n zss ok)) :
    Calls Tryd.prog 42 #[.agg #[.int .i64 N, .slice a0 ps.length cap0], .agg #[.bool a, .slice a1 xss.length cap1]] w (Rs w n zss ok) := by
  have HA : Hid (Old w (((w.alloc (.cells #[.int .i64 N, .slice a0 ps.length cap0] 49)).alloc (.cells #[.bool a, .slice a1 xss.length cap1] 46)).alloc (.cells #[.bool false, .slice none 0 0] 46))) := (((Old.refl w).alloc _).alloc _).alloc _
  have HS : Hid (StW (((w.alloc (.cells #[.int .i64 N, .slice a0 ps.length cap0] 49)).alloc (.cells #[.bool a, .slice a1 xss.length cap1] 46)).alloc (.cells #[.bool false, .slice none 0 0] 46)) (w.heap.size + 1 + 1) (.bool false) (.slice none 0 0) 46) := by
    have := StW.new ((w.alloc (.cells #[.int .i64 N, .slice a0 ps.length cap0] 49)).alloc (.cells #[.bool a, .slice a1 xss.length cap1] 46)) (.bool false) (.slice none 0 0) 46
    simp at this
    exact this
  have HBX : Hid (∀ W', Old (((w.alloc (.cells #[.int .i64 N, .slice a0 ps.length cap0] 49)).alloc (.cells #[.bool a, .slice a1 xss.length cap1] 46)).alloc (.cells #[.bool false, .slice none 0 0] 46)) W' → StW W' w.heap.size (.int .i64 N) (.slice a0 ps.length cap0) 49 ∧ StW W' (w.heap.size + 1) (.bool a) (.slice a1 xss.length cap1) 46) := fun W' g => by
    have g1 := Old.trans ((Old.refl _).alloc _) g
    have g0 := Old.trans ((Old.refl _).alloc _) g1
    refine ⟨(StW.new w (.int .i64 N) (.slice a0 ps.length cap0) 49).old g0, ?_⟩
    have h := (StW.new (w.alloc (.cells #[.int .i64 N, .slice a0 ps.length cap0] 49)) (.bool a) (.slice a1 xss.length cap1) 46).old g1
    simp at h
    exact h
  go_enter Tryd.func42, Tryd.ntmps42
  go_wp2_with fail
  refine (c _ HA.out).mono ?_
  rintro e w2 ⟨r0, rfl, g2, xr⟩
  obtain ⟨ax, cx, rfl, ox⟩ := xr
  have HG2 : Hid (Old w w2) := Old.trans HA.out g2
  have S2 : Hid (StW w2 (w.heap.size + 1 + 1) (.bool false) (.slice none 0 0) 46) := HS.out.old g2
  have OX : Hid (OwS zss w2 (((w.alloc (.cells #[.int .i64 N, .slice a0 ps.length cap0] 49)).alloc (.cells #[.bool a, .slice a1 xss.length cap1] 46)).alloc (.cells #[.bool false, .slice none 0 0] 46)).heap.size w2.heap.size (.slice ax zss.length cx)) := ox
  have HSZ : Hid ((((w.alloc (.cells #[.int .i64 N, .slice a0 ps.length cap0] 49)).alloc (.cells #[.bool a, .slice a1 xss.length cap1] 46)).alloc (.cells #[.bool false, .slice none 0 0] 46)).heap.size = w.heap.size + 1 + 1 + 1) := by show _ = _; simp
  have q0 := S2.out.c0
  have q1 := S2.out.c1
  have f0 := S2.out.f0
  have f1 := S2.out.f1
  clear g2 ox
  go_wp2_with fail
  have hs3 := HSZ.out
  refine bodyPost_ret (ret_rb Tryd.results42 _ _ rfl rfl (st_put2 S2.out _ _)) rfl ⟨_, rfl, ?_, ax, cx, rfl, ?_⟩
  · exact (HG2.out.own (p := ⟨w.heap.size + 1 + 1, 0, none⟩) (by simp; omega) _).own (p := ⟨w.heap.size + 1 + 1, 1, none⟩) (by simp; omega) _
  · have h2 := (OX.out.put (k := w.heap.size + 1 + 1) (j := 0) (x := .bool n) (by omega)).put (k := w.heap.size + 1 + 1) (j := 1) (x := .slice ax zss.length cx) (by omega)
    have h3 := h2.low (lo' := w.heap.size) (by omega)
    exact h3.high (by simp) (Nat.le_refl _)
end Go.Proofs.YtcgnndenmcmieaaDoor
/- Proved: a row copied by the program, and its changes madeAhead and madeBack. -/
namespace Go.Proofs.YtcgnndenmcmieaaDoor
open Go.ChangeShapes Go.WideShapes Go.ChangeAt Go.RowKit
set_option linter.unusedVariables false
set_option linter.unusedSimpArgs false
theorem own_some {W : World} {base : Nat} {v : Value} {zs : List Int} (h : Own W base v zs) (h0 : 0 < zs.length) : ∃ g rc, v = .slice (some ⟨g, 0, none⟩) zs.length rc ∧ zs.length ≤ rc := by
  rcases h.2 with ⟨e, hn⟩ | ⟨_, _, _, e, _, _, hn, _⟩
  · omega
  · exact ⟨_, _, e, hn⟩
set_option maxRecDepth 100000 in
set_option maxHeartbeats 4000000 in
theorem impl_copied (p r : Int) (n : Bool) (Nn : Nat) (zs : List Int) (ua : Option Addr) (w : World) (hv : Row w (.slice ua Nn Nn) zs) (hN : 2 ≤ Nn ∧ Nn ≤ 16) (la : zs.length = Nn) :
    Calls Tryd.prog 122 #[.agg #[.int .i64 p, .int .i64 Nn, .int .i64 r, .bool n, .slice ua Nn Nn]] w fun e w' => ∃ g cp, e = .returned (.slice (some ⟨g, 0, none⟩) Nn cp) ∧ Nn ≤ cp ∧ Old w w' ∧ Own w' w.heap.size (.slice (some ⟨g, 0, none⟩) Nn cp) zs := by
  obtain ⟨i0, hi, hz0, hz1, hz2⟩ := info_parts Tryd.infoInt
  rcases hv with ⟨_, _, e, e'⟩ | ⟨b1, o1, cap1, e, hb1, h01, hc1⟩
  · subst e'
    simp at la
    omega
  simp only [Value.slice.injEq] at e
  obtain ⟨rfl, e7, e8⟩ := e
  have HC1 : Hid (∀ j, j < Nn → w.cell? ⟨b1, o1 + j, none⟩ = some (.int .i64 (zs.getD j 0))) := fun j hj => hc1 j (by omega)
  clear hc1 e7 e8 h01
  obtain ⟨wB, hwB⟩ : ∃ wB, wB = w.alloc (.cells #[.int .i64 p, .int .i64 Nn, .int .i64 r, .bool n, .slice (some ⟨b1, o1, none⟩) Nn Nn] 105) := ⟨_, rfl⟩
  have HWB : Hid (Old w wB) := by rw [hwB]; exact (Old.refl w).alloc _
  have HB : Hid (∀ W', Old wB W' → (W'.cell? ⟨w.heap.size, 1, none⟩ = some (.int .i64 Nn) ∧ W'.cell? ⟨w.heap.size, 4, none⟩ = some (.slice (some ⟨b1, o1, none⟩) Nn Nn))) := fun W' g => by
    rw [hwB] at g
    exact ⟨(g.cell (p := ⟨w.heap.size, 1, none⟩) (by simp)).trans (cell_at _ _ _ _ _ rfl), (g.cell (p := ⟨w.heap.size, 4, none⟩) (by simp)).trans (cell_at _ _ _ _ _ rfl)⟩
  have HSZ : wB.heap.size = w.heap.size + 1 := by rw [hwB]; simp
  go_enter Tryd.func122, Tryd.ntmps122
  go_wp2_with (first
    | (at_make; rw [← hwB]; refine wpList_make_full _ rfl _ _ 24 rfl wB.heap.size 3 i0 (.int .i64 0) 1 Tryd.underlying24 hi hz0 hz1 .i64 .i64 _ _ Nn rfl rfl rfl rfl (by rw [hz2]; omega) (by unfold maxLen; omega) (Nat.le_refl _) ?_; intro w1 hown hgrow; have HO1 : Hid (OwnI w1 (w.heap.size + 1) (w.heap.size + 1) Nn (List.replicate Nn 0)) := (by rw [made_ints, HSZ] at hown; exact hown); have HG1 : Hid (Old wB w1) := Old.by_ (Old.refl _) hgrow (fun b hb => by cases hb); have z4 := (HB.out w1 HG1.out).2; rw [HSZ]; clear hown hgrow)
    | ((with_reducible refine copy_row (w.heap.size + 1) (w.heap.size + 1) Nn b1 o1 Nn (List.replicate Nn 0) zs ?_ ?_ HO1.out ?_ la ?_ ?_); exact rfl; exact rfl; (simp); (intro j hj; exact ((Old.trans HWB.out HG1.out).cell (p := ⟨b1, o1 + j, none⟩) hb1).trans (HC1.out j hj)); intro w2 ho2 hbe2; have HO2 : Hid (OwnI w2 (w.heap.size + 1) (w.heap.size + 1) Nn zs) := ho2; have HG2 : Hid (Old w w2) := Old.trans HWB.out (Below.trans HG1.out (hbe2.mono (by rw [HSZ]; omega))); clear ho2 hbe2))
  go_ret
  exact ⟨_, _, rfl, Nat.le_refl _, HG2.out, (HO2.out.own la).low (by omega)⟩
set_option maxRecDepth 100000 in
set_option maxHeartbeats 4000000 in
theorem impl_madeAhead_c (p r : Int) (Nn : Nat) (zs : List Int) (ua : Option Addr) (w : World) (KC : ∀ W, Old w W → Calls Tryd.prog 122 #[.agg #[.int .i64 p, .int .i64 Nn, .int .i64 r, .bool true, .slice ua Nn Nn]] W fun e w' => ∃ g cp, e = .returned (.slice (some ⟨g, 0, none⟩) Nn cp) ∧ Nn ≤ cp ∧ Old W w' ∧ Own w' W.heap.size (.slice (some ⟨g, 0, none⟩) Nn cp) zs) :
    Calls Tryd.prog 86 #[.agg #[.int .i64 p, .int .i64 Nn, .int .i64 r, .bool true, .slice ua Nn Nn]] w fun e w' => ∃ g cp, e = .returned (.slice (some ⟨g, 0, none⟩) Nn cp) ∧ Nn ≤ cp ∧ Old w w' ∧ Own w' w.heap.size (.slice (some ⟨g, 0, none⟩) Nn cp) zs := by
  obtain ⟨wB, hwB⟩ : ∃ wB, wB = w.alloc (.cells #[.int .i64 p, .int .i64 Nn, .int .i64 r, .bool true, .slice ua Nn Nn] 105) := ⟨_, rfl⟩
  have HWB : Hid (Old w wB) := by rw [hwB]; exact (Old.refl w).alloc _
  have kc := KC wB HWB.out
  clear KC
  go_enter Tryd.func86, Tryd.ntmps86
  go_wp2_with fail
  rw [← hwB]
  refine kc.mono ?_
  rintro e w2 ⟨g, cp, rfl, hcp, g2, o2⟩
  have HG2 : Hid (Old w w2) := Old.trans HWB.out g2
  have HO2 : Hid (Own w2 w.heap.size (.slice (some ⟨g, 0, none⟩) Nn cp) zs) := o2.low HWB.out.size
  clear g2 o2
  go_wp2_with fail
  go_ret
  exact ⟨g, cp, rfl, hcp, HG2.out, HO2.out⟩
set_option maxRecDepth 100000 in
set_option maxHeartbeats 4000000 in
theorem impl_madeAhead_t (p r : Int) (Nn : Nat) (zs : List Int) (ua : Option Addr) (w : World) (KC : ∀ W, Old w W → Calls Tryd.prog 94 #[.agg #[.int .i64 p, .int .i64 Nn, .int .i64 r], .slice ua Nn Nn] W fun e w' => ∃ v', e = .returned v' ∧ Old W w' ∧ Own w' W.heap.size v' zs) (hz : zs.length = Nn) (h0 : 0 < Nn) :
    Calls Tryd.prog 86 #[.agg #[.int .i64 p, .int .i64 Nn, .int .i64 r, .bool false, .slice ua Nn Nn]] w fun e w' => ∃ g cp, e = .returned (.slice (some ⟨g, 0, none⟩) Nn cp) ∧ Nn ≤ cp ∧ Old w w' ∧ Own w' w.heap.size (.slice (some ⟨g, 0, none⟩) Nn cp) zs := by
  obtain ⟨wB, hwB⟩ : ∃ wB, wB = w.alloc (.cells #[.int .i64 p, .int .i64 Nn, .int .i64 r, .bool false, .slice ua Nn Nn] 105) := ⟨_, rfl⟩
  have HWB : Hid (Old w wB) := by rw [hwB]; exact (Old.refl w).alloc _
  have kc := KC wB HWB.out
  clear KC
  go_enter Tryd.func86, Tryd.ntmps86
  go_wp2_with fail
  rw [← hwB]
  refine kc.mono ?_
  rintro e w2 ⟨v2, rfl, g2, o2⟩
  have HG2 : Hid (Old w w2) := Old.trans HWB.out g2
  obtain ⟨g, cp, e2, hcp⟩ := own_some o2 (by omega)
  rw [hz] at e2 hcp
  subst e2
  have HO2 : Hid (Own w2 w.heap.size (.slice (some ⟨g, 0, none⟩) Nn cp) zs) := o2.low HWB.out.size
  clear g2 o2
  go_wp2_with fail
  go_ret
  exact ⟨g, cp, rfl, hcp, HG2.out, HO2.out⟩
set_option maxRecDepth 100000 in
set_option maxHeartbeats 4000000 in
theorem impl_madeBack_c (p r : Int) (Nn : Nat) (zs : List Int) (ua : Option Addr) (w : World) (KC : ∀ W, Old w W → Calls Tryd.prog 122 #[.agg #[.int .i64 p, .int .i64 Nn, .int .i64 r, .bool false, .slice ua Nn Nn]] W fun e w' => ∃ g cp, e = .returned (.slice (some ⟨g, 0, none⟩) Nn cp) ∧ Nn ≤ cp ∧ Old W w' ∧ Own w' W.heap.size (.slice (some ⟨g, 0, none⟩) Nn cp) zs) :
    Calls Tryd.prog 87 #[.agg #[.int .i64 p, .int .i64 Nn, .int .i64 r, .bool false, .slice ua Nn Nn]] w fun e w' => ∃ g cp, e = .returned (.slice (some ⟨g, 0, none⟩) Nn cp) ∧ Nn ≤ cp ∧ Old w w' ∧ Own w' w.heap.size (.slice (some ⟨g, 0, none⟩) Nn cp) zs := by
  obtain ⟨wB, hwB⟩ : ∃ wB, wB = w.alloc (.cells #[.int .i64 p, .int .i64 Nn, .int .i64 r, .bool false, .slice ua Nn Nn] 105) := ⟨_, rfl⟩
  have HWB : Hid (Old w wB) := by rw [hwB]; exact (Old.refl w).alloc _
  have kc := KC wB HWB.out
  clear KC
  go_enter Tryd.func87, Tryd.ntmps87
  go_wp2_with fail
  rw [← hwB]
  refine kc.mono ?_
  rintro e w2 ⟨g, cp, rfl, hcp, g2, o2⟩
  have HG2 : Hid (Old w w2) := Old.trans HWB.out g2
  have HO2 : Hid (Own w2 w.heap.size (.slice (some ⟨g, 0, none⟩) Nn cp) zs) := o2.low HWB.out.size
  clear g2 o2
  go_wp2_with fail
  go_ret
  exact ⟨g, cp, rfl, hcp, HG2.out, HO2.out⟩
set_option maxRecDepth 100000 in
set_option maxHeartbeats 4000000 in
theorem impl_madeBack_t (p r : Int) (Nn : Nat) (zs : List Int) (ua : Option Addr) (w : World) (KC : ∀ W, Old w W → Calls Tryd.prog 92 #[.agg #[.int .i64 p, .int .i64 Nn, .int .i64 r], .slice ua Nn Nn] W fun e w' => ∃ v', e = .returned v' ∧ Old W w' ∧ Own w' W.heap.size v' zs) (hz : zs.length = Nn) (h0 : 0 < Nn) :
    Calls Tryd.prog 87 #[.agg #[.int .i64 p, .int .i64 Nn, .int .i64 r, .bool true, .slice ua Nn Nn]] w fun e w' => ∃ g cp, e = .returned (.slice (some ⟨g, 0, none⟩) Nn cp) ∧ Nn ≤ cp ∧ Old w w' ∧ Own w' w.heap.size (.slice (some ⟨g, 0, none⟩) Nn cp) zs := by
  obtain ⟨wB, hwB⟩ : ∃ wB, wB = w.alloc (.cells #[.int .i64 p, .int .i64 Nn, .int .i64 r, .bool true, .slice ua Nn Nn] 105) := ⟨_, rfl⟩
  have HWB : Hid (Old w wB) := by rw [hwB]; exact (Old.refl w).alloc _
  have kc := KC wB HWB.out
  clear KC
  go_enter Tryd.func87, Tryd.ntmps87
  go_wp2_with fail
  rw [← hwB]
  refine kc.mono ?_
  rintro e w2 ⟨v2, rfl, g2, o2⟩
  have HG2 : Hid (Old w w2) := Old.trans HWB.out g2
  obtain ⟨g, cp, e2, hcp⟩ := own_some o2 (by omega)
  rw [hz] at e2 hcp
  subst e2
  have HO2 : Hid (Own w2 w.heap.size (.slice (some ⟨g, 0, none⟩) Nn cp) zs) := o2.low HWB.out.size
  clear g2 o2
  go_wp2_with fail
  go_ret
  exact ⟨g, cp, rfl, hcp, HG2.out, HO2.out⟩
end Go.Proofs.YtcgnndenmcmieaaDoor
/- Proved: the program's eachRow. -/
namespace Go.Proofs.YtcgnndenmcmieaaDoor
open Go.ChangeShapes Go.WideShapes Go.ChangeAt Go.RowKit
open M1
set_option linter.unusedVariables false
set_option linter.unusedSimpArgs false
set_option maxRecDepth 100000 in
set_option maxHeartbeats 4000000 in
theorem eachRow_ahead_no (N : Int) (ps : List Int) (a ah : Bool) (xss : List (List Int)) (Rf : Nat → Int) (us1 : Nat → Option Addr) (v : Value) (a1 : Option Addr) (cap1 : Nat) (w : World) (hP : PrsW w) (hT : TabW w) (hv : Row w v ps)
    (c1 : ∀ W, PrsW W → TabW W → Old w W → Calls Tryd.prog 112 #[.agg #[.int .i64 N, v], .agg #[.bool a, .slice a1 xss.length cap1]] W fun e w' => Old W w' ∧ ((grB N ps xss = false ∧ e = .returned (.tuple #[.slice none 0 0, .bool false])) ∨ (grB N ps xss = true ∧ ∃ g, W.heap.size ≤ g ∧ e = .returned (.tuple #[.slice (some ⟨g, 0, none⟩) ps.length ps.length, .bool true]) ∧ RRs w' g N a ps Rf us1 ps.length))) (hno : grB N ps xss = false) :
    Calls Tryd.prog 82 #[.agg #[.int .i64 N, v], .agg #[.bool a, .slice a1 xss.length cap1], .bool ah, .func (.func 86) #[] #[]] w (Rs w false [] false) := by
  have HP : Hid (PrsW w) := hP
  have HT : Hid (TabW w) := hT
  obtain ⟨a0, cap0, ev⟩ := hv.slice
  subst ev
  have HA : Hid (Old w (((w.alloc (.cells #[.int .i64 N, .slice a0 ps.length cap0] 49)).alloc (.cells #[.bool a, .slice a1 xss.length cap1] 46)).alloc (.cells #[.bool false, .slice none 0 0] 46))) := (((Old.refl w).alloc _).alloc _).alloc _
  have HS : Hid (StW (((w.alloc (.cells #[.int .i64 N, .slice a0 ps.length cap0] 49)).alloc (.cells #[.bool a, .slice a1 xss.length cap1] 46)).alloc (.cells #[.bool false, .slice none 0 0] 46)) (w.heap.size + 1 + 1) (.bool false) (.slice none 0 0) 46) := by
    have := StW.new ((w.alloc (.cells #[.int .i64 N, .slice a0 ps.length cap0] 49)).alloc (.cells #[.bool a, .slice a1 xss.length cap1] 46)) (.bool false) (.slice none 0 0) 46
    simp at this
    exact this
  clear hv hP hT
  go_enter Tryd.func82, Tryd.ntmps82
  go_wp2_with fail
  refine (c1 _ (HP.out.old HA.out) (HT.out.old HA.out) HA.out).mono ?_
  rintro e w2 ⟨g1, hl⟩
  have HG2 : Hid (Old w w2) := Old.trans HA.out g1
  have S2 : Hid (StW w2 (w.heap.size + 1 + 1) (.bool false) (.slice none 0 0) 46) := HS.out.old g1
  have hs2 : w.heap.size + 1 + 1 < w2.heap.size := S2.out.lt
  clear g1
  rcases hl with ⟨hB, rfl⟩ | ⟨hB, g, hg, rfl, hrr⟩
  · have q0 := S2.out.c0
    have q1 := S2.out.c1
    have f0 := S2.out.f0
    have f1 := S2.out.f1
    clear hB hno
    go_wp2_with fail
    refine bodyPost_ret (ret_rb (x := .bool false) (y := .slice none 0 0) (z := .bool false) Tryd.results82 _ _ rfl rfl (st_put2 S2.out _ _)) rfl ⟨_, rfl, ?_, XR.nil _ _ _ _ (Nat.le_refl _)⟩
    exact (HG2.out.own (p := ⟨w.heap.size + 1 + 1, 0, none⟩) (by simp; omega) _).own (p := ⟨w.heap.size + 1 + 1, 1, none⟩) (by simp; omega) _
  · rw [hno] at hB
    cases hB
set_option maxRecDepth 100000 in
set_option maxHeartbeats 8000000 in
theorem eachRow_ahead_yes (Nn : Nat) (ps : List Int) (a ah : Bool) (xss : List (List Int)) (Rf : Nat → Int) (us1 : Nat → Option Addr) (v : Value) (a1 : Option Addr) (cap1 : Nat) (w : World) (hP : PrsW w) (hT : TabW w) (hv : Row w v ps)
    (c1 : ∀ W, PrsW W → TabW W → Old w W → Calls Tryd.prog 112 #[.agg #[.int .i64 Nn, v], .agg #[.bool a, .slice a1 xss.length cap1]] W fun e w' => Old W w' ∧ ((grB Nn ps xss = false ∧ e = .returned (.tuple #[.slice none 0 0, .bool false])) ∨ (grB Nn ps xss = true ∧ ∃ g, W.heap.size ≤ g ∧ e = .returned (.tuple #[.slice (some ⟨g, 0, none⟩) ps.length ps.length, .bool true]) ∧ RRs w' g Nn a ps Rf us1 ps.length))) (hx : grB Nn ps xss = true) (zss : List (List Int)) (hzl : zss.length = ps.length) (hps : ps.length ≤ 6)
    (cj : ∀ k, k < ps.length → (zss.getD k []).length = Nn ∧ ∀ W, Old w W → Calls Tryd.prog 86 #[.agg #[.int .i64 (ps.getD k 0), .int .i64 Nn, .int .i64 (Rf k), .bool a, .slice (us1 k) Nn Nn]] W fun e w' => ∃ g cp, e = .returned (.slice (some ⟨g, 0, none⟩) Nn cp) ∧ Nn ≤ cp ∧ Old W w' ∧ Own w' W.heap.size (.slice (some ⟨g, 0, none⟩) Nn cp) (zss.getD k [])) :
    Calls Tryd.prog 82 #[.agg #[.int .i64 Nn, v], .agg #[.bool a, .slice a1 xss.length cap1], .bool ah, .func (.func 86) #[] #[]] w (Rs w ah zss true) := by
  obtain ⟨i0, hi, hz0, hz1, hz2⟩ := info_parts Tryd.infoInts
  have HZL : Hid (zss.length = ps.length) := hzl
  have HCJ : Hid (∀ k, k < ps.length → (zss.getD k []).length = Nn ∧ ∀ W, Old w W → Calls Tryd.prog 86 #[.agg #[.int .i64 (ps.getD k 0), .int .i64 Nn, .int .i64 (Rf k), .bool a, .slice (us1 k) Nn Nn]] W fun e w' => ∃ g cp, e = .returned (.slice (some ⟨g, 0, none⟩) Nn cp) ∧ Nn ≤ cp ∧ Old W w' ∧ Own w' W.heap.size (.slice (some ⟨g, 0, none⟩) Nn cp) (zss.getD k [])) := cj
  clear hzl cj
  have HP : Hid (PrsW w) := hP
  have HT : Hid (TabW w) := hT
  obtain ⟨a0, cap0, ev⟩ := hv.slice
  subst ev
  have HA : Hid (Old w (((w.alloc (.cells #[.int .i64 Nn, .slice a0 ps.length cap0] 49)).alloc (.cells #[.bool a, .slice a1 xss.length cap1] 46)).alloc (.cells #[.bool false, .slice none 0 0] 46))) := (((Old.refl w).alloc _).alloc _).alloc _
  have HS : Hid (StW (((w.alloc (.cells #[.int .i64 Nn, .slice a0 ps.length cap0] 49)).alloc (.cells #[.bool a, .slice a1 xss.length cap1] 46)).alloc (.cells #[.bool false, .slice none 0 0] 46)) (w.heap.size + 1 + 1) (.bool false) (.slice none 0 0) 46) := by
    have := StW.new ((w.alloc (.cells #[.int .i64 Nn, .slice a0 ps.length cap0] 49)).alloc (.cells #[.bool a, .slice a1 xss.length cap1] 46)) (.bool false) (.slice none 0 0) 46
    simp at this
    exact this
  clear hv hP hT
  go_enter Tryd.func82, Tryd.ntmps82
  go_wp2_with fail
  refine (c1 _ (HP.out.old HA.out) (HT.out.old HA.out) HA.out).mono ?_
  rintro e w2 ⟨g1, hl⟩
  have HG2 : Hid (Old w w2) := Old.trans HA.out g1
  have S2 : Hid (StW w2 (w.heap.size + 1 + 1) (.bool false) (.slice none 0 0) 46) := HS.out.old g1
  have hs2 : w.heap.size + 1 + 1 < w2.heap.size := S2.out.lt
  clear g1
  rcases hl with ⟨hB, rfl⟩ | ⟨hB, g, hg, rfl, hrr⟩
  · rw [hx] at hB
    cases hB
  · have HLB : Hid (RRs w2 g Nn a ps Rf us1 ps.length) := hrr
    clear hrr hg hB hx
    go_wp2_with (at_make; refine wpList_make_full _ rfl _ _ 44 rfl w2.heap.size 24 i0 (.slice none 0 0) 1 Tryd.underlying44 hi hz0 hz1 .i64 .i64 _ _ ps.length rfl rfl rfl rfl (by rw [hz2]; omega) (by unfold maxLen; omega) (Nat.le_refl _) ?_; intro w3 hown hgrow)
    have hmade : (madeCells (Value.slice none 0 0).cells (ps.length * 1)).toList = List.replicate ps.length (Value.slice none 0 0) := by
      rw [Nat.mul_one]
      exact toList_madeCells_one (.slice none 0 0) ps.length
    rw [hmade] at hown
    have HM0 : Hid (MkS zss w3 w2.heap.size w2.heap.size 0) := MkS.start (by rw [HZL.out]; exact hown)
    have HG3 : Hid (Old w2 w3) := Below.grown (Below.refl _ _) hgrow (Nat.le_refl _) (fun _ h => by cases h)
    have hs3 : w2.heap.size < w3.heap.size := (hown.lt w2.heap.size rfl).2
    clear hown hgrow hmade
    go_loopw [29] (fun i W => ∃ k : Nat, k ≤ ps.length ∧ i = .int .i64 k ∧ Hid (MkS zss W w2.heap.size w2.heap.size k) ∧ Hid (Old w2 W) ∧ w2.heap.size < W.heap.size) (fun i _ => ps.length - (intOf i).toNat)
    case atStart => exact ⟨0, by omega, rfl, HM0, HG3, hs3⟩
    case round =>
      obtain ⟨k, hk, rfl, HM, HG, hsr⟩ := hrel
      clear HM0 HG3 hs3
      by_cases hlt : k < ps.length
      · have d1 : decide ((k : Int) < (ps.length : Int)) = true := by simp; omega
        obtain ⟨jl, cj⟩ := HCJ.out k hlt
        obtain ⟨x0, x1, x2, x3, x4⟩ := (HLB.out.old HG.out).at k hlt hlt
        rw [Int.toNat_natCast] at x4
        have hkz : k < zss.length := by rw [HZL.out]; exact hlt
        have HGW : Hid (Old w wr) := Old.trans HG2.out HG.out
        have HJL : Hid ((zss.getD k []).length = Nn) := jl
        clear jl
        generalize ps.getD k 0 = p at *
        generalize Rf k = r at *
        generalize us1 k = ua at *
        have HGA : Hid (Old w (wr.alloc (.cells #[.int .i64 p, .int .i64 Nn, .int .i64 r, .bool a, .slice ua Nn Nn] 105))) := HGW.out.alloc _
        go_wp2_with fail
        refine (cj _ HGA.out).mono ?_
        rintro e w5 ⟨g5, cp5, rfl, hcp, q5, o5⟩
        have Q5 : Hid (Old (wr.alloc (.cells #[.int .i64 p, .int .i64 Nn, .int .i64 r, .bool a, .slice ua Nn Nn] 105)) w5) := q5
        have O5 : Hid (Own w5 (wr.heap.size + 1) (.slice (some ⟨g5, 0, none⟩) Nn cp5) (zss.getD k [])) := by
          simp at o5
          exact o5
        clear q5 o5
        obtain ⟨⟨ym, m1⟩, m2⟩ := (HM.out.own_old (Old.trans ((Old.refl wr).alloc _) Q5.out)).cell k hkz
        have hg5 : wr.heap.size + 1 ≤ g5 := (O5.out.lt g5 rfl).1
        have hs5 := Q5.out.size
        have N1 : Hid (MkS zss (w5.setCell ⟨w2.heap.size, k, none⟩ (.slice (some ⟨g5, 0, none⟩) Nn cp5)) w2.heap.size w2.heap.size (k + 1)) := MkS.step HM.out hkz (Old.trans ((Old.refl wr).alloc _) Q5.out) (by omega) hsr HJL.out hcp (O5.out.low (by omega)) (by omega)
        have N2 : Hid (Old w2 (w5.setCell ⟨w2.heap.size, k, none⟩ (.slice (some ⟨g5, 0, none⟩) Nn cp5))) := (Old.trans HG.out (Old.trans ((Old.refl wr).alloc _) Q5.out)).own (p := ⟨w2.heap.size, k, none⟩) (Nat.le_refl _) _
        have N3 : w2.heap.size < (w5.setCell ⟨w2.heap.size, k, none⟩ (.slice (some ⟨g5, 0, none⟩) Nn cp5)).heap.size := by simp at hs5 ⊢; omega
        go_wp2_with fail
        exact ⟨⟨k + 1, by omega, by go_num, N1, N2, N3⟩, by simp [intOf]; omega⟩
      · have d1 : decide ((k : Int) < (ps.length : Int)) = false := by simp; omega
        obtain rfl : k = ps.length := by omega
        have HFD : Hid (OwS zss wr w2.heap.size wr.heap.size (.slice (some ⟨w2.heap.size, 0, none⟩) ps.length ps.length)) := by
          have := HM.out
          rw [← HZL.out] at this ⊢
          exact this.done (Nat.le_refl _) hsr
        have SF : Hid (StW wr (w.heap.size + 1 + 1) (.bool false) (.slice none 0 0) 46) := S2.out.old HG.out
        have q0 := SF.out.c0
        have q1 := SF.out.c1
        have f0 := SF.out.f0
        have f1 := SF.out.f1
        go_wp2_with fail
        refine bodyPost_ret (ret_rb Tryd.results82 _ _ rfl rfl (st_put2 SF.out _ _)) rfl ⟨_, rfl, ?_, some ⟨w2.heap.size, 0, none⟩, ps.length, by rw [HZL.out], ?_⟩
        · exact ((Old.trans HG2.out HG.out).own (p := ⟨w.heap.size + 1 + 1, 0, none⟩) (by simp; omega) _).own (p := ⟨w.heap.size + 1 + 1, 1, none⟩) (by simp; omega) _
        · rw [HZL.out]
          have h2 := (HFD.out.put (k := w.heap.size + 1 + 1) (j := 0) (x := .bool ah) (by omega)).put (k := w.heap.size + 1 + 1) (j := 1) (x := .slice (some ⟨w2.heap.size, 0, none⟩) ps.length ps.length) (by omega)
          have h3 := h2.low (lo' := w.heap.size) (by omega)
          exact h3.high (by simp) (Nat.le_refl _)
end Go.Proofs.YtcgnndenmcmieaaDoor
/- Proved: the program's eachRow. -/
namespace Go.Proofs.YtcgnndenmcmieaaDoor
open Go.ChangeShapes Go.WideShapes Go.ChangeAt Go.RowKit
open M1
set_option linter.unusedVariables false
set_option linter.unusedSimpArgs false
set_option maxRecDepth 100000 in
set_option maxHeartbeats 4000000 in
theorem eachRow_back_no (N : Int) (ps : List Int) (a ah : Bool) (xss : List (List Int)) (Rf : Nat → Int) (us1 : Nat → Option Addr) (v : Value) (a1 : Option Addr) (cap1 : Nat) (w : World) (hP : PrsW w) (hT : TabW w) (hv : Row w v ps)
    (c1 : ∀ W, PrsW W → TabW W → Old w W → Calls Tryd.prog 112 #[.agg #[.int .i64 N, v], .agg #[.bool a, .slice a1 xss.length cap1]] W fun e w' => Old W w' ∧ ((grB N ps xss = false ∧ e = .returned (.tuple #[.slice none 0 0, .bool false])) ∨ (grB N ps xss = true ∧ ∃ g, W.heap.size ≤ g ∧ e = .returned (.tuple #[.slice (some ⟨g, 0, none⟩) ps.length ps.length, .bool true]) ∧ RRs w' g N a ps Rf us1 ps.length))) (hno : grB N ps xss = false) :
    Calls Tryd.prog 82 #[.agg #[.int .i64 N, v], .agg #[.bool a, .slice a1 xss.length cap1], .bool ah, .func (.func 87) #[] #[]] w (Rs w false [] false) := by
  have HP : Hid (PrsW w) := hP
  have HT : Hid (TabW w) := hT
  obtain ⟨a0, cap0, ev⟩ := hv.slice
  subst ev
  have HA : Hid (Old w (((w.alloc (.cells #[.int .i64 N, .slice a0 ps.length cap0] 49)).alloc (.cells #[.bool a, .slice a1 xss.length cap1] 46)).alloc (.cells #[.bool false, .slice none 0 0] 46))) := (((Old.refl w).alloc _).alloc _).alloc _
  have HS : Hid (StW (((w.alloc (.cells #[.int .i64 N, .slice a0 ps.length cap0] 49)).alloc (.cells #[.bool a, .slice a1 xss.length cap1] 46)).alloc (.cells #[.bool false, .slice none 0 0] 46)) (w.heap.size + 1 + 1) (.bool false) (.slice none 0 0) 46) := by
    have := StW.new ((w.alloc (.cells #[.int .i64 N, .slice a0 ps.length cap0] 49)).alloc (.cells #[.bool a, .slice a1 xss.length cap1] 46)) (.bool false) (.slice none 0 0) 46
    simp at this
    exact this
  clear hv hP hT
  go_enter Tryd.func82, Tryd.ntmps82
  go_wp2_with fail
  refine (c1 _ (HP.out.old HA.out) (HT.out.old HA.out) HA.out).mono ?_
  rintro e w2 ⟨g1, hl⟩
  have HG2 : Hid (Old w w2) := Old.trans HA.out g1
  have S2 : Hid (StW w2 (w.heap.size + 1 + 1) (.bool false) (.slice none 0 0) 46) := HS.out.old g1
  have hs2 : w.heap.size + 1 + 1 < w2.heap.size := S2.out.lt
  clear g1
  rcases hl with ⟨hB, rfl⟩ | ⟨hB, g, hg, rfl, hrr⟩
  · have q0 := S2.out.c0
    have q1 := S2.out.c1
    have f0 := S2.out.f0
    have f1 := S2.out.f1
    clear hB hno
    go_wp2_with fail
    refine bodyPost_ret (ret_rb (x := .bool false) (y := .slice none 0 0) (z := .bool false) Tryd.results82 _ _ rfl rfl (st_put2 S2.out _ _)) rfl ⟨_, rfl, ?_, XR.nil _ _ _ _ (Nat.le_refl _)⟩
    exact (HG2.out.own (p := ⟨w.heap.size + 1 + 1, 0, none⟩) (by simp; omega) _).own (p := ⟨w.heap.size + 1 + 1, 1, none⟩) (by simp; omega) _
  · rw [hno] at hB
    cases hB
set_option maxRecDepth 100000 in
set_option maxHeartbeats 8000000 in
theorem eachRow_back_yes (Nn : Nat) (ps : List Int) (a ah : Bool) (xss : List (List Int)) (Rf : Nat → Int) (us1 : Nat → Option Addr) (v : Value) (a1 : Option Addr) (cap1 : Nat) (w : World) (hP : PrsW w) (hT : TabW w) (hv : Row w v ps)
    (c1 : ∀ W, PrsW W → TabW W → Old w W → Calls Tryd.prog 112 #[.agg #[.int .i64 Nn, v], .agg #[.bool a, .slice a1 xss.length cap1]] W fun e w' => Old W w' ∧ ((grB Nn ps xss = false ∧ e = .returned (.tuple #[.slice none 0 0, .bool false])) ∨ (grB Nn ps xss = true ∧ ∃ g, W.heap.size ≤ g ∧ e = .returned (.tuple #[.slice (some ⟨g, 0, none⟩) ps.length ps.length, .bool true]) ∧ RRs w' g Nn a ps Rf us1 ps.length))) (hx : grB Nn ps xss = true) (zss : List (List Int)) (hzl : zss.length = ps.length) (hps : ps.length ≤ 6)
    (cj : ∀ k, k < ps.length → (zss.getD k []).length = Nn ∧ ∀ W, Old w W → Calls Tryd.prog 87 #[.agg #[.int .i64 (ps.getD k 0), .int .i64 Nn, .int .i64 (Rf k), .bool a, .slice (us1 k) Nn Nn]] W fun e w' => ∃ g cp, e = .returned (.slice (some ⟨g, 0, none⟩) Nn cp) ∧ Nn ≤ cp ∧ Old W w' ∧ Own w' W.heap.size (.slice (some ⟨g, 0, none⟩) Nn cp) (zss.getD k [])) :
    Calls Tryd.prog 82 #[.agg #[.int .i64 Nn, v], .agg #[.bool a, .slice a1 xss.length cap1], .bool ah, .func (.func 87) #[] #[]] w (Rs w ah zss true) := by
  obtain ⟨i0, hi, hz0, hz1, hz2⟩ := info_parts Tryd.infoInts
  have HZL : Hid (zss.length = ps.length) := hzl
  have HCJ : Hid (∀ k, k < ps.length → (zss.getD k []).length = Nn ∧ ∀ W, Old w W → Calls Tryd.prog 87 #[.agg #[.int .i64 (ps.getD k 0), .int .i64 Nn, .int .i64 (Rf k), .bool a, .slice (us1 k) Nn Nn]] W fun e w' => ∃ g cp, e = .returned (.slice (some ⟨g, 0, none⟩) Nn cp) ∧ Nn ≤ cp ∧ Old W w' ∧ Own w' W.heap.size (.slice (some ⟨g, 0, none⟩) Nn cp) (zss.getD k [])) := cj
  clear hzl cj
  have HP : Hid (PrsW w) := hP
  have HT : Hid (TabW w) := hT
  obtain ⟨a0, cap0, ev⟩ := hv.slice
  subst ev
  have HA : Hid (Old w (((w.alloc (.cells #[.int .i64 Nn, .slice a0 ps.length cap0] 49)).alloc (.cells #[.bool a, .slice a1 xss.length cap1] 46)).alloc (.cells #[.bool false, .slice none 0 0] 46))) := (((Old.refl w).alloc _).alloc _).alloc _
  have HS : Hid (StW (((w.alloc (.cells #[.int .i64 Nn, .slice a0 ps.length cap0] 49)).alloc (.cells #[.bool a, .slice a1 xss.length cap1] 46)).alloc (.cells #[.bool false, .slice none 0 0] 46)) (w.heap.size + 1 + 1) (.bool false) (.slice none 0 0) 46) := by
    have := StW.new ((w.alloc (.cells #[.int .i64 Nn, .slice a0 ps.length cap0] 49)).alloc (.cells #[.bool a, .slice a1 xss.length cap1] 46)) (.bool false) (.slice none 0 0) 46
    simp at this
    exact this
  clear hv hP hT
  go_enter Tryd.func82, Tryd.ntmps82
  go_wp2_with fail
  refine (c1 _ (HP.out.old HA.out) (HT.out.old HA.out) HA.out).mono ?_
  rintro e w2 ⟨g1, hl⟩
  have HG2 : Hid (Old w w2) := Old.trans HA.out g1
  have S2 : Hid (StW w2 (w.heap.size + 1 + 1) (.bool false) (.slice none 0 0) 46) := HS.out.old g1
  have hs2 : w.heap.size + 1 + 1 < w2.heap.size := S2.out.lt
  clear g1
  rcases hl with ⟨hB, rfl⟩ | ⟨hB, g, hg, rfl, hrr⟩
  · rw [hx] at hB
    cases hB
  · have HLB : Hid (RRs w2 g Nn a ps Rf us1 ps.length) := hrr
    clear hrr hg hB hx
    go_wp2_with (at_make; refine wpList_make_full _ rfl _ _ 44 rfl w2.heap.size 24 i0 (.slice none 0 0) 1 Tryd.underlying44 hi hz0 hz1 .i64 .i64 _ _ ps.length rfl rfl rfl rfl (by rw [hz2]; omega) (by unfold maxLen; omega) (Nat.le_refl _) ?_; intro w3 hown hgrow)
    have hmade : (madeCells (Value.slice none 0 0).cells (ps.length * 1)).toList = List.replicate ps.length (Value.slice none 0 0) := by
      rw [Nat.mul_one]
      exact toList_madeCells_one (.slice none 0 0) ps.length
    rw [hmade] at hown
    have HM0 : Hid (MkS zss w3 w2.heap.size w2.heap.size 0) := MkS.start (by rw [HZL.out]; exact hown)
    have HG3 : Hid (Old w2 w3) := Below.grown (Below.refl _ _) hgrow (Nat.le_refl _) (fun _ h => by cases h)
    have hs3 : w2.heap.size < w3.heap.size := (hown.lt w2.heap.size rfl).2
    clear hown hgrow hmade
    go_loopw [29] (fun i W => ∃ k : Nat, k ≤ ps.length ∧ i = .int .i64 k ∧ Hid (MkS zss W w2.heap.size w2.heap.size k) ∧ Hid (Old w2 W) ∧ w2.heap.size < W.heap.size) (fun i _ => ps.length - (intOf i).toNat)
    case atStart => exact ⟨0, by omega, rfl, HM0, HG3, hs3⟩
    case round =>
      obtain ⟨k, hk, rfl, HM, HG, hsr⟩ := hrel
      clear HM0 HG3 hs3
      by_cases hlt : k < ps.length
      · have d1 : decide ((k : Int) < (ps.length : Int)) = true := by simp; omega
        obtain ⟨jl, cj⟩ := HCJ.out k hlt
        obtain ⟨x0, x1, x2, x3, x4⟩ := (HLB.out.old HG.out).at k hlt hlt
        rw [Int.toNat_natCast] at x4
        have hkz : k < zss.length := by rw [HZL.out]; exact hlt
        have HGW : Hid (Old w wr) := Old.trans HG2.out HG.out
        have HJL : Hid ((zss.getD k []).length = Nn) := jl
        clear jl
        generalize ps.getD k 0 = p at *
        generalize Rf k = r at *
        generalize us1 k = ua at *
        have HGA : Hid (Old w (wr.alloc (.cells #[.int .i64 p, .int .i64 Nn, .int .i64 r, .bool a, .slice ua Nn Nn] 105))) := HGW.out.alloc _
        go_wp2_with fail
        refine (cj _ HGA.out).mono ?_
        rintro e w5 ⟨g5, cp5, rfl, hcp, q5, o5⟩
        have Q5 : Hid (Old (wr.alloc (.cells #[.int .i64 p, .int .i64 Nn, .int .i64 r, .bool a, .slice ua Nn Nn] 105)) w5) := q5
        have O5 : Hid (Own w5 (wr.heap.size + 1) (.slice (some ⟨g5, 0, none⟩) Nn cp5) (zss.getD k [])) := by
          simp at o5
          exact o5
        clear q5 o5
        obtain ⟨⟨ym, m1⟩, m2⟩ := (HM.out.own_old (Old.trans ((Old.refl wr).alloc _) Q5.out)).cell k hkz
        have hg5 : wr.heap.size + 1 ≤ g5 := (O5.out.lt g5 rfl).1
        have hs5 := Q5.out.size
        have N1 : Hid (MkS zss (w5.setCell ⟨w2.heap.size, k, none⟩ (.slice (some ⟨g5, 0, none⟩) Nn cp5)) w2.heap.size w2.heap.size (k + 1)) := MkS.step HM.out hkz (Old.trans ((Old.refl wr).alloc _) Q5.out) (by omega) hsr HJL.out hcp (O5.out.low (by omega)) (by omega)
        have N2 : Hid (Old w2 (w5.setCell ⟨w2.heap.size, k, none⟩ (.slice (some ⟨g5, 0, none⟩) Nn cp5))) := (Old.trans HG.out (Old.trans ((Old.refl wr).alloc _) Q5.out)).own (p := ⟨w2.heap.size, k, none⟩) (Nat.le_refl _) _
        have N3 : w2.heap.size < (w5.setCell ⟨w2.heap.size, k, none⟩ (.slice (some ⟨g5, 0, none⟩) Nn cp5)).heap.size := by simp at hs5 ⊢; omega
        go_wp2_with fail
        exact ⟨⟨k + 1, by omega, by go_num, N1, N2, N3⟩, by simp [intOf]; omega⟩
      · have d1 : decide ((k : Int) < (ps.length : Int)) = false := by simp; omega
        obtain rfl : k = ps.length := by omega
        have HFD : Hid (OwS zss wr w2.heap.size wr.heap.size (.slice (some ⟨w2.heap.size, 0, none⟩) ps.length ps.length)) := by
          have := HM.out
          rw [← HZL.out] at this ⊢
          exact this.done (Nat.le_refl _) hsr
        have SF : Hid (StW wr (w.heap.size + 1 + 1) (.bool false) (.slice none 0 0) 46) := S2.out.old HG.out
        have q0 := SF.out.c0
        have q1 := SF.out.c1
        have f0 := SF.out.f0
        have f1 := SF.out.f1
        go_wp2_with fail
        refine bodyPost_ret (ret_rb Tryd.results82 _ _ rfl rfl (st_put2 SF.out _ _)) rfl ⟨_, rfl, ?_, some ⟨w2.heap.size, 0, none⟩, ps.length, by rw [HZL.out], ?_⟩
        · exact ((Old.trans HG2.out HG.out).own (p := ⟨w.heap.size + 1 + 1, 0, none⟩) (by simp; omega) _).own (p := ⟨w.heap.size + 1 + 1, 1, none⟩) (by simp; omega) _
        · rw [HZL.out]
          have h2 := (HFD.out.put (k := w.heap.size + 1 + 1) (j := 0) (x := .bool ah) (by omega)).put (k := w.heap.size + 1 + 1) (j := 1) (x := .slice (some ⟨w2.heap.size, 0, none⟩) ps.length ps.length) (by omega)
          have h3 := h2.low (lo' := w.heap.size) (by omega)
          exact h3.high (by simp) (Nat.le_refl _)
end Go.Proofs.YtcgnndenmcmieaaDoor
/- Proved: rows brought ahead and back: what the program and the model make of each. -/
namespace Go.Proofs.YtcgnndenmcmieaaDoor
open Go.ChangeShapes Go.WideShapes Go.ChangeAt Go.RowKit
set_option linter.unusedVariables false
set_option linter.unusedSimpArgs false
open M1
def mkL (f : Int → Int → List Int → List Int) (ps : List Int) (Rf : Nat → Int) (xss : List (List Int)) : List (List Int) := (List.range ps.length).map fun k => f (ps.getD k 0) (Rf k) (xss.getD k [])
theorem mkL_len (f : Int → Int → List Int → List Int) (ps : List Int) (Rf : Nat → Int) (xss : List (List Int)) : (mkL f ps Rf xss).length = ps.length := by simp [mkL]
theorem mkL_get (f : Int → Int → List Int → List Int) (ps : List Int) (Rf : Nat → Int) (xss : List (List Int)) (k : Nat) (hk : k < ps.length) : (mkL f ps Rf xss).getD k [] = f (ps.getD k 0) (Rf k) (xss.getD k []) := by
  simp [mkL, List.getD, hk]
def fwZ (N p r : Int) (xs : List Int) : List Int := toZ (fwdS p.toNat N.toNat r.toNat (xs.map Int.toNat))
def bkZ (N p r : Int) (xs : List Int) : List Int := toZ (invL p.toNat N.toNat r.toNat (xs.map Int.toNat))
def aheadF (N : Int) (a : Bool) (p r : Int) (xs : List Int) : List Int := if a then xs else fwZ N p r xs
def backF (N : Int) (a : Bool) (p r : Int) (xs : List Int) : List Int := if a then bkZ N p r xs else xs
theorem toZ_back (ys : List Nat) : (toZ ys).map Int.toNat = ys := by
  rw [toZ, List.map_map]
  refine (List.map_congr_left fun x hx => ?_).trans (List.map_id ys)
  simp
theorem gr_poly {N : Int} {ps : List Int} {xss : List (List Int)} (h : grB N ps xss = true) : xss.length = ps.length ∧ ∀ k, k < ps.length → RingOk (ps.getD k 0) N ∧ polyB (ps.getD k 0) N (xss.getD k []) = true := by
  unfold grB rwB rwA at h
  rw [Bool.and_eq_true, Bool.and_eq_true, decide_eq_true_eq, decide_eq_true_eq] at h
  obtain ⟨h1, h2, h3⟩ := h
  obtain ⟨s1, s2, s3⟩ := sp_ring h1
  refine ⟨h2, fun k hk => ⟨s3 k hk, ?_⟩⟩
  first
  | exact h3 k (by omega) (by omega)
  | exact h3 k (by omega)
/-- a row of good rows, opened -/
theorem row_open {N : Int} {ps : List Int} {xss : List (List Int)} {Rf : Nat → Int} (hR : ∀ k, RingOk (ps.getD k 0) N → ((0 ≤ Rf k ∧ Rf k < ps.getD k 0) ∧ (∀ W, PrsW W → TabW W → Calls Tryd.prog 90 #[.int .i64 (ps.getD k 0), .int .i64 N] W fun e w' => e = .returned (.tuple #[.agg #[.int .i64 (ps.getD k 0), .int .i64 N, .int .i64 (Rf k)], .bool true]) ∧ Old W w')) ∧ (∀ W, Calls Tryd.prog 88 #[.int .i64 (ps.getD k 0), .int .i64 N] W fun e w' => e = .returned (.tuple #[.agg #[.int .i64 (ps.getD k 0), .int .i64 N, .int .i64 (Rf k)], .bool true]) ∧ Old W w') ∧ ∃ P M R : Nat, ps.getD k 0 = P ∧ N = M ∧ Rf k = R ∧ R < P ∧ RingOk P M ∧ (F1.Pr P → Rt P (2 * M) R)) (h : grB N ps xss = true) (k : Nat) (hk : k < ps.length) :
    ∃ (P M R : Nat) (ys : List Nat), ps.getD k 0 = P ∧ N = M ∧ Rf k = R ∧ xss.getD k [] = toZ ys ∧ R < P ∧ (2 ≤ P ∧ P ≤ 268435456) ∧ Sz4 M ∧ ys.length = M ∧ (∀ y ∈ ys, y < P) ∧ Cg P ((R : Int) ^ (2 * M)) 1 ∧ Cg P ((R : Int) ^ M) (-1) := by
  obtain ⟨h1, h2⟩ := gr_poly h
  obtain ⟨h3, h4⟩ := h2 k hk
  obtain ⟨_, _, P, M, R, e1, e2, e3, hlt, hok, hrt⟩ := hR k h3
  rw [e1, e2] at h4
  obtain ⟨ys, e4, la, ha⟩ := polyB_yes h4
  have b1 := modB_yes hok.md
  have b2 := hok.sz
  have hP : 2 ≤ P ∧ P ≤ 268435456 := by omega
  have hS : Sz4 M := by omega
  obtain ⟨r1, r2⟩ := (hrt (ring_pr hok)).cg hP.1
  exact ⟨P, M, R, ys, e1, e2, e3, e4, hlt, hP, hS, la, ha, r1, r2⟩
theorem fwZ_toZ (P M R : Nat) (ys : List Nat) : fwZ M P R (toZ ys) = toZ (fwdS P M R ys) := by
  unfold fwZ
  rw [toZ_back]
  simp
theorem bkZ_toZ (P M R : Nat) (ys : List Nat) : bkZ M P R (toZ ys) = toZ (invL P M R ys) := by
  unfold bkZ
  rw [toZ_back]
  simp
theorem sz4_bd {M : Nat} (h : Sz4 M) : 2 ≤ M ∧ M ≤ 16 := by
  unfold Sz4 at h
  omega
theorem aheadF_len (N : Int) (a : Bool) (ps : List Int) (xss : List (List Int)) (Rf : Nat → Int) (hR : ∀ k, RingOk (ps.getD k 0) N → ((0 ≤ Rf k ∧ Rf k < ps.getD k 0) ∧ (∀ W, PrsW W → TabW W → Calls Tryd.prog 90 #[.int .i64 (ps.getD k 0), .int .i64 N] W fun e w' => e = .returned (.tuple #[.agg #[.int .i64 (ps.getD k 0), .int .i64 N, .int .i64 (Rf k)], .bool true]) ∧ Old W w')) ∧ (∀ W, Calls Tryd.prog 88 #[.int .i64 (ps.getD k 0), .int .i64 N] W fun e w' => e = .returned (.tuple #[.agg #[.int .i64 (ps.getD k 0), .int .i64 N, .int .i64 (Rf k)], .bool true]) ∧ Old W w') ∧ ∃ P M R : Nat, ps.getD k 0 = P ∧ N = M ∧ Rf k = R ∧ R < P ∧ RingOk P M ∧ (F1.Pr P → Rt P (2 * M) R)) (h : grB N ps xss = true) (k : Nat) (hk : k < ps.length) : (((aheadF N a) (ps.getD k 0) (Rf k) (xss.getD k [])).length : Int) = N := by
  obtain ⟨P, M, R, ys, e1, e2, e3, e4, hlt, hP2, hS, la, ha, r1, r2⟩ := row_open hR h k hk
  rw [e1, e3, e4, e2]
  unfold aheadF
  split
  all_goals first | (rw [toZ_len, la]) | (rw [fwZ_toZ, toZ_len, fwdS_len]; omega) | (rw [fwZ_toZ, toZ_len, fwdS_len])
theorem spec_l5Ahead_any (N : Int) (ps : List Int) (a : Bool) (xss : List (List Int)) (Rf : Nat → Int) (hR : ∀ k, RingOk (ps.getD k 0) N → ((0 ≤ Rf k ∧ Rf k < ps.getD k 0) ∧ (∀ W, PrsW W → TabW W → Calls Tryd.prog 90 #[.int .i64 (ps.getD k 0), .int .i64 N] W fun e w' => e = .returned (.tuple #[.agg #[.int .i64 (ps.getD k 0), .int .i64 N, .int .i64 (Rf k)], .bool true]) ∧ Old W w')) ∧ (∀ W, Calls Tryd.prog 88 #[.int .i64 (ps.getD k 0), .int .i64 N] W fun e w' => e = .returned (.tuple #[.agg #[.int .i64 (ps.getD k 0), .int .i64 N, .int .i64 (Rf k)], .bool true]) ∧ Old W w') ∧ ∃ P M R : Nat, ps.getD k 0 = P ∧ N = M ∧ Rf k = R ∧ R < P ∧ RingOk P M ∧ (F1.Pr P → Rt P (2 * M) R)) (v u1 : Value) (w : World) (hv : Row w v ps) (h1 : RowS w u1 xss) (h : grB N ps xss = true) :
    Calls Tryd.prog 80 #[.agg #[.int .i64 N, v], .agg #[.bool a, u1]] w fun e w' => ∃ v', e = .returned v' ∧ Old w w' ∧ OwS (mkL (aheadF N a) ps Rf xss) w' w.heap.size w'.heap.size v' := by
  obtain ⟨t1, t2, t3, t4, t5, t6⟩ := two_parts (two_of.2 ⟨h, h, (rfl : a = a)⟩)
  obtain ⟨p1, p2⟩ := gr_poly h
  have cR : ∀ k, k < ps.length → ∀ W, Calls Tryd.prog 88 #[.int .i64 (ps.getD k 0), .int .i64 N] W fun e w' => e = .returned (.tuple #[.agg #[.int .i64 (ps.getD k 0), .int .i64 N, .int .i64 (Rf k)], .bool true]) ∧ Old W w' := fun k hk => (hR k (p2 k hk).1).2.1
  cases a
  · refine spec_l5Ahead_t N ps xss _ Rf v u1 w hv h1 t2 t3 (mkL_len _ _ _ _) cR (fun k hk W u hu => ?_)
    obtain ⟨P, M, R, ys, e1, e2, e3, e4, hlt, hP2, hS, la, ha, r1, r2⟩ := row_open hR h k hk
    rw [mkL_get _ _ _ _ _ hk]
    rw [e4] at hu
    rw [e1, e3, e4, e2, show aheadF M false P R (toZ ys) = toZ (fwdS P M R ys) from fwZ_toZ P M R ys]
    exact spec_l3Forward P M R ys u W hu hP2 hS hlt la ha
  · refine spec_l5Ahead_c N ps xss _ Rf v u1 w hv h1 t2 t3 (mkL_len _ _ _ _) cR (fun k hk => ?_)
    have q := (t6 k hk).1
    rw [mkL_get _ _ _ _ _ hk]
    refine ⟨?_, by omega, by omega⟩
    unfold aheadF
    simp
theorem impl_AheadRows (N : Int) (ps : List Int) (a : Bool) (xss : List (List Int)) (Rf : Nat → Int) (hR : ∀ k, RingOk (ps.getD k 0) N → ((0 ≤ Rf k ∧ Rf k < ps.getD k 0) ∧ (∀ W, PrsW W → TabW W → Calls Tryd.prog 90 #[.int .i64 (ps.getD k 0), .int .i64 N] W fun e w' => e = .returned (.tuple #[.agg #[.int .i64 (ps.getD k 0), .int .i64 N, .int .i64 (Rf k)], .bool true]) ∧ Old W w')) ∧ (∀ W, Calls Tryd.prog 88 #[.int .i64 (ps.getD k 0), .int .i64 N] W fun e w' => e = .returned (.tuple #[.agg #[.int .i64 (ps.getD k 0), .int .i64 N, .int .i64 (Rf k)], .bool true]) ∧ Old W w') ∧ ∃ P M R : Nat, ps.getD k 0 = P ∧ N = M ∧ Rf k = R ∧ R < P ∧ RingOk P M ∧ (F1.Pr P → Rt P (2 * M) R)) (v u1 : Value) (w : World) (lo1 hi1 : Nat) (hP : PrsW w) (hT : TabW w) (hv : Row w v ps) (hf : Fit v) (h1 : OwS xss w lo1 hi1 u1) (hlp : ps.length ≤ 1048576) (hl1 : xss.length ≤ 1048576) (hr1 : ∀ r ∈ xss, r.length ≤ 1048576) :
    Calls Tryd.prog 40 #[.agg #[.int .i64 N, v], .agg #[.bool a, u1]] w fun e w' => (grB N ps xss = true → Rs w true (mkL (aheadF N a) ps Rf xss) true e w') ∧ (grB N ps xss = false → Rs w false [] false e w') := by
  obtain ⟨us1, cs1, at1⟩ := h1.ats ps
  obtain ⟨a0, cap0, ev⟩ := hv.slice
  obtain ⟨a1, cap1, e1⟩ := h1.slice
  subst ev e1
  have c1 := fun W W' (q : Old w W) (p1 : PrsW W') (p2 : TabW W') (q' : Old W W') => impl_ringRows N a ps xss Rf us1 cs1 (.slice a0 ps.length cap0) a1 cap1 W' p1 p2 (hv.old (Old.trans q q')) hf hlp hl1 hr1 (fun h => (at1 h).old (Old.trans q q')) (fun k hk => (hR k hk).1)
  cases hyes : grB N ps xss
  · refine (impl_AheadRows_of N ps xss a a0 a1 cap0 cap1 w false [] false (fun W q => eachRow_ahead_no N ps a true xss Rf us1 _ a1 cap1 W (hP.old q) (hT.old q) (hv.old q) (fun W' p1 p2 q' => c1 W W' q p1 p2 q') hyes)).mono (fun e w' h => ⟨(fun h' => by cases h'), fun _ => h⟩)
  · obtain ⟨t1, t2, t3, t4, t5, t6⟩ := two_parts (two_of.2 ⟨hyes, hyes, (rfl : a = a)⟩)
    obtain ⟨Nn, hNn⟩ : ∃ Nn : Nat, N = Nn := ⟨N.toNat, by omega⟩
    subst hNn
    refine (impl_AheadRows_of Nn ps xss a a0 a1 cap0 cap1 w true (mkL (aheadF Nn a) ps Rf xss) true (fun W q => eachRow_ahead_yes Nn ps a true xss Rf us1 _ a1 cap1 W (hP.old q) (hT.old q) (hv.old q) (fun W' p1 p2 q' => c1 W W' q p1 p2 q') hyes (mkL (aheadF Nn a) ps Rf xss) (mkL_len _ _ _ _) t2.2 (fun k hk => ?_))).mono (fun e w' h => ⟨fun _ => h, (fun h' => by cases h')⟩)
    obtain ⟨s1, s2, s3, s4⟩ := t6 k hk
    obtain ⟨b1, _, _, _, rr1⟩ := at1 (by omega)
    have row1 := (rr1 k (by omega)).2.2
    have l1 : (xss.getD k []).length = Nn := by omega
    rw [l1] at row1
    have row2 := row1.recap (c' := Nn) (fun h => by rw [h] at l1; simp at l1; omega)
    have hlen := aheadF_len Nn a ps xss Rf hR hyes k hk
    rw [mkL_get _ _ _ _ _ hk]
    refine ⟨by omega, fun W' q' => ?_⟩
    obtain ⟨P, M, R, ys, e1, e2, e3, e4, hlt, hP2, hS, la, ha, r1, r2⟩ := row_open hR hyes k hk
    obtain rfl : Nn = M := by omega
    rw [e1, e3, e4] at hlen ⊢
    rw [e4] at row2 l1
    have hN2 := sz4_bd hS
    cases a
    · refine impl_madeAhead_t P R Nn _ (us1 k) W' (fun W'' q'' => ?_) (by omega) (by omega)
      rw [show aheadF Nn false P R (toZ ys) = toZ (fwdS P Nn R ys) from fwZ_toZ P Nn R ys, ← fwd_same P Nn R ys hS la (by omega) ha r1 r2]
      exact impl_forward P Nn R ys _ W'' (hT.old (Old.trans q (Old.trans q' q''))) (row2.old (Old.trans q (Old.trans q' q''))) hP2 hS hlt la ha
    · refine impl_madeAhead_c P R Nn _ (us1 k) W' (fun W'' q'' => ?_)
      exact impl_copied P R true Nn (toZ ys) (us1 k) W'' (row2.old (Old.trans q (Old.trans q' q''))) hN2 l1
theorem backF_len (N : Int) (a : Bool) (ps : List Int) (xss : List (List Int)) (Rf : Nat → Int) (hR : ∀ k, RingOk (ps.getD k 0) N → ((0 ≤ Rf k ∧ Rf k < ps.getD k 0) ∧ (∀ W, PrsW W → TabW W → Calls Tryd.prog 90 #[.int .i64 (ps.getD k 0), .int .i64 N] W fun e w' => e = .returned (.tuple #[.agg #[.int .i64 (ps.getD k 0), .int .i64 N, .int .i64 (Rf k)], .bool true]) ∧ Old W w')) ∧ (∀ W, Calls Tryd.prog 88 #[.int .i64 (ps.getD k 0), .int .i64 N] W fun e w' => e = .returned (.tuple #[.agg #[.int .i64 (ps.getD k 0), .int .i64 N, .int .i64 (Rf k)], .bool true]) ∧ Old W w') ∧ ∃ P M R : Nat, ps.getD k 0 = P ∧ N = M ∧ Rf k = R ∧ R < P ∧ RingOk P M ∧ (F1.Pr P → Rt P (2 * M) R)) (h : grB N ps xss = true) (k : Nat) (hk : k < ps.length) : (((backF N a) (ps.getD k 0) (Rf k) (xss.getD k [])).length : Int) = N := by
  obtain ⟨P, M, R, ys, e1, e2, e3, e4, hlt, hP2, hS, la, ha, r1, r2⟩ := row_open hR h k hk
  rw [e1, e3, e4, e2]
  unfold backF
  split
  all_goals first | (rw [toZ_len, la]) | (rw [bkZ_toZ, toZ_len, invL_len]; omega) | (rw [bkZ_toZ, toZ_len, invL_len])
theorem spec_l5Back_any (N : Int) (ps : List Int) (a : Bool) (xss : List (List Int)) (Rf : Nat → Int) (hR : ∀ k, RingOk (ps.getD k 0) N → ((0 ≤ Rf k ∧ Rf k < ps.getD k 0) ∧ (∀ W, PrsW W → TabW W → Calls Tryd.prog 90 #[.int .i64 (ps.getD k 0), .int .i64 N] W fun e w' => e = .returned (.tuple #[.agg #[.int .i64 (ps.getD k 0), .int .i64 N, .int .i64 (Rf k)], .bool true]) ∧ Old W w')) ∧ (∀ W, Calls Tryd.prog 88 #[.int .i64 (ps.getD k 0), .int .i64 N] W fun e w' => e = .returned (.tuple #[.agg #[.int .i64 (ps.getD k 0), .int .i64 N, .int .i64 (Rf k)], .bool true]) ∧ Old W w') ∧ ∃ P M R : Nat, ps.getD k 0 = P ∧ N = M ∧ Rf k = R ∧ R < P ∧ RingOk P M ∧ (F1.Pr P → Rt P (2 * M) R)) (v u1 : Value) (w : World) (hv : Row w v ps) (h1 : RowS w u1 xss) (h : grB N ps xss = true) :
    Calls Tryd.prog 79 #[.agg #[.int .i64 N, v], .agg #[.bool a, u1]] w fun e w' => ∃ v', e = .returned v' ∧ Old w w' ∧ OwS (mkL (backF N a) ps Rf xss) w' w.heap.size w'.heap.size v' := by
  obtain ⟨t1, t2, t3, t4, t5, t6⟩ := two_parts (two_of.2 ⟨h, h, (rfl : a = a)⟩)
  obtain ⟨p1, p2⟩ := gr_poly h
  have cR : ∀ k, k < ps.length → ∀ W, Calls Tryd.prog 88 #[.int .i64 (ps.getD k 0), .int .i64 N] W fun e w' => e = .returned (.tuple #[.agg #[.int .i64 (ps.getD k 0), .int .i64 N, .int .i64 (Rf k)], .bool true]) ∧ Old W w' := fun k hk => (hR k (p2 k hk).1).2.1
  cases a
  · refine spec_l5Back_c N ps xss _ Rf v u1 w hv h1 t2 t3 (mkL_len _ _ _ _) cR (fun k hk => ?_)
    have q := (t6 k hk).1
    rw [mkL_get _ _ _ _ _ hk]
    refine ⟨?_, by omega, by omega⟩
    unfold backF
    simp
  · refine spec_l5Back_t N ps xss _ Rf v u1 w hv h1 t2 t3 (mkL_len _ _ _ _) cR (fun k hk W u hu => ?_)
    obtain ⟨P, M, R, ys, e1, e2, e3, e4, hlt, hP2, hS, la, ha, r1, r2⟩ := row_open hR h k hk
    rw [mkL_get _ _ _ _ _ hk]
    rw [e4] at hu
    rw [e1, e3, e4, e2, show backF M true P R (toZ ys) = toZ (invL P M R ys) from bkZ_toZ P M R ys]
    exact spec_l3Inverse P M R ys u W hu hP2 hS hlt la ha (invM_ltI _ _ (by omega)) (invM_ltI _ _ (by omega))
theorem impl_BackRows (N : Int) (ps : List Int) (a : Bool) (xss : List (List Int)) (Rf : Nat → Int) (hR : ∀ k, RingOk (ps.getD k 0) N → ((0 ≤ Rf k ∧ Rf k < ps.getD k 0) ∧ (∀ W, PrsW W → TabW W → Calls Tryd.prog 90 #[.int .i64 (ps.getD k 0), .int .i64 N] W fun e w' => e = .returned (.tuple #[.agg #[.int .i64 (ps.getD k 0), .int .i64 N, .int .i64 (Rf k)], .bool true]) ∧ Old W w')) ∧ (∀ W, Calls Tryd.prog 88 #[.int .i64 (ps.getD k 0), .int .i64 N] W fun e w' => e = .returned (.tuple #[.agg #[.int .i64 (ps.getD k 0), .int .i64 N, .int .i64 (Rf k)], .bool true]) ∧ Old W w') ∧ ∃ P M R : Nat, ps.getD k 0 = P ∧ N = M ∧ Rf k = R ∧ R < P ∧ RingOk P M ∧ (F1.Pr P → Rt P (2 * M) R)) (v u1 : Value) (w : World) (lo1 hi1 : Nat) (hP : PrsW w) (hT : TabW w) (hv : Row w v ps) (hf : Fit v) (h1 : OwS xss w lo1 hi1 u1) (hlp : ps.length ≤ 1048576) (hl1 : xss.length ≤ 1048576) (hr1 : ∀ r ∈ xss, r.length ≤ 1048576) :
    Calls Tryd.prog 42 #[.agg #[.int .i64 N, v], .agg #[.bool a, u1]] w fun e w' => (grB N ps xss = true → Rs w false (mkL (backF N a) ps Rf xss) true e w') ∧ (grB N ps xss = false → Rs w false [] false e w') := by
  obtain ⟨us1, cs1, at1⟩ := h1.ats ps
  obtain ⟨a0, cap0, ev⟩ := hv.slice
  obtain ⟨a1, cap1, e1⟩ := h1.slice
  subst ev e1
  have c1 := fun W W' (q : Old w W) (p1 : PrsW W') (p2 : TabW W') (q' : Old W W') => impl_ringRows N a ps xss Rf us1 cs1 (.slice a0 ps.length cap0) a1 cap1 W' p1 p2 (hv.old (Old.trans q q')) hf hlp hl1 hr1 (fun h => (at1 h).old (Old.trans q q')) (fun k hk => (hR k hk).1)
  cases hyes : grB N ps xss
  · refine (impl_BackRows_of N ps xss a a0 a1 cap0 cap1 w false [] false (fun W q => eachRow_back_no N ps a false xss Rf us1 _ a1 cap1 W (hP.old q) (hT.old q) (hv.old q) (fun W' p1 p2 q' => c1 W W' q p1 p2 q') hyes)).mono (fun e w' h => ⟨(fun h' => by cases h'), fun _ => h⟩)
  · obtain ⟨t1, t2, t3, t4, t5, t6⟩ := two_parts (two_of.2 ⟨hyes, hyes, (rfl : a = a)⟩)
    obtain ⟨Nn, hNn⟩ : ∃ Nn : Nat, N = Nn := ⟨N.toNat, by omega⟩
    subst hNn
    refine (impl_BackRows_of Nn ps xss a a0 a1 cap0 cap1 w false (mkL (backF Nn a) ps Rf xss) true (fun W q => eachRow_back_yes Nn ps a false xss Rf us1 _ a1 cap1 W (hP.old q) (hT.old q) (hv.old q) (fun W' p1 p2 q' => c1 W W' q p1 p2 q') hyes (mkL (backF Nn a) ps Rf xss) (mkL_len _ _ _ _) t2.2 (fun k hk => ?_))).mono (fun e w' h => ⟨fun _ => h, (fun h' => by cases h')⟩)
    obtain ⟨s1, s2, s3, s4⟩ := t6 k hk
    obtain ⟨b1, _, _, _, rr1⟩ := at1 (by omega)
    have row1 := (rr1 k (by omega)).2.2
    have l1 : (xss.getD k []).length = Nn := by omega
    rw [l1] at row1
    have row2 := row1.recap (c' := Nn) (fun h => by rw [h] at l1; simp at l1; omega)
    have hlen := backF_len Nn a ps xss Rf hR hyes k hk
    rw [mkL_get _ _ _ _ _ hk]
    refine ⟨by omega, fun W' q' => ?_⟩
    obtain ⟨P, M, R, ys, e1, e2, e3, e4, hlt, hP2, hS, la, ha, r1, r2⟩ := row_open hR hyes k hk
    obtain rfl : Nn = M := by omega
    rw [e1, e3, e4] at hlen ⊢
    rw [e4] at row2 l1
    have hN2 := sz4_bd hS
    cases a
    · refine impl_madeBack_c P R Nn _ (us1 k) W' (fun W'' q'' => ?_)
      exact impl_copied P R false Nn (toZ ys) (us1 k) W'' (row2.old (Old.trans q (Old.trans q' q''))) hN2 l1
    · refine impl_madeBack_t P R Nn _ (us1 k) W' (fun W'' q'' => ?_) (by omega) (by omega)
      rw [show backF Nn true P R (toZ ys) = toZ (invL P Nn R ys) from bkZ_toZ P Nn R ys, ← inv_same P Nn R ys hS la hP2.1 ha r1 r2]
      exact impl_inverse0 P Nn R ys _ W'' (hT.old (Old.trans q (Old.trans q' q''))) (row2.old (Old.trans q (Old.trans q' q''))) hP2 hS hlt la ha
end Go.Proofs.YtcgnndenmcmieaaDoor
/- Proved: rows of rows as a law carries them: marks that are held still. -/
namespace Go.Proofs.YtcgnndenmcmieaaDoor
open Go.ChangeShapes Go.WideShapes Go.ChangeAt Go.RowKit
set_option linter.unusedVariables false
set_option linter.unusedSimpArgs false
set_option maxRecDepth 100000 in
set_option maxHeartbeats 2000000 in
theorem heldIntSS_any (xss : List (List Int)) (v : Value) (k : Int) (lo hi : Nat) (w : World) (hv : OwM k xss w lo hi v) (hl : xss.length ≤ 1048576) (hr : ∀ r ∈ xss, r.length ≤ 1048576) (hk : 0 ≤ k) (hs : k + (offL xss xss.length : Int) ≤ 1073741824) :
    Calls Tryd.prog 69 #[v, .int .i64 k] w fun e w' => e = .returned (.int .i64 (k + offL xss xss.length)) ∧ Old w w' := by
  obtain ⟨a0, cap0, ev⟩ := hv.slice
  subst ev
  obtain ⟨yss, hyl, hym, hyo⟩ := hv
  have HR : Hid (∀ r ∈ xss, r.length ≤ 1048576) := hr
  have HY : Hid (RowS w (.slice a0 xss.length cap0) yss) := hyo.rowS
  have HL : Hid (yss.length = xss.length) := hyl
  have HM : Hid (∀ j, j < xss.length → yss.getD j [] = marks (k + offL xss j) (xss.getD j []).length) := hym
  have HS : Hid (k + (offL xss xss.length : Int) ≤ 1073741824) := hs
  clear hyl hym hyo hr hs
  go_enter Tryd.func69, Tryd.ntmps69
  go_wp2_with fail
  go_loopw [5, 1] (fun i l W => ∃ j : Nat, j ≤ xss.length ∧ i = .int .i64 j ∧ l = .int .i64 (k + offL xss j) ∧ Hid (Old w W)) (fun i _ _ => xss.length - (intOf i).toNat)
  case atStart => exact ⟨0, by omega, rfl, by rw [offL_zero]; simp, Old.refl _⟩
  case round =>
    obtain ⟨j, hj, rfl, rfl, HG⟩ := hrel
    by_cases hlt : j < xss.length
    · have d1 : decide ((j : Int) < (xss.length : Int)) = true := by simp; omega
      rcases HY.out with ⟨a, cap, e, e2⟩ | ⟨b, o, cap, us, e, hb2, h3, hc⟩
      · have := HL.out
        subst e2
        simp at this
        omega
      have hyl := HL.out
      rw [← hyl] at e
      simp only [Value.slice.injEq, true_and] at e
      obtain ⟨rfl, rfl⟩ := e
      obtain ⟨c0, r0⟩ := hc j (by omega)
      have exy := HM.out j hlt
      rw [exy] at r0
      have hm : xss.getD j [] ∈ xss := by simp [List.getD, hlt]
      have hrl := HR.out _ hm
      have hoj := offL_le xss (j + 1)
      have hos := offL_succ xss j hlt
      have hsum := HS.out
      obtain ⟨x1, y1, e1⟩ := r0.slice
      rw [e1] at c0 r0
      have q1 := (HG.out.cell (p := ⟨b, o + j, none⟩) hb2).trans c0
      have R1 : Hid (Row wr (.slice x1 (marks (k + offL xss j) (xss.getD j []).length).length y1) (marks (k + offL xss j) (xss.getD j []).length)) := r0.old HG.out
      have HN4 : Hid (k + (offL xss (j + 1) : Int) = k + (offL xss j : Int) + ((xss.getD j []).length : Int)) := by show _ = _; rw [hos]; omega
      have hkb : 0 ≤ k + (offL xss j : Int) ∧ k + (offL xss j : Int) + ((xss.getD j []).length : Int) ≤ 1073741824 := by omega
      clear hc c0 r0 e1 hm exy hyl h3 hoj hos hsum
      generalize hnn : (offL xss (j + 1)) = nxt at *
      generalize (offL xss j : Nat) = off at *
      generalize (xss.getD j []).length = n at *
      rw [marks_len] at *
      have cm := fun W h => heldInts_yes n (.slice x1 n y1) (k + off) W h (by omega) (by omega) (by omega)
      have d2 : decide (k + (off : Int) + (n : Int) < 0) = false := by simp; omega
      go_wp2_with fail
      refine (cm _ R1.out).mono ?_
      rintro e w2 ⟨rfl, g2⟩
      have N2 : Hid (Old w w2) := Old.trans HG.out g2
      clear g2 cm
      go_wp2_with fail
      refine ⟨⟨j + 1, by omega, by go_num, ?_, N2⟩, by simp [intOf]; omega⟩
      rw [hnn, HN4.out]
    · have d1 : decide ((j : Int) < (xss.length : Int)) = false := by simp; omega
      obtain rfl : j = xss.length := by omega
      go_wp2_with fail
      go_ret
      exact ⟨rfl, HG.out⟩
/-- rows with marks, in a struct -/
def XM (n : Bool) (k : Int) (xss : List (List Int)) (W : World) (lo hi : Nat) (g : Array Value) : Prop := ∃ a c, g = #[.bool n, .slice a xss.length c] ∧ OwM k xss W lo hi (.slice a xss.length c)
theorem far_XM (n : Bool) (k : Int) (xss : List (List Int)) : Far (XM n k xss) := fun W W' lo hi v h hf hs => by
  obtain ⟨a, c, e, o⟩ := h
  exact ⟨a, c, e, far_OwM k xss W W' lo hi _ o hf hs⟩
theorem shape_XM {n : Bool} {k : Int} {xss : List (List Int)} (W : World) (lo hi : Nat) (g : Array Value) (h : XM n k xss W lo hi g) : ∃ a c, g = #[.bool n, .slice a xss.length c] := by
  obtain ⟨a, c, e, o⟩ := h
  exact ⟨a, c, e⟩
set_option maxHeartbeats 1000000 in
theorem kr_mark (n : Bool) (xss : List (List Int)) (k : Int) (w : World) (lo hi : Nat) (g : Array Value) (h : XR n xss w lo hi g) (hl : xss.length ≤ 1048576) (hr : ∀ r ∈ xss, r.length ≤ 1048576) (hk : 0 ≤ k) (hs : k + (offL xss xss.length : Int) ≤ 1073741824) :
    Calls Tryd.prog 31 #[.agg g, .int .i64 k] w fun e w' => e = .returned (.int .i64 (k + offL xss xss.length)) ∧ Chg w w' lo hi ∧ XM n k xss w' lo hi g := by
  obtain ⟨a0, cap0, rfl, o⟩ := h
  have HO : Hid (OwS xss (w.alloc (.cells #[.bool n, .slice a0 xss.length cap0] 46)) lo hi (.slice a0 xss.length cap0)) := (far_OwS xss).old o ((Old.refl w).alloc _) o.1
  have HA : Hid (Chg w (w.alloc (.cells #[.bool n, .slice a0 xss.length cap0] 46)) lo hi) := ((Old.refl w).alloc _).toChg lo hi
  have HR : Hid (∀ r ∈ xss, r.length ≤ 1048576) := hr
  have HS : Hid (k + (offL xss xss.length : Int) ≤ 1073741824) := hs
  clear o hr hs
  go_enter Tryd.func31, Tryd.ntmps31
  go_wp2_with fail
  refine (markIntSS_any xss _ k lo hi _ HO.out hl HR.out hk HS.out).mono ?_
  rintro e w1 ⟨rfl, g1, o1⟩
  have HG : Hid (Chg w w1 lo hi) := Chg.trans HA.out g1
  have HM : Hid (OwM k xss w1 lo hi (.slice a0 xss.length cap0)) := o1
  clear g1 o1
  go_wp2_with fail
  go_ret
  exact ⟨rfl, HG.out, _, _, rfl, HM.out⟩
set_option maxHeartbeats 1000000 in
theorem kr_held (n : Bool) (xss : List (List Int)) (k : Int) (w : World) (lo hi : Nat) (g : Array Value) (h : XM n k xss w lo hi g) (hl : xss.length ≤ 1048576) (hr : ∀ r ∈ xss, r.length ≤ 1048576) (hk : 0 ≤ k) (hs : k + (offL xss xss.length : Int) ≤ 1073741824) :
    Calls Tryd.prog 32 #[.agg g, .int .i64 k] w fun e w' => e = .returned (.int .i64 (k + offL xss xss.length)) ∧ Old w w' := by
  obtain ⟨a0, cap0, rfl, o⟩ := h
  have HO : Hid (OwM k xss (w.alloc (.cells #[.bool n, .slice a0 xss.length cap0] 46)) lo hi (.slice a0 xss.length cap0)) := (far_OwM k xss).old o ((Old.refl w).alloc _) (by obtain ⟨_, _, _, q⟩ := o; exact q.1)
  have HA : Hid (Old w (w.alloc (.cells #[.bool n, .slice a0 xss.length cap0] 46))) := (Old.refl w).alloc _
  have HR : Hid (∀ r ∈ xss, r.length ≤ 1048576) := hr
  have HS : Hid (k + (offL xss xss.length : Int) ≤ 1073741824) := hs
  have d2 : decide (k + (offL xss xss.length : Int) < 0) = false := by simp; omega
  clear o hr hs
  go_enter Tryd.func32, Tryd.ntmps32
  go_wp2_with fail
  refine (heldIntSS_any xss _ k lo hi _ HO.out hl HR.out hk HS.out).mono ?_
  rintro e w1 ⟨rfl, g1⟩
  have HG : Hid (Old w w1) := Old.trans HA.out g1
  clear g1
  go_wp2_with fail
  go_ret
  exact ⟨rfl, HG.out⟩
theorem offL_bd : ∀ (xss : List (List Int)) (m : Nat), (∀ r ∈ xss, r.length ≤ m) → offL xss xss.length ≤ xss.length * m
  | [], m, h => by simp [offL]
  | r :: rs, m, h => by
    have h1 := offL_bd rs m (fun r hr => h r (List.mem_cons_of_mem _ hr))
    have h2 := h r (List.mem_cons_self ..)
    show r.length + offL rs rs.length ≤ (rs.length + 1) * m
    rw [Nat.add_mul]
    omega
end Go.Proofs.YtcgnndenmcmieaaDoor
