/- Proved: several texts in one: what each proves is said ahead of it. -/
import Derived.Test.YtihjndakgncdaaaGreatDoorFd20
import Derived.Test.YtihjndakgncdaaaGreatDoorFd01
import Derived.Test.YtihjndakgncdaaaGreatDoorFd04
import Derived.Test.YtihjndakgncdaaaGreatDoorFd17
import Derived.Deep.DeepCutAuto
import Derived.Test.YtihjndakgncdaaaGreatDoorFd05
import Derived.Test.YtihjndakgncdaaaGreatDoorFd19
import Derived.Test.YtihjndakgncdaaaGreatDoorFd18
import Derived.Test.YtihjndakgncdaaaGreatDoorFd06
/- Proved: the drawn region of the program's reckonerOf: params, rings and their product laid in a box. -/
namespace Go.Proofs.YtihjndakgncdaaaGreatDoor
open Go.ChangeShapes Go.WideShapes Go.ChangeAt Go.RowKit
set_option linter.unusedVariables false
set_option linter.unusedSimpArgs false
abbrev rk0 : Array Value := #[.int .i64 0, .int .i64 0, .int .i64 0, .slice none 0 0, .slice none 0 0, .bool false, .slice none 0 0]
def slotRk (i : Nat) : Nat := [14, 15, 16, 17, 18, 19, 20].getD i 0
theorem slotRk_lt : ∀ i, i < 7 → slotRk i < 21 := by decide
theorem slotRk_inj : ∀ i, i < 7 → ∀ j, j < 7 → slotRk i = slotRk j → i = j := by decide
theorem slotRk_no : ∀ s, s < 14 → ∀ i, i < 7 → slotRk i ≠ s := by decide
def qRk (N T E : Int) (v3 R : Value) (SZ : Array Value) (ds : List Int) (k base : Nat) (i : Nat) (W : World) (x : Value) : Prop :=
  match i with
  | 0 => x = .agg #[.int .i64 N, .int .i64 T, .int .i64 E, v3]
  | 1 => x = R
  | 2 => x = .pointer (some ⟨k, 3, none⟩)
  | 3 => x = v3
  | 4 => x = .agg SZ
  | 5 => ∃ a c, x = .agg #[.bool false, .slice a ds.length c] ∧ Own W base (.slice a ds.length c) ds
  | 6 => ∃ a c, x = .agg #[.int .i64 N, .int .i64 T, .int .i64 E, v3, R, .bool false, .slice a ds.length c] ∧ Own W base (.slice a ds.length c) ds
  | _ => True
theorem qRk_old (N T E : Int) (v3 R : Value) (SZ : Array Value) (ds : List Int) (k base : Nat) (i : Nat) (W W' : World) (x : Value) (h : qRk N T E v3 R SZ ds k base i W x) (q : Old W W') : qRk N T E v3 R SZ ds k base i W' x := by
  unfold qRk at h ⊢
  split at h
  case h_6 =>
    obtain ⟨a, c, e, o⟩ := h
    exact ⟨a, c, e, o.old q⟩
  case h_7 =>
    obtain ⟨a, c, e, o⟩ := h
    exact ⟨a, c, e, o.old q⟩
  all_goals first | exact h | trivial
set_option maxRecDepth 100000 in
set_option maxHeartbeats 8000000 in
theorem reg_rk4 (w0 : World) (k kr : Nat) (N T E : Int) (a3 : Option Addr) (l3 c3 : Nat) (ar : Option Addr) (lr cr : Nat) (SZ : Array Value) (ds : List Int) (bA : w0.heap[k]? = some (.cells #[.int .i64 N, .int .i64 T, .int .i64 E, .slice a3 l3 c3] 25 (0, 0))) (bK : w0.heap[kr]? = some (.cells rk0 48 (0, 0)))
    (KP : ∀ W, Old w0 W → Calls Tryz.prog 38 #[.slice a3 l3 c3] W fun e w' => ∃ v, e = .returned v ∧ v = .agg SZ ∧ Old W w')
    (KW : ∀ W, Calls Tryz.prog 27 #[.bool false, .agg SZ] W fun e w' => ∃ v, e = .returned v ∧ ∃ a c, v = .agg #[.bool false, .slice a ds.length c] ∧ Old W w' ∧ Own w' W.heap.size (.slice a ds.length c) ds)
    (Q : Exit → Act → World → Prop) (a0 : Act) (hsz : a0.tmps.size = 21)
    (ha1 : a0.eval (.tmp 1) = .pointer (some ⟨k, 0, none⟩)) (ha2 : a0.eval (.tmp 2) = .pointer (some ⟨kr, 0, none⟩)) (ha4 : a0.eval (.tmp 4) = .slice ar lr cr)
    (HK : Hid (∀ (us : Nat → Value) W a c, Old w0 W → Own W w0.heap.size (.slice a ds.length c) ds → Q .normal ((putAll a0 ((List.range 7).map fun i => (slotRk i, us i))).put (some 3) (.bool true)) (W.setRow kr #[.int .i64 N, .int .i64 T, .int .i64 E, .slice a3 l3 c3, .slice ar lr cr, .bool false, .slice a ds.length c]))) :
    Code.wp Tryz.prog ((Tryz.f17.body.bind (regionAtmul 4)).getD .skip) Q a0 w0 := by
  conv => arg 2; whnf
  have un := slotRk_no
  have pa : ∀ W, Old w0 W → W.heap[k]? = some (.cells #[.int .i64 N, .int .i64 T, .int .i64 E, .slice a3 l3 c3] 25 (0, 0)) := fun W g => (g.block k (lt_of_some bA)).trans bA
  have pk : ∀ W, Old w0 W → W.heap[kr]? = some (.cells rk0 48 (0, 0)) := fun W g => (g.block kr (lt_of_some bK)).trans bK
  have iA : (Tryz.prog.info? 25).map (·.size) = some 4 := by kernel_rfl
  refine wp_region_stas 7 rfl rfl rfl (by kernel_rfl) (by kernel_rfl) (by kernel_rfl) (by kernel_rfl) (by kernel_rfl) slotRk (fun i hi => by rw [hsz]; exact slotRk_lt i hi) (fun i j hi hj => slotRk_inj i hi j hj) (qRk N T E (.slice a3 l3 c3) (.slice ar lr cr) SZ ds k w0.heap.size) (qRk_old N T E (.slice a3 l3 c3) (.slice ar lr cr) SZ ds k w0.heap.size) ?_ ?_
  · refine ⟨?_, ?_, ?_, ?_, ?_, ?_, ?_, trivial⟩
    · intro a W g hF hd
      refine op_load (k := k) ((hF.same 1 (un 1 (by decide))).trans ha1) (pa W g) Tryz.underlying25 rfl iA ?_
      exact ⟨_, rfl, Old.refl _, rfl⟩
    · intro a W g hF hd
      refine op_move ?_
      exact ⟨_, rfl, Old.refl _, (hF.same 4 (un 4 (by decide))).trans ha4⟩
    · intro a W g hF hd
      have h1 : a.eval (.tmp 1) = .pointer (some ⟨k, 0, none⟩) := (hF.same 1 (un 1 (by decide))).trans ha1
      obtain ⟨ρ, hρ⟩ : ∃ ρ, a.eval = ρ := ⟨_, rfl⟩
      rw [hρ] at h1
      refine op_val ρ hρ (.pointer (some ⟨k, 3, none⟩)) ?_ ⟨_, rfl, Old.refl _, rfl⟩
      clear g hF hd hρ ha1 ha2 ha4 HK un KP KW bA bK pa pk
      go_simp
    · intro a W g hF hd
      have h1 : a.eval (.tmp 16) = .pointer (some ⟨k, 3, none⟩) := hd ⟨2, .data⟩ (by simp) rfl
      have hc : W.cell? ⟨k, 3, none⟩ = some (.slice a3 l3 c3) := by rw [cell_of_row _ _ _ _ _ _ (pa W g)]; rfl
      obtain ⟨ρ, hρ⟩ : ∃ ρ, a.eval = ρ := ⟨_, rfl⟩
      rw [hρ] at h1
      refine op_val ρ hρ (.slice a3 l3 c3) ?_ ⟨_, rfl, Old.refl _, rfl⟩
      clear g hF hd hρ ha1 ha2 ha4 HK un KP KW bA bK pa pk
      go_simp
    · intro a W g hF hd
      have h1 : a.eval (.tmp 17) = .slice a3 l3 c3 := hd ⟨3, .data⟩ (by simp) rfl
      refine op_call_ret Tryz.call38 (vs := #[.slice a3 l3 c3]) (by simp [h1]) (KP W g) ?_
      rintro x w' ⟨rfl, g'⟩
      exact ⟨_, rfl, g', rfl⟩
    · intro a W g hF hd
      have h1 : a.eval (.tmp 18) = .agg SZ := hd ⟨4, .data⟩ (by simp) rfl
      refine op_call_ret Tryz.call27 (vs := #[.bool false, .agg SZ]) (by simp [h1]; rfl) (KW W) ?_
      rintro x w' ⟨a6, c6, rfl, g', o'⟩
      exact ⟨_, rfl, g', a6, c6, rfl, o'.low g.size⟩
    · intro a W g hF hd
      have h0 : a.eval (.tmp 14) = .agg #[.int .i64 N, .int .i64 T, .int .i64 E, .slice a3 l3 c3] := hd ⟨0, .data⟩ (by simp) rfl
      have h1 : a.eval (.tmp 15) = .slice ar lr cr := hd ⟨1, .data⟩ (by simp) rfl
      obtain ⟨a6, c6, h5, o6⟩ : ∃ a6 c6, a.eval (.tmp 19) = .agg #[.bool false, .slice a6 ds.length c6] ∧ Own W w0.heap.size (.slice a6 ds.length c6) ds := hd ⟨5, .data⟩ (by simp) rfl
      obtain ⟨ρ, hρ⟩ : ∃ ρ, a.eval = ρ := ⟨_, rfl⟩
      rw [hρ] at h0 h1 h5
      refine op_val ρ hρ (.agg #[.int .i64 N, .int .i64 T, .int .i64 E, .slice a3 l3 c3, .slice ar lr cr, .bool false, .slice a6 ds.length c6]) ?_ ⟨_, rfl, Old.refl _, a6, c6, rfl, o6⟩
      clear g hF hd hρ ha1 ha2 ha4 HK un KP KW bA bK pa pk o6
      go_simp
  · intro a W g hF hq
    obtain ⟨a6, c6, h6, o6⟩ : ∃ a6 c6, a.eval (.tmp 20) = .agg #[.int .i64 N, .int .i64 T, .int .i64 E, .slice a3 l3 c3, .slice ar lr cr, .bool false, .slice a6 ds.length c6] ∧ Own W w0.heap.size (.slice a6 ds.length c6) ds := hq 6 (by decide)
    have h2 : a.eval (.tmp 2) = .pointer (some ⟨kr, 0, none⟩) := (hF.same 2 (un 2 (by decide))).trans ha2
    have hp := fram_put hF (fun i j hi hj => slotRk_inj i hi j hj)
    have hk2 := HK.out (fun i => a.eval (.tmp (slotRk i))) W a6 c6 g o6
    rw [← hp] at hk2
    refine op_store (k := kr) h2 h6 (pk W g) (by kernel_rfl) rfl (by simp [Value.oneCell']) ?_
    exact op_assign hk2
end Go.Proofs.YtihjndakgncdaaaGreatDoor
/- Proved: the contract of the program's reckonerOf. -/
namespace Go.Proofs.YtihjndakgncdaaaGreatDoor
open Go.ChangeShapes Go.WideShapes Go.ChangeAt Go.RowKit
open M2
set_option linter.unusedVariables false
set_option linter.unusedSimpArgs false
theorem Rgs.same {W W' : World} {g : Nat} {N : Int} {xs : List Int} {Rf : Nat → Int} {k : Nat} (h : Rgs W g N xs Rf k) (e : W'.heap[g]? = W.heap[g]?) : Rgs W' g N xs Rf k := by
  obtain ⟨ys, hl, ho, hy⟩ := h
  refine ⟨ys, hl, ⟨ho.1, ?_⟩, hy⟩
  rcases ho.2 with hn | ⟨p, cap, cur, e', hb, hgg, rest⟩
  · exact .inl hn
  · refine .inr ⟨p, cap, cur, e', hb, ?_, rest⟩
    have : p = g := by
      simp only [Value.slice.injEq, Option.some.injEq, Addr.mk.injEq] at e'
      exact e'.1.1.symm
    subst this
    rw [e]
    exact hgg
theorem wholeF_any2 (n : Nat) (w : World) (hn : cnt n ≤ 80) :
    Calls Tryz.prog 27 #[.bool false, .agg (szV n)] w fun e w' => ∃ v, e = .returned (.agg #[.bool false, v]) ∧ Old w w' ∧ Own w' w.heap.size v (toI (dig n)) := by
  by_cases h0 : n = 0
  · subst h0
    refine (whole_none false w).mono ?_
    rintro e w1 ⟨rfl, g1⟩
    refine ⟨_, rfl, g1, ?_⟩
    rw [dig_zero]
    exact nil_own _ _
  · exact whole_some false n w h0 hn
theorem bk_put7 {w : World} {k : Nat} {x0 x1 x2 x3 x4 x5 x6 : Value} {t : TypeId} (h : Bk w k #[x0, x1, x2, x3, x4, x5, x6] t) (y0 y1 y2 y3 y4 y5 y6 : Value) : Bk (((((((w.setCell ⟨k, 0, none⟩ y0).setCell ⟨k, 1, none⟩ y1).setCell ⟨k, 2, none⟩ y2).setCell ⟨k, 3, none⟩ y3).setCell ⟨k, 4, none⟩ y4).setCell ⟨k, 5, none⟩ y5).setCell ⟨k, 6, none⟩ y6) k #[y0, y1, y2, y3, y4, y5, y6] t := by
  have h0 : Bk (w.setCell ⟨k, 0, none⟩ y0) k #[y0, x1, x2, x3, x4, x5, x6] t := (heap_setCell_same w k 0 _ _ y0 h).trans rfl
  have h1 : Bk ((w.setCell ⟨k, 0, none⟩ y0).setCell ⟨k, 1, none⟩ y1) k #[y0, y1, x2, x3, x4, x5, x6] t := (heap_setCell_same (w.setCell ⟨k, 0, none⟩ y0) k 1 _ _ y1 h0).trans rfl
  have h2 : Bk (((w.setCell ⟨k, 0, none⟩ y0).setCell ⟨k, 1, none⟩ y1).setCell ⟨k, 2, none⟩ y2) k #[y0, y1, y2, x3, x4, x5, x6] t := (heap_setCell_same ((w.setCell ⟨k, 0, none⟩ y0).setCell ⟨k, 1, none⟩ y1) k 2 _ _ y2 h1).trans rfl
  have h3 : Bk ((((w.setCell ⟨k, 0, none⟩ y0).setCell ⟨k, 1, none⟩ y1).setCell ⟨k, 2, none⟩ y2).setCell ⟨k, 3, none⟩ y3) k #[y0, y1, y2, y3, x4, x5, x6] t := (heap_setCell_same (((w.setCell ⟨k, 0, none⟩ y0).setCell ⟨k, 1, none⟩ y1).setCell ⟨k, 2, none⟩ y2) k 3 _ _ y3 h2).trans rfl
  have h4 : Bk (((((w.setCell ⟨k, 0, none⟩ y0).setCell ⟨k, 1, none⟩ y1).setCell ⟨k, 2, none⟩ y2).setCell ⟨k, 3, none⟩ y3).setCell ⟨k, 4, none⟩ y4) k #[y0, y1, y2, y3, y4, x5, x6] t := (heap_setCell_same ((((w.setCell ⟨k, 0, none⟩ y0).setCell ⟨k, 1, none⟩ y1).setCell ⟨k, 2, none⟩ y2).setCell ⟨k, 3, none⟩ y3) k 4 _ _ y4 h3).trans rfl
  have h5 : Bk ((((((w.setCell ⟨k, 0, none⟩ y0).setCell ⟨k, 1, none⟩ y1).setCell ⟨k, 2, none⟩ y2).setCell ⟨k, 3, none⟩ y3).setCell ⟨k, 4, none⟩ y4).setCell ⟨k, 5, none⟩ y5) k #[y0, y1, y2, y3, y4, y5, x6] t := (heap_setCell_same (((((w.setCell ⟨k, 0, none⟩ y0).setCell ⟨k, 1, none⟩ y1).setCell ⟨k, 2, none⟩ y2).setCell ⟨k, 3, none⟩ y3).setCell ⟨k, 4, none⟩ y4) k 5 _ _ y5 h4).trans rfl
  have h6 : Bk (((((((w.setCell ⟨k, 0, none⟩ y0).setCell ⟨k, 1, none⟩ y1).setCell ⟨k, 2, none⟩ y2).setCell ⟨k, 3, none⟩ y3).setCell ⟨k, 4, none⟩ y4).setCell ⟨k, 5, none⟩ y5).setCell ⟨k, 6, none⟩ y6) k #[y0, y1, y2, y3, y4, y5, y6] t := (heap_setCell_same ((((((w.setCell ⟨k, 0, none⟩ y0).setCell ⟨k, 1, none⟩ y1).setCell ⟨k, 2, none⟩ y2).setCell ⟨k, 3, none⟩ y3).setCell ⟨k, 4, none⟩ y4).setCell ⟨k, 5, none⟩ y5) k 6 _ _ y6 h5).trans rfl
  exact h6
def RkA (N T E : Int) (xs : List Int) (Rf : Nat → Int) (v : Value) (w : World) (e : Ending) (w' : World) : Prop :=
  Old w w' ∧ ((prB N T E xs = false ∧ e = .returned (.tuple #[.agg rk0, .bool false])) ∨ (prB N T E xs = true ∧ ∃ g a l c, w.heap.size ≤ g ∧ e = .returned (.tuple #[.agg #[.int .i64 N, .int .i64 T, .int .i64 E, v, .slice (some ⟨g, 0, none⟩) xs.length xs.length, .bool false, .slice a l c], .bool true]) ∧ Rgs w' g N xs Rf xs.length ∧ ∃ ps, xs = toZ ps ∧ Bas ps ∧ l = (dig (prodN ps)).length ∧ Own w' w.heap.size (.slice a l c) (toI (dig (prodN ps)))))
set_option maxRecDepth 100000 in
set_option maxHeartbeats 4000000 in
theorem impl_reckonerOf (N T E : Int) (xs : List Int) (Rf : Nat → Int) (v : Value) (w : World) (hP : PrsW w) (hT : TabW w) (hv : Row w v xs) (hf : Fit v) (hl : xs.length ≤ 9223372036854775807)
    (hRf : ∀ k, RingOk (xs.getD k 0) N → (0 ≤ Rf k ∧ Rf k < xs.getD k 0) ∧ (∀ W, PrsW W → TabW W → Calls Tryz.prog 85 #[.int .i64 (xs.getD k 0), .int .i64 N] W fun e w' => e = .returned (.tuple #[.agg #[.int .i64 (xs.getD k 0), .int .i64 N, .int .i64 (Rf k)], .bool true]) ∧ Old W w')) :
    Calls Tryz.prog 17 #[.agg #[.int .i64 N, .int .i64 T, .int .i64 E, v]] w (RkA N T E xs Rf v w) := by
  obtain ⟨a0, c0, rfl⟩ := hv.slice
  have K1 := fun W (g : Old w W) => impl_ringsOfParams N T E xs Rf _ W (hP.old g) (hT.old g) (hv.old g) hf hl hRf
  have HA : Hid (Old w ((w.alloc (.cells #[.int .i64 N, .int .i64 T, .int .i64 E, .slice a0 xs.length c0] 25)).alloc (.cells rk0 48))) := ((Old.refl w).alloc _).alloc _
  have BA : Hid (Bk ((w.alloc (.cells #[.int .i64 N, .int .i64 T, .int .i64 E, .slice a0 xs.length c0] 25)).alloc (.cells rk0 48)) w.heap.size #[.int .i64 N, .int .i64 T, .int .i64 E, .slice a0 xs.length c0] 25) := (Bk.new' w _ _ rfl).alloc _
  have BB : Hid (Bk ((w.alloc (.cells #[.int .i64 N, .int .i64 T, .int .i64 E, .slice a0 xs.length c0] 25)).alloc (.cells rk0 48)) (w.heap.size + 1) rk0 48) := Bk.new' _ _ _ (by simp)
  have HV : Hid (Row w (.slice a0 xs.length c0) xs) := hv
  clear hP hT hv hf hRf
  go_enter Tryz.func17, Tryz.ntmps17
  go_wp2_with fail
  refine (K1 _ HA.out).mono ?_
  rintro e w1 ⟨g1, h⟩
  have HG1 : Hid (Old w w1) := Old.trans HA.out g1
  have B1 : Hid (Bk w1 w.heap.size #[.int .i64 N, .int .i64 T, .int .i64 E, .slice a0 xs.length c0] 25) := BA.out.old g1
  have B2 : Hid (Bk w1 (w.heap.size + 1) rk0 48) := BB.out.old g1
  have hs1 : w.heap.size + 2 ≤ w1.heap.size := by have := g1.size; simp at this; omega
  clear g1 K1 BA BB
  rcases h with ⟨hB, rfl⟩ | ⟨hB, g, hg, rfl, hrg⟩
  · have HB : Hid (prB N T E xs = false) := hB
    have y0 := B2.out.c (i := 0) rfl
    have y1 := B2.out.c (i := 1) rfl
    have y2 := B2.out.c (i := 2) rfl
    have y3 := B2.out.c (i := 3) rfl
    have y4 := B2.out.c (i := 4) rfl
    have y5 := B2.out.c (i := 5) rfl
    have y6 := B2.out.c (i := 6) rfl
    have f0 : w1.frozen? ⟨w.heap.size + 1, 0, none⟩ = false := frozen_of_row _ _ _ _ _ B2.out
    have f1 : w1.frozen? ⟨w.heap.size + 1, 1, none⟩ = false := frozen_of_row _ _ _ _ _ B2.out
    have f2 : w1.frozen? ⟨w.heap.size + 1, 2, none⟩ = false := frozen_of_row _ _ _ _ _ B2.out
    have f3 : w1.frozen? ⟨w.heap.size + 1, 3, none⟩ = false := frozen_of_row _ _ _ _ _ B2.out
    have f4 : w1.frozen? ⟨w.heap.size + 1, 4, none⟩ = false := frozen_of_row _ _ _ _ _ B2.out
    have f5 : w1.frozen? ⟨w.heap.size + 1, 5, none⟩ = false := frozen_of_row _ _ _ _ _ B2.out
    have f6 : w1.frozen? ⟨w.heap.size + 1, 6, none⟩ = false := frozen_of_row _ _ _ _ _ B2.out
    clear hB
    go_wp2_with fail
    have HF := bk_put7 B2.out (.int .i64 0) (.int .i64 0) (.int .i64 0) (.slice none 0 0) (.slice none 0 0) (.bool false) (.slice none 0 0)
    have q0 := HF.c (i := 0) rfl
    have q1 := HF.c (i := 1) rfl
    have q2 := HF.c (i := 2) rfl
    have q3 := HF.c (i := 3) rfl
    have q4 := HF.c (i := 4) rfl
    have q5 := HF.c (i := 5) rfl
    have q6 := HF.c (i := 6) rfl
    refine bodyPost_ret (v := .tuple #[.agg rk0, .bool false]) (by simp [results, Tryz.results17, go_sem, q0, q1, q2, q3, q4, q5, q6]) rfl ⟨?_, .inl ⟨HB.out, rfl⟩⟩
    exact ((((((HG1.out.own (p := ⟨w.heap.size + 1, 0, none⟩) (by simp) _).own (p := ⟨w.heap.size + 1, 1, none⟩) (by simp) _).own (p := ⟨w.heap.size + 1, 2, none⟩) (by simp) _).own (p := ⟨w.heap.size + 1, 3, none⟩) (by simp) _).own (p := ⟨w.heap.size + 1, 4, none⟩) (by simp) _).own (p := ⟨w.heap.size + 1, 5, none⟩) (by simp) _).own (p := ⟨w.heap.size + 1, 6, none⟩) (by simp) _
  · have hsp : spB N xs = true := by
      unfold prB at hB
      rw [Bool.and_eq_true] at hB
      exact hB.1
    obtain ⟨ps, exs, hbas⟩ := basB_yes (sp_ring hsp).2.1
    have c2 : ∀ W, Row W (.slice a0 xs.length c0) xs → Calls Tryz.prog 38 #[.slice a0 xs.length c0] W fun e w' => e = .returned (.agg (szV (prodN ps))) ∧ Old W w' := fun W h => productSize_sz ps _ W (by rw [← exs]; exact h) hbas.len6 hbas.hi
    have c3 := fun W => wholeF_any2 (prodN ps) W (Nat.le_trans hbas.cnt (by omega))
    have HPS : Hid (xs = toZ ps ∧ Bas ps) := ⟨exs, hbas⟩
    have HB : Hid (prB N T E xs = true) := hB
    have HRG : Hid (Rgs w1 g N xs Rf xs.length) := hrg
    have hgl : g < w1.heap.size := hrg.lt
    have hg2 : w.heap.size + 2 ≤ g := by simp at hg; omega
    have hgn : g ≠ w.heap.size + 1 := by omega
    have HLN : Hid ((toI (dig (prodN ps))).length = (dig (prodN ps)).length) := toI_len _
    obtain ⟨ds, hds⟩ : ∃ ds, toI (dig (prodN ps)) = ds := ⟨_, rfl⟩
    have HDS : Hid (toI (dig (prodN ps)) = ds) := hds
    rw [hds] at c3 HLN
    clear hds
    clear hB exs hbas hrg hg hsp
    generalize szV (prodN ps) = SZ at *
    go_wp2_with fail
    refine reg_rk4 w1 w.heap.size (w.heap.size + 1) N T E a0 xs.length c0 (some ⟨g, 0, none⟩) xs.length xs.length SZ ds B1.out B2.out (fun W q => (c2 W (HV.out.old (Old.trans HG1.out q))).mono fun e w' h => ⟨_, h.1, rfl, h.2⟩) (fun W => (c3 W).mono fun e w' h => by
      obtain ⟨v, rfl, q, o⟩ := h
      obtain ⟨a, c, rfl⟩ := (Own.row o).slice
      exact ⟨_, rfl, a, c, rfl, q, o⟩) _ _ ?_ ?_ ?_ ?_ ?_
    iterate 4 (· exact rfl)
    intro us W a6 c6 q6 o6
    simp only [putAll, Act.put, slotRk, List.range, List.range.loop, List.map_cons, List.map_nil, List.getD_cons_zero, List.getD_cons_succ, List.setIfInBounds_toArray, List.set_cons_succ, List.set_cons_zero]
    have hz : W.heap[w.heap.size + 1]? = some (.cells rk0 48 (0, 0)) := B2.out.old q6
    have HF : Bk (W.setRow (w.heap.size + 1) #[.int .i64 N, .int .i64 T, .int .i64 E, .slice a0 xs.length c0, .slice (some ⟨g, 0, none⟩) xs.length xs.length, .bool false, .slice a6 ds.length c6]) (w.heap.size + 1) #[.int .i64 N, .int .i64 T, .int .i64 E, .slice a0 xs.length c0, .slice (some ⟨g, 0, none⟩) xs.length xs.length, .bool false, .slice a6 ds.length c6] 48 := heap_setRow_same hz
    have HO : Hid (Own (W.setRow (w.heap.size + 1) #[.int .i64 N, .int .i64 T, .int .i64 E, .slice a0 xs.length c0, .slice (some ⟨g, 0, none⟩) xs.length xs.length, .bool false, .slice a6 ds.length c6]) w.heap.size (.slice a6 ds.length c6) ds) := own_farB (Own.low o6 (by omega)) (fun b hb => heap_setRow_other _ _ _ _ (by have := (o6.lt b hb).1; omega))
    have HRG6 : Hid (Rgs (W.setRow (w.heap.size + 1) #[.int .i64 N, .int .i64 T, .int .i64 E, .slice a0 xs.length c0, .slice (some ⟨g, 0, none⟩) xs.length xs.length, .bool false, .slice a6 ds.length c6]) g N xs Rf xs.length) := (HRG.out.old q6).same (heap_setRow_other _ _ _ _ (by omega))
    have HOL : Hid (Old w (W.setRow (w.heap.size + 1) #[.int .i64 N, .int .i64 T, .int .i64 E, .slice a0 xs.length c0, .slice (some ⟨g, 0, none⟩) xs.length xs.length, .bool false, .slice a6 ds.length c6])) := old_setRow (Old.trans HG1.out q6) (by omega) _
    have q0 := HF.c (i := 0) rfl
    have q1 := HF.c (i := 1) rfl
    have q2 := HF.c (i := 2) rfl
    have q3 := HF.c (i := 3) rfl
    have q4 := HF.c (i := 4) rfl
    have q5 := HF.c (i := 5) rfl
    have q7 := HF.c (i := 6) rfl
    clear HF hz o6 q6 c2 c3
    generalize (W.setRow (w.heap.size + 1) #[.int .i64 N, .int .i64 T, .int .i64 E, .slice a0 xs.length c0, .slice (some ⟨g, 0, none⟩) xs.length xs.length, .bool false, .slice a6 ds.length c6]) = WF at *
    go_wp2_with fail
    refine bodyPost_ret (v := .tuple #[.agg #[.int .i64 N, .int .i64 T, .int .i64 E, .slice a0 xs.length c0, .slice (some ⟨g, 0, none⟩) xs.length xs.length, .bool false, .slice a6 ds.length c6], .bool true]) (by simp [results, Tryz.results17, go_sem, q0, q1, q2, q3, q4, q5, q7]) rfl ⟨HOL.out, .inr ⟨HB.out, g, a6, ds.length, c6, by omega, rfl, HRG6.out, ps, HPS.out.1, HPS.out.2, HLN.out, ?_⟩⟩
    rw [HDS.out]
    exact HO.out
end Go.Proofs.YtihjndakgncdaaaGreatDoor
