/- Proved: several texts in one: what each proves is said ahead of it. -/
import Derived.Test.YtglbegbhekcddaaDoorRw01
import Derived.Deep.RegionWith
import Derived.Deep.RegionLawGrows
import Derived.Test.YtglbegbhekcddaaDoorRw13
import Derived.Deep.RegionHeld3
import Derived.Test.YtglbegbhekcddaaDoorRw17
/- Proved: what the model answers, as functions of the numbers: whether there is a quotient, and the nearest one. -/
namespace Go.Proofs.YtglbegbhekcddaaDoor
open Go.ChangeShapes Go.WideShapes Go.ChangeAt Go.RowKit
set_option linter.unusedVariables false
set_option linter.unusedSimpArgs false
theorem StW.at31 (w : World) (x y x' y' x'' y'' : Value) (t t' t'' : TypeId) : StW (((w.alloc (.cells #[x, y] t)).alloc (.cells #[x', y'] t')).alloc (.cells #[x'', y''] t'')) w.heap.size x y t :=
  (heap_alloc_old _ _ (by simp; omega)).trans (StW.at1 w x y x' y' t t')
theorem StW.at32 (w : World) (x y x' y' x'' y'' : Value) (t t' t'' : TypeId) : StW (((w.alloc (.cells #[x, y] t)).alloc (.cells #[x', y'] t')).alloc (.cells #[x'', y''] t'')) (w.heap.size + 1) x' y' t' :=
  (heap_alloc_old _ _ (by simp)).trans (StW.at2 w x y x' y' t t')
theorem StW.at33 (w : World) (x y x' y' x'' y'' : Value) (t t' t'' : TypeId) : StW (((w.alloc (.cells #[x, y] t)).alloc (.cells #[x', y'] t')).alloc (.cells #[x'', y''] t'')) (w.heap.size + 1 + 1) x'' y'' t'' := by
  have h := heap_alloc_new ((w.alloc (.cells #[x, y] t)).alloc (.cells #[x', y'] t')) (.cells #[x'', y''] t'')
  have e : ((w.alloc (.cells #[x, y] t)).alloc (.cells #[x', y'] t')).heap.size = w.heap.size + 1 + 1 := by simp
  rw [e] at h
  exact h
end Go.Proofs.YtglbegbhekcddaaDoor
/- Proved: the model's AddRows. -/
namespace Go.Proofs.YtglbegbhekcddaaDoor
open Go.ChangeShapes Go.WideShapes Go.ChangeAt Go.RowKit
open M1
set_option linter.unusedVariables false
set_option linter.unusedSimpArgs false
theorem infoRw : (Tryd.prog.info? 28).map (·.size) = some 2 := by kernel_rfl
theorem ret_rb {fn : Func} {p u : Tmp} (h : fn.results = #[.cell p 28, .tmp u]) (tmps : Array Value) (w : World) {g : Nat} {x y z : Value} (hp : tmps.getD p undef = .pointer (some ⟨g, 0, none⟩)) (hu : tmps.getD u undef = z) (hs : StW w g x y 28) :
    (results fn tmps).run Tryd.prog w = .ok (.tuple #[.agg #[x, y], z]) w := by
  have hld := run_loadVar_row (P := Tryd.prog) w g 28 28 #[x, y] (0, 0) _ hs Tryd.underlying28 rfl infoRw
  rw [results_cell_tmp h, hp, hu]
  simp [asAddr, Result.andThen, hld]
def twoB (N : Int) (ps : List Int) (a b : Bool) (xss yss : List (List Int)) : Bool := grB N ps xss && (rwB N ps yss && (a == b))
theorem gr_sp {N : Int} {ps : List Int} {xss : List (List Int)} (h : grB N ps xss = true) : spB N ps = true := by
  unfold grB at h
  rw [Bool.and_eq_true] at h
  exact h.1
set_option maxRecDepth 100000 in
set_option maxHeartbeats 4000000 in
theorem spec_l5Two (N : Int) (ps : List Int) (a b : Bool) (xss yss : List (List Int)) (v u1 u2 : Value) (w : World) (hv : Row w v ps) (hf : Fit v) (h1 : RowS w u1 xss) (h2 : RowS w u2 yss) (hlp : ps.length ≤ 1048576) (hx : ∀ x ∈ ps, -9223372036854775808 ≤ x ∧ x ≤ 9223372036854775807) (hl1 : xss.length ≤ 1048576) (hr1 : ∀ r ∈ xss, r.length ≤ 1048576) (hl2 : yss.length ≤ 1048576) (hr2 : ∀ r ∈ yss, r.length ≤ 1048576) :
    Calls Tryd.prog 15 #[.agg #[.int .i64 N, v], .agg #[.bool a, u1], .agg #[.bool b, u2]] w fun e w' => e = .returned (.bool (twoB N ps a b xss yss)) ∧ Old w w' := by
  have c1 := fun W (h : Old w W) => spec_goodRows N ps a xss v u1 W (hv.old h) hf (h1.old h) hlp hx hl1 hr1
  have c2 := fun hs W (h : Old w W) => spec_l5Rows N ps yss v u2 W (hv.old h) (h2.old h) hl2 hr2 hs
  obtain ⟨a0, cap0, ev⟩ := hv.slice
  obtain ⟨a1, cap1, e1⟩ := h1.slice
  obtain ⟨a2, cap2, e2⟩ := h2.slice
  subst ev e1 e2
  have HA : Hid (Old w (((w.alloc (.cells #[.int .i64 N, .slice a0 ps.length cap0] 25)).alloc (.cells #[.bool a, .slice a1 xss.length cap1] 28)).alloc (.cells #[.bool b, .slice a2 yss.length cap2] 28))) := (((Old.refl w).alloc _).alloc _).alloc _
  have HC : Hid (∀ W', Old (((w.alloc (.cells #[.int .i64 N, .slice a0 ps.length cap0] 25)).alloc (.cells #[.bool a, .slice a1 xss.length cap1] 28)).alloc (.cells #[.bool b, .slice a2 yss.length cap2] 28)) W' → (W'.cell? ⟨w.heap.size, 0, none⟩ = some (.int .i64 N) ∧ W'.cell? ⟨w.heap.size, 1, none⟩ = some (.slice a0 ps.length cap0) ∧ W'.cell? ⟨w.heap.size + 1, 0, none⟩ = some (.bool a) ∧ W'.cell? ⟨w.heap.size + 1 + 1, 0, none⟩ = some (.bool b) ∧ W'.cell? ⟨w.heap.size + 1 + 1, 1, none⟩ = some (.slice a2 yss.length cap2))) := fun W' g => ⟨((StW.at31 w _ _ _ _ _ _ _ _ _).old g).c0, ((StW.at31 w _ _ _ _ _ _ _ _ _).old g).c1, ((StW.at32 w _ _ _ _ _ _ _ _ _).old g).c0, ((StW.at33 w _ _ _ _ _ _ _ _ _).old g).c0, ((StW.at33 w _ _ _ _ _ _ _ _ _).old g).c1⟩
  clear hv h1 h2 hf hx hr1 hr2
  unfold twoB
  cases hg : grB N ps xss
  · rw [hg] at c1
    go_enter Tryd.func15, Tryd.ntmps15
    go_wp2_with fail
    refine (c1 _ HA.out).mono ?_
    rintro e w1 ⟨rfl, g1⟩
    have HG1 : Hid (Old w w1) := Old.trans HA.out g1
    clear g1
    go_wp2_with fail
    go_ret
    exact ⟨rfl, HG1.out⟩
  · rw [hg] at c1
    have c3 := c2 (gr_sp hg)
    cases hh : rwB N ps yss
    · rw [hh] at c3
      clear hg hh c2
      go_enter Tryd.func15, Tryd.ntmps15
      go_wp2_with fail
      refine (c1 _ HA.out).mono ?_
      rintro e w1 ⟨rfl, g1⟩
      have HG1 : Hid (Old w w1) := Old.trans HA.out g1
      obtain ⟨z1, z2, z3, z4, z5⟩ := HC.out _ g1
      clear g1
      go_wp2_with fail
      refine (c3 _ HG1.out).mono ?_
      rintro e w2 ⟨rfl, g2⟩
      have HG2 : Hid (Old w w2) := Old.trans HG1.out g2
      clear g2 z1 z2 z3 z4 z5
      go_wp2_with fail
      go_ret
      exact ⟨rfl, HG2.out⟩
    · rw [hh] at c3
      clear hg hh c2
      go_enter Tryd.func15, Tryd.ntmps15
      go_wp2_with fail
      refine (c1 _ HA.out).mono ?_
      rintro e w1 ⟨rfl, g1⟩
      have HG1 : Hid (Old w w1) := Old.trans HA.out g1
      have G1 : Hid (Old _ w1) := g1
      obtain ⟨z1, z2, z3, z4, z5⟩ := HC.out _ g1
      clear g1
      go_wp2_with fail
      refine (c3 _ HG1.out).mono ?_
      rintro e w2 ⟨rfl, g2⟩
      have HG2 : Hid (Old w w2) := Old.trans HG1.out g2
      clear z1 z2 z3 z4 z5
      obtain ⟨z1, z2, z3, z4, z5⟩ := HC.out _ (Old.trans G1.out g2)
      clear g2
      go_wp2_with fail
      go_ret
      exact ⟨by simp, HG2.out⟩
theorem two_parts {N : Int} {ps : List Int} {a b : Bool} {xss yss : List (List Int)} (h : twoB N ps a b xss yss = true) : (N = 2 ∨ N = 4 ∨ N = 8 ∨ N = 16) ∧ (1 ≤ ps.length ∧ ps.length ≤ 6) ∧ xss.length = ps.length ∧ yss.length = ps.length ∧ a = b ∧
    ∀ k, k < ps.length → ((xss.getD k []).length : Int) = N ∧ ((yss.getD k []).length : Int) = N ∧ (2 ≤ ps.getD k 0 ∧ ps.getD k 0 ≤ 268435456) ∧ ∀ i, i < (xss.getD k []).length → (0 ≤ (xss.getD k []).getD i 0 ∧ (xss.getD k []).getD i 0 < ps.getD k 0) ∧ (0 ≤ (yss.getD k []).getD i 0 ∧ (yss.getD k []).getD i 0 < ps.getD k 0) := by
  unfold twoB grB at h
  rw [Bool.and_eq_true, Bool.and_eq_true, Bool.and_eq_true] at h
  obtain ⟨⟨h1, h2⟩, h3, h4⟩ := h
  obtain ⟨s1, s2, s3⟩ := sp_ring h1
  obtain ⟨b1, b2⟩ := bas_at s2
  unfold rwB at h2 h3
  rw [Bool.and_eq_true] at h2 h3
  have l1 := of_decide_eq_true h2.1
  have l2 := of_decide_eq_true h3.1
  refine ⟨s1, b1, l1, l2, by simpa using h4, fun k hk => ?_⟩
  have r1 := of_decide_eq_true h2.2 k hk (Nat.zero_le _)
  have r2 := of_decide_eq_true h3.2 k hk (Nat.zero_le _)
  unfold polyB at r1 r2
  rw [Bool.and_eq_true] at r1 r2
  have e1 := of_decide_eq_true r1.1
  have e2 := of_decide_eq_true r2.1
  refine ⟨e1, e2, pm_bd (b2 k hk), fun i hi => ?_⟩
  have key : ∀ (xs : List Int) (p : Int), xs.all (fun x => resB x p) = true → ∀ i, i < xs.length → 0 ≤ xs.getD i 0 ∧ xs.getD i 0 < p := fun xs p ha i hi => by
    have := List.all_eq_true.1 ha (xs.getD i 0) (by simp [List.getD, hi])
    simpa [resB] using this
  exact ⟨key _ _ r1.2 i hi, key _ _ r2.2 i (by omega)⟩
end Go.Proofs.YtglbegbhekcddaaDoor
