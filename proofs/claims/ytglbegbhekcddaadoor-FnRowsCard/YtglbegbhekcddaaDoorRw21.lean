/- Proved: several texts in one: what each proves is said ahead of it. -/
import Derived.Test.YtglbegbhekcddaaDoorRw20
import Derived.Test.YtglbegbhekcddaaDoorRw02
import Derived.Deep.RegionWith
import Derived.Test.YtglbegbhekcddaaDoorRw15
import Derived.Test.YtglbegbhekcddaaDoorRw18
import Derived.Deep.RegionHeld3
import Derived.Test.YtglbegbhekcddaaDoorRw22
/- Proved: the model's AddRows. -/
namespace Go.Proofs.YtglbegbhekcddaaDoor
open Go.ChangeShapes Go.WideShapes Go.ChangeAt Go.RowKit
open M1
set_option linter.unusedVariables false
set_option linter.unusedSimpArgs false
def Rs (w : World) (n : Bool) (zss : List (List Int)) (ok : Bool) (e : Ending) (w' : World) : Prop := ∃ r0, e = .returned (.tuple #[.agg r0, .bool ok]) ∧ Old w w' ∧ XR n zss w' w.heap.size w'.heap.size r0
theorem st_put2 {w : World} {k : Nat} {x y : Value} {t : TypeId} (h : StW w k x y t) (x' y' : Value) : StW ((w.setCell ⟨k, 0, none⟩ x').setCell ⟨k, 1, none⟩ y') k x' y' t := by
  have h1 := heap_setCell_same w k 0 _ _ x' h
  have h2 := heap_setCell_same _ k 1 _ _ y' h1
  exact h2
theorem XR.nil (n : Bool) (W : World) (lo hi : Nat) (h : hi ≤ W.heap.size) : XR n [] W lo hi #[.bool n, .slice none 0 0] := ⟨none, 0, rfl, h, Or.inl ⟨rfl, rfl⟩⟩
end Go.Proofs.YtglbegbhekcddaaDoor
/- Proved: the program's eachPair. -/
namespace Go.Proofs.YtglbegbhekcddaaDoor
open Go.ChangeShapes Go.WideShapes Go.ChangeAt Go.RowKit
open M1
set_option linter.unusedVariables false
set_option linter.unusedSimpArgs false
set_option maxRecDepth 100000 in
set_option maxHeartbeats 4000000 in
theorem eachPair_plus_no (N : Int) (ps : List Int) (a b : Bool) (xss yss : List (List Int)) (Rf : Nat → Int) (us1 us2 : Nat → Option Addr) (v : Value) (a1 a2 : Option Addr) (cap1 cap2 : Nat) (w : World) (hP : PrsW w) (hT : TabW w) (hv : Row w v ps)
    (c1 : ∀ W, PrsW W → TabW W → Old w W → Calls Tryd.prog 26 #[.agg #[.int .i64 N, v], .agg #[.bool a, .slice a1 xss.length cap1]] W fun e w' => Old W w' ∧ ((grB N ps xss = false ∧ e = .returned (.tuple #[.slice none 0 0, .bool false])) ∨ (grB N ps xss = true ∧ ∃ g, W.heap.size ≤ g ∧ e = .returned (.tuple #[.slice (some ⟨g, 0, none⟩) ps.length ps.length, .bool true]) ∧ RRs w' g N a ps Rf us1 ps.length)))
    (c2 : ∀ W, PrsW W → TabW W → Old w W → Calls Tryd.prog 26 #[.agg #[.int .i64 N, v], .agg #[.bool b, .slice a2 yss.length cap2]] W fun e w' => Old W w' ∧ ((grB N ps yss = false ∧ e = .returned (.tuple #[.slice none 0 0, .bool false])) ∨ (grB N ps yss = true ∧ ∃ g, W.heap.size ≤ g ∧ e = .returned (.tuple #[.slice (some ⟨g, 0, none⟩) ps.length ps.length, .bool true]) ∧ RRs w' g N b ps Rf us2 ps.length))) (hno : ¬ (grB N ps xss = true ∧ grB N ps yss = true ∧ a = b)) :
    Calls Tryd.prog 13 #[.agg #[.int .i64 N, v], .agg #[.bool a, .slice a1 xss.length cap1], .agg #[.bool b, .slice a2 yss.length cap2], .func (.func 19) #[] #[]] w (Rs w false [] false) := by
  have HP : Hid (PrsW w) := hP
  have HT : Hid (TabW w) := hT
  obtain ⟨a0, cap0, ev⟩ := hv.slice
  subst ev
  have HA : Hid (Old w ((((w.alloc (.cells #[.int .i64 N, .slice a0 ps.length cap0] 25)).alloc (.cells #[.bool a, .slice a1 xss.length cap1] 28)).alloc (.cells #[.bool b, .slice a2 yss.length cap2] 28)).alloc (.cells #[.bool false, .slice none 0 0] 28))) := ((((Old.refl w).alloc _).alloc _).alloc _).alloc _
  have HS : Hid (StW ((((w.alloc (.cells #[.int .i64 N, .slice a0 ps.length cap0] 25)).alloc (.cells #[.bool a, .slice a1 xss.length cap1] 28)).alloc (.cells #[.bool b, .slice a2 yss.length cap2] 28)).alloc (.cells #[.bool false, .slice none 0 0] 28)) (w.heap.size + 1 + 1 + 1) (.bool false) (.slice none 0 0) 28) := by
    have := StW.new (((w.alloc (.cells #[.int .i64 N, .slice a0 ps.length cap0] 25)).alloc (.cells #[.bool a, .slice a1 xss.length cap1] 28)).alloc (.cells #[.bool b, .slice a2 yss.length cap2] 28)) (.bool false) (.slice none 0 0) 28
    simp at this
    exact this
  have HAS : Hid (∀ W', Old ((((w.alloc (.cells #[.int .i64 N, .slice a0 ps.length cap0] 25)).alloc (.cells #[.bool a, .slice a1 xss.length cap1] 28)).alloc (.cells #[.bool b, .slice a2 yss.length cap2] 28)).alloc (.cells #[.bool false, .slice none 0 0] 28)) W' → (W'.cell? ⟨w.heap.size, 0, none⟩ = some (.int .i64 N) ∧ W'.cell? ⟨w.heap.size, 1, none⟩ = some (.slice a0 ps.length cap0) ∧ W'.cell? ⟨w.heap.size + 1, 0, none⟩ = some (.bool a) ∧ W'.cell? ⟨w.heap.size + 1, 1, none⟩ = some (.slice a1 xss.length cap1) ∧ W'.cell? ⟨w.heap.size + 1 + 1, 0, none⟩ = some (.bool b) ∧ W'.cell? ⟨w.heap.size + 1 + 1, 1, none⟩ = some (.slice a2 yss.length cap2))) := fun W' g => by
    have g' := Old.trans ((Old.refl _).alloc _) g
    exact ⟨((StW.at31 w _ _ _ _ _ _ _ _ _).old g').c0, ((StW.at31 w _ _ _ _ _ _ _ _ _).old g').c1, ((StW.at32 w _ _ _ _ _ _ _ _ _).old g').c0, ((StW.at32 w _ _ _ _ _ _ _ _ _).old g').c1, ((StW.at33 w _ _ _ _ _ _ _ _ _).old g').c0, ((StW.at33 w _ _ _ _ _ _ _ _ _).old g').c1⟩
  clear hv hP hT
  go_enter Tryd.func13, Tryd.ntmps13
  go_wp2_with fail
  refine (c1 _ (HP.out.old HA.out) (HT.out.old HA.out) HA.out).mono ?_
  rintro e w1 ⟨g1, hl⟩
  have HG1 : Hid (Old w w1) := Old.trans HA.out g1
  have G1 : Hid (Old ((((w.alloc (.cells #[.int .i64 N, .slice a0 ps.length cap0] 25)).alloc (.cells #[.bool a, .slice a1 xss.length cap1] 28)).alloc (.cells #[.bool b, .slice a2 yss.length cap2] 28)).alloc (.cells #[.bool false, .slice none 0 0] 28)) w1) := g1
  clear g1
  rcases hl with ⟨hB, rfl⟩ | ⟨hB, g, hg, rfl, hrr⟩
  · clear hno hB
    obtain ⟨z1, z2, z3, z4, z5, z6⟩ := HAS.out w1 G1.out
    go_wp2_with fail
    refine (c2 _ (HP.out.old HG1.out) (HT.out.old HG1.out) HG1.out).mono ?_
    rintro e w2 ⟨g2, hr⟩
    have HG2 : Hid (Old w w2) := Old.trans HG1.out g2
    have G2 : Hid (Old ((((w.alloc (.cells #[.int .i64 N, .slice a0 ps.length cap0] 25)).alloc (.cells #[.bool a, .slice a1 xss.length cap1] 28)).alloc (.cells #[.bool b, .slice a2 yss.length cap2] 28)).alloc (.cells #[.bool false, .slice none 0 0] 28)) w2) := Old.trans G1.out g2
    have S2 : Hid (StW w2 (w.heap.size + 1 + 1 + 1) (.bool false) (.slice none 0 0) 28) := HS.out.old G2.out
    clear g2 z1 z2 z3 z4 z5 z6
    obtain ⟨z1, z2, z3, z4, z5, z6⟩ := HAS.out w2 G2.out
    rcases hr with ⟨hB, rfl⟩ | ⟨hB, g, hg, rfl, hrr⟩
    · clear hB
      have q0 := S2.out.c0
      have q1 := S2.out.c1
      have f0 := S2.out.f0
      have f1 := S2.out.f1
      have hs : w.heap.size + 1 + 1 + 1 < w2.heap.size := S2.out.lt
      go_wp2_with fail
      refine bodyPost_ret (ret_rb (x := .bool false) (y := .slice none 0 0) (z := .bool false) Tryd.results13 _ _ rfl rfl (st_put2 S2.out _ _)) rfl ⟨_, rfl, ?_, XR.nil _ _ _ _ (Nat.le_refl _)⟩
      exact (HG2.out.own (p := ⟨w.heap.size + 1 + 1 + 1, 0, none⟩) (by simp; omega) _).own (p := ⟨w.heap.size + 1 + 1 + 1, 1, none⟩) (by simp; omega) _
    · clear hB hrr hg
      have q0 := S2.out.c0
      have q1 := S2.out.c1
      have f0 := S2.out.f0
      have f1 := S2.out.f1
      have hs : w.heap.size + 1 + 1 + 1 < w2.heap.size := S2.out.lt
      go_wp2_with fail
      refine bodyPost_ret (ret_rb (x := .bool false) (y := .slice none 0 0) (z := .bool false) Tryd.results13 _ _ rfl rfl (st_put2 S2.out _ _)) rfl ⟨_, rfl, ?_, XR.nil _ _ _ _ (Nat.le_refl _)⟩
      exact (HG2.out.own (p := ⟨w.heap.size + 1 + 1 + 1, 0, none⟩) (by simp; omega) _).own (p := ⟨w.heap.size + 1 + 1 + 1, 1, none⟩) (by simp; omega) _
  · clear hrr hg
    obtain ⟨z1, z2, z3, z4, z5, z6⟩ := HAS.out w1 G1.out
    go_wp2_with fail
    refine (c2 _ (HP.out.old HG1.out) (HT.out.old HG1.out) HG1.out).mono ?_
    rintro e w2 ⟨g2, hr⟩
    have HG2 : Hid (Old w w2) := Old.trans HG1.out g2
    have G2 : Hid (Old ((((w.alloc (.cells #[.int .i64 N, .slice a0 ps.length cap0] 25)).alloc (.cells #[.bool a, .slice a1 xss.length cap1] 28)).alloc (.cells #[.bool b, .slice a2 yss.length cap2] 28)).alloc (.cells #[.bool false, .slice none 0 0] 28)) w2) := Old.trans G1.out g2
    have S2 : Hid (StW w2 (w.heap.size + 1 + 1 + 1) (.bool false) (.slice none 0 0) 28) := HS.out.old G2.out
    clear g2 z1 z2 z3 z4 z5 z6
    obtain ⟨z1, z2, z3, z4, z5, z6⟩ := HAS.out w2 G2.out
    rcases hr with ⟨hB2, rfl⟩ | ⟨hB2, g', hg', rfl, hrr'⟩
    · clear hB hB2 hno
      have q0 := S2.out.c0
      have q1 := S2.out.c1
      have f0 := S2.out.f0
      have f1 := S2.out.f1
      have hs : w.heap.size + 1 + 1 + 1 < w2.heap.size := S2.out.lt
      go_wp2_with fail
      refine bodyPost_ret (ret_rb (x := .bool false) (y := .slice none 0 0) (z := .bool false) Tryd.results13 _ _ rfl rfl (st_put2 S2.out _ _)) rfl ⟨_, rfl, ?_, XR.nil _ _ _ _ (Nat.le_refl _)⟩
      exact (HG2.out.own (p := ⟨w.heap.size + 1 + 1 + 1, 0, none⟩) (by simp; omega) _).own (p := ⟨w.heap.size + 1 + 1 + 1, 1, none⟩) (by simp; omega) _
    · have dab : (!(a == b)) = true := by
        simp only [Bool.not_eq_true', beq_eq_false_iff_ne, ne_eq]
        exact fun e => hno ⟨hB, hB2, e⟩
      clear hB hB2 hno hrr' hg'
      have q0 := S2.out.c0
      have q1 := S2.out.c1
      have f0 := S2.out.f0
      have f1 := S2.out.f1
      have hs : w.heap.size + 1 + 1 + 1 < w2.heap.size := S2.out.lt
      go_wp2_with fail
      refine bodyPost_ret (ret_rb (x := .bool false) (y := .slice none 0 0) (z := .bool false) Tryd.results13 _ _ rfl rfl (st_put2 S2.out _ _)) rfl ⟨_, rfl, ?_, XR.nil _ _ _ _ (Nat.le_refl _)⟩
      exact (HG2.out.own (p := ⟨w.heap.size + 1 + 1 + 1, 0, none⟩) (by simp; omega) _).own (p := ⟨w.heap.size + 1 + 1 + 1, 1, none⟩) (by simp; omega) _
end Go.Proofs.YtglbegbhekcddaaDoor
/- Proved: the program's eachRow. -/
namespace Go.Proofs.YtglbegbhekcddaaDoor
open Go.ChangeShapes Go.WideShapes Go.ChangeAt Go.RowKit
open M1
set_option linter.unusedVariables false
set_option linter.unusedSimpArgs false
set_option maxRecDepth 100000 in
set_option maxHeartbeats 4000000 in
theorem eachRow_ahead_no (N : Int) (ps : List Int) (a ah : Bool) (xss : List (List Int)) (Rf : Nat → Int) (us1 : Nat → Option Addr) (v : Value) (a1 : Option Addr) (cap1 : Nat) (w : World) (hP : PrsW w) (hT : TabW w) (hv : Row w v ps)
    (c1 : ∀ W, PrsW W → TabW W → Old w W → Calls Tryd.prog 26 #[.agg #[.int .i64 N, v], .agg #[.bool a, .slice a1 xss.length cap1]] W fun e w' => Old W w' ∧ ((grB N ps xss = false ∧ e = .returned (.tuple #[.slice none 0 0, .bool false])) ∨ (grB N ps xss = true ∧ ∃ g, W.heap.size ≤ g ∧ e = .returned (.tuple #[.slice (some ⟨g, 0, none⟩) ps.length ps.length, .bool true]) ∧ RRs w' g N a ps Rf us1 ps.length))) (hno : grB N ps xss = false) :
    Calls Tryd.prog 17 #[.agg #[.int .i64 N, v], .agg #[.bool a, .slice a1 xss.length cap1], .bool ah, .func (.func 21) #[] #[]] w (Rs w false [] false) := by
  have HP : Hid (PrsW w) := hP
  have HT : Hid (TabW w) := hT
  obtain ⟨a0, cap0, ev⟩ := hv.slice
  subst ev
  have HA : Hid (Old w (((w.alloc (.cells #[.int .i64 N, .slice a0 ps.length cap0] 25)).alloc (.cells #[.bool a, .slice a1 xss.length cap1] 28)).alloc (.cells #[.bool false, .slice none 0 0] 28))) := (((Old.refl w).alloc _).alloc _).alloc _
  have HS : Hid (StW (((w.alloc (.cells #[.int .i64 N, .slice a0 ps.length cap0] 25)).alloc (.cells #[.bool a, .slice a1 xss.length cap1] 28)).alloc (.cells #[.bool false, .slice none 0 0] 28)) (w.heap.size + 1 + 1) (.bool false) (.slice none 0 0) 28) := by
    have := StW.new ((w.alloc (.cells #[.int .i64 N, .slice a0 ps.length cap0] 25)).alloc (.cells #[.bool a, .slice a1 xss.length cap1] 28)) (.bool false) (.slice none 0 0) 28
    simp at this
    exact this
  clear hv hP hT
  go_enter Tryd.func17, Tryd.ntmps17
  go_wp2_with fail
  refine (c1 _ (HP.out.old HA.out) (HT.out.old HA.out) HA.out).mono ?_
  rintro e w2 ⟨g1, hl⟩
  have HG2 : Hid (Old w w2) := Old.trans HA.out g1
  have S2 : Hid (StW w2 (w.heap.size + 1 + 1) (.bool false) (.slice none 0 0) 28) := HS.out.old g1
  have hs2 : w.heap.size + 1 + 1 < w2.heap.size := S2.out.lt
  clear g1
  rcases hl with ⟨hB, rfl⟩ | ⟨hB, g, hg, rfl, hrr⟩
  · have q0 := S2.out.c0
    have q1 := S2.out.c1
    have f0 := S2.out.f0
    have f1 := S2.out.f1
    clear hB hno
    go_wp2_with fail
    refine bodyPost_ret (ret_rb (x := .bool false) (y := .slice none 0 0) (z := .bool false) Tryd.results17 _ _ rfl rfl (st_put2 S2.out _ _)) rfl ⟨_, rfl, ?_, XR.nil _ _ _ _ (Nat.le_refl _)⟩
    exact (HG2.out.own (p := ⟨w.heap.size + 1 + 1, 0, none⟩) (by simp; omega) _).own (p := ⟨w.heap.size + 1 + 1, 1, none⟩) (by simp; omega) _
  · rw [hno] at hB
    cases hB
set_option maxRecDepth 100000 in
set_option maxHeartbeats 8000000 in
theorem eachRow_ahead_yes (Nn : Nat) (ps : List Int) (a ah : Bool) (xss : List (List Int)) (Rf : Nat → Int) (us1 : Nat → Option Addr) (v : Value) (a1 : Option Addr) (cap1 : Nat) (w : World) (hP : PrsW w) (hT : TabW w) (hv : Row w v ps)
    (c1 : ∀ W, PrsW W → TabW W → Old w W → Calls Tryd.prog 26 #[.agg #[.int .i64 Nn, v], .agg #[.bool a, .slice a1 xss.length cap1]] W fun e w' => Old W w' ∧ ((grB Nn ps xss = false ∧ e = .returned (.tuple #[.slice none 0 0, .bool false])) ∨ (grB Nn ps xss = true ∧ ∃ g, W.heap.size ≤ g ∧ e = .returned (.tuple #[.slice (some ⟨g, 0, none⟩) ps.length ps.length, .bool true]) ∧ RRs w' g Nn a ps Rf us1 ps.length))) (hx : grB Nn ps xss = true) (zss : List (List Int)) (hzl : zss.length = ps.length) (hps : ps.length ≤ 6)
    (cj : ∀ k, k < ps.length → (zss.getD k []).length = Nn ∧ ∀ W, Old w W → Calls Tryd.prog 21 #[.agg #[.int .i64 (ps.getD k 0), .int .i64 Nn, .int .i64 (Rf k), .bool a, .slice (us1 k) Nn Nn]] W fun e w' => ∃ g cp, e = .returned (.slice (some ⟨g, 0, none⟩) Nn cp) ∧ Nn ≤ cp ∧ Old W w' ∧ Own w' W.heap.size (.slice (some ⟨g, 0, none⟩) Nn cp) (zss.getD k [])) :
    Calls Tryd.prog 17 #[.agg #[.int .i64 Nn, v], .agg #[.bool a, .slice a1 xss.length cap1], .bool ah, .func (.func 21) #[] #[]] w (Rs w ah zss true) := by
  have HZL : Hid (zss.length = ps.length) := hzl
  have HCJ : Hid (∀ k, k < ps.length → (zss.getD k []).length = Nn ∧ ∀ W, Old w W → Calls Tryd.prog 21 #[.agg #[.int .i64 (ps.getD k 0), .int .i64 Nn, .int .i64 (Rf k), .bool a, .slice (us1 k) Nn Nn]] W fun e w' => ∃ g cp, e = .returned (.slice (some ⟨g, 0, none⟩) Nn cp) ∧ Nn ≤ cp ∧ Old W w' ∧ Own w' W.heap.size (.slice (some ⟨g, 0, none⟩) Nn cp) (zss.getD k [])) := cj
  have HPS : Hid (ps.length ≠ 0) := fun h0 => by
    have hsp : spB Nn ps = true := (Bool.and_eq_true_iff.1 hx).1
    have h1 := (bas_at (sp_ring hsp).2.1).1
    omega
  clear hzl cj
  have HP : Hid (PrsW w) := hP
  have HT : Hid (TabW w) := hT
  obtain ⟨a0, cap0, ev⟩ := hv.slice
  subst ev
  have HA : Hid (Old w (((w.alloc (.cells #[.int .i64 Nn, .slice a0 ps.length cap0] 25)).alloc (.cells #[.bool a, .slice a1 xss.length cap1] 28)).alloc (.cells #[.bool false, .slice none 0 0] 28))) := (((Old.refl w).alloc _).alloc _).alloc _
  have HS : Hid (StW (((w.alloc (.cells #[.int .i64 Nn, .slice a0 ps.length cap0] 25)).alloc (.cells #[.bool a, .slice a1 xss.length cap1] 28)).alloc (.cells #[.bool false, .slice none 0 0] 28)) (w.heap.size + 1 + 1) (.bool false) (.slice none 0 0) 28) := by
    have := StW.new ((w.alloc (.cells #[.int .i64 Nn, .slice a0 ps.length cap0] 25)).alloc (.cells #[.bool a, .slice a1 xss.length cap1] 28)) (.bool false) (.slice none 0 0) 28
    simp at this
    exact this
  clear hv hP hT
  go_enter Tryd.func17, Tryd.ntmps17
  go_wp2_with fail
  refine (c1 _ (HP.out.old HA.out) (HT.out.old HA.out) HA.out).mono ?_
  rintro e w2 ⟨g1, hl⟩
  have HG2 : Hid (Old w w2) := Old.trans HA.out g1
  have S2 : Hid (StW w2 (w.heap.size + 1 + 1) (.bool false) (.slice none 0 0) 28) := HS.out.old g1
  have hs2 : w.heap.size + 1 + 1 < w2.heap.size := S2.out.lt
  clear g1
  rcases hl with ⟨hB, rfl⟩ | ⟨hB, g, hg, rfl, hrr⟩
  · rw [hx] at hB
    cases hB
  · have HLB : Hid (RRs w2 g Nn a ps Rf us1 ps.length) := hrr
    clear hrr hg hB hx
    have hpos : 1 ≤ ps.length := Nat.pos_of_ne_zero HPS.out
    have KC := changed_ahead (Nn : Int) a ps Rf (fun k => .slice (us1 k) (Nn : Int).toNat (Nn : Int).toNat) (.slice (some ⟨g, 0, none⟩) ps.length ps.length) ps.length w2 HLB.out.rd (fun k hk => ⟨_, _, _, rfl⟩) ⟨hpos, by omega⟩ zss (fun k hk W q => by
      rw [Int.toNat_natCast]
      exact ((HCJ.out k hk).2 W (Old.trans HG2.out q)).mono fun e w' h => by
        obtain ⟨g, cp, h1, h2, h3, h4⟩ := h
        exact ⟨_, h1, h3, h4⟩)
    have HKC : Hid (Calls Tryd.prog 34 #[.slice (some ⟨g, 0, none⟩) ps.length ps.length, .func (.func 21) #[] #[]] w2 fun e w' => e = .returned (.slice (some ⟨w2.heap.size, 0, none⟩) ps.length ps.length) ∧ Old w2 w' ∧ Ows (TS 42 5 ps.length (elR (Nn : Int) a ps Rf zss)) w' w2.heap.size w'.heap.size [.slice (some ⟨w2.heap.size, 0, none⟩) ps.length ps.length]) := KC
    have HKN : Hid (∀ W lo, Ows (TS 42 5 ps.length (elR (Nn : Int) a ps Rf zss)) W lo W.heap.size [.slice (some ⟨w2.heap.size, 0, none⟩) ps.length ps.length] → lo ≤ W.heap.size → Calls Tryd.prog 27 #[.slice (some ⟨w2.heap.size, 0, none⟩) ps.length ps.length] W fun e w' => e = .returned (.slice (some ⟨W.heap.size, 0, none⟩) ps.length ps.length) ∧ Old W w' ∧ OwS zss w' lo w'.heap.size (.slice (some ⟨W.heap.size, 0, none⟩) ps.length ps.length)) := fun W lo h hlo => numbersOf_any (Nn : Int) a ps Rf zss ps.length lo _ W ⟨hpos, by omega⟩ HZL.out h hlo
    clear KC HLB
    go_wp2_with fail
    refine HKC.out.mono ?_
    rintro e w3 ⟨rfl, g3, o3⟩
    have O3 : Hid (Ows (TS 42 5 ps.length (elR (Nn : Int) a ps Rf zss)) w3 w2.heap.size w3.heap.size [.slice (some ⟨w2.heap.size, 0, none⟩) ps.length ps.length]) := o3
    have G3 : Hid (Old w2 w3) := g3
    clear g3 o3 HKC
    go_wp2_with fail
    refine (HKN.out w3 w2.heap.size O3.out G3.out.size).mono ?_
    rintro e w4 ⟨rfl, g4, o4⟩
    have G4 : Hid (Old w2 w4) := Old.trans G3.out g4
    have O4 : Hid (OwS zss w4 w2.heap.size w4.heap.size (.slice (some ⟨w3.heap.size, 0, none⟩) ps.length ps.length)) := o4
    have SF : Hid (StW w4 (w.heap.size + 1 + 1) (.bool false) (.slice none 0 0) 28) := S2.out.old G4.out
    clear g4 o4 HKN O3
    have q0 := SF.out.c0
    have q1 := SF.out.c1
    have f0 := SF.out.f0
    have f1 := SF.out.f1
    go_wp2_with fail
    refine bodyPost_ret (ret_rb Tryd.results17 _ _ rfl rfl (st_put2 SF.out _ _)) rfl ⟨_, rfl, ?_, some ⟨w3.heap.size, 0, none⟩, ps.length, by rw [HZL.out], ?_⟩
    · exact ((Old.trans HG2.out G4.out).own (p := ⟨w.heap.size + 1 + 1, 0, none⟩) (by simp; omega) _).own (p := ⟨w.heap.size + 1 + 1, 1, none⟩) (by simp; omega) _
    · rw [HZL.out]
      have h2 := (O4.out.put (k := w.heap.size + 1 + 1) (j := 0) (x := .bool ah) (by omega)).put (k := w.heap.size + 1 + 1) (j := 1) (x := .slice (some ⟨w3.heap.size, 0, none⟩) ps.length ps.length) (by omega)
      have h3 := h2.low (lo' := w.heap.size) (by omega)
      exact h3.high (by simp) (Nat.le_refl _)
end Go.Proofs.YtglbegbhekcddaaDoor
/- Proved: the program's eachRow. -/
namespace Go.Proofs.YtglbegbhekcddaaDoor
open Go.ChangeShapes Go.WideShapes Go.ChangeAt Go.RowKit
open M1
set_option linter.unusedVariables false
set_option linter.unusedSimpArgs false
set_option maxRecDepth 100000 in
set_option maxHeartbeats 4000000 in
theorem eachRow_back_no (N : Int) (ps : List Int) (a ah : Bool) (xss : List (List Int)) (Rf : Nat → Int) (us1 : Nat → Option Addr) (v : Value) (a1 : Option Addr) (cap1 : Nat) (w : World) (hP : PrsW w) (hT : TabW w) (hv : Row w v ps)
    (c1 : ∀ W, PrsW W → TabW W → Old w W → Calls Tryd.prog 26 #[.agg #[.int .i64 N, v], .agg #[.bool a, .slice a1 xss.length cap1]] W fun e w' => Old W w' ∧ ((grB N ps xss = false ∧ e = .returned (.tuple #[.slice none 0 0, .bool false])) ∨ (grB N ps xss = true ∧ ∃ g, W.heap.size ≤ g ∧ e = .returned (.tuple #[.slice (some ⟨g, 0, none⟩) ps.length ps.length, .bool true]) ∧ RRs w' g N a ps Rf us1 ps.length))) (hno : grB N ps xss = false) :
    Calls Tryd.prog 17 #[.agg #[.int .i64 N, v], .agg #[.bool a, .slice a1 xss.length cap1], .bool ah, .func (.func 18) #[] #[]] w (Rs w false [] false) := by
  have HP : Hid (PrsW w) := hP
  have HT : Hid (TabW w) := hT
  obtain ⟨a0, cap0, ev⟩ := hv.slice
  subst ev
  have HA : Hid (Old w (((w.alloc (.cells #[.int .i64 N, .slice a0 ps.length cap0] 25)).alloc (.cells #[.bool a, .slice a1 xss.length cap1] 28)).alloc (.cells #[.bool false, .slice none 0 0] 28))) := (((Old.refl w).alloc _).alloc _).alloc _
  have HS : Hid (StW (((w.alloc (.cells #[.int .i64 N, .slice a0 ps.length cap0] 25)).alloc (.cells #[.bool a, .slice a1 xss.length cap1] 28)).alloc (.cells #[.bool false, .slice none 0 0] 28)) (w.heap.size + 1 + 1) (.bool false) (.slice none 0 0) 28) := by
    have := StW.new ((w.alloc (.cells #[.int .i64 N, .slice a0 ps.length cap0] 25)).alloc (.cells #[.bool a, .slice a1 xss.length cap1] 28)) (.bool false) (.slice none 0 0) 28
    simp at this
    exact this
  clear hv hP hT
  go_enter Tryd.func17, Tryd.ntmps17
  go_wp2_with fail
  refine (c1 _ (HP.out.old HA.out) (HT.out.old HA.out) HA.out).mono ?_
  rintro e w2 ⟨g1, hl⟩
  have HG2 : Hid (Old w w2) := Old.trans HA.out g1
  have S2 : Hid (StW w2 (w.heap.size + 1 + 1) (.bool false) (.slice none 0 0) 28) := HS.out.old g1
  have hs2 : w.heap.size + 1 + 1 < w2.heap.size := S2.out.lt
  clear g1
  rcases hl with ⟨hB, rfl⟩ | ⟨hB, g, hg, rfl, hrr⟩
  · have q0 := S2.out.c0
    have q1 := S2.out.c1
    have f0 := S2.out.f0
    have f1 := S2.out.f1
    clear hB hno
    go_wp2_with fail
    refine bodyPost_ret (ret_rb (x := .bool false) (y := .slice none 0 0) (z := .bool false) Tryd.results17 _ _ rfl rfl (st_put2 S2.out _ _)) rfl ⟨_, rfl, ?_, XR.nil _ _ _ _ (Nat.le_refl _)⟩
    exact (HG2.out.own (p := ⟨w.heap.size + 1 + 1, 0, none⟩) (by simp; omega) _).own (p := ⟨w.heap.size + 1 + 1, 1, none⟩) (by simp; omega) _
  · rw [hno] at hB
    cases hB
set_option maxRecDepth 100000 in
set_option maxHeartbeats 8000000 in
theorem eachRow_back_yes (Nn : Nat) (ps : List Int) (a ah : Bool) (xss : List (List Int)) (Rf : Nat → Int) (us1 : Nat → Option Addr) (v : Value) (a1 : Option Addr) (cap1 : Nat) (w : World) (hP : PrsW w) (hT : TabW w) (hv : Row w v ps)
    (c1 : ∀ W, PrsW W → TabW W → Old w W → Calls Tryd.prog 26 #[.agg #[.int .i64 Nn, v], .agg #[.bool a, .slice a1 xss.length cap1]] W fun e w' => Old W w' ∧ ((grB Nn ps xss = false ∧ e = .returned (.tuple #[.slice none 0 0, .bool false])) ∨ (grB Nn ps xss = true ∧ ∃ g, W.heap.size ≤ g ∧ e = .returned (.tuple #[.slice (some ⟨g, 0, none⟩) ps.length ps.length, .bool true]) ∧ RRs w' g Nn a ps Rf us1 ps.length))) (hx : grB Nn ps xss = true) (zss : List (List Int)) (hzl : zss.length = ps.length) (hps : ps.length ≤ 6)
    (cj : ∀ k, k < ps.length → (zss.getD k []).length = Nn ∧ ∀ W, Old w W → Calls Tryd.prog 18 #[.agg #[.int .i64 (ps.getD k 0), .int .i64 Nn, .int .i64 (Rf k), .bool a, .slice (us1 k) Nn Nn]] W fun e w' => ∃ g cp, e = .returned (.slice (some ⟨g, 0, none⟩) Nn cp) ∧ Nn ≤ cp ∧ Old W w' ∧ Own w' W.heap.size (.slice (some ⟨g, 0, none⟩) Nn cp) (zss.getD k [])) :
    Calls Tryd.prog 17 #[.agg #[.int .i64 Nn, v], .agg #[.bool a, .slice a1 xss.length cap1], .bool ah, .func (.func 18) #[] #[]] w (Rs w ah zss true) := by
  have HZL : Hid (zss.length = ps.length) := hzl
  have HCJ : Hid (∀ k, k < ps.length → (zss.getD k []).length = Nn ∧ ∀ W, Old w W → Calls Tryd.prog 18 #[.agg #[.int .i64 (ps.getD k 0), .int .i64 Nn, .int .i64 (Rf k), .bool a, .slice (us1 k) Nn Nn]] W fun e w' => ∃ g cp, e = .returned (.slice (some ⟨g, 0, none⟩) Nn cp) ∧ Nn ≤ cp ∧ Old W w' ∧ Own w' W.heap.size (.slice (some ⟨g, 0, none⟩) Nn cp) (zss.getD k [])) := cj
  have HPS : Hid (ps.length ≠ 0) := fun h0 => by
    have hsp : spB Nn ps = true := (Bool.and_eq_true_iff.1 hx).1
    have h1 := (bas_at (sp_ring hsp).2.1).1
    omega
  clear hzl cj
  have HP : Hid (PrsW w) := hP
  have HT : Hid (TabW w) := hT
  obtain ⟨a0, cap0, ev⟩ := hv.slice
  subst ev
  have HA : Hid (Old w (((w.alloc (.cells #[.int .i64 Nn, .slice a0 ps.length cap0] 25)).alloc (.cells #[.bool a, .slice a1 xss.length cap1] 28)).alloc (.cells #[.bool false, .slice none 0 0] 28))) := (((Old.refl w).alloc _).alloc _).alloc _
  have HS : Hid (StW (((w.alloc (.cells #[.int .i64 Nn, .slice a0 ps.length cap0] 25)).alloc (.cells #[.bool a, .slice a1 xss.length cap1] 28)).alloc (.cells #[.bool false, .slice none 0 0] 28)) (w.heap.size + 1 + 1) (.bool false) (.slice none 0 0) 28) := by
    have := StW.new ((w.alloc (.cells #[.int .i64 Nn, .slice a0 ps.length cap0] 25)).alloc (.cells #[.bool a, .slice a1 xss.length cap1] 28)) (.bool false) (.slice none 0 0) 28
    simp at this
    exact this
  clear hv hP hT
  go_enter Tryd.func17, Tryd.ntmps17
  go_wp2_with fail
  refine (c1 _ (HP.out.old HA.out) (HT.out.old HA.out) HA.out).mono ?_
  rintro e w2 ⟨g1, hl⟩
  have HG2 : Hid (Old w w2) := Old.trans HA.out g1
  have S2 : Hid (StW w2 (w.heap.size + 1 + 1) (.bool false) (.slice none 0 0) 28) := HS.out.old g1
  have hs2 : w.heap.size + 1 + 1 < w2.heap.size := S2.out.lt
  clear g1
  rcases hl with ⟨hB, rfl⟩ | ⟨hB, g, hg, rfl, hrr⟩
  · rw [hx] at hB
    cases hB
  · have HLB : Hid (RRs w2 g Nn a ps Rf us1 ps.length) := hrr
    clear hrr hg hB hx
    have hpos : 1 ≤ ps.length := Nat.pos_of_ne_zero HPS.out
    have KC := changed_back (Nn : Int) a ps Rf (fun k => .slice (us1 k) (Nn : Int).toNat (Nn : Int).toNat) (.slice (some ⟨g, 0, none⟩) ps.length ps.length) ps.length w2 HLB.out.rd (fun k hk => ⟨_, _, _, rfl⟩) ⟨hpos, by omega⟩ zss (fun k hk W q => by
      rw [Int.toNat_natCast]
      exact ((HCJ.out k hk).2 W (Old.trans HG2.out q)).mono fun e w' h => by
        obtain ⟨g, cp, h1, h2, h3, h4⟩ := h
        exact ⟨_, h1, h3, h4⟩)
    have HKC : Hid (Calls Tryd.prog 34 #[.slice (some ⟨g, 0, none⟩) ps.length ps.length, .func (.func 18) #[] #[]] w2 fun e w' => e = .returned (.slice (some ⟨w2.heap.size, 0, none⟩) ps.length ps.length) ∧ Old w2 w' ∧ Ows (TS 42 5 ps.length (elR (Nn : Int) a ps Rf zss)) w' w2.heap.size w'.heap.size [.slice (some ⟨w2.heap.size, 0, none⟩) ps.length ps.length]) := KC
    have HKN : Hid (∀ W lo, Ows (TS 42 5 ps.length (elR (Nn : Int) a ps Rf zss)) W lo W.heap.size [.slice (some ⟨w2.heap.size, 0, none⟩) ps.length ps.length] → lo ≤ W.heap.size → Calls Tryd.prog 27 #[.slice (some ⟨w2.heap.size, 0, none⟩) ps.length ps.length] W fun e w' => e = .returned (.slice (some ⟨W.heap.size, 0, none⟩) ps.length ps.length) ∧ Old W w' ∧ OwS zss w' lo w'.heap.size (.slice (some ⟨W.heap.size, 0, none⟩) ps.length ps.length)) := fun W lo h hlo => numbersOf_any (Nn : Int) a ps Rf zss ps.length lo _ W ⟨hpos, by omega⟩ HZL.out h hlo
    clear KC HLB
    go_wp2_with fail
    refine HKC.out.mono ?_
    rintro e w3 ⟨rfl, g3, o3⟩
    have O3 : Hid (Ows (TS 42 5 ps.length (elR (Nn : Int) a ps Rf zss)) w3 w2.heap.size w3.heap.size [.slice (some ⟨w2.heap.size, 0, none⟩) ps.length ps.length]) := o3
    have G3 : Hid (Old w2 w3) := g3
    clear g3 o3 HKC
    go_wp2_with fail
    refine (HKN.out w3 w2.heap.size O3.out G3.out.size).mono ?_
    rintro e w4 ⟨rfl, g4, o4⟩
    have G4 : Hid (Old w2 w4) := Old.trans G3.out g4
    have O4 : Hid (OwS zss w4 w2.heap.size w4.heap.size (.slice (some ⟨w3.heap.size, 0, none⟩) ps.length ps.length)) := o4
    have SF : Hid (StW w4 (w.heap.size + 1 + 1) (.bool false) (.slice none 0 0) 28) := S2.out.old G4.out
    clear g4 o4 HKN O3
    have q0 := SF.out.c0
    have q1 := SF.out.c1
    have f0 := SF.out.f0
    have f1 := SF.out.f1
    go_wp2_with fail
    refine bodyPost_ret (ret_rb Tryd.results17 _ _ rfl rfl (st_put2 SF.out _ _)) rfl ⟨_, rfl, ?_, some ⟨w3.heap.size, 0, none⟩, ps.length, by rw [HZL.out], ?_⟩
    · exact ((Old.trans HG2.out G4.out).own (p := ⟨w.heap.size + 1 + 1, 0, none⟩) (by simp; omega) _).own (p := ⟨w.heap.size + 1 + 1, 1, none⟩) (by simp; omega) _
    · rw [HZL.out]
      have h2 := (O4.out.put (k := w.heap.size + 1 + 1) (j := 0) (x := .bool ah) (by omega)).put (k := w.heap.size + 1 + 1) (j := 1) (x := .slice (some ⟨w3.heap.size, 0, none⟩) ps.length ps.length) (by omega)
      have h3 := h2.low (lo' := w.heap.size) (by omega)
      exact h3.high (by simp) (Nat.le_refl _)
end Go.Proofs.YtglbegbhekcddaaDoor
/- Proved: the program's eachPair. -/
namespace Go.Proofs.YtglbegbhekcddaaDoor
open Go.ChangeShapes Go.WideShapes Go.ChangeAt Go.RowKit
open M1
set_option linter.unusedVariables false
set_option linter.unusedSimpArgs false
set_option maxRecDepth 100000 in
set_option maxHeartbeats 4000000 in
theorem eachPair_times_no (N : Int) (ps : List Int) (a b : Bool) (xss yss : List (List Int)) (Rf : Nat → Int) (us1 us2 : Nat → Option Addr) (v : Value) (a1 a2 : Option Addr) (cap1 cap2 : Nat) (w : World) (hP : PrsW w) (hT : TabW w) (hv : Row w v ps)
    (c1 : ∀ W, PrsW W → TabW W → Old w W → Calls Tryd.prog 26 #[.agg #[.int .i64 N, v], .agg #[.bool a, .slice a1 xss.length cap1]] W fun e w' => Old W w' ∧ ((grB N ps xss = false ∧ e = .returned (.tuple #[.slice none 0 0, .bool false])) ∨ (grB N ps xss = true ∧ ∃ g, W.heap.size ≤ g ∧ e = .returned (.tuple #[.slice (some ⟨g, 0, none⟩) ps.length ps.length, .bool true]) ∧ RRs w' g N a ps Rf us1 ps.length)))
    (c2 : ∀ W, PrsW W → TabW W → Old w W → Calls Tryd.prog 26 #[.agg #[.int .i64 N, v], .agg #[.bool b, .slice a2 yss.length cap2]] W fun e w' => Old W w' ∧ ((grB N ps yss = false ∧ e = .returned (.tuple #[.slice none 0 0, .bool false])) ∨ (grB N ps yss = true ∧ ∃ g, W.heap.size ≤ g ∧ e = .returned (.tuple #[.slice (some ⟨g, 0, none⟩) ps.length ps.length, .bool true]) ∧ RRs w' g N b ps Rf us2 ps.length))) (hno : ¬ (grB N ps xss = true ∧ grB N ps yss = true ∧ a = b)) :
    Calls Tryd.prog 13 #[.agg #[.int .i64 N, v], .agg #[.bool a, .slice a1 xss.length cap1], .agg #[.bool b, .slice a2 yss.length cap2], .func (.func 14) #[] #[]] w (Rs w false [] false) := by
  have HP : Hid (PrsW w) := hP
  have HT : Hid (TabW w) := hT
  obtain ⟨a0, cap0, ev⟩ := hv.slice
  subst ev
  have HA : Hid (Old w ((((w.alloc (.cells #[.int .i64 N, .slice a0 ps.length cap0] 25)).alloc (.cells #[.bool a, .slice a1 xss.length cap1] 28)).alloc (.cells #[.bool b, .slice a2 yss.length cap2] 28)).alloc (.cells #[.bool false, .slice none 0 0] 28))) := ((((Old.refl w).alloc _).alloc _).alloc _).alloc _
  have HS : Hid (StW ((((w.alloc (.cells #[.int .i64 N, .slice a0 ps.length cap0] 25)).alloc (.cells #[.bool a, .slice a1 xss.length cap1] 28)).alloc (.cells #[.bool b, .slice a2 yss.length cap2] 28)).alloc (.cells #[.bool false, .slice none 0 0] 28)) (w.heap.size + 1 + 1 + 1) (.bool false) (.slice none 0 0) 28) := by
    have := StW.new (((w.alloc (.cells #[.int .i64 N, .slice a0 ps.length cap0] 25)).alloc (.cells #[.bool a, .slice a1 xss.length cap1] 28)).alloc (.cells #[.bool b, .slice a2 yss.length cap2] 28)) (.bool false) (.slice none 0 0) 28
    simp at this
    exact this
  have HAS : Hid (∀ W', Old ((((w.alloc (.cells #[.int .i64 N, .slice a0 ps.length cap0] 25)).alloc (.cells #[.bool a, .slice a1 xss.length cap1] 28)).alloc (.cells #[.bool b, .slice a2 yss.length cap2] 28)).alloc (.cells #[.bool false, .slice none 0 0] 28)) W' → (W'.cell? ⟨w.heap.size, 0, none⟩ = some (.int .i64 N) ∧ W'.cell? ⟨w.heap.size, 1, none⟩ = some (.slice a0 ps.length cap0) ∧ W'.cell? ⟨w.heap.size + 1, 0, none⟩ = some (.bool a) ∧ W'.cell? ⟨w.heap.size + 1, 1, none⟩ = some (.slice a1 xss.length cap1) ∧ W'.cell? ⟨w.heap.size + 1 + 1, 0, none⟩ = some (.bool b) ∧ W'.cell? ⟨w.heap.size + 1 + 1, 1, none⟩ = some (.slice a2 yss.length cap2))) := fun W' g => by
    have g' := Old.trans ((Old.refl _).alloc _) g
    exact ⟨((StW.at31 w _ _ _ _ _ _ _ _ _).old g').c0, ((StW.at31 w _ _ _ _ _ _ _ _ _).old g').c1, ((StW.at32 w _ _ _ _ _ _ _ _ _).old g').c0, ((StW.at32 w _ _ _ _ _ _ _ _ _).old g').c1, ((StW.at33 w _ _ _ _ _ _ _ _ _).old g').c0, ((StW.at33 w _ _ _ _ _ _ _ _ _).old g').c1⟩
  clear hv hP hT
  go_enter Tryd.func13, Tryd.ntmps13
  go_wp2_with fail
  refine (c1 _ (HP.out.old HA.out) (HT.out.old HA.out) HA.out).mono ?_
  rintro e w1 ⟨g1, hl⟩
  have HG1 : Hid (Old w w1) := Old.trans HA.out g1
  have G1 : Hid (Old ((((w.alloc (.cells #[.int .i64 N, .slice a0 ps.length cap0] 25)).alloc (.cells #[.bool a, .slice a1 xss.length cap1] 28)).alloc (.cells #[.bool b, .slice a2 yss.length cap2] 28)).alloc (.cells #[.bool false, .slice none 0 0] 28)) w1) := g1
  clear g1
  rcases hl with ⟨hB, rfl⟩ | ⟨hB, g, hg, rfl, hrr⟩
  · clear hno hB
    obtain ⟨z1, z2, z3, z4, z5, z6⟩ := HAS.out w1 G1.out
    go_wp2_with fail
    refine (c2 _ (HP.out.old HG1.out) (HT.out.old HG1.out) HG1.out).mono ?_
    rintro e w2 ⟨g2, hr⟩
    have HG2 : Hid (Old w w2) := Old.trans HG1.out g2
    have G2 : Hid (Old ((((w.alloc (.cells #[.int .i64 N, .slice a0 ps.length cap0] 25)).alloc (.cells #[.bool a, .slice a1 xss.length cap1] 28)).alloc (.cells #[.bool b, .slice a2 yss.length cap2] 28)).alloc (.cells #[.bool false, .slice none 0 0] 28)) w2) := Old.trans G1.out g2
    have S2 : Hid (StW w2 (w.heap.size + 1 + 1 + 1) (.bool false) (.slice none 0 0) 28) := HS.out.old G2.out
    clear g2 z1 z2 z3 z4 z5 z6
    obtain ⟨z1, z2, z3, z4, z5, z6⟩ := HAS.out w2 G2.out
    rcases hr with ⟨hB, rfl⟩ | ⟨hB, g, hg, rfl, hrr⟩
    · clear hB
      have q0 := S2.out.c0
      have q1 := S2.out.c1
      have f0 := S2.out.f0
      have f1 := S2.out.f1
      have hs : w.heap.size + 1 + 1 + 1 < w2.heap.size := S2.out.lt
      go_wp2_with fail
      refine bodyPost_ret (ret_rb (x := .bool false) (y := .slice none 0 0) (z := .bool false) Tryd.results13 _ _ rfl rfl (st_put2 S2.out _ _)) rfl ⟨_, rfl, ?_, XR.nil _ _ _ _ (Nat.le_refl _)⟩
      exact (HG2.out.own (p := ⟨w.heap.size + 1 + 1 + 1, 0, none⟩) (by simp; omega) _).own (p := ⟨w.heap.size + 1 + 1 + 1, 1, none⟩) (by simp; omega) _
    · clear hB hrr hg
      have q0 := S2.out.c0
      have q1 := S2.out.c1
      have f0 := S2.out.f0
      have f1 := S2.out.f1
      have hs : w.heap.size + 1 + 1 + 1 < w2.heap.size := S2.out.lt
      go_wp2_with fail
      refine bodyPost_ret (ret_rb (x := .bool false) (y := .slice none 0 0) (z := .bool false) Tryd.results13 _ _ rfl rfl (st_put2 S2.out _ _)) rfl ⟨_, rfl, ?_, XR.nil _ _ _ _ (Nat.le_refl _)⟩
      exact (HG2.out.own (p := ⟨w.heap.size + 1 + 1 + 1, 0, none⟩) (by simp; omega) _).own (p := ⟨w.heap.size + 1 + 1 + 1, 1, none⟩) (by simp; omega) _
  · clear hrr hg
    obtain ⟨z1, z2, z3, z4, z5, z6⟩ := HAS.out w1 G1.out
    go_wp2_with fail
    refine (c2 _ (HP.out.old HG1.out) (HT.out.old HG1.out) HG1.out).mono ?_
    rintro e w2 ⟨g2, hr⟩
    have HG2 : Hid (Old w w2) := Old.trans HG1.out g2
    have G2 : Hid (Old ((((w.alloc (.cells #[.int .i64 N, .slice a0 ps.length cap0] 25)).alloc (.cells #[.bool a, .slice a1 xss.length cap1] 28)).alloc (.cells #[.bool b, .slice a2 yss.length cap2] 28)).alloc (.cells #[.bool false, .slice none 0 0] 28)) w2) := Old.trans G1.out g2
    have S2 : Hid (StW w2 (w.heap.size + 1 + 1 + 1) (.bool false) (.slice none 0 0) 28) := HS.out.old G2.out
    clear g2 z1 z2 z3 z4 z5 z6
    obtain ⟨z1, z2, z3, z4, z5, z6⟩ := HAS.out w2 G2.out
    rcases hr with ⟨hB2, rfl⟩ | ⟨hB2, g', hg', rfl, hrr'⟩
    · clear hB hB2 hno
      have q0 := S2.out.c0
      have q1 := S2.out.c1
      have f0 := S2.out.f0
      have f1 := S2.out.f1
      have hs : w.heap.size + 1 + 1 + 1 < w2.heap.size := S2.out.lt
      go_wp2_with fail
      refine bodyPost_ret (ret_rb (x := .bool false) (y := .slice none 0 0) (z := .bool false) Tryd.results13 _ _ rfl rfl (st_put2 S2.out _ _)) rfl ⟨_, rfl, ?_, XR.nil _ _ _ _ (Nat.le_refl _)⟩
      exact (HG2.out.own (p := ⟨w.heap.size + 1 + 1 + 1, 0, none⟩) (by simp; omega) _).own (p := ⟨w.heap.size + 1 + 1 + 1, 1, none⟩) (by simp; omega) _
    · have dab : (!(a == b)) = true := by
        simp only [Bool.not_eq_true', beq_eq_false_iff_ne, ne_eq]
        exact fun e => hno ⟨hB, hB2, e⟩
      clear hB hB2 hno hrr' hg'
      have q0 := S2.out.c0
      have q1 := S2.out.c1
      have f0 := S2.out.f0
      have f1 := S2.out.f1
      have hs : w.heap.size + 1 + 1 + 1 < w2.heap.size := S2.out.lt
      go_wp2_with fail
      refine bodyPost_ret (ret_rb (x := .bool false) (y := .slice none 0 0) (z := .bool false) Tryd.results13 _ _ rfl rfl (st_put2 S2.out _ _)) rfl ⟨_, rfl, ?_, XR.nil _ _ _ _ (Nat.le_refl _)⟩
      exact (HG2.out.own (p := ⟨w.heap.size + 1 + 1 + 1, 0, none⟩) (by simp; omega) _).own (p := ⟨w.heap.size + 1 + 1 + 1, 1, none⟩) (by simp; omega) _
end Go.Proofs.YtglbegbhekcddaaDoor
/- Proved: the program's eachPair. -/
namespace Go.Proofs.YtglbegbhekcddaaDoor
open Go.ChangeShapes Go.WideShapes Go.ChangeAt Go.RowKit
open M1
set_option linter.unusedVariables false
set_option linter.unusedSimpArgs false
set_option maxRecDepth 100000 in
set_option maxHeartbeats 4000000 in
theorem eachPair_less_no (N : Int) (ps : List Int) (a b : Bool) (xss yss : List (List Int)) (Rf : Nat → Int) (us1 us2 : Nat → Option Addr) (v : Value) (a1 a2 : Option Addr) (cap1 cap2 : Nat) (w : World) (hP : PrsW w) (hT : TabW w) (hv : Row w v ps)
    (c1 : ∀ W, PrsW W → TabW W → Old w W → Calls Tryd.prog 26 #[.agg #[.int .i64 N, v], .agg #[.bool a, .slice a1 xss.length cap1]] W fun e w' => Old W w' ∧ ((grB N ps xss = false ∧ e = .returned (.tuple #[.slice none 0 0, .bool false])) ∨ (grB N ps xss = true ∧ ∃ g, W.heap.size ≤ g ∧ e = .returned (.tuple #[.slice (some ⟨g, 0, none⟩) ps.length ps.length, .bool true]) ∧ RRs w' g N a ps Rf us1 ps.length)))
    (c2 : ∀ W, PrsW W → TabW W → Old w W → Calls Tryd.prog 26 #[.agg #[.int .i64 N, v], .agg #[.bool b, .slice a2 yss.length cap2]] W fun e w' => Old W w' ∧ ((grB N ps yss = false ∧ e = .returned (.tuple #[.slice none 0 0, .bool false])) ∨ (grB N ps yss = true ∧ ∃ g, W.heap.size ≤ g ∧ e = .returned (.tuple #[.slice (some ⟨g, 0, none⟩) ps.length ps.length, .bool true]) ∧ RRs w' g N b ps Rf us2 ps.length))) (hno : ¬ (grB N ps xss = true ∧ grB N ps yss = true ∧ a = b)) :
    Calls Tryd.prog 13 #[.agg #[.int .i64 N, v], .agg #[.bool a, .slice a1 xss.length cap1], .agg #[.bool b, .slice a2 yss.length cap2], .func (.func 20) #[] #[]] w (Rs w false [] false) := by
  have HP : Hid (PrsW w) := hP
  have HT : Hid (TabW w) := hT
  obtain ⟨a0, cap0, ev⟩ := hv.slice
  subst ev
  have HA : Hid (Old w ((((w.alloc (.cells #[.int .i64 N, .slice a0 ps.length cap0] 25)).alloc (.cells #[.bool a, .slice a1 xss.length cap1] 28)).alloc (.cells #[.bool b, .slice a2 yss.length cap2] 28)).alloc (.cells #[.bool false, .slice none 0 0] 28))) := ((((Old.refl w).alloc _).alloc _).alloc _).alloc _
  have HS : Hid (StW ((((w.alloc (.cells #[.int .i64 N, .slice a0 ps.length cap0] 25)).alloc (.cells #[.bool a, .slice a1 xss.length cap1] 28)).alloc (.cells #[.bool b, .slice a2 yss.length cap2] 28)).alloc (.cells #[.bool false, .slice none 0 0] 28)) (w.heap.size + 1 + 1 + 1) (.bool false) (.slice none 0 0) 28) := by
    have := StW.new (((w.alloc (.cells #[.int .i64 N, .slice a0 ps.length cap0] 25)).alloc (.cells #[.bool a, .slice a1 xss.length cap1] 28)).alloc (.cells #[.bool b, .slice a2 yss.length cap2] 28)) (.bool false) (.slice none 0 0) 28
    simp at this
    exact this
  have HAS : Hid (∀ W', Old ((((w.alloc (.cells #[.int .i64 N, .slice a0 ps.length cap0] 25)).alloc (.cells #[.bool a, .slice a1 xss.length cap1] 28)).alloc (.cells #[.bool b, .slice a2 yss.length cap2] 28)).alloc (.cells #[.bool false, .slice none 0 0] 28)) W' → (W'.cell? ⟨w.heap.size, 0, none⟩ = some (.int .i64 N) ∧ W'.cell? ⟨w.heap.size, 1, none⟩ = some (.slice a0 ps.length cap0) ∧ W'.cell? ⟨w.heap.size + 1, 0, none⟩ = some (.bool a) ∧ W'.cell? ⟨w.heap.size + 1, 1, none⟩ = some (.slice a1 xss.length cap1) ∧ W'.cell? ⟨w.heap.size + 1 + 1, 0, none⟩ = some (.bool b) ∧ W'.cell? ⟨w.heap.size + 1 + 1, 1, none⟩ = some (.slice a2 yss.length cap2))) := fun W' g => by
    have g' := Old.trans ((Old.refl _).alloc _) g
    exact ⟨((StW.at31 w _ _ _ _ _ _ _ _ _).old g').c0, ((StW.at31 w _ _ _ _ _ _ _ _ _).old g').c1, ((StW.at32 w _ _ _ _ _ _ _ _ _).old g').c0, ((StW.at32 w _ _ _ _ _ _ _ _ _).old g').c1, ((StW.at33 w _ _ _ _ _ _ _ _ _).old g').c0, ((StW.at33 w _ _ _ _ _ _ _ _ _).old g').c1⟩
  clear hv hP hT
  go_enter Tryd.func13, Tryd.ntmps13
  go_wp2_with fail
  refine (c1 _ (HP.out.old HA.out) (HT.out.old HA.out) HA.out).mono ?_
  rintro e w1 ⟨g1, hl⟩
  have HG1 : Hid (Old w w1) := Old.trans HA.out g1
  have G1 : Hid (Old ((((w.alloc (.cells #[.int .i64 N, .slice a0 ps.length cap0] 25)).alloc (.cells #[.bool a, .slice a1 xss.length cap1] 28)).alloc (.cells #[.bool b, .slice a2 yss.length cap2] 28)).alloc (.cells #[.bool false, .slice none 0 0] 28)) w1) := g1
  clear g1
  rcases hl with ⟨hB, rfl⟩ | ⟨hB, g, hg, rfl, hrr⟩
  · clear hno hB
    obtain ⟨z1, z2, z3, z4, z5, z6⟩ := HAS.out w1 G1.out
    go_wp2_with fail
    refine (c2 _ (HP.out.old HG1.out) (HT.out.old HG1.out) HG1.out).mono ?_
    rintro e w2 ⟨g2, hr⟩
    have HG2 : Hid (Old w w2) := Old.trans HG1.out g2
    have G2 : Hid (Old ((((w.alloc (.cells #[.int .i64 N, .slice a0 ps.length cap0] 25)).alloc (.cells #[.bool a, .slice a1 xss.length cap1] 28)).alloc (.cells #[.bool b, .slice a2 yss.length cap2] 28)).alloc (.cells #[.bool false, .slice none 0 0] 28)) w2) := Old.trans G1.out g2
    have S2 : Hid (StW w2 (w.heap.size + 1 + 1 + 1) (.bool false) (.slice none 0 0) 28) := HS.out.old G2.out
    clear g2 z1 z2 z3 z4 z5 z6
    obtain ⟨z1, z2, z3, z4, z5, z6⟩ := HAS.out w2 G2.out
    rcases hr with ⟨hB, rfl⟩ | ⟨hB, g, hg, rfl, hrr⟩
    · clear hB
      have q0 := S2.out.c0
      have q1 := S2.out.c1
      have f0 := S2.out.f0
      have f1 := S2.out.f1
      have hs : w.heap.size + 1 + 1 + 1 < w2.heap.size := S2.out.lt
      go_wp2_with fail
      refine bodyPost_ret (ret_rb (x := .bool false) (y := .slice none 0 0) (z := .bool false) Tryd.results13 _ _ rfl rfl (st_put2 S2.out _ _)) rfl ⟨_, rfl, ?_, XR.nil _ _ _ _ (Nat.le_refl _)⟩
      exact (HG2.out.own (p := ⟨w.heap.size + 1 + 1 + 1, 0, none⟩) (by simp; omega) _).own (p := ⟨w.heap.size + 1 + 1 + 1, 1, none⟩) (by simp; omega) _
    · clear hB hrr hg
      have q0 := S2.out.c0
      have q1 := S2.out.c1
      have f0 := S2.out.f0
      have f1 := S2.out.f1
      have hs : w.heap.size + 1 + 1 + 1 < w2.heap.size := S2.out.lt
      go_wp2_with fail
      refine bodyPost_ret (ret_rb (x := .bool false) (y := .slice none 0 0) (z := .bool false) Tryd.results13 _ _ rfl rfl (st_put2 S2.out _ _)) rfl ⟨_, rfl, ?_, XR.nil _ _ _ _ (Nat.le_refl _)⟩
      exact (HG2.out.own (p := ⟨w.heap.size + 1 + 1 + 1, 0, none⟩) (by simp; omega) _).own (p := ⟨w.heap.size + 1 + 1 + 1, 1, none⟩) (by simp; omega) _
  · clear hrr hg
    obtain ⟨z1, z2, z3, z4, z5, z6⟩ := HAS.out w1 G1.out
    go_wp2_with fail
    refine (c2 _ (HP.out.old HG1.out) (HT.out.old HG1.out) HG1.out).mono ?_
    rintro e w2 ⟨g2, hr⟩
    have HG2 : Hid (Old w w2) := Old.trans HG1.out g2
    have G2 : Hid (Old ((((w.alloc (.cells #[.int .i64 N, .slice a0 ps.length cap0] 25)).alloc (.cells #[.bool a, .slice a1 xss.length cap1] 28)).alloc (.cells #[.bool b, .slice a2 yss.length cap2] 28)).alloc (.cells #[.bool false, .slice none 0 0] 28)) w2) := Old.trans G1.out g2
    have S2 : Hid (StW w2 (w.heap.size + 1 + 1 + 1) (.bool false) (.slice none 0 0) 28) := HS.out.old G2.out
    clear g2 z1 z2 z3 z4 z5 z6
    obtain ⟨z1, z2, z3, z4, z5, z6⟩ := HAS.out w2 G2.out
    rcases hr with ⟨hB2, rfl⟩ | ⟨hB2, g', hg', rfl, hrr'⟩
    · clear hB hB2 hno
      have q0 := S2.out.c0
      have q1 := S2.out.c1
      have f0 := S2.out.f0
      have f1 := S2.out.f1
      have hs : w.heap.size + 1 + 1 + 1 < w2.heap.size := S2.out.lt
      go_wp2_with fail
      refine bodyPost_ret (ret_rb (x := .bool false) (y := .slice none 0 0) (z := .bool false) Tryd.results13 _ _ rfl rfl (st_put2 S2.out _ _)) rfl ⟨_, rfl, ?_, XR.nil _ _ _ _ (Nat.le_refl _)⟩
      exact (HG2.out.own (p := ⟨w.heap.size + 1 + 1 + 1, 0, none⟩) (by simp; omega) _).own (p := ⟨w.heap.size + 1 + 1 + 1, 1, none⟩) (by simp; omega) _
    · have dab : (!(a == b)) = true := by
        simp only [Bool.not_eq_true', beq_eq_false_iff_ne, ne_eq]
        exact fun e => hno ⟨hB, hB2, e⟩
      clear hB hB2 hno hrr' hg'
      have q0 := S2.out.c0
      have q1 := S2.out.c1
      have f0 := S2.out.f0
      have f1 := S2.out.f1
      have hs : w.heap.size + 1 + 1 + 1 < w2.heap.size := S2.out.lt
      go_wp2_with fail
      refine bodyPost_ret (ret_rb (x := .bool false) (y := .slice none 0 0) (z := .bool false) Tryd.results13 _ _ rfl rfl (st_put2 S2.out _ _)) rfl ⟨_, rfl, ?_, XR.nil _ _ _ _ (Nat.le_refl _)⟩
      exact (HG2.out.own (p := ⟨w.heap.size + 1 + 1 + 1, 0, none⟩) (by simp; omega) _).own (p := ⟨w.heap.size + 1 + 1 + 1, 1, none⟩) (by simp; omega) _
end Go.Proofs.YtglbegbhekcddaaDoor
