/- Proved: several texts in one: what each proves is said ahead of it. -/
import Derived.Test.YtpebikjckhcgfaaDoorQ15
import Derived.Test.YtpebikjckhcgfaaDoorAdn
import Derived.Test.YtpebikjckhcgfaaDoorQ25
import Derived.Deep.RegionHeld3
/- Proved: the program's eachPair. -/
namespace Go.Proofs.YtpebikjckhcgfaaDoor
open Go.ChangeShapes Go.WideShapes Go.ChangeAt Go.RowKit
open M1
set_option linter.unusedVariables false
set_option linter.unusedSimpArgs false
set_option maxRecDepth 100000 in
set_option maxHeartbeats 4000000 in
theorem eachPair_times_no (N : Int) (ps : List Int) (a b : Bool) (xss yss : List (List Int)) (Rf : Nat → Int) (us1 us2 : Nat → Option Addr) (v : Value) (a1 a2 : Option Addr) (cap1 cap2 : Nat) (w : World) (hP : PrsW w) (hT : TabW w) (hv : Row w v ps)
    (c1 : ∀ W, PrsW W → TabW W → Old w W → Calls Tryd.prog 140 #[.agg #[.int .i64 N, v], .agg #[.bool a, .slice a1 xss.length cap1]] W fun e w' => Old W w' ∧ ((grB N ps xss = false ∧ e = .returned (.tuple #[.slice none 0 0, .bool false])) ∨ (grB N ps xss = true ∧ ∃ g, W.heap.size ≤ g ∧ e = .returned (.tuple #[.slice (some ⟨g, 0, none⟩) ps.length ps.length, .bool true]) ∧ RRs w' g N a ps Rf us1 ps.length)))
    (c2 : ∀ W, PrsW W → TabW W → Old w W → Calls Tryd.prog 140 #[.agg #[.int .i64 N, v], .agg #[.bool b, .slice a2 yss.length cap2]] W fun e w' => Old W w' ∧ ((grB N ps yss = false ∧ e = .returned (.tuple #[.slice none 0 0, .bool false])) ∨ (grB N ps yss = true ∧ ∃ g, W.heap.size ≤ g ∧ e = .returned (.tuple #[.slice (some ⟨g, 0, none⟩) ps.length ps.length, .bool true]) ∧ RRs w' g N b ps Rf us2 ps.length))) (hno : ¬ (grB N ps xss = true ∧ grB N ps yss = true ∧ a = b)) :
    Calls Tryd.prog 96 #[.agg #[.int .i64 N, v], .agg #[.bool a, .slice a1 xss.length cap1], .agg #[.bool b, .slice a2 yss.length cap2], .func (.func 97) #[] #[]] w (Rs w false [] false) := by
  have HP : Hid (PrsW w) := hP
  have HT : Hid (TabW w) := hT
  obtain ⟨a0, cap0, ev⟩ := hv.slice
  subst ev
  have HA : Hid (Old w ((((w.alloc (.cells #[.int .i64 N, .slice a0 ps.length cap0] 56)).alloc (.cells #[.bool a, .slice a1 xss.length cap1] 53)).alloc (.cells #[.bool b, .slice a2 yss.length cap2] 53)).alloc (.cells #[.bool false, .slice none 0 0] 53))) := ((((Old.refl w).alloc _).alloc _).alloc _).alloc _
  have HS : Hid (StW ((((w.alloc (.cells #[.int .i64 N, .slice a0 ps.length cap0] 56)).alloc (.cells #[.bool a, .slice a1 xss.length cap1] 53)).alloc (.cells #[.bool b, .slice a2 yss.length cap2] 53)).alloc (.cells #[.bool false, .slice none 0 0] 53)) (w.heap.size + 1 + 1 + 1) (.bool false) (.slice none 0 0) 53) := by
    have := StW.new (((w.alloc (.cells #[.int .i64 N, .slice a0 ps.length cap0] 56)).alloc (.cells #[.bool a, .slice a1 xss.length cap1] 53)).alloc (.cells #[.bool b, .slice a2 yss.length cap2] 53)) (.bool false) (.slice none 0 0) 53
    simp at this
    exact this
  have HAS : Hid (∀ W', Old ((((w.alloc (.cells #[.int .i64 N, .slice a0 ps.length cap0] 56)).alloc (.cells #[.bool a, .slice a1 xss.length cap1] 53)).alloc (.cells #[.bool b, .slice a2 yss.length cap2] 53)).alloc (.cells #[.bool false, .slice none 0 0] 53)) W' → (W'.cell? ⟨w.heap.size, 0, none⟩ = some (.int .i64 N) ∧ W'.cell? ⟨w.heap.size, 1, none⟩ = some (.slice a0 ps.length cap0) ∧ W'.cell? ⟨w.heap.size + 1, 0, none⟩ = some (.bool a) ∧ W'.cell? ⟨w.heap.size + 1, 1, none⟩ = some (.slice a1 xss.length cap1) ∧ W'.cell? ⟨w.heap.size + 1 + 1, 0, none⟩ = some (.bool b) ∧ W'.cell? ⟨w.heap.size + 1 + 1, 1, none⟩ = some (.slice a2 yss.length cap2))) := fun W' g => by
    have g' := Old.trans ((Old.refl _).alloc _) g
    exact ⟨((StW.at31 w _ _ _ _ _ _ _ _ _).old g').c0, ((StW.at31 w _ _ _ _ _ _ _ _ _).old g').c1, ((StW.at32 w _ _ _ _ _ _ _ _ _).old g').c0, ((StW.at32 w _ _ _ _ _ _ _ _ _).old g').c1, ((StW.at33 w _ _ _ _ _ _ _ _ _).old g').c0, ((StW.at33 w _ _ _ _ _ _ _ _ _).old g').c1⟩
  clear hv hP hT
  go_enter Tryd.func96, Tryd.ntmps96
  go_wp2_with fail
  refine (c1 _ (HP.out.old HA.out) (HT.out.old HA.out) HA.out).mono ?_
  rintro e w1 ⟨g1, hl⟩
  have HG1 : Hid (Old w w1) := Old.trans HA.out g1
  have G1 : Hid (Old ((((w.alloc (.cells #[.int .i64 N, .slice a0 ps.length cap0] 56)).alloc (.cells #[.bool a, .slice a1 xss.length cap1] 53)).alloc (.cells #[.bool b, .slice a2 yss.length cap2] 53)).alloc (.cells #[.bool false, .slice none 0 0] 53)) w1) := g1
  clear g1
  rcases hl with ⟨hB, rfl⟩ | ⟨hB, g, hg, rfl, hrr⟩
  · clear hno hB
    obtain ⟨z1, z2, z3, z4, z5, z6⟩ := HAS.out w1 G1.out
    go_wp2_with fail
    refine (c2 _ (HP.out.old HG1.out) (HT.out.old HG1.out) HG1.out).mono ?_
    rintro e w2 ⟨g2, hr⟩
    have HG2 : Hid (Old w w2) := Old.trans HG1.out g2
    have G2 : Hid (Old ((((w.alloc (.cells #[.int .i64 N, .slice a0 ps.length cap0] 56)).alloc (.cells #[.bool a, .slice a1 xss.length cap1] 53)).alloc (.cells #[.bool b, .slice a2 yss.length cap2] 53)).alloc (.cells #[.bool false, .slice none 0 0] 53)) w2) := Old.trans G1.out g2
    have S2 : Hid (StW w2 (w.heap.size + 1 + 1 + 1) (.bool false) (.slice none 0 0) 53) := HS.out.old G2.out
    clear g2 z1 z2 z3 z4 z5 z6
    obtain ⟨z1, z2, z3, z4, z5, z6⟩ := HAS.out w2 G2.out
    rcases hr with ⟨hB, rfl⟩ | ⟨hB, g, hg, rfl, hrr⟩
    · clear hB
      have q0 := S2.out.c0
      have q1 := S2.out.c1
      have f0 := S2.out.f0
      have f1 := S2.out.f1
      have hs : w.heap.size + 1 + 1 + 1 < w2.heap.size := S2.out.lt
      go_wp2_with fail
      refine bodyPost_ret (ret_rb (x := .bool false) (y := .slice none 0 0) (z := .bool false) Tryd.results96 _ _ rfl rfl (st_put2 S2.out _ _)) rfl ⟨_, rfl, ?_, XR.nil _ _ _ _ (Nat.le_refl _)⟩
      exact (HG2.out.own (p := ⟨w.heap.size + 1 + 1 + 1, 0, none⟩) (by simp; omega) _).own (p := ⟨w.heap.size + 1 + 1 + 1, 1, none⟩) (by simp; omega) _
    · clear hB hrr hg
      have q0 := S2.out.c0
      have q1 := S2.out.c1
      have f0 := S2.out.f0
      have f1 := S2.out.f1
      have hs : w.heap.size + 1 + 1 + 1 < w2.heap.size := S2.out.lt
      go_wp2_with fail
      refine bodyPost_ret (ret_rb (x := .bool false) (y := .slice none 0 0) (z := .bool false) Tryd.results96 _ _ rfl rfl (st_put2 S2.out _ _)) rfl ⟨_, rfl, ?_, XR.nil _ _ _ _ (Nat.le_refl _)⟩
      exact (HG2.out.own (p := ⟨w.heap.size + 1 + 1 + 1, 0, none⟩) (by simp; omega) _).own (p := ⟨w.heap.size + 1 + 1 + 1, 1, none⟩) (by simp; omega) _
  · clear hrr hg
    obtain ⟨z1, z2, z3, z4, z5, z6⟩ := HAS.out w1 G1.out
    go_wp2_with fail
    refine (c2 _ (HP.out.old HG1.out) (HT.out.old HG1.out) HG1.out).mono ?_
    rintro e w2 ⟨g2, hr⟩
    have HG2 : Hid (Old w w2) := Old.trans HG1.out g2
    have G2 : Hid (Old ((((w.alloc (.cells #[.int .i64 N, .slice a0 ps.length cap0] 56)).alloc (.cells #[.bool a, .slice a1 xss.length cap1] 53)).alloc (.cells #[.bool b, .slice a2 yss.length cap2] 53)).alloc (.cells #[.bool false, .slice none 0 0] 53)) w2) := Old.trans G1.out g2
    have S2 : Hid (StW w2 (w.heap.size + 1 + 1 + 1) (.bool false) (.slice none 0 0) 53) := HS.out.old G2.out
    clear g2 z1 z2 z3 z4 z5 z6
    obtain ⟨z1, z2, z3, z4, z5, z6⟩ := HAS.out w2 G2.out
    rcases hr with ⟨hB2, rfl⟩ | ⟨hB2, g', hg', rfl, hrr'⟩
    · clear hB hB2 hno
      have q0 := S2.out.c0
      have q1 := S2.out.c1
      have f0 := S2.out.f0
      have f1 := S2.out.f1
      have hs : w.heap.size + 1 + 1 + 1 < w2.heap.size := S2.out.lt
      go_wp2_with fail
      refine bodyPost_ret (ret_rb (x := .bool false) (y := .slice none 0 0) (z := .bool false) Tryd.results96 _ _ rfl rfl (st_put2 S2.out _ _)) rfl ⟨_, rfl, ?_, XR.nil _ _ _ _ (Nat.le_refl _)⟩
      exact (HG2.out.own (p := ⟨w.heap.size + 1 + 1 + 1, 0, none⟩) (by simp; omega) _).own (p := ⟨w.heap.size + 1 + 1 + 1, 1, none⟩) (by simp; omega) _
    · have dab : (!(a == b)) = true := by
        simp only [Bool.not_eq_true', beq_eq_false_iff_ne, ne_eq]
        exact fun e => hno ⟨hB, hB2, e⟩
      clear hB hB2 hno hrr' hg'
      have q0 := S2.out.c0
      have q1 := S2.out.c1
      have f0 := S2.out.f0
      have f1 := S2.out.f1
      have hs : w.heap.size + 1 + 1 + 1 < w2.heap.size := S2.out.lt
      go_wp2_with fail
      refine bodyPost_ret (ret_rb (x := .bool false) (y := .slice none 0 0) (z := .bool false) Tryd.results96 _ _ rfl rfl (st_put2 S2.out _ _)) rfl ⟨_, rfl, ?_, XR.nil _ _ _ _ (Nat.le_refl _)⟩
      exact (HG2.out.own (p := ⟨w.heap.size + 1 + 1 + 1, 0, none⟩) (by simp; omega) _).own (p := ⟨w.heap.size + 1 + 1 + 1, 1, none⟩) (by simp; omega) _
end Go.Proofs.YtpebikjckhcgfaaDoor
