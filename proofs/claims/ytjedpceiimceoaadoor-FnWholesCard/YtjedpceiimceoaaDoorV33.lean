/- Proved: several texts in one: what each proves is said ahead of it. -/
import Derived.Test.YtjedpceiimceoaaDoorV15
import Derived.Test.YtjedpceiimceoaaDoorV13
import Derived.Deep.RegionHeld3
/- Proved: what the model answers, as functions of the numbers: whether there is a quotient, and the nearest one. -/
namespace Go.Proofs.YtjedpceiimceoaaDoor
open Go.ChangeShapes Go.WideShapes Go.ChangeAt Go.RowKit
open M2
set_option linter.unusedVariables false
set_option linter.unusedSimpArgs false
abbrev Dv (n m : Bool) (xs ys : List Int) : Prop := (Good n xs ∧ Good m ys) ∧ m = false ∧ 0 < ys.length
set_option maxHeartbeats 8000000 in
theorem divides_any (n m : Bool) (xs ys : List Int) (v u : Value) (w : World) (hv : Row w v xs) (hu : Row w u ys) (la : xs.length ≤ 1048576) (lb : ys.length ≤ 1048576) :
    Calls Tryd.prog 28 #[.agg #[.bool n, v], .agg #[.bool m, u]] w fun e w' => e = .returned (.bool (decide (Dv n m xs ys))) ∧ Old w w' := by
  have HV : Hid (Row w v xs) := hv
  have HU : Hid (Row w u ys) := hu
  obtain ⟨c0, cap0, rfl⟩ := hv.slice
  obtain ⟨c1, cap1, rfl⟩ := hu.slice
  clear hv hu
  have HA : Hid (∀ t1 t2 xs1 xs2, Old w ((w.alloc (.cells xs1 t1)).alloc (.cells xs2 t2))) := fun t1 t2 xs1 xs2 => ((Old.refl w).alloc _).alloc _
  by_cases hga : Good n xs
  · have cga := fun W (h : Row W (.slice c0 xs.length cap0) xs) => good_any n xs _ W h la
    rw [decide_eq_true hga] at cga
    by_cases hgb : Good m ys
    · have cgb := fun W (h : Row W (.slice c1 ys.length cap1) ys) => good_any m ys _ W h lb
      rw [decide_eq_true hgb] at cgb
      obtain ⟨D, hD⟩ : ∃ D, decide (Dv n m xs ys) = D := ⟨_, rfl⟩
      have HD : Hid (D = (!m && decide (0 < ys.length))) := by
        have hiff : Dv n m xs ys ↔ (m = false ∧ 0 < ys.length) := ⟨fun h => h.2, fun h => ⟨⟨hga, hgb⟩, h⟩⟩
        rw [← hD]
        show decide (Dv n m xs ys) = _
        by_cases hdv : Dv n m xs ys
        · rw [decide_eq_true hdv]
          obtain ⟨h1, h2⟩ := hiff.1 hdv
          rw [h1, decide_eq_true h2]
          rfl
        · rw [decide_eq_false hdv]
          cases hm : m with
          | true => rfl
          | false =>
            have : ¬ 0 < ys.length := fun h => hdv (hiff.2 ⟨hm, h⟩)
            rw [decide_eq_false this]
            rfl
      rw [hD]
      clear hga hgb hD
      have key : ∀ w2, Old w w2 → StW w2 (w.heap.size + 1) (.bool m) (.slice c1 ys.length cap1) 25 → w2.cell? ⟨w.heap.size + 1, 0, none⟩ = some (.bool m) ∧ w2.cell? ⟨w.heap.size + 1, 1, none⟩ = some (.slice c1 ys.length cap1) := fun w2 _ s => ⟨s.c0, s.c1⟩
      clear key
      cases m with
      | true =>
        go_enter Tryd.func28, Tryd.ntmps28
        go_wp2_with fail
        refine (cga _ (HV.out.old (HA.out _ _ _ _))).mono ?_
        rintro e w1 ⟨rfl, g1⟩
        have SB1 : Hid (StW w1 (w.heap.size + 1) (.bool true) (.slice c1 ys.length cap1) 25) := (StW.at2 w _ _ _ _ _ _).old g1
        have HG1 : Hid (Old w w1) := Old.trans (HA.out _ _ _ _) g1
        have b0 := SB1.out.c0
        have b1 := SB1.out.c1
        clear g1 HA
        go_wp2_with fail
        refine (cgb _ (HU.out.old HG1.out)).mono ?_
        rintro e w2 ⟨rfl, g2⟩
        have SB2 : Hid (StW w2 (w.heap.size + 1) (.bool true) (.slice c1 ys.length cap1) 25) := SB1.out.old g2
        have HG2 : Hid (Old w w2) := Old.trans HG1.out g2
        clear g2 b0 b1
        have b0 := SB2.out.c0
        have b1 := SB2.out.c1
        go_wp2_with fail
        go_ret
        exact ⟨by rw [HD.out]; rfl, HG2.out⟩
      | false =>
        by_cases hy : 0 < ys.length
        · have dy : decide (0 < ys.length) = true := decide_eq_true hy
          go_enter Tryd.func28, Tryd.ntmps28
          go_wp2_with fail
          refine (cga _ (HV.out.old (HA.out _ _ _ _))).mono ?_
          rintro e w1 ⟨rfl, g1⟩
          have SB1 : Hid (StW w1 (w.heap.size + 1) (.bool false) (.slice c1 ys.length cap1) 25) := (StW.at2 w _ _ _ _ _ _).old g1
          have HG1 : Hid (Old w w1) := Old.trans (HA.out _ _ _ _) g1
          have b0 := SB1.out.c0
          have b1 := SB1.out.c1
          clear g1 HA
          go_wp2_with fail
          refine (cgb _ (HU.out.old HG1.out)).mono ?_
          rintro e w2 ⟨rfl, g2⟩
          have SB2 : Hid (StW w2 (w.heap.size + 1) (.bool false) (.slice c1 ys.length cap1) 25) := SB1.out.old g2
          have HG2 : Hid (Old w w2) := Old.trans HG1.out g2
          clear g2 b0 b1
          have b0 := SB2.out.c0
          have b1 := SB2.out.c1
          go_wp2_with fail
          go_ret
          exact ⟨by rw [HD.out, dy]; simp [hy], HG2.out⟩
        · have dy : decide (0 < ys.length) = false := decide_eq_false hy
          have dy2 : decide ((0 : Int) < (ys.length : Int)) = false := decide_eq_false (by omega)
          go_enter Tryd.func28, Tryd.ntmps28
          go_wp2_with fail
          refine (cga _ (HV.out.old (HA.out _ _ _ _))).mono ?_
          rintro e w1 ⟨rfl, g1⟩
          have SB1 : Hid (StW w1 (w.heap.size + 1) (.bool false) (.slice c1 ys.length cap1) 25) := (StW.at2 w _ _ _ _ _ _).old g1
          have HG1 : Hid (Old w w1) := Old.trans (HA.out _ _ _ _) g1
          have b0 := SB1.out.c0
          have b1 := SB1.out.c1
          clear g1 HA
          go_wp2_with fail
          refine (cgb _ (HU.out.old HG1.out)).mono ?_
          rintro e w2 ⟨rfl, g2⟩
          have SB2 : Hid (StW w2 (w.heap.size + 1) (.bool false) (.slice c1 ys.length cap1) 25) := SB1.out.old g2
          have HG2 : Hid (Old w w2) := Old.trans HG1.out g2
          clear g2 b0 b1
          have b0 := SB2.out.c0
          have b1 := SB2.out.c1
          go_wp2_with fail
          go_ret
          exact ⟨by rw [HD.out, dy]; simp [hy], HG2.out⟩
    · have hR2 : decide (Dv n m xs ys) = false := decide_eq_false (fun h => hgb h.1.2)
      rw [hR2]
      have cgb := fun W (h : Row W (.slice c1 ys.length cap1) ys) => good_any m ys _ W h lb
      rw [decide_eq_false hgb] at cgb
      clear hga hgb hR2
      go_enter Tryd.func28, Tryd.ntmps28
      go_wp2_with fail
      refine (cga _ (HV.out.old (HA.out _ _ _ _))).mono ?_
      rintro e w1 ⟨rfl, g1⟩
      have SB1 : Hid (StW w1 (w.heap.size + 1) (.bool m) (.slice c1 ys.length cap1) 25) := (StW.at2 w _ _ _ _ _ _).old g1
      have HG1 : Hid (Old w w1) := Old.trans (HA.out _ _ _ _) g1
      have b0 := SB1.out.c0
      have b1 := SB1.out.c1
      clear g1 HA
      go_wp2_with fail
      refine (cgb _ (HU.out.old HG1.out)).mono ?_
      rintro e w2 ⟨rfl, g2⟩
      have HG2 : Hid (Old w w2) := Old.trans HG1.out g2
      clear g2
      go_wp2_with fail
      go_ret
      exact ⟨rfl, HG2.out⟩
  · have hR2 : decide (Dv n m xs ys) = false := decide_eq_false (fun h => hga h.1.1)
    rw [hR2]
    have cga := fun W (h : Row W (.slice c0 xs.length cap0) xs) => good_any n xs _ W h la
    rw [decide_eq_false hga] at cga
    clear hga hR2
    go_enter Tryd.func28, Tryd.ntmps28
    go_wp2_with fail
    refine (cga _ (HV.out.old (HA.out _ _ _ _))).mono ?_
    rintro e w1 ⟨rfl, g1⟩
    have HG1 : Hid (Old w w1) := Old.trans (HA.out _ _ _ _) g1
    clear g1
    go_wp2_with fail
    go_ret
    exact ⟨rfl, HG1.out⟩
end Go.Proofs.YtjedpceiimceoaaDoor
/- Proved: what the model answers, as functions of the numbers: comparing, what is left by a word, the whole number of a word. -/
namespace Go.Proofs.YtjedpceiimceoaaDoor
open Go.ChangeShapes Go.WideShapes Go.ChangeAt Go.RowKit
open M2
set_option linter.unusedVariables false
set_option linter.unusedSimpArgs false
def cmpW (n m : Bool) (xs ys : List Int) : Int := if Good n xs ∧ Good m ys then cmpI (sv n (nat xs)) (sv m (nat ys)) else 0
end Go.Proofs.YtjedpceiimceoaaDoor
