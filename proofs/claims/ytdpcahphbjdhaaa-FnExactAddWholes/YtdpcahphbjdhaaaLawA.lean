/- Proved: the walk of the statement on GoodWhole, under the contract of the program's own function. -/
import Derived.Test.YtdpcahphbjdhaaaGood
import Derived.Test.YtdpcahphbjdhaaaHelpW
import Derived.Deep.RegionWith
namespace Go.Proofs.Ytdpcahphbjdhaaa
open Go.ChangeShapes Go.WideShapes Go.ChangeAt Go.RowKit
open M2
set_option linter.unusedVariables false
set_option linter.unusedSimpArgs false
/-- a struct of two cells in a block of its own -/
abbrev St (w : World) (k : Nat) (x y : Value) (t : TypeId) : Prop := w.heap[k]? = some (.cells #[x, y] t (0, 0))
theorem St.c0 {w : World} {k : Nat} {x y : Value} {t : TypeId} (h : St w k x y t) : w.cell? ⟨k, 0, none⟩ = some x := cell_of_row w k 0 _ t (0, 0) h
theorem St.c1 {w : World} {k : Nat} {x y : Value} {t : TypeId} (h : St w k x y t) : w.cell? ⟨k, 1, none⟩ = some y := cell_of_row w k 1 _ t (0, 0) h
theorem St.f0 {w : World} {k : Nat} {x y : Value} {t : TypeId} (h : St w k x y t) : w.frozen? ⟨k, 0, none⟩ = false := frozen_of_row w k 0 _ t h
theorem St.f1 {w : World} {k : Nat} {x y : Value} {t : TypeId} (h : St w k x y t) : w.frozen? ⟨k, 1, none⟩ = false := frozen_of_row w k 1 _ t h
theorem St.lt {w : World} {k : Nat} {x y : Value} {t : TypeId} (h : St w k x y t) : k < w.heap.size := (Array.getElem?_eq_some_iff.1 h).1
theorem St.old {w w' : World} {k : Nat} {x y : Value} {t : TypeId} (h : St w k x y t) (g : Old w w') : St w' k x y t := (g.block k h.lt).trans h
theorem St.new (w : World) (x y : Value) (t : TypeId) : St (w.alloc (.cells #[x, y] t)) w.heap.size x y t := heap_alloc_new w _
set_option maxHeartbeats 4000000 in
theorem law_good (n : Bool) (xs : List Int) (v : Value) (w : World) (hv : Row w v xs) (hl : xs.length ≤ 9223372036854775807)
    (himpl : ∀ v W, Row W v xs → xs.length ≤ 1048576 → Calls Try.prog 24 #[.agg #[.bool n, v]] W fun e w' => e = .returned (.bool (decide (Good n xs))) ∧ Old W w') :
    Calls Try.prog 4 #[.agg #[.bool n, v]] w fun e w' => e = .returned (.bool true) ∧ Old w w' := by
  have HV : Hid (Row w v xs) := hv
  have HI : Hid (∀ v W, Row W v xs → xs.length ≤ 1048576 → Calls Try.prog 24 #[.agg #[.bool n, v]] W fun e w' => e = .returned (.bool (decide (Good n xs))) ∧ Old W w') := himpl
  obtain ⟨c0, cap0, rfl⟩ := hv.slice
  clear hv himpl
  by_cases hbig : (1048576 : Int) < (xs.length : Int)
  · go_enter Try.func4, Try.ntmps4
    go_wp2_with fail
    refine (szWhole_no n c0 xs.length cap0 1048576 _ hl (by omega) (by omega) hbig).mono ?_
    rintro e w1 ⟨rfl, g1⟩
    have HG1 : Hid (Old w w1) := Old.trans ((Old.refl w).alloc _) g1
    clear g1
    go_wp2_with fail
    go_ret
    exact ⟨rfl, HG1.out⟩
  · have hl2 : xs.length ≤ 1048576 := by omega
    obtain ⟨B, hB⟩ : ∃ B, decide (Good n xs) = B := ⟨_, rfl⟩
    have HB : Hid (decide (Good n xs) = B) := hB
    clear hB
    have dl : decide ((1048576 : Int) - (xs.length : Int) < 0) = false := decide_eq_false (by omega)
    have dB : (B != B) = false := by simp
    go_enter Try.func4, Try.ntmps4
    go_wp2_with fail
    refine (szWhole_yes n c0 xs.length cap0 1048576 _ hl (by omega) (by omega) (by omega)).mono ?_
    rintro e w1 ⟨rfl, g1⟩
    have s1 := (St.new w (.bool n) (.slice c0 xs.length cap0) 33).old g1
    have a0 := s1.c0
    have a1 := s1.c1
    have HG1 : Hid (Old w w1) := Old.trans ((Old.refl w).alloc _) g1
    have HS1 : Hid (St w1 w.heap.size (.bool n) (.slice c0 xs.length cap0) 33) := s1
    clear g1 s1 hbig
    go_wp2_with fail
    refine (toWhole_any n xs _ _ (HV.out.old HG1.out) hl2).mono ?_
    rintro e w2 ⟨v2, rfl, g2, o2⟩
    obtain ⟨c2, cap2, rfl⟩ := (Own.row o2).slice
    have HG2 : Hid (Old w w2) := Old.trans HG1.out g2
    have HS2 : Hid (St w2 w.heap.size (.bool n) (.slice c0 xs.length cap0) 33) := HS1.out.old g2
    have HR2 : Hid (Row w2 (.slice c2 xs.length cap2) xs) := Own.row o2
    clear g2 o2 HG1 HS1 a0 a1
    go_wp2_with fail
    refine (good_any n xs _ _ HR2.out hl2).mono ?_
    rw [HB.out]
    rintro e w3 ⟨rfl, g3⟩
    have HG3 : Hid (Old w w3) := Old.trans HG2.out g3
    have HS3 : Hid (St w3 w.heap.size (.bool n) (.slice c0 xs.length cap0) 33) := HS2.out.old g3
    have a0 := HS3.out.c0
    have a1 := HS3.out.c1
    clear g3 HG2 HS2 HR2
    go_wp2_with fail
    refine (toWhole_any n xs _ _ (HV.out.old HG3.out) hl2).mono ?_
    rintro e w4 ⟨v4, rfl, g4, o4⟩
    obtain ⟨c4, cap4, rfl⟩ := (Own.row o4).slice
    have HG4 : Hid (Old w w4) := Old.trans HG3.out g4
    have HS4 : Hid (St w4 w.heap.size (.bool n) (.slice c0 xs.length cap0) 33) := HS3.out.old g4
    have HR4 : Hid (Row w4 (.slice c4 xs.length cap4) xs) := Own.row o4
    clear g4 o4 HG3 HS3 a0 a1
    go_wp2_with fail
    refine (HI.out _ _ (HR4.out.old ((Old.refl _).alloc _)) hl2).mono ?_
    rw [HB.out]
    rintro e w5 ⟨rfl, g5⟩
    have HG5 : Hid (Old w w5) := Old.trans (HG4.out.alloc _) g5
    have HS5 : Hid (St w5 w.heap.size (.bool n) (.slice c0 xs.length cap0) 33) := (HS4.out.old ((Old.refl _).alloc _)).old g5
    have HX5 : Hid (St w5 w4.heap.size (.bool n) (.slice c4 xs.length cap4) 25) := (St.new w4 _ _ _).old g5
    have HR5 : Hid (Row w5 (.slice c4 xs.length cap4) xs) := (HR4.out.old ((Old.refl _).alloc _)).old g5
    have a0 := HS5.out.c0
    have a1 := HS5.out.c1
    have x0 := HX5.out.c0
    have x1 := HX5.out.c1
    clear g5 HG4 HS4 HR4
    go_wp2_with fail
    go_region_with (first
      | (go_at_call 23; refine (toWhole_any n xs _ _ (HV.out.old (HG5.out.drewN 1)) hl2).mono ?_; rintro e w6 ⟨v6, rfl, g6, o6⟩; obtain ⟨c6, cap6, rfl⟩ := (Own.row o6).slice; have HG6 : Hid (Old w w6) := Old.trans (HG5.out.drewN 1) g6; have HX6 : Hid (St w6 w4.heap.size (.bool n) (.slice c4 xs.length cap4) 25) := (HX5.out.old ((Old.refl _).drewN 1)).old g6; have HR6 : Hid (Row w6 (.slice c4 xs.length cap4) xs) := (HR5.out.old ((Old.refl _).drewN 1)).old g6; have HT6 : Hid (Row w6 (.slice c6 xs.length cap6) xs) := Own.row o6; have x0' := HX6.out.c0; have x1' := HX6.out.c1; clear g6 o6)
      | (go_at_call 25; refine (eqWhole_yes n xs _ _ _ HR6.out HT6.out (by omega)).mono ?_; rintro e w7 ⟨rfl, g7⟩; have HG7 : Hid (Old w w7) := Old.trans HG6.out g7; clear g7))
    all_goals
      go_wp2_with fail
      go_ret
      exact ⟨rfl, HG7.out⟩
end Go.Proofs.Ytdpcahphbjdhaaa
