/- Proved: contracts of the model's l4Centre and CentredWhole. -/
import Derived.Test.YtfgooclnohnkmaaGreatDoorCompT
import Derived.Test.YtfgooclnohnkmaaGreatDoorCent
import Derived.Test.YtfgooclnohnkmaaGreatDoorKD
namespace Go.Proofs.YtfgooclnohnkmaaGreatDoor
open Go.ChangeShapes Go.WideShapes Go.ChangeAt Go.RowKit
open M2
set_option linter.unusedVariables false
set_option linter.unusedSimpArgs false
theorem infoW2 : (Tryz.prog.info? 101).map (·.size) = some 2 := by kernel_rfl
theorem ret_w2 {fn : Func} {p : Tmp} (h : fn.results = #[.cell p 101]) (tmps : Array Value) (w : World) {g : Nat} {x y : Value} (hp : tmps.getD p undef = .pointer (some ⟨g, 0, none⟩)) (hs : StW w g x y 101) :
    (results fn tmps).run Tryz.prog w = .ok (.agg #[x, y]) w :=
  results_cell_row h tmps w g 101 #[x, y] (0, 0) _ hp hs Tryz.underlying101 rfl infoW2
theorem st_put {w : World} {k : Nat} {x y : Value} {t : TypeId} (h : StW w k x y t) (x' y' : Value) : StW ((w.setCell ⟨k, 0, none⟩ x').setCell ⟨k, 1, none⟩ y') k x' y' t := by
  have h1 := heap_setCell_same w k 0 _ _ x' h
  have h2 := heap_setCell_same _ k 1 _ _ y' h1
  exact h2
theorem val_two : val [2] = 2 := by decide
set_option maxRecDepth 100000 in
set_option maxHeartbeats 2000000 in
theorem centre_any (a q : Nat) (v u : Value) (w : World) (hv : Row w v (toI (dig a))) (hu : Row w u (toI (dig q))) (la : (dig a).length ≤ 1000) (lq : (dig q).length ≤ 1000) (l2 : (dig (a * 2)).length ≤ 1000) (hlt : a < q) :
    Calls Tryz.prog 153 #[v, u] w fun e w' => ∃ v', e = .returned (.agg #[.bool (decide (q ≤ a * 2)), v']) ∧ Old w w' ∧ Row w' v' (toI (dig (if a * 2 < q then a else q - a))) := by
  have HV : Hid (Row w v (toI (dig a))) := hv
  have HU : Hid (Row w u (toI (dig q))) := hu
  obtain ⟨va, vc, rfl⟩ := hv.slice
  obtain ⟨ua, uc, rfl⟩ := hu.slice
  have HS : Hid (StW ((w.alloc (.cells #[.bool false, .slice none 0 0] 101)).alloc (.cells #[.int .i64 2] 3)) w.heap.size (.bool false) (.slice none 0 0) 101) := (StW.new w _ _ _).old ((Old.refl _).alloc _)
  have HA : Hid (Old w ((w.alloc (.cells #[.bool false, .slice none 0 0] 101)).alloc (.cells #[.int .i64 2] 3))) := ((Old.refl w).alloc _).alloc _
  have HT : Hid (Row ((w.alloc (.cells #[.bool false, .slice none 0 0] 101)).alloc (.cells #[.int .i64 2] 3)) (.slice (some ⟨w.heap.size + 1, 0, none⟩) 1 1) (toI [2])) := by
    have := two_row (w.alloc (.cells #[.bool false, .slice none 0 0] 101)) 3
    simp at this
    exact this
  have cm := fun x W h1 h2 => mul_any (dig a) [2] x (.slice (some ⟨w.heap.size + 1, 0, none⟩) 1 1) W h1 h2 (dig_lim a) (Lim.cons (by decide) Lim.nil) (by omega) (by simp)
  rw [val_dig, val_two] at cm
  have cc := fun x y W h1 h2 => cmp_any (dig (a * 2)) (dig q) x y W h1 h2 (dig_nrm _) (dig_nrm _) (by omega) (by omega)
  rw [val_dig, val_dig] at cc
  have cs := fun x y W h1 h2 => sub_any (dig q) (dig a) x y W h1 h2 (dig_nrm _) (dig_nrm _) (by omega) (by omega) (by rw [val_dig, val_dig]; omega)
  rw [val_dig, val_dig] at cs
  clear hv hu la lq l2
  by_cases hc : a * 2 < q
  · have dz : decide (0 ≤ cmpN (a * 2) q) = false := decide_eq_false (by unfold cmpN; rw [if_pos hc]; decide)
    rw [if_pos hc, decide_eq_false (by omega)]
    generalize cmpN (a * 2) q = z at *
    clear hc hlt cs
    go_enter Tryz.func153, Tryz.ntmps153
    go_wp2_with fail
    refine (cm _ _ (HV.out.old HA.out) HT.out).mono ?_
    rintro e w1 ⟨v1, rfl, g1, o1⟩
    have S1 : Hid (StW w1 w.heap.size (.bool false) (.slice none 0 0) 101) := HS.out.old g1
    have HG1 : Hid (Old w w1) := Old.trans HA.out g1
    have HM1 : Hid (Row w1 v1 (toI (dig (a * 2)))) := Own.row o1
    obtain ⟨a1, cap1, rfl⟩ := (Own.row o1).slice
    clear g1 o1
    go_wp2_with fail
    refine (cc _ _ _ HM1.out (HU.out.old HG1.out)).mono ?_
    rintro e w2 ⟨rfl, g2⟩
    have S2 : Hid (StW w2 w.heap.size (.bool false) (.slice none 0 0) 101) := S1.out.old g2
    have HG2 : Hid (Old w w2) := Old.trans HG1.out g2
    have q0 := S2.out.c0
    have q1 := S2.out.c1
    have f0 := S2.out.f0
    have f1 := S2.out.f1
    clear g2
    go_wp2_with fail
    refine bodyPost_ret (ret_w2 Tryz.results153 _ _ rfl (st_put S2.out (.bool false) _)) rfl ⟨_, rfl, ?_, ?_⟩
    · exact (HG2.out.own (p := ⟨w.heap.size, 0, none⟩) (Nat.le_refl _) _).own (p := ⟨w.heap.size, 1, none⟩) (Nat.le_refl _) _
    · exact HV.out.old ((HG2.out.own (p := ⟨w.heap.size, 0, none⟩) (Nat.le_refl _) _).own (p := ⟨w.heap.size, 1, none⟩) (Nat.le_refl _) _)
  · have dz : decide (0 ≤ cmpN (a * 2) q) = true := decide_eq_true (by unfold cmpN; rw [if_neg hc]; split <;> decide)
    rw [if_neg hc, decide_eq_true (by omega)]
    generalize cmpN (a * 2) q = z at *
    generalize q - a = d at *
    clear hc hlt
    go_enter Tryz.func153, Tryz.ntmps153
    go_wp2_with fail
    refine (cm _ _ (HV.out.old HA.out) HT.out).mono ?_
    rintro e w1 ⟨v1, rfl, g1, o1⟩
    have S1 : Hid (StW w1 w.heap.size (.bool false) (.slice none 0 0) 101) := HS.out.old g1
    have HG1 : Hid (Old w w1) := Old.trans HA.out g1
    have HM1 : Hid (Row w1 v1 (toI (dig (a * 2)))) := Own.row o1
    obtain ⟨a1, cap1, rfl⟩ := (Own.row o1).slice
    clear g1 o1
    go_wp2_with fail
    refine (cc _ _ _ HM1.out (HU.out.old HG1.out)).mono ?_
    rintro e w2 ⟨rfl, g2⟩
    have S2 : Hid (StW w2 w.heap.size (.bool false) (.slice none 0 0) 101) := S1.out.old g2
    have HG2 : Hid (Old w w2) := Old.trans HG1.out g2
    clear g2
    go_wp2_with fail
    refine (cs _ _ _ (HU.out.old HG2.out) (HV.out.old HG2.out)).mono ?_
    rintro e w3 ⟨v3, rfl, g3, o3⟩
    have S3 : Hid (StW w3 w.heap.size (.bool false) (.slice none 0 0) 101) := S2.out.old g3
    have HG3 : Hid (Old w w3) := Old.trans HG2.out g3
    have HO3 : Hid (Own w3 w2.heap.size v3 (toI (dig d))) := o3
    have hs2 : w.heap.size < w2.heap.size := S2.out.lt
    obtain ⟨a3, cap3, rfl⟩ := (Own.row o3).slice
    have q0 := S3.out.c0
    have q1 := S3.out.c1
    have f0 := S3.out.f0
    have f1 := S3.out.f1
    clear g3 o3
    go_wp2_with fail
    refine bodyPost_ret (ret_w2 Tryz.results153 _ _ rfl (st_put S3.out (.bool true) _)) rfl ⟨_, rfl, ?_, ?_⟩
    · exact (HG3.out.own (p := ⟨w.heap.size, 0, none⟩) (Nat.le_refl _) _).own (p := ⟨w.heap.size, 1, none⟩) (Nat.le_refl _) _
    · refine Own.row (base := w2.heap.size) (ownsRow_setCell_other (ownsRow_setCell_other HO3.out (fun e => ?_) _) (fun e => ?_) _)
      · have := (HO3.out.lt w.heap.size e).1; omega
      · have := (HO3.out.lt w.heap.size e).1; omega
end Go.Proofs.YtfgooclnohnkmaaGreatDoor
