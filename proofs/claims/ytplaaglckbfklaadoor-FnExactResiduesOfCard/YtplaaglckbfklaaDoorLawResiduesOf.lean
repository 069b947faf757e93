/- Proved: the walk of the statement on ResiduesOf, under the contracts of the model's and of the program's function. -/
import Derived.Test.YtplaaglckbfklaaDoorResS
import Derived.Deep.RegionHeld3
namespace Go.Proofs.YtplaaglckbfklaaDoor
open Go.ChangeShapes Go.WideShapes Go.ChangeAt Go.RowKit
set_option linter.unusedVariables false
set_option linter.unusedSimpArgs false
set_option maxRecDepth 100000 in
set_option maxHeartbeats 16000000 in
theorem law_ResiduesOf (n : Bool) (ds xs : List Int) (v u : Value) (w : World) (hv : Row w v ds) (hu : Row w u xs) (hld : ds.length ≤ 9223372036854775807) (hlx : xs.length ≤ 9223372036854775807) (hP : PrsW w) (hT : TabW w) (ok : Bool) (zs : List Int) (hz : zs.length ≤ 1000)
    (hspec : ds.length ≤ 1048576 → ∀ v u W, Row W v ds → Row W u xs → Fit u → Calls Tryd.prog 55 #[.agg #[.bool n, v], u] W fun e w' => ∃ v', e = .returned (.tuple #[v', .bool ok]) ∧ Old W w' ∧ Own w' W.heap.size v' zs)
    (himpl : ds.length ≤ 1048576 → ∀ v u W, PrsW W → TabW W → Row W v ds → Row W u xs → Fit u → Calls Tryd.prog 56 #[.agg #[.bool n, v], u] W fun e w' => ∃ v', e = .returned (.tuple #[v', .bool ok]) ∧ Old W w' ∧ Own w' W.heap.size v' zs) :
    Calls Tryd.prog 12 #[.agg #[.bool n, v], u] w fun e w' => e = .returned (.bool true) ∧ Old w w' := by
  have HP : Hid (PrsW w) := hP
  have HT : Hid (TabW w) := hT
  have RV : Hid (Row w v ds) := hv
  have RU : Hid (Row w u xs) := hu
  obtain ⟨cv, capv, rfl⟩ := hv.slice
  obtain ⟨cu, capu, rfl⟩ := hu.slice
  clear hT hP hv hu
  by_cases bigu : (1048576 : Int) < (xs.length : Int)
  · have du : decide ((1048576 : Int) < (xs.length : Int)) = true := decide_eq_true bigu
    clear hspec himpl
    go_enter Tryd.func12, Tryd.ntmps12
    go_wp2_with fail
    go_ret
    exact ⟨rfl, by repeat (first | exact Old.refl _ | apply Old.alloc)⟩
  have du : decide ((1048576 : Int) < (xs.length : Int)) = false := decide_eq_false bigu
  have lu : xs.length ≤ 1048576 := by omega
  by_cases bigv : (1048576 : Int) < (ds.length : Int)
  · clear hspec himpl
    go_enter Tryd.func12, Tryd.ntmps12
    go_wp2_with fail
    refine (szWhole_no n cv ds.length capv 1048576 _ hld (by omega) (by omega) bigv).mono ?_
    rintro e w1 ⟨rfl, g1⟩
    have HG1 : Hid (Old w w1) := Old.trans ((Old.refl w).alloc _) g1
    clear g1
    go_wp2_with fail
    go_ret
    exact ⟨rfl, HG1.out⟩
  have lv : ds.length ≤ 1048576 := by omega
  have dl : decide ((1048576 : Int) - (ds.length : Int) < 0) = false := decide_eq_false (by omega)
  have SP : Hid (∀ v u W, Row W v ds → Row W u xs → Fit u → Calls Tryd.prog 55 #[.agg #[.bool n, v], u] W fun e w' => ∃ v', e = .returned (.tuple #[v', .bool ok]) ∧ Old W w' ∧ Own w' W.heap.size v' zs) := hspec lv
  have IM : Hid (∀ v u W, PrsW W → TabW W → Row W v ds → Row W u xs → Fit u → Calls Tryd.prog 56 #[.agg #[.bool n, v], u] W fun e w' => ∃ v', e = .returned (.tuple #[v', .bool ok]) ∧ Old W w' ∧ Own w' W.heap.size v' zs) := himpl lv
  have dok : (ok != ok) = false := by simp
  have dq : decide ((1 : Int) + (zs.length : Int) < 0) = false := decide_eq_false (by omega)
  have dqm : ((1 : Int) + (zs.length : Int) != 1 + (zs.length : Int)) = false := by simp
  have dk : decide ((1 : Int) + (ds.length : Int) + (xs.length : Int) < 0) = false := decide_eq_false (by omega)
  clear hspec himpl bigu
  go_enter Tryd.func12, Tryd.ntmps12
  have HG_0 : Hid (Old w (w.alloc (.cells #[.bool n, .slice cv ds.length capv] 51))) := (Old.refl w).alloc _
  have A_0 : Hid (StW (w.alloc (.cells #[.bool n, .slice cv ds.length capv] 51)) w.heap.size (.bool n) (.slice cv ds.length capv) 51) := StW.new w _ _ _
  go_wp2_with fail
  refine (szWhole_yes n cv ds.length capv 1048576 _ hld (by omega) (by omega) (by omega)).mono ?_
  rintro e w1 ⟨rfl, g⟩
  have hsw1 : w.heap.size + 1 ≤ w1.heap.size := by have := g.size; (try simp at this); omega
  have HG_1 : Hid (Old w w1) := Old.trans HG_0.out g
  have A_1 : Hid (StW w1 w.heap.size (.bool n) (.slice cv ds.length capv) 51) := A_0.out.old g
  clear HG_0 A_0
  clear g bigv
  have zA0 := A_1.out.c0
  have zA1 := A_1.out.c1
  go_wp2_with fail
  refine (toWhole_any n ds _ _ (RV.out.old HG_1.out) lv).mono ?_
  rintro e w2 ⟨vw2, rfl, g, o⟩
  obtain ⟨aw2, capw2, rfl⟩ := (Own.row o).slice
  have hsw2 : w1.heap.size ≤ w2.heap.size := by have := g.size; (try simp at this); omega
  clear zA0 zA1
  have HG_2 : Hid (Old w w2) := Old.trans HG_1.out g
  have A_2 : Hid (StW w2 w.heap.size (.bool n) (.slice cv ds.length capv) 51) := A_1.out.old g
  clear HG_1 A_1
  have VA_2 : Hid (Own w2 (w1.heap.size) (.slice aw2 ds.length capw2) ds) := Own.low o (base' := w1.heap.size) (by simp)
  have DVA : Hid (∀ g, (Value.slice aw2 ds.length capw2).ownBlock = some g → w1.heap.size ≤ g ∧ g < w2.heap.size) := fun g hg => by have := o.lt g hg; (try simp at this); omega
  clear g o
  go_wp2_with fail
  refine (toInts_any xs _ _ (RU.out.old HG_2.out) lu).mono ?_
  rintro e w3 ⟨rfl, g, o⟩
  have hsw3 : w2.heap.size ≤ w3.heap.size := by have := g.size; (try simp at this); omega
  have hbw3 : w2.heap.size < w3.heap.size := by have := own_lt o; (try simp at this); omega
  have HG_3 : Hid (Old w w3) := Old.trans HG_2.out g
  have A_3 : Hid (StW w3 w.heap.size (.bool n) (.slice cv ds.length capv) 51) := A_2.out.old g
  have VA_3 : Hid (Own w3 (w1.heap.size) (.slice aw2 ds.length capw2) ds) := VA_2.out.old g
  clear HG_2 A_2 VA_2
  have UA_3 : Hid (Own w3 (w2.heap.size) (.slice (some ⟨w2.heap.size, 0, none⟩) xs.length xs.length) xs) := by first | exact o | (simp at o; exact o)
  have DUA : Hid (∀ g, (Value.slice (some ⟨w2.heap.size, 0, none⟩) xs.length xs.length).ownBlock = some g → w2.heap.size ≤ g ∧ g < w3.heap.size) := fun g hg => UA_3.out.lt g hg
  clear g o
  go_wp2_with fail
  refine (SP.out _ _ _ (Own.row VA_3.out) (Own.row UA_3.out) (Nat.le_refl _)).mono ?_
  rintro e w4 ⟨vw4, rfl, g, o⟩
  obtain ⟨aw4, capw4, rfl⟩ := (Own.row o).slice
  have hsw4 : w3.heap.size ≤ w4.heap.size := by have := g.size; (try simp at this); omega
  have HG_4 : Hid (Old w w4) := Old.trans HG_3.out g
  have A_4 : Hid (StW w4 w.heap.size (.bool n) (.slice cv ds.length capv) 51) := A_3.out.old g
  have VA_4 : Hid (Own w4 (w1.heap.size) (.slice aw2 ds.length capw2) ds) := VA_3.out.old g
  have UA_4 : Hid (Own w4 (w2.heap.size) (.slice (some ⟨w2.heap.size, 0, none⟩) xs.length xs.length) xs) := UA_3.out.old g
  clear HG_3 A_3 VA_3 UA_3
  have O_4 : Hid (Own w4 (w3.heap.size) (.slice aw4 zs.length capw4) zs) := Own.low o (base' := w3.heap.size) (by simp)
  have DO : Hid (∀ g, (Value.slice aw4 zs.length capw4).ownBlock = some g → w3.heap.size ≤ g ∧ g < w4.heap.size) := fun g hg => by have := o.lt g hg; (try simp at this); omega
  clear g o
  clear VA_4
  clear UA_4
  have zA0 := A_4.out.c0
  have zA1 := A_4.out.c1
  go_wp2_with fail
  refine (toWhole_any n ds _ _ (RV.out.old HG_4.out) lv).mono ?_
  rintro e w5 ⟨vw5, rfl, g, o⟩
  obtain ⟨aw5, capw5, rfl⟩ := (Own.row o).slice
  have hsw5 : w4.heap.size ≤ w5.heap.size := by have := g.size; (try simp at this); omega
  clear zA0 zA1
  have HG_5 : Hid (Old w (w5.alloc (.cells #[.bool n, .slice aw5 ds.length capw5] 25))) := Old.trans HG_4.out (Old.trans g ((Old.refl w5).alloc _))
  have A_5 : Hid (StW (w5.alloc (.cells #[.bool n, .slice aw5 ds.length capw5] 25)) w.heap.size (.bool n) (.slice cv ds.length capv) 51) := A_4.out.old (Old.trans g ((Old.refl w5).alloc _))
  have O_5 : Hid (Own (w5.alloc (.cells #[.bool n, .slice aw5 ds.length capw5] 25)) (w3.heap.size) (.slice aw4 zs.length capw4) zs) := O_4.out.old (Old.trans g ((Old.refl w5).alloc _))
  clear HG_4 A_4 O_4
  have X_5 : Hid (StW (w5.alloc (.cells #[.bool n, .slice aw5 ds.length capw5] 25)) w5.heap.size (.bool n) (.slice aw5 ds.length capw5) 25) := StW.new w5 _ _ _
  have VX_5 : Hid (Own (w5.alloc (.cells #[.bool n, .slice aw5 ds.length capw5] 25)) (w4.heap.size) (.slice aw5 ds.length capw5) ds) := by have := (Own.low o (base' := w4.heap.size) (by simp)); exact this.alloc _
  have DVX : Hid (∀ g, (Value.slice aw5 ds.length capw5).ownBlock = some g → w4.heap.size ≤ g ∧ g < w5.heap.size) := fun g hg => by have := o.lt g hg; (try simp at this); omega
  clear g o
  go_wp2_with fail
  refine (toInts_any xs _ _ (RU.out.old HG_5.out) lu).mono ?_
  rintro e w6 ⟨rfl, g, o⟩
  have hsw6 : w5.heap.size + 1 ≤ w6.heap.size := by have := g.size; (try simp at this); omega
  have hbw6 : w5.heap.size + 1 < w6.heap.size := by have := own_lt o; (try simp at this); omega
  have HG_6 : Hid (Old w w6) := Old.trans HG_5.out g
  have A_6 : Hid (StW w6 w.heap.size (.bool n) (.slice cv ds.length capv) 51) := A_5.out.old g
  have O_6 : Hid (Own w6 (w3.heap.size) (.slice aw4 zs.length capw4) zs) := O_5.out.old g
  have X_6 : Hid (StW w6 w5.heap.size (.bool n) (.slice aw5 ds.length capw5) 25) := X_5.out.old g
  have VX_6 : Hid (Own w6 (w4.heap.size) (.slice aw5 ds.length capw5) ds) := VX_5.out.old g
  clear HG_5 A_5 O_5 X_5 VX_5
  have UX_6 : Hid (Own w6 (w5.heap.size + 1) (.slice (some ⟨w5.heap.size + 1, 0, none⟩) xs.length xs.length) xs) := by first | exact o | (simp at o; exact o)
  have DUX : Hid (∀ g, (Value.slice (some ⟨w5.heap.size + 1, 0, none⟩) xs.length xs.length).ownBlock = some g → w5.heap.size + 1 ≤ g ∧ g < w6.heap.size) := fun g hg => UX_6.out.lt g hg
  clear g o
  have zX0 := X_6.out.c0
  have zX1 := X_6.out.c1
  go_wp2_with fail
  refine (IM.out _ _ _ (HP.out.old HG_6.out) (HT.out.old HG_6.out) (Own.row VX_6.out) (Own.row UX_6.out) (Nat.le_refl _)).mono ?_
  rintro e w7 ⟨vw7, rfl, g, o⟩
  obtain ⟨aw7, capw7, rfl⟩ := (Own.row o).slice
  have hsw7 : w6.heap.size ≤ w7.heap.size := by have := g.size; (try simp at this); omega
  clear zX0 zX1
  have HG_7 : Hid (Old w w7) := Old.trans HG_6.out g
  have A_7 : Hid (StW w7 w.heap.size (.bool n) (.slice cv ds.length capv) 51) := A_6.out.old g
  have O_7 : Hid (Own w7 (w3.heap.size) (.slice aw4 zs.length capw4) zs) := O_6.out.old g
  have X_7 : Hid (StW w7 w5.heap.size (.bool n) (.slice aw5 ds.length capw5) 25) := X_6.out.old g
  have VX_7 : Hid (Own w7 (w4.heap.size) (.slice aw5 ds.length capw5) ds) := VX_6.out.old g
  have UX_7 : Hid (Own w7 (w5.heap.size + 1) (.slice (some ⟨w5.heap.size + 1, 0, none⟩) xs.length xs.length) xs) := UX_6.out.old g
  clear HG_6 A_6 O_6 X_6 VX_6 UX_6
  have G_7 : Hid (Own w7 (w6.heap.size) (.slice aw7 zs.length capw7) zs) := Own.low o (base' := w6.heap.size) (by simp)
  have DG : Hid (∀ g, (Value.slice aw7 zs.length capw7).ownBlock = some g → w6.heap.size ≤ g ∧ g < w7.heap.size) := fun g hg => by have := o.lt g hg; (try simp at this); omega
  clear g o
  go_wp2_with fail
  refine (eqInts_yes zs _ _ _ (Own.row G_7.out) (Own.row O_7.out) (by omega)).mono ?_
  rintro e w8 ⟨rfl, g⟩
  have hsw8 : w7.heap.size ≤ w8.heap.size := by have := g.size; (try simp at this); omega
  have HG_8 : Hid (Old w w8) := Old.trans HG_7.out g
  have A_8 : Hid (StW w8 w.heap.size (.bool n) (.slice cv ds.length capv) 51) := A_7.out.old g
  have O_8 : Hid (Own w8 (w3.heap.size) (.slice aw4 zs.length capw4) zs) := O_7.out.old g
  have X_8 : Hid (StW w8 w5.heap.size (.bool n) (.slice aw5 ds.length capw5) 25) := X_7.out.old g
  have VX_8 : Hid (Own w8 (w4.heap.size) (.slice aw5 ds.length capw5) ds) := VX_7.out.old g
  have UX_8 : Hid (Own w8 (w5.heap.size + 1) (.slice (some ⟨w5.heap.size + 1, 0, none⟩) xs.length xs.length) xs) := UX_7.out.old g
  have G_8 : Hid (Own w8 (w6.heap.size) (.slice aw7 zs.length capw7) zs) := G_7.out.old g
  clear HG_7 A_7 O_7 X_7 VX_7 UX_7 G_7
  clear g
  have zX0 := X_8.out.c0
  have zX1 := X_8.out.c1
  have zA0 := A_8.out.c0
  have zA1 := A_8.out.c1
  have HAS : Hid (∀ W', Old w8 W' → (W'.cell? ⟨w5.heap.size, 0, none⟩ = some (.bool n) ∧ W'.cell? ⟨w5.heap.size, 1, none⟩ = some (.slice aw5 ds.length capw5) ∧ W'.cell? ⟨w.heap.size, 0, none⟩ = some (.bool n) ∧ W'.cell? ⟨w.heap.size, 1, none⟩ = some (.slice cv ds.length capv))) := fun W' g => ⟨(X_8.out.old g).c0, (X_8.out.old g).c1, (A_8.out.old g).c0, (A_8.out.old g).c1⟩
  go_wp2_with fail
  go_region_held3 (fun W' => W'.cell? ⟨w5.heap.size, 0, none⟩ = some (.bool n) ∧ W'.cell? ⟨w5.heap.size, 1, none⟩ = some (.slice aw5 ds.length capw5) ∧ W'.cell? ⟨w.heap.size, 0, none⟩ = some (.bool n) ∧ W'.cell? ⟨w.heap.size, 1, none⟩ = some (.slice cv ds.length capv)) (first | exact HAS.out _ GE.out | exact HAS.out _ GT.out | exact HAS.out _ (Below.drew (Old.refl w8)) | exact HAS.out _ (Old.refl w8)) (first
    | (go_at_call 40; refine (toWhole_any n ds _ _ (RV.out.old (HG_8.out.drewN 1)) lv).mono ?_; rintro e wt ⟨vt, rfl, gt, ot⟩; obtain ⟨at_, capt, rfl⟩ := (Own.row ot).slice; have GT : Hid (Old w8 wt) := Old.trans ((Old.refl _).drewN 1) gt; have RT : Hid (Row wt (.slice at_ ds.length capt) ds) := Own.row ot; clear gt ot)
    | (go_at_call 41; refine (eqWhole_yes n ds _ _ _ ((Own.row VX_8.out).old GT.out) RT.out (by omega)).mono ?_; rintro e w9 ⟨rfl, ge⟩; have GE : Hid (Old w8 w9) := Old.trans GT.out ge; clear ge))
  clear zX0 zX1 zA0 zA1
  have hsw9 := GE.out.size
  have HG_9 : Hid (Old w w9) := Old.trans HG_8.out GE.out
  have A_9 : Hid (StW w9 w.heap.size (.bool n) (.slice cv ds.length capv) 51) := A_8.out.old GE.out
  have O_9 : Hid (Own w9 (w3.heap.size) (.slice aw4 zs.length capw4) zs) := O_8.out.old GE.out
  have X_9 : Hid (StW w9 w5.heap.size (.bool n) (.slice aw5 ds.length capw5) 25) := X_8.out.old GE.out
  have VX_9 : Hid (Own w9 (w4.heap.size) (.slice aw5 ds.length capw5) ds) := VX_8.out.old GE.out
  have UX_9 : Hid (Own w9 (w5.heap.size + 1) (.slice (some ⟨w5.heap.size + 1, 0, none⟩) xs.length xs.length) xs) := UX_8.out.old GE.out
  have G_9 : Hid (Own w9 (w6.heap.size) (.slice aw7 zs.length capw7) zs) := G_8.out.old GE.out
  clear HG_8 A_8 O_8 X_8 VX_8 UX_8 G_8
  clear GE GT RT HAS
  go_wp2_with fail
  refine (toInts_any xs _ _ (RU.out.old HG_9.out) lu).mono ?_
  rintro e w10 ⟨rfl, g, o⟩
  have hsw10 : w9.heap.size ≤ w10.heap.size := by have := g.size; (try simp at this); omega
  have hbw10 : w9.heap.size < w10.heap.size := by have := own_lt o; (try simp at this); omega
  have HG_10 : Hid (Old w w10) := Old.trans HG_9.out g
  have A_10 : Hid (StW w10 w.heap.size (.bool n) (.slice cv ds.length capv) 51) := A_9.out.old g
  have O_10 : Hid (Own w10 (w3.heap.size) (.slice aw4 zs.length capw4) zs) := O_9.out.old g
  have X_10 : Hid (StW w10 w5.heap.size (.bool n) (.slice aw5 ds.length capw5) 25) := X_9.out.old g
  have VX_10 : Hid (Own w10 (w4.heap.size) (.slice aw5 ds.length capw5) ds) := VX_9.out.old g
  have UX_10 : Hid (Own w10 (w5.heap.size + 1) (.slice (some ⟨w5.heap.size + 1, 0, none⟩) xs.length xs.length) xs) := UX_9.out.old g
  have G_10 : Hid (Own w10 (w6.heap.size) (.slice aw7 zs.length capw7) zs) := G_9.out.old g
  clear HG_9 A_9 O_9 X_9 VX_9 UX_9 G_9
  have UB_10 : Hid (Own w10 (w9.heap.size) (.slice (some ⟨w9.heap.size, 0, none⟩) xs.length xs.length) xs) := by first | exact o | (simp at o; exact o)
  have DUB : Hid (∀ g, (Value.slice (some ⟨w9.heap.size, 0, none⟩) xs.length xs.length).ownBlock = some g → w9.heap.size ≤ g ∧ g < w10.heap.size) := fun g hg => UB_10.out.lt g hg
  clear g o
  go_wp2_with fail
  refine (eqInts_yes xs _ _ _ (Own.row UX_10.out) (Own.row UB_10.out) (by omega)).mono ?_
  rintro e w11 ⟨rfl, g⟩
  have hsw11 : w10.heap.size ≤ w11.heap.size := by have := g.size; (try simp at this); omega
  have HG_11 : Hid (Old w w11) := Old.trans HG_10.out g
  have A_11 : Hid (StW w11 w.heap.size (.bool n) (.slice cv ds.length capv) 51) := A_10.out.old g
  have O_11 : Hid (Own w11 (w3.heap.size) (.slice aw4 zs.length capw4) zs) := O_10.out.old g
  have X_11 : Hid (StW w11 w5.heap.size (.bool n) (.slice aw5 ds.length capw5) 25) := X_10.out.old g
  have VX_11 : Hid (Own w11 (w4.heap.size) (.slice aw5 ds.length capw5) ds) := VX_10.out.old g
  have UX_11 : Hid (Own w11 (w5.heap.size + 1) (.slice (some ⟨w5.heap.size + 1, 0, none⟩) xs.length xs.length) xs) := UX_10.out.old g
  have G_11 : Hid (Own w11 (w6.heap.size) (.slice aw7 zs.length capw7) zs) := G_10.out.old g
  have UB_11 : Hid (Own w11 (w9.heap.size) (.slice (some ⟨w9.heap.size, 0, none⟩) xs.length xs.length) xs) := UB_10.out.old g
  clear HG_10 A_10 O_10 X_10 VX_10 UX_10 G_10 UB_10
  clear g
  clear UB_11
  have zX0 := X_11.out.c0
  have zX1 := X_11.out.c1
  go_wp2_with fail
  refine (markWhole_any n ds _ 1 _ _ VX_11.out (by omega) (by omega) (by omega)).mono ?_
  rintro e w12 ⟨rfl, gm, om⟩
  have hsw12 : w11.heap.size ≤ w12.heap.size := by have := gm.size; (try simp at this); omega
  clear zX0 zX1
  clear VX_11
  have HG_12 : Hid (Old w w12) := Old.by_ HG_11.out gm (fun b hb => by have := DVX.out b hb; omega)
  have A_12 : Hid (StW w12 w.heap.size (.bool n) (.slice cv ds.length capv) 51) := A_11.out.byW_ gm (fun b hb hbk => by have := DVX.out b hb; omega)
  have O_12 : Hid (Own w12 (w3.heap.size) (.slice aw4 zs.length capw4) zs) := O_11.out.by_ gm (fun a b h1 h2 h3 => by have := DO.out a h1; have := DVX.out b h2; omega)
  have X_12 : Hid (StW w12 w5.heap.size (.bool n) (.slice aw5 ds.length capw5) 25) := X_11.out.byW_ gm (fun b hb hbk => by have := DVX.out b hb; omega)
  have UX_12 : Hid (Own w12 (w5.heap.size + 1) (.slice (some ⟨w5.heap.size + 1, 0, none⟩) xs.length xs.length) xs) := UX_11.out.by_ gm (fun a b h1 h2 h3 => by have := DUX.out a h1; have := DVX.out b h2; omega)
  have G_12 : Hid (Own w12 (w6.heap.size) (.slice aw7 zs.length capw7) zs) := G_11.out.by_ gm (fun a b h1 h2 h3 => by have := DG.out a h1; have := DVX.out b h2; omega)
  clear HG_11 A_11 O_11 X_11 UX_11 G_11
  have VX_12 : Hid (Own w12 (w4.heap.size) (.slice aw5 ds.length capw5) (marks 1 ds.length)) := om
  clear gm om
  go_wp2_with fail
  refine (markInts_any xs _ (1 + (ds.length : Int)) _ _ UX_12.out (by omega) (by omega) (by omega)).mono ?_
  rintro e w13 ⟨rfl, gm, om⟩
  have hsw13 : w12.heap.size ≤ w13.heap.size := by have := gm.size; (try simp at this); omega
  clear UX_12
  have HG_13 : Hid (Old w w13) := Old.by_ HG_12.out gm (fun b hb => by have := DUX.out b hb; omega)
  have A_13 : Hid (StW w13 w.heap.size (.bool n) (.slice cv ds.length capv) 51) := A_12.out.byW_ gm (fun b hb hbk => by have := DUX.out b hb; omega)
  have O_13 : Hid (Own w13 (w3.heap.size) (.slice aw4 zs.length capw4) zs) := O_12.out.by_ gm (fun a b h1 h2 h3 => by have := DO.out a h1; have := DUX.out b h2; omega)
  have X_13 : Hid (StW w13 w5.heap.size (.bool n) (.slice aw5 ds.length capw5) 25) := X_12.out.byW_ gm (fun b hb hbk => by have := DUX.out b hb; omega)
  have G_13 : Hid (Own w13 (w6.heap.size) (.slice aw7 zs.length capw7) zs) := G_12.out.by_ gm (fun a b h1 h2 h3 => by have := DG.out a h1; have := DUX.out b h2; omega)
  have VX_13 : Hid (Own w13 (w4.heap.size) (.slice aw5 ds.length capw5) (marks 1 ds.length)) := VX_12.out.by_ gm (fun a b h1 h2 h3 => by have := DVX.out a h1; have := DUX.out b h2; omega)
  clear HG_12 A_12 O_12 X_12 G_12 VX_12
  have UX_13 : Hid (Own w13 (w5.heap.size + 1) (.slice (some ⟨w5.heap.size + 1, 0, none⟩) xs.length xs.length) (marks (1 + (ds.length : Int)) xs.length)) := om
  clear gm om
  go_wp2_with fail
  refine (eqInts_yes zs _ _ _ (Own.row G_13.out) (Own.row O_13.out) (by omega)).mono ?_
  rintro e w14 ⟨rfl, g⟩
  have hsw14 : w13.heap.size ≤ w14.heap.size := by have := g.size; (try simp at this); omega
  have HG_14 : Hid (Old w w14) := Old.trans HG_13.out g
  have A_14 : Hid (StW w14 w.heap.size (.bool n) (.slice cv ds.length capv) 51) := A_13.out.old g
  have O_14 : Hid (Own w14 (w3.heap.size) (.slice aw4 zs.length capw4) zs) := O_13.out.old g
  have X_14 : Hid (StW w14 w5.heap.size (.bool n) (.slice aw5 ds.length capw5) 25) := X_13.out.old g
  have G_14 : Hid (Own w14 (w6.heap.size) (.slice aw7 zs.length capw7) zs) := G_13.out.old g
  have VX_14 : Hid (Own w14 (w4.heap.size) (.slice aw5 ds.length capw5) (marks 1 ds.length)) := VX_13.out.old g
  have UX_14 : Hid (Own w14 (w5.heap.size + 1) (.slice (some ⟨w5.heap.size + 1, 0, none⟩) xs.length xs.length) (marks (1 + (ds.length : Int)) xs.length)) := UX_13.out.old g
  clear HG_13 A_13 O_13 X_13 G_13 VX_13 UX_13
  clear g
  go_wp2_with fail
  refine (markInts_any zs _ 1 _ _ G_14.out (by omega) (by omega) (by omega)).mono ?_
  rintro e w15 ⟨rfl, gm, om⟩
  have hsw15 : w14.heap.size ≤ w15.heap.size := by have := gm.size; (try simp at this); omega
  clear G_14
  have HG_15 : Hid (Old w w15) := Old.by_ HG_14.out gm (fun b hb => by have := DG.out b hb; omega)
  have A_15 : Hid (StW w15 w.heap.size (.bool n) (.slice cv ds.length capv) 51) := A_14.out.byW_ gm (fun b hb hbk => by have := DG.out b hb; omega)
  have O_15 : Hid (Own w15 (w3.heap.size) (.slice aw4 zs.length capw4) zs) := O_14.out.by_ gm (fun a b h1 h2 h3 => by have := DO.out a h1; have := DG.out b h2; omega)
  have X_15 : Hid (StW w15 w5.heap.size (.bool n) (.slice aw5 ds.length capw5) 25) := X_14.out.byW_ gm (fun b hb hbk => by have := DG.out b hb; omega)
  have VX_15 : Hid (Own w15 (w4.heap.size) (.slice aw5 ds.length capw5) (marks 1 ds.length)) := VX_14.out.by_ gm (fun a b h1 h2 h3 => by have := DVX.out a h1; have := DG.out b h2; omega)
  have UX_15 : Hid (Own w15 (w5.heap.size + 1) (.slice (some ⟨w5.heap.size + 1, 0, none⟩) xs.length xs.length) (marks (1 + (ds.length : Int)) xs.length)) := UX_14.out.by_ gm (fun a b h1 h2 h3 => by have := DUX.out a h1; have := DG.out b h2; omega)
  clear HG_14 A_14 O_14 X_14 VX_14 UX_14
  have G_15 : Hid (Own w15 (w6.heap.size) (.slice aw7 zs.length capw7) (marks 1 zs.length)) := om
  clear gm om
  go_wp2_with fail
  refine (heldInts_yes zs.length _ 1 _ (Own.row G_15.out) (by omega) (by omega) (by omega)).mono ?_
  rintro e w16 ⟨rfl, g⟩
  have hsw16 : w15.heap.size ≤ w16.heap.size := by have := g.size; (try simp at this); omega
  have HG_16 : Hid (Old w w16) := Old.trans HG_15.out g
  have A_16 : Hid (StW w16 w.heap.size (.bool n) (.slice cv ds.length capv) 51) := A_15.out.old g
  have O_16 : Hid (Own w16 (w3.heap.size) (.slice aw4 zs.length capw4) zs) := O_15.out.old g
  have X_16 : Hid (StW w16 w5.heap.size (.bool n) (.slice aw5 ds.length capw5) 25) := X_15.out.old g
  have VX_16 : Hid (Own w16 (w4.heap.size) (.slice aw5 ds.length capw5) (marks 1 ds.length)) := VX_15.out.old g
  have UX_16 : Hid (Own w16 (w5.heap.size + 1) (.slice (some ⟨w5.heap.size + 1, 0, none⟩) xs.length xs.length) (marks (1 + (ds.length : Int)) xs.length)) := UX_15.out.old g
  have G_16 : Hid (Own w16 (w6.heap.size) (.slice aw7 zs.length capw7) (marks 1 zs.length)) := G_15.out.old g
  clear HG_15 A_15 O_15 X_15 VX_15 UX_15 G_15
  clear g
  have zA0 := A_16.out.c0
  have zA1 := A_16.out.c1
  go_wp2_with fail
  refine (toWhole_any n ds _ _ (RV.out.old HG_16.out) lv).mono ?_
  rintro e w17 ⟨vw17, rfl, g, o⟩
  obtain ⟨aw17, capw17, rfl⟩ := (Own.row o).slice
  have hsw17 : w16.heap.size ≤ w17.heap.size := by have := g.size; (try simp at this); omega
  clear zA0 zA1
  have HG_17 : Hid (Old w w17) := Old.trans HG_16.out g
  have A_17 : Hid (StW w17 w.heap.size (.bool n) (.slice cv ds.length capv) 51) := A_16.out.old g
  have O_17 : Hid (Own w17 (w3.heap.size) (.slice aw4 zs.length capw4) zs) := O_16.out.old g
  have X_17 : Hid (StW w17 w5.heap.size (.bool n) (.slice aw5 ds.length capw5) 25) := X_16.out.old g
  have VX_17 : Hid (Own w17 (w4.heap.size) (.slice aw5 ds.length capw5) (marks 1 ds.length)) := VX_16.out.old g
  have UX_17 : Hid (Own w17 (w5.heap.size + 1) (.slice (some ⟨w5.heap.size + 1, 0, none⟩) xs.length xs.length) (marks (1 + (ds.length : Int)) xs.length)) := UX_16.out.old g
  have G_17 : Hid (Own w17 (w6.heap.size) (.slice aw7 zs.length capw7) (marks 1 zs.length)) := G_16.out.old g
  clear HG_16 A_16 O_16 X_16 VX_16 UX_16 G_16
  have VC_17 : Hid (Own w17 (w16.heap.size) (.slice aw17 ds.length capw17) ds) := Own.low o (base' := w16.heap.size) (by simp)
  have DVC : Hid (∀ g, (Value.slice aw17 ds.length capw17).ownBlock = some g → w16.heap.size ≤ g ∧ g < w17.heap.size) := fun g hg => by have := o.lt g hg; (try simp at this); omega
  clear g o
  go_wp2_with fail
  refine (toInts_any xs _ _ (RU.out.old HG_17.out) lu).mono ?_
  rintro e w18 ⟨rfl, g, o⟩
  have hsw18 : w17.heap.size ≤ w18.heap.size := by have := g.size; (try simp at this); omega
  have hbw18 : w17.heap.size < w18.heap.size := by have := own_lt o; (try simp at this); omega
  have HG_18 : Hid (Old w w18) := Old.trans HG_17.out g
  have A_18 : Hid (StW w18 w.heap.size (.bool n) (.slice cv ds.length capv) 51) := A_17.out.old g
  have O_18 : Hid (Own w18 (w3.heap.size) (.slice aw4 zs.length capw4) zs) := O_17.out.old g
  have X_18 : Hid (StW w18 w5.heap.size (.bool n) (.slice aw5 ds.length capw5) 25) := X_17.out.old g
  have VX_18 : Hid (Own w18 (w4.heap.size) (.slice aw5 ds.length capw5) (marks 1 ds.length)) := VX_17.out.old g
  have UX_18 : Hid (Own w18 (w5.heap.size + 1) (.slice (some ⟨w5.heap.size + 1, 0, none⟩) xs.length xs.length) (marks (1 + (ds.length : Int)) xs.length)) := UX_17.out.old g
  have G_18 : Hid (Own w18 (w6.heap.size) (.slice aw7 zs.length capw7) (marks 1 zs.length)) := G_17.out.old g
  have VC_18 : Hid (Own w18 (w16.heap.size) (.slice aw17 ds.length capw17) ds) := VC_17.out.old g
  clear HG_17 A_17 O_17 X_17 VX_17 UX_17 G_17 VC_17
  have UC_18 : Hid (Own w18 (w17.heap.size) (.slice (some ⟨w17.heap.size, 0, none⟩) xs.length xs.length) xs) := by first | exact o | (simp at o; exact o)
  have DUC : Hid (∀ g, (Value.slice (some ⟨w17.heap.size, 0, none⟩) xs.length xs.length).ownBlock = some g → w17.heap.size ≤ g ∧ g < w18.heap.size) := fun g hg => UC_18.out.lt g hg
  clear g o
  go_wp2_with fail
  refine (IM.out _ _ _ (HP.out.old HG_18.out) (HT.out.old HG_18.out) (Own.row VC_18.out) (Own.row UC_18.out) (Nat.le_refl _)).mono ?_
  rintro e w19 ⟨vw19, rfl, g, o⟩
  obtain ⟨aw19, capw19, rfl⟩ := (Own.row o).slice
  have hsw19 : w18.heap.size ≤ w19.heap.size := by have := g.size; (try simp at this); omega
  have HG_19 : Hid (Old w w19) := Old.trans HG_18.out g
  have A_19 : Hid (StW w19 w.heap.size (.bool n) (.slice cv ds.length capv) 51) := A_18.out.old g
  have O_19 : Hid (Own w19 (w3.heap.size) (.slice aw4 zs.length capw4) zs) := O_18.out.old g
  have X_19 : Hid (StW w19 w5.heap.size (.bool n) (.slice aw5 ds.length capw5) 25) := X_18.out.old g
  have VX_19 : Hid (Own w19 (w4.heap.size) (.slice aw5 ds.length capw5) (marks 1 ds.length)) := VX_18.out.old g
  have UX_19 : Hid (Own w19 (w5.heap.size + 1) (.slice (some ⟨w5.heap.size + 1, 0, none⟩) xs.length xs.length) (marks (1 + (ds.length : Int)) xs.length)) := UX_18.out.old g
  have G_19 : Hid (Own w19 (w6.heap.size) (.slice aw7 zs.length capw7) (marks 1 zs.length)) := G_18.out.old g
  have VC_19 : Hid (Own w19 (w16.heap.size) (.slice aw17 ds.length capw17) ds) := VC_18.out.old g
  have UC_19 : Hid (Own w19 (w17.heap.size) (.slice (some ⟨w17.heap.size, 0, none⟩) xs.length xs.length) xs) := UC_18.out.old g
  clear HG_18 A_18 O_18 X_18 VX_18 UX_18 G_18 VC_18 UC_18
  have H_19 : Hid (Own w19 (w18.heap.size) (.slice aw19 zs.length capw19) zs) := Own.low o (base' := w18.heap.size) (by simp)
  have DH : Hid (∀ g, (Value.slice aw19 zs.length capw19).ownBlock = some g → w18.heap.size ≤ g ∧ g < w19.heap.size) := fun g hg => by have := o.lt g hg; (try simp at this); omega
  clear g o
  go_wp2_with fail
  refine (eqInts_yes zs _ _ _ (Own.row H_19.out) (Own.row O_19.out) (by omega)).mono ?_
  rintro e w20 ⟨rfl, g⟩
  have hsw20 : w19.heap.size ≤ w20.heap.size := by have := g.size; (try simp at this); omega
  have HG_20 : Hid (Old w w20) := Old.trans HG_19.out g
  have A_20 : Hid (StW w20 w.heap.size (.bool n) (.slice cv ds.length capv) 51) := A_19.out.old g
  have O_20 : Hid (Own w20 (w3.heap.size) (.slice aw4 zs.length capw4) zs) := O_19.out.old g
  have X_20 : Hid (StW w20 w5.heap.size (.bool n) (.slice aw5 ds.length capw5) 25) := X_19.out.old g
  have VX_20 : Hid (Own w20 (w4.heap.size) (.slice aw5 ds.length capw5) (marks 1 ds.length)) := VX_19.out.old g
  have UX_20 : Hid (Own w20 (w5.heap.size + 1) (.slice (some ⟨w5.heap.size + 1, 0, none⟩) xs.length xs.length) (marks (1 + (ds.length : Int)) xs.length)) := UX_19.out.old g
  have G_20 : Hid (Own w20 (w6.heap.size) (.slice aw7 zs.length capw7) (marks 1 zs.length)) := G_19.out.old g
  have VC_20 : Hid (Own w20 (w16.heap.size) (.slice aw17 ds.length capw17) ds) := VC_19.out.old g
  have UC_20 : Hid (Own w20 (w17.heap.size) (.slice (some ⟨w17.heap.size, 0, none⟩) xs.length xs.length) xs) := UC_19.out.old g
  have H_20 : Hid (Own w20 (w18.heap.size) (.slice aw19 zs.length capw19) zs) := H_19.out.old g
  clear HG_19 A_19 O_19 X_19 VX_19 UX_19 G_19 VC_19 UC_19 H_19
  clear g
  go_wp2_with fail
  refine (heldInts_yes zs.length _ 1 _ (Own.row G_20.out) (by omega) (by omega) (by omega)).mono ?_
  rintro e w21 ⟨rfl, g⟩
  have hsw21 : w20.heap.size ≤ w21.heap.size := by have := g.size; (try simp at this); omega
  have HG_21 : Hid (Old w w21) := Old.trans HG_20.out g
  have A_21 : Hid (StW w21 w.heap.size (.bool n) (.slice cv ds.length capv) 51) := A_20.out.old g
  have O_21 : Hid (Own w21 (w3.heap.size) (.slice aw4 zs.length capw4) zs) := O_20.out.old g
  have X_21 : Hid (StW w21 w5.heap.size (.bool n) (.slice aw5 ds.length capw5) 25) := X_20.out.old g
  have VX_21 : Hid (Own w21 (w4.heap.size) (.slice aw5 ds.length capw5) (marks 1 ds.length)) := VX_20.out.old g
  have UX_21 : Hid (Own w21 (w5.heap.size + 1) (.slice (some ⟨w5.heap.size + 1, 0, none⟩) xs.length xs.length) (marks (1 + (ds.length : Int)) xs.length)) := UX_20.out.old g
  have G_21 : Hid (Own w21 (w6.heap.size) (.slice aw7 zs.length capw7) (marks 1 zs.length)) := G_20.out.old g
  have VC_21 : Hid (Own w21 (w16.heap.size) (.slice aw17 ds.length capw17) ds) := VC_20.out.old g
  have UC_21 : Hid (Own w21 (w17.heap.size) (.slice (some ⟨w17.heap.size, 0, none⟩) xs.length xs.length) xs) := UC_20.out.old g
  have H_21 : Hid (Own w21 (w18.heap.size) (.slice aw19 zs.length capw19) zs) := H_20.out.old g
  clear HG_20 A_20 O_20 X_20 VX_20 UX_20 G_20 VC_20 UC_20 H_20
  clear g
  go_wp2_with fail
  go_ret
  exact ⟨rfl, HG_21.out⟩
end Go.Proofs.YtplaaglckbfklaaDoor
