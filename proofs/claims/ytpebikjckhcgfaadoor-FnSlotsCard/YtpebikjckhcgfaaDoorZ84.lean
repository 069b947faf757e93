/- Proved: several texts in one: what each proves is said ahead of it. -/
import Derived.Test.YtpebikjckhcgfaaDoorZ12
/- Proved: the walk of the statement on EncodeSlots, under the contracts of the model's and of the program's function. -/
namespace Go.Proofs.YtpebikjckhcgfaaDoor
open Go.ChangeShapes Go.WideShapes Go.ChangeAt Go.RowKit
open M1
set_option linter.unusedVariables false
set_option linter.unusedSimpArgs false
set_option maxRecDepth 100000 in
set_option maxHeartbeats 8000000 in
theorem law_EncodeSlots (t s : Int) (xs : List Int) (v : Value) (w : World) (hv : Row w v xs) (hlv : xs.length ≤ 9223372036854775807) (hP : PrsW w) (hT : TabW w) (ok : Bool) (zs : List Int) (hz : zs.length ≤ 1000)
    (hspec : xs.length ≤ 1048576 → ∀ v W, Row W v xs → Fit v → Calls Tryd.prog 17 #[.int .i64 t, .int .i64 s, v] W fun e w' => ∃ v', e = .returned (.tuple #[v', .bool ok]) ∧ Old W w' ∧ Own w' W.heap.size v' zs)
    (himpl : xs.length ≤ 1048576 → ∀ v W, PrsW W → TabW W → Row W v xs → Fit v → Calls Tryd.prog 16 #[.int .i64 t, .int .i64 s, v] W fun e w' => ∃ v', e = .returned (.tuple #[v', .bool ok]) ∧ Old W w' ∧ Own w' W.heap.size v' zs) :
    Calls Tryd.prog 6 #[.int .i64 t, .int .i64 s, v] w fun e w' => e = .returned (.bool true) ∧ Old w w' := by
  have HP : Hid (PrsW w) := hP
  have HT : Hid (TabW w) := hT
  have Rv : Hid (Row w v xs) := hv
  obtain ⟨cv, capv, rfl⟩ := hv.slice
  clear hT hP hv
  by_cases bigv : (1048576 : Int) < (xs.length : Int)
  · have dv : decide ((1048576 : Int) < (xs.length : Int)) = true := decide_eq_true bigv
    clear hspec himpl
    go_enter Tryd.func6, Tryd.ntmps6
    go_wp2_with fail
    go_ret
    exact ⟨rfl, by repeat (first | exact Old.refl _ | apply Old.alloc)⟩
  have dv : decide ((1048576 : Int) < (xs.length : Int)) = false := decide_eq_false bigv
  have lv : xs.length ≤ 1048576 := by omega
  have SP : Hid (∀ v W, Row W v xs → Fit v → Calls Tryd.prog 17 #[.int .i64 t, .int .i64 s, v] W fun e w' => ∃ v', e = .returned (.tuple #[v', .bool ok]) ∧ Old W w' ∧ Own w' W.heap.size v' zs) := hspec lv
  have IM : Hid (∀ v W, PrsW W → TabW W → Row W v xs → Fit v → Calls Tryd.prog 16 #[.int .i64 t, .int .i64 s, v] W fun e w' => ∃ v', e = .returned (.tuple #[v', .bool ok]) ∧ Old W w' ∧ Own w' W.heap.size v' zs) := himpl lv
  have dok : (ok != ok) = false := by simp
  have dq : decide ((1 : Int) + (zs.length : Int) < 0) = false := decide_eq_false (by omega)
  have dqm : ((1 : Int) + (zs.length : Int) != 1 + (zs.length : Int)) = false := by simp
  have dk : decide ((1 : Int) + (xs.length : Int) < 0) = false := decide_eq_false (by omega)
  clear hspec himpl bigv
  go_enter Tryd.func6, Tryd.ntmps6
  have HG_0 : Hid (Old w w) := Old.refl w
  go_wp2_with fail
  refine (toInts_any xs _ _ (Rv.out.old HG_0.out) lv).mono ?_
  rintro e w1 ⟨rfl, g, o⟩
  have hsw1 : w.heap.size ≤ w1.heap.size := g.size
  have hbw1 : w.heap.size < w1.heap.size := own_lt o
  have HG_1 : Hid (Old w w1) := Old.trans HG_0.out g
  clear HG_0
  have Av_1 : Hid (Own w1 w.heap.size (.slice (some ⟨w.heap.size, 0, none⟩) xs.length xs.length) xs) := o
  have DAv : Hid (∀ g, (Value.slice (some ⟨w.heap.size, 0, none⟩) xs.length xs.length).ownBlock = some g → w.heap.size ≤ g ∧ g < w1.heap.size) := fun g hg => by have := o.lt g hg; exact this
  clear g o
  go_wp2_with fail
  refine (SP.out _ _ (Own.row Av_1.out) (Nat.le_refl _)).mono ?_
  rintro e w2 ⟨vw2, rfl, g, o⟩
  obtain ⟨aw2, capw2, rfl⟩ := (Own.row o).slice
  have hsw2 : w1.heap.size ≤ w2.heap.size := g.size
  have HG_2 : Hid (Old w w2) := Old.trans HG_1.out g
  have Av_2 : Hid (Own w2 w.heap.size (.slice (some ⟨w.heap.size, 0, none⟩) xs.length xs.length) xs) := Av_1.out.old g
  clear HG_1 Av_1
  have O_2 : Hid (Own w2 w1.heap.size (.slice aw2 zs.length capw2) zs) := o
  have DO : Hid (∀ g, (Value.slice aw2 zs.length capw2).ownBlock = some g → w1.heap.size ≤ g ∧ g < w2.heap.size) := fun g hg => by have := o.lt g hg; exact this
  clear g o
  clear Av_2
  go_wp2_with fail
  refine (toInts_any xs _ _ (Rv.out.old HG_2.out) lv).mono ?_
  rintro e w3 ⟨rfl, g, o⟩
  have hsw3 : w2.heap.size ≤ w3.heap.size := g.size
  have hbw3 : w2.heap.size < w3.heap.size := own_lt o
  have HG_3 : Hid (Old w w3) := Old.trans HG_2.out g
  have O_3 : Hid (Own w3 w1.heap.size (.slice aw2 zs.length capw2) zs) := O_2.out.old g
  clear HG_2 O_2
  have Xv_3 : Hid (Own w3 w2.heap.size (.slice (some ⟨w2.heap.size, 0, none⟩) xs.length xs.length) xs) := o
  have DXv : Hid (∀ g, (Value.slice (some ⟨w2.heap.size, 0, none⟩) xs.length xs.length).ownBlock = some g → w2.heap.size ≤ g ∧ g < w3.heap.size) := fun g hg => by have := o.lt g hg; exact this
  clear g o
  go_wp2_with fail
  refine (IM.out _ _ (HP.out.old HG_3.out) (HT.out.old HG_3.out) (Own.row Xv_3.out) (Nat.le_refl _)).mono ?_
  rintro e w4 ⟨vw4, rfl, g, o⟩
  obtain ⟨aw4, capw4, rfl⟩ := (Own.row o).slice
  have hsw4 : w3.heap.size ≤ w4.heap.size := g.size
  have HG_4 : Hid (Old w w4) := Old.trans HG_3.out g
  have O_4 : Hid (Own w4 w1.heap.size (.slice aw2 zs.length capw2) zs) := O_3.out.old g
  have Xv_4 : Hid (Own w4 w2.heap.size (.slice (some ⟨w2.heap.size, 0, none⟩) xs.length xs.length) xs) := Xv_3.out.old g
  clear HG_3 O_3 Xv_3
  have G_4 : Hid (Own w4 w3.heap.size (.slice aw4 zs.length capw4) zs) := o
  have DG : Hid (∀ g, (Value.slice aw4 zs.length capw4).ownBlock = some g → w3.heap.size ≤ g ∧ g < w4.heap.size) := fun g hg => by have := o.lt g hg; exact this
  clear g o
  go_wp2_with fail
  refine (eqInts_yes zs _ _ _ (Own.row G_4.out) (Own.row O_4.out) (by omega)).mono ?_
  rintro e w5 ⟨rfl, g⟩
  have hsw5 : w4.heap.size ≤ w5.heap.size := g.size
  have HG_5 : Hid (Old w w5) := Old.trans HG_4.out g
  have O_5 : Hid (Own w5 w1.heap.size (.slice aw2 zs.length capw2) zs) := O_4.out.old g
  have Xv_5 : Hid (Own w5 w2.heap.size (.slice (some ⟨w2.heap.size, 0, none⟩) xs.length xs.length) xs) := Xv_4.out.old g
  have G_5 : Hid (Own w5 w3.heap.size (.slice aw4 zs.length capw4) zs) := G_4.out.old g
  clear HG_4 O_4 Xv_4 G_4
  clear g
  go_wp2_with fail
  refine (toInts_any xs _ _ (Rv.out.old HG_5.out) lv).mono ?_
  rintro e w6 ⟨rfl, g, o⟩
  have hsw6 : w5.heap.size ≤ w6.heap.size := g.size
  have hbw6 : w5.heap.size < w6.heap.size := own_lt o
  have HG_6 : Hid (Old w w6) := Old.trans HG_5.out g
  have O_6 : Hid (Own w6 w1.heap.size (.slice aw2 zs.length capw2) zs) := O_5.out.old g
  have Xv_6 : Hid (Own w6 w2.heap.size (.slice (some ⟨w2.heap.size, 0, none⟩) xs.length xs.length) xs) := Xv_5.out.old g
  have G_6 : Hid (Own w6 w3.heap.size (.slice aw4 zs.length capw4) zs) := G_5.out.old g
  clear HG_5 O_5 Xv_5 G_5
  have Bv_6 : Hid (Own w6 w5.heap.size (.slice (some ⟨w5.heap.size, 0, none⟩) xs.length xs.length) xs) := o
  have DBv : Hid (∀ g, (Value.slice (some ⟨w5.heap.size, 0, none⟩) xs.length xs.length).ownBlock = some g → w5.heap.size ≤ g ∧ g < w6.heap.size) := fun g hg => by have := o.lt g hg; exact this
  clear g o
  go_wp2_with fail
  refine (eqInts_yes xs _ _ _ (Own.row Xv_6.out) (Own.row Bv_6.out) (by omega)).mono ?_
  rintro e w7 ⟨rfl, g⟩
  have hsw7 : w6.heap.size ≤ w7.heap.size := g.size
  have HG_7 : Hid (Old w w7) := Old.trans HG_6.out g
  have O_7 : Hid (Own w7 w1.heap.size (.slice aw2 zs.length capw2) zs) := O_6.out.old g
  have Xv_7 : Hid (Own w7 w2.heap.size (.slice (some ⟨w2.heap.size, 0, none⟩) xs.length xs.length) xs) := Xv_6.out.old g
  have G_7 : Hid (Own w7 w3.heap.size (.slice aw4 zs.length capw4) zs) := G_6.out.old g
  have Bv_7 : Hid (Own w7 w5.heap.size (.slice (some ⟨w5.heap.size, 0, none⟩) xs.length xs.length) xs) := Bv_6.out.old g
  clear HG_6 O_6 Xv_6 G_6 Bv_6
  clear g
  clear Bv_7
  go_wp2_with fail
  refine (markInts_any xs _ 1 _ _ Xv_7.out (by omega) (by omega) (by omega)).mono ?_
  rintro e w8 ⟨rfl, gm, om⟩
  have hsw8 : w7.heap.size ≤ w8.heap.size := gm.size
  clear Xv_7
  have HG_8 : Hid (Old w w8) := Old.by_ HG_7.out gm (fun b hb => by have := DXv.out b hb; omega)
  have O_8 : Hid (Own w8 w1.heap.size (.slice aw2 zs.length capw2) zs) := O_7.out.by_ gm (fun a b h1 h2 h3 => by have := DO.out a h1; have := DXv.out b h2; omega)
  have G_8 : Hid (Own w8 w3.heap.size (.slice aw4 zs.length capw4) zs) := G_7.out.by_ gm (fun a b h1 h2 h3 => by have := DG.out a h1; have := DXv.out b h2; omega)
  clear HG_7 O_7 G_7
  have Xv_8 : Hid (Own w8 w2.heap.size (.slice (some ⟨w2.heap.size, 0, none⟩) xs.length xs.length) (marks 1 xs.length)) := om
  clear gm om
  go_wp2_with fail
  refine (eqInts_yes zs _ _ _ (Own.row G_8.out) (Own.row O_8.out) (by omega)).mono ?_
  rintro e w9 ⟨rfl, g⟩
  have hsw9 : w8.heap.size ≤ w9.heap.size := g.size
  have HG_9 : Hid (Old w w9) := Old.trans HG_8.out g
  have O_9 : Hid (Own w9 w1.heap.size (.slice aw2 zs.length capw2) zs) := O_8.out.old g
  have G_9 : Hid (Own w9 w3.heap.size (.slice aw4 zs.length capw4) zs) := G_8.out.old g
  have Xv_9 : Hid (Own w9 w2.heap.size (.slice (some ⟨w2.heap.size, 0, none⟩) xs.length xs.length) (marks 1 xs.length)) := Xv_8.out.old g
  clear HG_8 O_8 G_8 Xv_8
  clear g
  go_wp2_with fail
  refine (markInts_any zs _ 1 _ _ G_9.out (by omega) (by omega) (by omega)).mono ?_
  rintro e w10 ⟨rfl, gm, om⟩
  have hsw10 : w9.heap.size ≤ w10.heap.size := gm.size
  clear G_9
  have HG_10 : Hid (Old w w10) := Old.by_ HG_9.out gm (fun b hb => by have := DG.out b hb; omega)
  have O_10 : Hid (Own w10 w1.heap.size (.slice aw2 zs.length capw2) zs) := O_9.out.by_ gm (fun a b h1 h2 h3 => by have := DO.out a h1; have := DG.out b h2; omega)
  have Xv_10 : Hid (Own w10 w2.heap.size (.slice (some ⟨w2.heap.size, 0, none⟩) xs.length xs.length) (marks 1 xs.length)) := Xv_9.out.by_ gm (fun a b h1 h2 h3 => by have := DXv.out a h1; have := DG.out b h2; omega)
  clear HG_9 O_9 Xv_9
  have G_10 : Hid (Own w10 w3.heap.size (.slice aw4 zs.length capw4) (marks 1 zs.length)) := om
  clear gm om
  go_wp2_with fail
  refine (heldInts_yes zs.length _ 1 _ (Own.row G_10.out) (by omega) (by omega) (by omega)).mono ?_
  rintro e w11 ⟨rfl, g⟩
  have hsw11 : w10.heap.size ≤ w11.heap.size := g.size
  have HG_11 : Hid (Old w w11) := Old.trans HG_10.out g
  have O_11 : Hid (Own w11 w1.heap.size (.slice aw2 zs.length capw2) zs) := O_10.out.old g
  have Xv_11 : Hid (Own w11 w2.heap.size (.slice (some ⟨w2.heap.size, 0, none⟩) xs.length xs.length) (marks 1 xs.length)) := Xv_10.out.old g
  have G_11 : Hid (Own w11 w3.heap.size (.slice aw4 zs.length capw4) (marks 1 zs.length)) := G_10.out.old g
  clear HG_10 O_10 Xv_10 G_10
  clear g
  go_wp2_with fail
  refine (toInts_any xs _ _ (Rv.out.old HG_11.out) lv).mono ?_
  rintro e w12 ⟨rfl, g, o⟩
  have hsw12 : w11.heap.size ≤ w12.heap.size := g.size
  have hbw12 : w11.heap.size < w12.heap.size := own_lt o
  have HG_12 : Hid (Old w w12) := Old.trans HG_11.out g
  have O_12 : Hid (Own w12 w1.heap.size (.slice aw2 zs.length capw2) zs) := O_11.out.old g
  have Xv_12 : Hid (Own w12 w2.heap.size (.slice (some ⟨w2.heap.size, 0, none⟩) xs.length xs.length) (marks 1 xs.length)) := Xv_11.out.old g
  have G_12 : Hid (Own w12 w3.heap.size (.slice aw4 zs.length capw4) (marks 1 zs.length)) := G_11.out.old g
  clear HG_11 O_11 Xv_11 G_11
  have Cv_12 : Hid (Own w12 w11.heap.size (.slice (some ⟨w11.heap.size, 0, none⟩) xs.length xs.length) xs) := o
  have DCv : Hid (∀ g, (Value.slice (some ⟨w11.heap.size, 0, none⟩) xs.length xs.length).ownBlock = some g → w11.heap.size ≤ g ∧ g < w12.heap.size) := fun g hg => by have := o.lt g hg; exact this
  clear g o
  go_wp2_with fail
  refine (IM.out _ _ (HP.out.old HG_12.out) (HT.out.old HG_12.out) (Own.row Cv_12.out) (Nat.le_refl _)).mono ?_
  rintro e w13 ⟨vw13, rfl, g, o⟩
  obtain ⟨aw13, capw13, rfl⟩ := (Own.row o).slice
  have hsw13 : w12.heap.size ≤ w13.heap.size := g.size
  have HG_13 : Hid (Old w w13) := Old.trans HG_12.out g
  have O_13 : Hid (Own w13 w1.heap.size (.slice aw2 zs.length capw2) zs) := O_12.out.old g
  have Xv_13 : Hid (Own w13 w2.heap.size (.slice (some ⟨w2.heap.size, 0, none⟩) xs.length xs.length) (marks 1 xs.length)) := Xv_12.out.old g
  have G_13 : Hid (Own w13 w3.heap.size (.slice aw4 zs.length capw4) (marks 1 zs.length)) := G_12.out.old g
  have Cv_13 : Hid (Own w13 w11.heap.size (.slice (some ⟨w11.heap.size, 0, none⟩) xs.length xs.length) xs) := Cv_12.out.old g
  clear HG_12 O_12 Xv_12 G_12 Cv_12
  have H_13 : Hid (Own w13 w12.heap.size (.slice aw13 zs.length capw13) zs) := o
  have DH : Hid (∀ g, (Value.slice aw13 zs.length capw13).ownBlock = some g → w12.heap.size ≤ g ∧ g < w13.heap.size) := fun g hg => by have := o.lt g hg; exact this
  clear g o
  go_wp2_with fail
  refine (eqInts_yes zs _ _ _ (Own.row H_13.out) (Own.row O_13.out) (by omega)).mono ?_
  rintro e w14 ⟨rfl, g⟩
  have hsw14 : w13.heap.size ≤ w14.heap.size := g.size
  have HG_14 : Hid (Old w w14) := Old.trans HG_13.out g
  have O_14 : Hid (Own w14 w1.heap.size (.slice aw2 zs.length capw2) zs) := O_13.out.old g
  have Xv_14 : Hid (Own w14 w2.heap.size (.slice (some ⟨w2.heap.size, 0, none⟩) xs.length xs.length) (marks 1 xs.length)) := Xv_13.out.old g
  have G_14 : Hid (Own w14 w3.heap.size (.slice aw4 zs.length capw4) (marks 1 zs.length)) := G_13.out.old g
  have Cv_14 : Hid (Own w14 w11.heap.size (.slice (some ⟨w11.heap.size, 0, none⟩) xs.length xs.length) xs) := Cv_13.out.old g
  have H_14 : Hid (Own w14 w12.heap.size (.slice aw13 zs.length capw13) zs) := H_13.out.old g
  clear HG_13 O_13 Xv_13 G_13 Cv_13 H_13
  clear g
  go_wp2_with fail
  refine (heldInts_yes zs.length _ 1 _ (Own.row G_14.out) (by omega) (by omega) (by omega)).mono ?_
  rintro e w15 ⟨rfl, g⟩
  have hsw15 : w14.heap.size ≤ w15.heap.size := g.size
  have HG_15 : Hid (Old w w15) := Old.trans HG_14.out g
  have O_15 : Hid (Own w15 w1.heap.size (.slice aw2 zs.length capw2) zs) := O_14.out.old g
  have Xv_15 : Hid (Own w15 w2.heap.size (.slice (some ⟨w2.heap.size, 0, none⟩) xs.length xs.length) (marks 1 xs.length)) := Xv_14.out.old g
  have G_15 : Hid (Own w15 w3.heap.size (.slice aw4 zs.length capw4) (marks 1 zs.length)) := G_14.out.old g
  have Cv_15 : Hid (Own w15 w11.heap.size (.slice (some ⟨w11.heap.size, 0, none⟩) xs.length xs.length) xs) := Cv_14.out.old g
  have H_15 : Hid (Own w15 w12.heap.size (.slice aw13 zs.length capw13) zs) := H_14.out.old g
  clear HG_14 O_14 Xv_14 G_14 Cv_14 H_14
  clear g
  go_wp2_with fail
  go_ret
  exact ⟨rfl, HG_15.out⟩
end Go.Proofs.YtpebikjckhcgfaaDoor
