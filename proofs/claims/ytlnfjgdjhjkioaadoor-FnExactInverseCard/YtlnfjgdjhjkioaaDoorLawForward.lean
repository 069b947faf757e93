/- Proved: the walk of the statement on Forward, under the contracts of the model's and of the program's function. -/
import Derived.Test.YtlnfjgdjhjkioaaDoorKB
namespace Go.Proofs.YtlnfjgdjhjkioaaDoor
open Go.ChangeShapes Go.WideShapes Go.ChangeAt Go.RowKit
open M1
set_option linter.unusedVariables false
set_option linter.unusedSimpArgs false
set_option maxRecDepth 100000 in
set_option maxHeartbeats 8000000 in
theorem law_Forward (p n r : Int) (xs : List Int) (v : Value) (w : World) (hv : Row w v xs) (hlv : xs.length ≤ 9223372036854775807) (hP : PrsW w) (hT : TabW w) (ok : Bool) (zs : List Int) (hz : zs.length ≤ 1000)
    (hspec : xs.length ≤ 1048576 → ∀ v W, Row W v xs → Calls Tryd.prog 8 #[.agg #[.int .i64 p, .int .i64 n, .int .i64 r], v] W fun e w' => ∃ v', e = .returned (.tuple #[v', .bool ok]) ∧ Old W w' ∧ Own w' W.heap.size v' zs)
    (himpl : xs.length ≤ 1048576 → ∀ v W, PrsW W → TabW W → Row W v xs → Calls Tryd.prog 11 #[.agg #[.int .i64 p, .int .i64 n, .int .i64 r], v] W fun e w' => ∃ v', e = .returned (.tuple #[v', .bool ok]) ∧ Old W w' ∧ Own w' W.heap.size v' zs) :
    Calls Tryd.prog 3 #[.agg #[.int .i64 p, .int .i64 n, .int .i64 r], v] w fun e w' => e = .returned (.bool true) ∧ Old w w' := by
  have HP : Hid (PrsW w) := hP
  have HT : Hid (TabW w) := hT
  have Rv : Hid (Row w v xs) := hv
  obtain ⟨cv, capv, rfl⟩ := hv.slice
  clear hT hP hv
  by_cases bigv : (1048576 : Int) < (xs.length : Int)
  · have dv : decide ((1048576 : Int) < (xs.length : Int)) = true := decide_eq_true bigv
    clear hspec himpl
    go_enter Tryd.func3, Tryd.ntmps3
    go_wp2_with fail
    go_ret
    exact ⟨rfl, by repeat (first | exact Old.refl _ | apply Old.alloc)⟩
  have dv : decide ((1048576 : Int) < (xs.length : Int)) = false := decide_eq_false bigv
  have lv : xs.length ≤ 1048576 := by omega
  have SP : Hid (∀ v W, Row W v xs → Calls Tryd.prog 8 #[.agg #[.int .i64 p, .int .i64 n, .int .i64 r], v] W fun e w' => ∃ v', e = .returned (.tuple #[v', .bool ok]) ∧ Old W w' ∧ Own w' W.heap.size v' zs) := hspec lv
  have IM : Hid (∀ v W, PrsW W → TabW W → Row W v xs → Calls Tryd.prog 11 #[.agg #[.int .i64 p, .int .i64 n, .int .i64 r], v] W fun e w' => ∃ v', e = .returned (.tuple #[v', .bool ok]) ∧ Old W w' ∧ Own w' W.heap.size v' zs) := himpl lv
  have dok : (ok != ok) = false := by simp
  have dq : decide ((1 : Int) + (zs.length : Int) < 0) = false := decide_eq_false (by omega)
  have dqm : ((1 : Int) + (zs.length : Int) != 1 + (zs.length : Int)) = false := by simp
  have dk : decide ((1 : Int) + (xs.length : Int) < 0) = false := decide_eq_false (by omega)
  clear hspec himpl bigv
  go_enter Tryd.func3, Tryd.ntmps3
  have HG_0 : Hid (Old w (w.alloc (.cells #[.int .i64 p, .int .i64 n, .int .i64 r] 23))) := (Old.refl w).alloc _
  have hs0 : w.heap.size < (w.alloc (.cells #[.int .i64 p, .int .i64 n, .int .i64 r] 23)).heap.size := by simp
  have RC_0 : Hid (Rc (w.alloc (.cells #[.int .i64 p, .int .i64 n, .int .i64 r] 23)) w.heap.size p n r) := Rc.new w p n r
  have z0 := RC_0.out.c0
  have z1 := RC_0.out.c1
  have z2 := RC_0.out.c2
  go_wp2_with fail
  refine (toRing_any _ _ _ _).mono ?_
  rintro e w1 ⟨rfl, g⟩
  have hsw1 : (w.alloc (.cells #[.int .i64 p, .int .i64 n, .int .i64 r] 23)).heap.size ≤ w1.heap.size := g.size
  have HG_1 : Hid (Old w w1) := Old.trans HG_0.out g
  have RC_1 : Hid (Rc w1 w.heap.size p n r) := RC_0.out.old g
  clear HG_0 RC_0
  clear g
  clear z0 z1 z2
  go_wp2_with fail
  refine (toInts_any xs _ _ (Rv.out.old HG_1.out) lv).mono ?_
  rintro e w2 ⟨rfl, g, o⟩
  have hsw2 : w1.heap.size ≤ w2.heap.size := g.size
  have hbw2 : w1.heap.size < w2.heap.size := own_lt o
  have HG_2 : Hid (Old w w2) := Old.trans HG_1.out g
  have RC_2 : Hid (Rc w2 w.heap.size p n r) := RC_1.out.old g
  clear HG_1 RC_1
  have Av_2 : Hid (Own w2 w1.heap.size (.slice (some ⟨w1.heap.size, 0, none⟩) xs.length xs.length) xs) := o
  have DAv : Hid (∀ g, (Value.slice (some ⟨w1.heap.size, 0, none⟩) xs.length xs.length).ownBlock = some g → w1.heap.size ≤ g ∧ g < w2.heap.size) := fun g hg => by have := o.lt g hg; exact this
  clear g o
  go_wp2_with fail
  refine (SP.out _ _ (Own.row Av_2.out)).mono ?_
  rintro e w3 ⟨vw3, rfl, g, o⟩
  obtain ⟨aw3, capw3, rfl⟩ := (Own.row o).slice
  have hsw3 : w2.heap.size ≤ w3.heap.size := g.size
  have HG_3 : Hid (Old w w3) := Old.trans HG_2.out g
  have RC_3 : Hid (Rc w3 w.heap.size p n r) := RC_2.out.old g
  have Av_3 : Hid (Own w3 w1.heap.size (.slice (some ⟨w1.heap.size, 0, none⟩) xs.length xs.length) xs) := Av_2.out.old g
  clear HG_2 RC_2 Av_2
  have O_3 : Hid (Own w3 w2.heap.size (.slice aw3 zs.length capw3) zs) := o
  have DO : Hid (∀ g, (Value.slice aw3 zs.length capw3).ownBlock = some g → w2.heap.size ≤ g ∧ g < w3.heap.size) := fun g hg => by have := o.lt g hg; exact this
  clear g o
  clear Av_3
  go_wp2_with fail
  refine (toInts_any xs _ _ (Rv.out.old HG_3.out) lv).mono ?_
  rintro e w4 ⟨rfl, g, o⟩
  have hsw4 : w3.heap.size ≤ w4.heap.size := g.size
  have hbw4 : w3.heap.size < w4.heap.size := own_lt o
  have HG_4 : Hid (Old w w4) := Old.trans HG_3.out g
  have RC_4 : Hid (Rc w4 w.heap.size p n r) := RC_3.out.old g
  have O_4 : Hid (Own w4 w2.heap.size (.slice aw3 zs.length capw3) zs) := O_3.out.old g
  clear HG_3 RC_3 O_3
  have Xv_4 : Hid (Own w4 w3.heap.size (.slice (some ⟨w3.heap.size, 0, none⟩) xs.length xs.length) xs) := o
  have DXv : Hid (∀ g, (Value.slice (some ⟨w3.heap.size, 0, none⟩) xs.length xs.length).ownBlock = some g → w3.heap.size ≤ g ∧ g < w4.heap.size) := fun g hg => by have := o.lt g hg; exact this
  clear g o
  have z0 := RC_4.out.c0
  have z1 := RC_4.out.c1
  have z2 := RC_4.out.c2
  go_wp2_with fail
  refine (toRing_any _ _ _ _).mono ?_
  rintro e w5 ⟨rfl, g⟩
  have hsw5 : w4.heap.size ≤ w5.heap.size := g.size
  have HG_5 : Hid (Old w w5) := Old.trans HG_4.out g
  have RC_5 : Hid (Rc w5 w.heap.size p n r) := RC_4.out.old g
  have O_5 : Hid (Own w5 w2.heap.size (.slice aw3 zs.length capw3) zs) := O_4.out.old g
  have Xv_5 : Hid (Own w5 w3.heap.size (.slice (some ⟨w3.heap.size, 0, none⟩) xs.length xs.length) xs) := Xv_4.out.old g
  clear HG_4 RC_4 O_4 Xv_4
  clear g
  clear z0 z1 z2
  go_wp2_with fail
  refine (IM.out _ _ (HP.out.old HG_5.out) (HT.out.old HG_5.out) (Own.row Xv_5.out)).mono ?_
  rintro e w6 ⟨vw6, rfl, g, o⟩
  obtain ⟨aw6, capw6, rfl⟩ := (Own.row o).slice
  have hsw6 : w5.heap.size ≤ w6.heap.size := g.size
  have HG_6 : Hid (Old w w6) := Old.trans HG_5.out g
  have RC_6 : Hid (Rc w6 w.heap.size p n r) := RC_5.out.old g
  have O_6 : Hid (Own w6 w2.heap.size (.slice aw3 zs.length capw3) zs) := O_5.out.old g
  have Xv_6 : Hid (Own w6 w3.heap.size (.slice (some ⟨w3.heap.size, 0, none⟩) xs.length xs.length) xs) := Xv_5.out.old g
  clear HG_5 RC_5 O_5 Xv_5
  have G_6 : Hid (Own w6 w5.heap.size (.slice aw6 zs.length capw6) zs) := o
  have DG : Hid (∀ g, (Value.slice aw6 zs.length capw6).ownBlock = some g → w5.heap.size ≤ g ∧ g < w6.heap.size) := fun g hg => by have := o.lt g hg; exact this
  clear g o
  go_wp2_with fail
  refine (eqInts_yes zs _ _ _ (Own.row G_6.out) (Own.row O_6.out) (by omega)).mono ?_
  rintro e w7 ⟨rfl, g⟩
  have hsw7 : w6.heap.size ≤ w7.heap.size := g.size
  have HG_7 : Hid (Old w w7) := Old.trans HG_6.out g
  have RC_7 : Hid (Rc w7 w.heap.size p n r) := RC_6.out.old g
  have O_7 : Hid (Own w7 w2.heap.size (.slice aw3 zs.length capw3) zs) := O_6.out.old g
  have Xv_7 : Hid (Own w7 w3.heap.size (.slice (some ⟨w3.heap.size, 0, none⟩) xs.length xs.length) xs) := Xv_6.out.old g
  have G_7 : Hid (Own w7 w5.heap.size (.slice aw6 zs.length capw6) zs) := G_6.out.old g
  clear HG_6 RC_6 O_6 Xv_6 G_6
  clear g
  go_wp2_with fail
  refine (toInts_any xs _ _ (Rv.out.old HG_7.out) lv).mono ?_
  rintro e w8 ⟨rfl, g, o⟩
  have hsw8 : w7.heap.size ≤ w8.heap.size := g.size
  have hbw8 : w7.heap.size < w8.heap.size := own_lt o
  have HG_8 : Hid (Old w w8) := Old.trans HG_7.out g
  have RC_8 : Hid (Rc w8 w.heap.size p n r) := RC_7.out.old g
  have O_8 : Hid (Own w8 w2.heap.size (.slice aw3 zs.length capw3) zs) := O_7.out.old g
  have Xv_8 : Hid (Own w8 w3.heap.size (.slice (some ⟨w3.heap.size, 0, none⟩) xs.length xs.length) xs) := Xv_7.out.old g
  have G_8 : Hid (Own w8 w5.heap.size (.slice aw6 zs.length capw6) zs) := G_7.out.old g
  clear HG_7 RC_7 O_7 Xv_7 G_7
  have Bv_8 : Hid (Own w8 w7.heap.size (.slice (some ⟨w7.heap.size, 0, none⟩) xs.length xs.length) xs) := o
  have DBv : Hid (∀ g, (Value.slice (some ⟨w7.heap.size, 0, none⟩) xs.length xs.length).ownBlock = some g → w7.heap.size ≤ g ∧ g < w8.heap.size) := fun g hg => by have := o.lt g hg; exact this
  clear g o
  go_wp2_with fail
  refine (eqInts_yes xs _ _ _ (Own.row Xv_8.out) (Own.row Bv_8.out) (by omega)).mono ?_
  rintro e w9 ⟨rfl, g⟩
  have hsw9 : w8.heap.size ≤ w9.heap.size := g.size
  have HG_9 : Hid (Old w w9) := Old.trans HG_8.out g
  have RC_9 : Hid (Rc w9 w.heap.size p n r) := RC_8.out.old g
  have O_9 : Hid (Own w9 w2.heap.size (.slice aw3 zs.length capw3) zs) := O_8.out.old g
  have Xv_9 : Hid (Own w9 w3.heap.size (.slice (some ⟨w3.heap.size, 0, none⟩) xs.length xs.length) xs) := Xv_8.out.old g
  have G_9 : Hid (Own w9 w5.heap.size (.slice aw6 zs.length capw6) zs) := G_8.out.old g
  have Bv_9 : Hid (Own w9 w7.heap.size (.slice (some ⟨w7.heap.size, 0, none⟩) xs.length xs.length) xs) := Bv_8.out.old g
  clear HG_8 RC_8 O_8 Xv_8 G_8 Bv_8
  clear g
  clear Bv_9
  go_wp2_with fail
  refine (markInts_any xs _ 1 _ _ Xv_9.out (by omega) (by omega) (by omega)).mono ?_
  rintro e w10 ⟨rfl, gm, om⟩
  have hsw10 : w9.heap.size ≤ w10.heap.size := gm.size
  clear Xv_9
  have HG_10 : Hid (Old w w10) := Old.by_ HG_9.out gm (fun b hb => by have := DXv.out b hb; omega)
  have RC_10 : Hid (Rc w10 w.heap.size p n r) := RC_9.out.by_ gm (fun b hb => by have := DXv.out b hb; omega)
  have O_10 : Hid (Own w10 w2.heap.size (.slice aw3 zs.length capw3) zs) := O_9.out.by_ gm (fun a b h1 h2 h3 => by have := DO.out a h1; have := DXv.out b h2; omega)
  have G_10 : Hid (Own w10 w5.heap.size (.slice aw6 zs.length capw6) zs) := G_9.out.by_ gm (fun a b h1 h2 h3 => by have := DG.out a h1; have := DXv.out b h2; omega)
  clear HG_9 RC_9 O_9 G_9
  have Xv_10 : Hid (Own w10 w3.heap.size (.slice (some ⟨w3.heap.size, 0, none⟩) xs.length xs.length) (marks 1 xs.length)) := om
  clear gm om
  go_wp2_with fail
  refine (eqInts_yes zs _ _ _ (Own.row G_10.out) (Own.row O_10.out) (by omega)).mono ?_
  rintro e w11 ⟨rfl, g⟩
  have hsw11 : w10.heap.size ≤ w11.heap.size := g.size
  have HG_11 : Hid (Old w w11) := Old.trans HG_10.out g
  have RC_11 : Hid (Rc w11 w.heap.size p n r) := RC_10.out.old g
  have O_11 : Hid (Own w11 w2.heap.size (.slice aw3 zs.length capw3) zs) := O_10.out.old g
  have G_11 : Hid (Own w11 w5.heap.size (.slice aw6 zs.length capw6) zs) := G_10.out.old g
  have Xv_11 : Hid (Own w11 w3.heap.size (.slice (some ⟨w3.heap.size, 0, none⟩) xs.length xs.length) (marks 1 xs.length)) := Xv_10.out.old g
  clear HG_10 RC_10 O_10 G_10 Xv_10
  clear g
  go_wp2_with fail
  refine (markInts_any zs _ 1 _ _ G_11.out (by omega) (by omega) (by omega)).mono ?_
  rintro e w12 ⟨rfl, gm, om⟩
  have hsw12 : w11.heap.size ≤ w12.heap.size := gm.size
  clear G_11
  have HG_12 : Hid (Old w w12) := Old.by_ HG_11.out gm (fun b hb => by have := DG.out b hb; omega)
  have RC_12 : Hid (Rc w12 w.heap.size p n r) := RC_11.out.by_ gm (fun b hb => by have := DG.out b hb; omega)
  have O_12 : Hid (Own w12 w2.heap.size (.slice aw3 zs.length capw3) zs) := O_11.out.by_ gm (fun a b h1 h2 h3 => by have := DO.out a h1; have := DG.out b h2; omega)
  have Xv_12 : Hid (Own w12 w3.heap.size (.slice (some ⟨w3.heap.size, 0, none⟩) xs.length xs.length) (marks 1 xs.length)) := Xv_11.out.by_ gm (fun a b h1 h2 h3 => by have := DXv.out a h1; have := DG.out b h2; omega)
  clear HG_11 RC_11 O_11 Xv_11
  have G_12 : Hid (Own w12 w5.heap.size (.slice aw6 zs.length capw6) (marks 1 zs.length)) := om
  clear gm om
  go_wp2_with fail
  refine (heldInts_yes zs.length _ 1 _ (Own.row G_12.out) (by omega) (by omega) (by omega)).mono ?_
  rintro e w13 ⟨rfl, g⟩
  have hsw13 : w12.heap.size ≤ w13.heap.size := g.size
  have HG_13 : Hid (Old w w13) := Old.trans HG_12.out g
  have RC_13 : Hid (Rc w13 w.heap.size p n r) := RC_12.out.old g
  have O_13 : Hid (Own w13 w2.heap.size (.slice aw3 zs.length capw3) zs) := O_12.out.old g
  have Xv_13 : Hid (Own w13 w3.heap.size (.slice (some ⟨w3.heap.size, 0, none⟩) xs.length xs.length) (marks 1 xs.length)) := Xv_12.out.old g
  have G_13 : Hid (Own w13 w5.heap.size (.slice aw6 zs.length capw6) (marks 1 zs.length)) := G_12.out.old g
  clear HG_12 RC_12 O_12 Xv_12 G_12
  clear g
  have z0 := RC_13.out.c0
  have z1 := RC_13.out.c1
  have z2 := RC_13.out.c2
  go_wp2_with fail
  refine (toRing_any _ _ _ _).mono ?_
  rintro e w14 ⟨rfl, g⟩
  have hsw14 : w13.heap.size ≤ w14.heap.size := g.size
  have HG_14 : Hid (Old w w14) := Old.trans HG_13.out g
  have RC_14 : Hid (Rc w14 w.heap.size p n r) := RC_13.out.old g
  have O_14 : Hid (Own w14 w2.heap.size (.slice aw3 zs.length capw3) zs) := O_13.out.old g
  have Xv_14 : Hid (Own w14 w3.heap.size (.slice (some ⟨w3.heap.size, 0, none⟩) xs.length xs.length) (marks 1 xs.length)) := Xv_13.out.old g
  have G_14 : Hid (Own w14 w5.heap.size (.slice aw6 zs.length capw6) (marks 1 zs.length)) := G_13.out.old g
  clear HG_13 RC_13 O_13 Xv_13 G_13
  clear g
  clear z0 z1 z2
  go_wp2_with fail
  refine (toInts_any xs _ _ (Rv.out.old HG_14.out) lv).mono ?_
  rintro e w15 ⟨rfl, g, o⟩
  have hsw15 : w14.heap.size ≤ w15.heap.size := g.size
  have hbw15 : w14.heap.size < w15.heap.size := own_lt o
  have HG_15 : Hid (Old w w15) := Old.trans HG_14.out g
  have RC_15 : Hid (Rc w15 w.heap.size p n r) := RC_14.out.old g
  have O_15 : Hid (Own w15 w2.heap.size (.slice aw3 zs.length capw3) zs) := O_14.out.old g
  have Xv_15 : Hid (Own w15 w3.heap.size (.slice (some ⟨w3.heap.size, 0, none⟩) xs.length xs.length) (marks 1 xs.length)) := Xv_14.out.old g
  have G_15 : Hid (Own w15 w5.heap.size (.slice aw6 zs.length capw6) (marks 1 zs.length)) := G_14.out.old g
  clear HG_14 RC_14 O_14 Xv_14 G_14
  have Cv_15 : Hid (Own w15 w14.heap.size (.slice (some ⟨w14.heap.size, 0, none⟩) xs.length xs.length) xs) := o
  have DCv : Hid (∀ g, (Value.slice (some ⟨w14.heap.size, 0, none⟩) xs.length xs.length).ownBlock = some g → w14.heap.size ≤ g ∧ g < w15.heap.size) := fun g hg => by have := o.lt g hg; exact this
  clear g o
  go_wp2_with fail
  refine (IM.out _ _ (HP.out.old HG_15.out) (HT.out.old HG_15.out) (Own.row Cv_15.out)).mono ?_
  rintro e w16 ⟨vw16, rfl, g, o⟩
  obtain ⟨aw16, capw16, rfl⟩ := (Own.row o).slice
  have hsw16 : w15.heap.size ≤ w16.heap.size := g.size
  have HG_16 : Hid (Old w w16) := Old.trans HG_15.out g
  have RC_16 : Hid (Rc w16 w.heap.size p n r) := RC_15.out.old g
  have O_16 : Hid (Own w16 w2.heap.size (.slice aw3 zs.length capw3) zs) := O_15.out.old g
  have Xv_16 : Hid (Own w16 w3.heap.size (.slice (some ⟨w3.heap.size, 0, none⟩) xs.length xs.length) (marks 1 xs.length)) := Xv_15.out.old g
  have G_16 : Hid (Own w16 w5.heap.size (.slice aw6 zs.length capw6) (marks 1 zs.length)) := G_15.out.old g
  have Cv_16 : Hid (Own w16 w14.heap.size (.slice (some ⟨w14.heap.size, 0, none⟩) xs.length xs.length) xs) := Cv_15.out.old g
  clear HG_15 RC_15 O_15 Xv_15 G_15 Cv_15
  have H_16 : Hid (Own w16 w15.heap.size (.slice aw16 zs.length capw16) zs) := o
  have DH : Hid (∀ g, (Value.slice aw16 zs.length capw16).ownBlock = some g → w15.heap.size ≤ g ∧ g < w16.heap.size) := fun g hg => by have := o.lt g hg; exact this
  clear g o
  go_wp2_with fail
  refine (eqInts_yes zs _ _ _ (Own.row H_16.out) (Own.row O_16.out) (by omega)).mono ?_
  rintro e w17 ⟨rfl, g⟩
  have hsw17 : w16.heap.size ≤ w17.heap.size := g.size
  have HG_17 : Hid (Old w w17) := Old.trans HG_16.out g
  have RC_17 : Hid (Rc w17 w.heap.size p n r) := RC_16.out.old g
  have O_17 : Hid (Own w17 w2.heap.size (.slice aw3 zs.length capw3) zs) := O_16.out.old g
  have Xv_17 : Hid (Own w17 w3.heap.size (.slice (some ⟨w3.heap.size, 0, none⟩) xs.length xs.length) (marks 1 xs.length)) := Xv_16.out.old g
  have G_17 : Hid (Own w17 w5.heap.size (.slice aw6 zs.length capw6) (marks 1 zs.length)) := G_16.out.old g
  have Cv_17 : Hid (Own w17 w14.heap.size (.slice (some ⟨w14.heap.size, 0, none⟩) xs.length xs.length) xs) := Cv_16.out.old g
  have H_17 : Hid (Own w17 w15.heap.size (.slice aw16 zs.length capw16) zs) := H_16.out.old g
  clear HG_16 RC_16 O_16 Xv_16 G_16 Cv_16 H_16
  clear g
  go_wp2_with fail
  refine (heldInts_yes zs.length _ 1 _ (Own.row G_17.out) (by omega) (by omega) (by omega)).mono ?_
  rintro e w18 ⟨rfl, g⟩
  have hsw18 : w17.heap.size ≤ w18.heap.size := g.size
  have HG_18 : Hid (Old w w18) := Old.trans HG_17.out g
  have RC_18 : Hid (Rc w18 w.heap.size p n r) := RC_17.out.old g
  have O_18 : Hid (Own w18 w2.heap.size (.slice aw3 zs.length capw3) zs) := O_17.out.old g
  have Xv_18 : Hid (Own w18 w3.heap.size (.slice (some ⟨w3.heap.size, 0, none⟩) xs.length xs.length) (marks 1 xs.length)) := Xv_17.out.old g
  have G_18 : Hid (Own w18 w5.heap.size (.slice aw6 zs.length capw6) (marks 1 zs.length)) := G_17.out.old g
  have Cv_18 : Hid (Own w18 w14.heap.size (.slice (some ⟨w14.heap.size, 0, none⟩) xs.length xs.length) xs) := Cv_17.out.old g
  have H_18 : Hid (Own w18 w15.heap.size (.slice aw16 zs.length capw16) zs) := H_17.out.old g
  clear HG_17 RC_17 O_17 Xv_17 G_17 Cv_17 H_17
  clear g
  go_wp2_with fail
  go_ret
  exact ⟨rfl, HG_18.out⟩
end Go.Proofs.YtlnfjgdjhjkioaaDoor
