/- Proved: the walk of the statement on MulRing, under the contracts of the model's and of the program's function. -/
import Derived.Test.YtcgnndenmcmieaaDoorKB
namespace Go.Proofs.YtcgnndenmcmieaaDoor
open Go.ChangeShapes Go.WideShapes Go.ChangeAt Go.RowKit
open M1
set_option linter.unusedVariables false
set_option linter.unusedSimpArgs false
set_option maxRecDepth 100000 in
set_option maxHeartbeats 8000000 in
theorem law_MulRing (p n r : Int) (xs ys : List Int) (v u : Value) (w : World) (hv : Row w v xs) (hlv : xs.length ≤ 9223372036854775807) (hu : Row w u ys) (hlu : ys.length ≤ 9223372036854775807) (hP : PrsW w) (hT : TabW w) (ok : Bool) (zs : List Int) (hz : zs.length ≤ 1000)
    (hspec : xs.length ≤ 1048576 → ys.length ≤ 1048576 → ∀ v u W, Row W v xs → Row W u ys → Calls Tryd.prog 10 #[.agg #[.int .i64 p, .int .i64 n, .int .i64 r], v, u] W fun e w' => ∃ v', e = .returned (.tuple #[v', .bool ok]) ∧ Old W w' ∧ Own w' W.heap.size v' zs)
    (himpl : xs.length ≤ 1048576 → ys.length ≤ 1048576 → ∀ v u W, PrsW W → TabW W → Row W v xs → Row W u ys → Calls Tryd.prog 13 #[.agg #[.int .i64 p, .int .i64 n, .int .i64 r], v, u] W fun e w' => ∃ v', e = .returned (.tuple #[v', .bool ok]) ∧ Old W w' ∧ Own w' W.heap.size v' zs) :
    Calls Tryd.prog 3 #[.agg #[.int .i64 p, .int .i64 n, .int .i64 r], v, u] w fun e w' => e = .returned (.bool true) ∧ Old w w' := by
  have HP : Hid (PrsW w) := hP
  have HT : Hid (TabW w) := hT
  have Rv : Hid (Row w v xs) := hv
  obtain ⟨cv, capv, rfl⟩ := hv.slice
  have Ru : Hid (Row w u ys) := hu
  obtain ⟨cu, capu, rfl⟩ := hu.slice
  clear hT hP hv hu
  by_cases bigv : (1048576 : Int) < (xs.length : Int)
  · have dv : decide ((1048576 : Int) < (xs.length : Int)) = true := decide_eq_true bigv
    clear hspec himpl
    go_enter Tryd.func3, Tryd.ntmps3
    go_wp2_with fail
    go_ret
    exact ⟨rfl, by repeat (first | exact Old.refl _ | apply Old.alloc)⟩
  have dv : decide ((1048576 : Int) < (xs.length : Int)) = false := decide_eq_false bigv
  have lv : xs.length ≤ 1048576 := by omega
  by_cases bigu : (1048576 : Int) < (ys.length : Int)
  · have du : decide ((1048576 : Int) < (ys.length : Int)) = true := decide_eq_true bigu
    clear hspec himpl
    go_enter Tryd.func3, Tryd.ntmps3
    go_wp2_with fail
    go_ret
    exact ⟨rfl, by repeat (first | exact Old.refl _ | apply Old.alloc)⟩
  have du : decide ((1048576 : Int) < (ys.length : Int)) = false := decide_eq_false bigu
  have lu : ys.length ≤ 1048576 := by omega
  have SP : Hid (∀ v u W, Row W v xs → Row W u ys → Calls Tryd.prog 10 #[.agg #[.int .i64 p, .int .i64 n, .int .i64 r], v, u] W fun e w' => ∃ v', e = .returned (.tuple #[v', .bool ok]) ∧ Old W w' ∧ Own w' W.heap.size v' zs) := hspec lv lu
  have IM : Hid (∀ v u W, PrsW W → TabW W → Row W v xs → Row W u ys → Calls Tryd.prog 13 #[.agg #[.int .i64 p, .int .i64 n, .int .i64 r], v, u] W fun e w' => ∃ v', e = .returned (.tuple #[v', .bool ok]) ∧ Old W w' ∧ Own w' W.heap.size v' zs) := himpl lv lu
  have dok : (ok != ok) = false := by simp
  have dq : decide ((1 : Int) + (zs.length : Int) < 0) = false := decide_eq_false (by omega)
  have dqm : ((1 : Int) + (zs.length : Int) != 1 + (zs.length : Int)) = false := by simp
  have dk : decide ((1 : Int) + (xs.length : Int) + (ys.length : Int) < 0) = false := decide_eq_false (by omega)
  clear hspec himpl bigv bigu
  go_enter Tryd.func3, Tryd.ntmps3
  have HG_0 : Hid (Old w (w.alloc (.cells #[.int .i64 p, .int .i64 n, .int .i64 r] 23))) := (Old.refl w).alloc _
  have hs0 : w.heap.size < (w.alloc (.cells #[.int .i64 p, .int .i64 n, .int .i64 r] 23)).heap.size := by simp
  have RC_0 : Hid (Rc (w.alloc (.cells #[.int .i64 p, .int .i64 n, .int .i64 r] 23)) w.heap.size p n r) := Rc.new w p n r
  have z0 := RC_0.out.c0
  have z1 := RC_0.out.c1
  have z2 := RC_0.out.c2
  go_wp2_with fail
  refine (toRing_any _ _ _ _).mono ?_
  rintro e w1 ⟨rfl, g⟩
  have hsw1 : (w.alloc (.cells #[.int .i64 p, .int .i64 n, .int .i64 r] 23)).heap.size ≤ w1.heap.size := g.size
  have HG_1 : Hid (Old w w1) := Old.trans HG_0.out g
  have RC_1 : Hid (Rc w1 w.heap.size p n r) := RC_0.out.old g
  clear HG_0 RC_0
  clear g
  clear z0 z1 z2
  go_wp2_with fail
  refine (toInts_any xs _ _ (Rv.out.old HG_1.out) lv).mono ?_
  rintro e w2 ⟨rfl, g, o⟩
  have hsw2 : w1.heap.size ≤ w2.heap.size := g.size
  have hbw2 : w1.heap.size < w2.heap.size := own_lt o
  have HG_2 : Hid (Old w w2) := Old.trans HG_1.out g
  have RC_2 : Hid (Rc w2 w.heap.size p n r) := RC_1.out.old g
  clear HG_1 RC_1
  have Av_2 : Hid (Own w2 w1.heap.size (.slice (some ⟨w1.heap.size, 0, none⟩) xs.length xs.length) xs) := o
  have DAv : Hid (∀ g, (Value.slice (some ⟨w1.heap.size, 0, none⟩) xs.length xs.length).ownBlock = some g → w1.heap.size ≤ g ∧ g < w2.heap.size) := fun g hg => by have := o.lt g hg; exact this
  clear g o
  go_wp2_with fail
  refine (toInts_any ys _ _ (Ru.out.old HG_2.out) lu).mono ?_
  rintro e w3 ⟨rfl, g, o⟩
  have hsw3 : w2.heap.size ≤ w3.heap.size := g.size
  have hbw3 : w2.heap.size < w3.heap.size := own_lt o
  have HG_3 : Hid (Old w w3) := Old.trans HG_2.out g
  have RC_3 : Hid (Rc w3 w.heap.size p n r) := RC_2.out.old g
  have Av_3 : Hid (Own w3 w1.heap.size (.slice (some ⟨w1.heap.size, 0, none⟩) xs.length xs.length) xs) := Av_2.out.old g
  clear HG_2 RC_2 Av_2
  have Au_3 : Hid (Own w3 w2.heap.size (.slice (some ⟨w2.heap.size, 0, none⟩) ys.length ys.length) ys) := o
  have DAu : Hid (∀ g, (Value.slice (some ⟨w2.heap.size, 0, none⟩) ys.length ys.length).ownBlock = some g → w2.heap.size ≤ g ∧ g < w3.heap.size) := fun g hg => by have := o.lt g hg; exact this
  clear g o
  go_wp2_with fail
  refine (SP.out _ _ _ (Own.row Av_3.out) (Own.row Au_3.out)).mono ?_
  rintro e w4 ⟨vw4, rfl, g, o⟩
  obtain ⟨aw4, capw4, rfl⟩ := (Own.row o).slice
  have hsw4 : w3.heap.size ≤ w4.heap.size := g.size
  have HG_4 : Hid (Old w w4) := Old.trans HG_3.out g
  have RC_4 : Hid (Rc w4 w.heap.size p n r) := RC_3.out.old g
  have Av_4 : Hid (Own w4 w1.heap.size (.slice (some ⟨w1.heap.size, 0, none⟩) xs.length xs.length) xs) := Av_3.out.old g
  have Au_4 : Hid (Own w4 w2.heap.size (.slice (some ⟨w2.heap.size, 0, none⟩) ys.length ys.length) ys) := Au_3.out.old g
  clear HG_3 RC_3 Av_3 Au_3
  have O_4 : Hid (Own w4 w3.heap.size (.slice aw4 zs.length capw4) zs) := o
  have DO : Hid (∀ g, (Value.slice aw4 zs.length capw4).ownBlock = some g → w3.heap.size ≤ g ∧ g < w4.heap.size) := fun g hg => by have := o.lt g hg; exact this
  clear g o
  clear Av_4
  clear Au_4
  go_wp2_with fail
  refine (toInts_any xs _ _ (Rv.out.old HG_4.out) lv).mono ?_
  rintro e w5 ⟨rfl, g, o⟩
  have hsw5 : w4.heap.size ≤ w5.heap.size := g.size
  have hbw5 : w4.heap.size < w5.heap.size := own_lt o
  have HG_5 : Hid (Old w w5) := Old.trans HG_4.out g
  have RC_5 : Hid (Rc w5 w.heap.size p n r) := RC_4.out.old g
  have O_5 : Hid (Own w5 w3.heap.size (.slice aw4 zs.length capw4) zs) := O_4.out.old g
  clear HG_4 RC_4 O_4
  have Xv_5 : Hid (Own w5 w4.heap.size (.slice (some ⟨w4.heap.size, 0, none⟩) xs.length xs.length) xs) := o
  have DXv : Hid (∀ g, (Value.slice (some ⟨w4.heap.size, 0, none⟩) xs.length xs.length).ownBlock = some g → w4.heap.size ≤ g ∧ g < w5.heap.size) := fun g hg => by have := o.lt g hg; exact this
  clear g o
  go_wp2_with fail
  refine (toInts_any ys _ _ (Ru.out.old HG_5.out) lu).mono ?_
  rintro e w6 ⟨rfl, g, o⟩
  have hsw6 : w5.heap.size ≤ w6.heap.size := g.size
  have hbw6 : w5.heap.size < w6.heap.size := own_lt o
  have HG_6 : Hid (Old w w6) := Old.trans HG_5.out g
  have RC_6 : Hid (Rc w6 w.heap.size p n r) := RC_5.out.old g
  have O_6 : Hid (Own w6 w3.heap.size (.slice aw4 zs.length capw4) zs) := O_5.out.old g
  have Xv_6 : Hid (Own w6 w4.heap.size (.slice (some ⟨w4.heap.size, 0, none⟩) xs.length xs.length) xs) := Xv_5.out.old g
  clear HG_5 RC_5 O_5 Xv_5
  have Xu_6 : Hid (Own w6 w5.heap.size (.slice (some ⟨w5.heap.size, 0, none⟩) ys.length ys.length) ys) := o
  have DXu : Hid (∀ g, (Value.slice (some ⟨w5.heap.size, 0, none⟩) ys.length ys.length).ownBlock = some g → w5.heap.size ≤ g ∧ g < w6.heap.size) := fun g hg => by have := o.lt g hg; exact this
  clear g o
  have z0 := RC_6.out.c0
  have z1 := RC_6.out.c1
  have z2 := RC_6.out.c2
  go_wp2_with fail
  refine (toRing_any _ _ _ _).mono ?_
  rintro e w7 ⟨rfl, g⟩
  have hsw7 : w6.heap.size ≤ w7.heap.size := g.size
  have HG_7 : Hid (Old w w7) := Old.trans HG_6.out g
  have RC_7 : Hid (Rc w7 w.heap.size p n r) := RC_6.out.old g
  have O_7 : Hid (Own w7 w3.heap.size (.slice aw4 zs.length capw4) zs) := O_6.out.old g
  have Xv_7 : Hid (Own w7 w4.heap.size (.slice (some ⟨w4.heap.size, 0, none⟩) xs.length xs.length) xs) := Xv_6.out.old g
  have Xu_7 : Hid (Own w7 w5.heap.size (.slice (some ⟨w5.heap.size, 0, none⟩) ys.length ys.length) ys) := Xu_6.out.old g
  clear HG_6 RC_6 O_6 Xv_6 Xu_6
  clear g
  clear z0 z1 z2
  go_wp2_with fail
  refine (IM.out _ _ _ (HP.out.old HG_7.out) (HT.out.old HG_7.out) (Own.row Xv_7.out) (Own.row Xu_7.out)).mono ?_
  rintro e w8 ⟨vw8, rfl, g, o⟩
  obtain ⟨aw8, capw8, rfl⟩ := (Own.row o).slice
  have hsw8 : w7.heap.size ≤ w8.heap.size := g.size
  have HG_8 : Hid (Old w w8) := Old.trans HG_7.out g
  have RC_8 : Hid (Rc w8 w.heap.size p n r) := RC_7.out.old g
  have O_8 : Hid (Own w8 w3.heap.size (.slice aw4 zs.length capw4) zs) := O_7.out.old g
  have Xv_8 : Hid (Own w8 w4.heap.size (.slice (some ⟨w4.heap.size, 0, none⟩) xs.length xs.length) xs) := Xv_7.out.old g
  have Xu_8 : Hid (Own w8 w5.heap.size (.slice (some ⟨w5.heap.size, 0, none⟩) ys.length ys.length) ys) := Xu_7.out.old g
  clear HG_7 RC_7 O_7 Xv_7 Xu_7
  have G_8 : Hid (Own w8 w7.heap.size (.slice aw8 zs.length capw8) zs) := o
  have DG : Hid (∀ g, (Value.slice aw8 zs.length capw8).ownBlock = some g → w7.heap.size ≤ g ∧ g < w8.heap.size) := fun g hg => by have := o.lt g hg; exact this
  clear g o
  go_wp2_with fail
  refine (eqInts_yes zs _ _ _ (Own.row G_8.out) (Own.row O_8.out) (by omega)).mono ?_
  rintro e w9 ⟨rfl, g⟩
  have hsw9 : w8.heap.size ≤ w9.heap.size := g.size
  have HG_9 : Hid (Old w w9) := Old.trans HG_8.out g
  have RC_9 : Hid (Rc w9 w.heap.size p n r) := RC_8.out.old g
  have O_9 : Hid (Own w9 w3.heap.size (.slice aw4 zs.length capw4) zs) := O_8.out.old g
  have Xv_9 : Hid (Own w9 w4.heap.size (.slice (some ⟨w4.heap.size, 0, none⟩) xs.length xs.length) xs) := Xv_8.out.old g
  have Xu_9 : Hid (Own w9 w5.heap.size (.slice (some ⟨w5.heap.size, 0, none⟩) ys.length ys.length) ys) := Xu_8.out.old g
  have G_9 : Hid (Own w9 w7.heap.size (.slice aw8 zs.length capw8) zs) := G_8.out.old g
  clear HG_8 RC_8 O_8 Xv_8 Xu_8 G_8
  clear g
  go_wp2_with fail
  refine (toInts_any xs _ _ (Rv.out.old HG_9.out) lv).mono ?_
  rintro e w10 ⟨rfl, g, o⟩
  have hsw10 : w9.heap.size ≤ w10.heap.size := g.size
  have hbw10 : w9.heap.size < w10.heap.size := own_lt o
  have HG_10 : Hid (Old w w10) := Old.trans HG_9.out g
  have RC_10 : Hid (Rc w10 w.heap.size p n r) := RC_9.out.old g
  have O_10 : Hid (Own w10 w3.heap.size (.slice aw4 zs.length capw4) zs) := O_9.out.old g
  have Xv_10 : Hid (Own w10 w4.heap.size (.slice (some ⟨w4.heap.size, 0, none⟩) xs.length xs.length) xs) := Xv_9.out.old g
  have Xu_10 : Hid (Own w10 w5.heap.size (.slice (some ⟨w5.heap.size, 0, none⟩) ys.length ys.length) ys) := Xu_9.out.old g
  have G_10 : Hid (Own w10 w7.heap.size (.slice aw8 zs.length capw8) zs) := G_9.out.old g
  clear HG_9 RC_9 O_9 Xv_9 Xu_9 G_9
  have Bv_10 : Hid (Own w10 w9.heap.size (.slice (some ⟨w9.heap.size, 0, none⟩) xs.length xs.length) xs) := o
  have DBv : Hid (∀ g, (Value.slice (some ⟨w9.heap.size, 0, none⟩) xs.length xs.length).ownBlock = some g → w9.heap.size ≤ g ∧ g < w10.heap.size) := fun g hg => by have := o.lt g hg; exact this
  clear g o
  go_wp2_with fail
  refine (eqInts_yes xs _ _ _ (Own.row Xv_10.out) (Own.row Bv_10.out) (by omega)).mono ?_
  rintro e w11 ⟨rfl, g⟩
  have hsw11 : w10.heap.size ≤ w11.heap.size := g.size
  have HG_11 : Hid (Old w w11) := Old.trans HG_10.out g
  have RC_11 : Hid (Rc w11 w.heap.size p n r) := RC_10.out.old g
  have O_11 : Hid (Own w11 w3.heap.size (.slice aw4 zs.length capw4) zs) := O_10.out.old g
  have Xv_11 : Hid (Own w11 w4.heap.size (.slice (some ⟨w4.heap.size, 0, none⟩) xs.length xs.length) xs) := Xv_10.out.old g
  have Xu_11 : Hid (Own w11 w5.heap.size (.slice (some ⟨w5.heap.size, 0, none⟩) ys.length ys.length) ys) := Xu_10.out.old g
  have G_11 : Hid (Own w11 w7.heap.size (.slice aw8 zs.length capw8) zs) := G_10.out.old g
  have Bv_11 : Hid (Own w11 w9.heap.size (.slice (some ⟨w9.heap.size, 0, none⟩) xs.length xs.length) xs) := Bv_10.out.old g
  clear HG_10 RC_10 O_10 Xv_10 Xu_10 G_10 Bv_10
  clear g
  clear Bv_11
  go_wp2_with fail
  refine (toInts_any ys _ _ (Ru.out.old HG_11.out) lu).mono ?_
  rintro e w12 ⟨rfl, g, o⟩
  have hsw12 : w11.heap.size ≤ w12.heap.size := g.size
  have hbw12 : w11.heap.size < w12.heap.size := own_lt o
  have HG_12 : Hid (Old w w12) := Old.trans HG_11.out g
  have RC_12 : Hid (Rc w12 w.heap.size p n r) := RC_11.out.old g
  have O_12 : Hid (Own w12 w3.heap.size (.slice aw4 zs.length capw4) zs) := O_11.out.old g
  have Xv_12 : Hid (Own w12 w4.heap.size (.slice (some ⟨w4.heap.size, 0, none⟩) xs.length xs.length) xs) := Xv_11.out.old g
  have Xu_12 : Hid (Own w12 w5.heap.size (.slice (some ⟨w5.heap.size, 0, none⟩) ys.length ys.length) ys) := Xu_11.out.old g
  have G_12 : Hid (Own w12 w7.heap.size (.slice aw8 zs.length capw8) zs) := G_11.out.old g
  clear HG_11 RC_11 O_11 Xv_11 Xu_11 G_11
  have Bu_12 : Hid (Own w12 w11.heap.size (.slice (some ⟨w11.heap.size, 0, none⟩) ys.length ys.length) ys) := o
  have DBu : Hid (∀ g, (Value.slice (some ⟨w11.heap.size, 0, none⟩) ys.length ys.length).ownBlock = some g → w11.heap.size ≤ g ∧ g < w12.heap.size) := fun g hg => by have := o.lt g hg; exact this
  clear g o
  go_wp2_with fail
  refine (eqInts_yes ys _ _ _ (Own.row Xu_12.out) (Own.row Bu_12.out) (by omega)).mono ?_
  rintro e w13 ⟨rfl, g⟩
  have hsw13 : w12.heap.size ≤ w13.heap.size := g.size
  have HG_13 : Hid (Old w w13) := Old.trans HG_12.out g
  have RC_13 : Hid (Rc w13 w.heap.size p n r) := RC_12.out.old g
  have O_13 : Hid (Own w13 w3.heap.size (.slice aw4 zs.length capw4) zs) := O_12.out.old g
  have Xv_13 : Hid (Own w13 w4.heap.size (.slice (some ⟨w4.heap.size, 0, none⟩) xs.length xs.length) xs) := Xv_12.out.old g
  have Xu_13 : Hid (Own w13 w5.heap.size (.slice (some ⟨w5.heap.size, 0, none⟩) ys.length ys.length) ys) := Xu_12.out.old g
  have G_13 : Hid (Own w13 w7.heap.size (.slice aw8 zs.length capw8) zs) := G_12.out.old g
  have Bu_13 : Hid (Own w13 w11.heap.size (.slice (some ⟨w11.heap.size, 0, none⟩) ys.length ys.length) ys) := Bu_12.out.old g
  clear HG_12 RC_12 O_12 Xv_12 Xu_12 G_12 Bu_12
  clear g
  clear Bu_13
  go_wp2_with fail
  refine (markInts_any xs _ 1 _ _ Xv_13.out (by omega) (by omega) (by omega)).mono ?_
  rintro e w14 ⟨rfl, gm, om⟩
  have hsw14 : w13.heap.size ≤ w14.heap.size := gm.size
  clear Xv_13
  have HG_14 : Hid (Old w w14) := Old.by_ HG_13.out gm (fun b hb => by have := DXv.out b hb; omega)
  have RC_14 : Hid (Rc w14 w.heap.size p n r) := RC_13.out.by_ gm (fun b hb => by have := DXv.out b hb; omega)
  have O_14 : Hid (Own w14 w3.heap.size (.slice aw4 zs.length capw4) zs) := O_13.out.by_ gm (fun a b h1 h2 h3 => by have := DO.out a h1; have := DXv.out b h2; omega)
  have Xu_14 : Hid (Own w14 w5.heap.size (.slice (some ⟨w5.heap.size, 0, none⟩) ys.length ys.length) ys) := Xu_13.out.by_ gm (fun a b h1 h2 h3 => by have := DXu.out a h1; have := DXv.out b h2; omega)
  have G_14 : Hid (Own w14 w7.heap.size (.slice aw8 zs.length capw8) zs) := G_13.out.by_ gm (fun a b h1 h2 h3 => by have := DG.out a h1; have := DXv.out b h2; omega)
  clear HG_13 RC_13 O_13 Xu_13 G_13
  have Xv_14 : Hid (Own w14 w4.heap.size (.slice (some ⟨w4.heap.size, 0, none⟩) xs.length xs.length) (marks 1 xs.length)) := om
  clear gm om
  go_wp2_with fail
  refine (markInts_any ys _ (1 + (xs.length : Int)) _ _ Xu_14.out (by omega) (by omega) (by omega)).mono ?_
  rintro e w15 ⟨rfl, gm, om⟩
  have hsw15 : w14.heap.size ≤ w15.heap.size := gm.size
  clear Xu_14
  have HG_15 : Hid (Old w w15) := Old.by_ HG_14.out gm (fun b hb => by have := DXu.out b hb; omega)
  have RC_15 : Hid (Rc w15 w.heap.size p n r) := RC_14.out.by_ gm (fun b hb => by have := DXu.out b hb; omega)
  have O_15 : Hid (Own w15 w3.heap.size (.slice aw4 zs.length capw4) zs) := O_14.out.by_ gm (fun a b h1 h2 h3 => by have := DO.out a h1; have := DXu.out b h2; omega)
  have G_15 : Hid (Own w15 w7.heap.size (.slice aw8 zs.length capw8) zs) := G_14.out.by_ gm (fun a b h1 h2 h3 => by have := DG.out a h1; have := DXu.out b h2; omega)
  have Xv_15 : Hid (Own w15 w4.heap.size (.slice (some ⟨w4.heap.size, 0, none⟩) xs.length xs.length) (marks 1 xs.length)) := Xv_14.out.by_ gm (fun a b h1 h2 h3 => by have := DXv.out a h1; have := DXu.out b h2; omega)
  clear HG_14 RC_14 O_14 G_14 Xv_14
  have Xu_15 : Hid (Own w15 w5.heap.size (.slice (some ⟨w5.heap.size, 0, none⟩) ys.length ys.length) (marks (1 + (xs.length : Int)) ys.length)) := om
  clear gm om
  go_wp2_with fail
  refine (eqInts_yes zs _ _ _ (Own.row G_15.out) (Own.row O_15.out) (by omega)).mono ?_
  rintro e w16 ⟨rfl, g⟩
  have hsw16 : w15.heap.size ≤ w16.heap.size := g.size
  have HG_16 : Hid (Old w w16) := Old.trans HG_15.out g
  have RC_16 : Hid (Rc w16 w.heap.size p n r) := RC_15.out.old g
  have O_16 : Hid (Own w16 w3.heap.size (.slice aw4 zs.length capw4) zs) := O_15.out.old g
  have G_16 : Hid (Own w16 w7.heap.size (.slice aw8 zs.length capw8) zs) := G_15.out.old g
  have Xv_16 : Hid (Own w16 w4.heap.size (.slice (some ⟨w4.heap.size, 0, none⟩) xs.length xs.length) (marks 1 xs.length)) := Xv_15.out.old g
  have Xu_16 : Hid (Own w16 w5.heap.size (.slice (some ⟨w5.heap.size, 0, none⟩) ys.length ys.length) (marks (1 + (xs.length : Int)) ys.length)) := Xu_15.out.old g
  clear HG_15 RC_15 O_15 G_15 Xv_15 Xu_15
  clear g
  go_wp2_with fail
  refine (markInts_any zs _ 1 _ _ G_16.out (by omega) (by omega) (by omega)).mono ?_
  rintro e w17 ⟨rfl, gm, om⟩
  have hsw17 : w16.heap.size ≤ w17.heap.size := gm.size
  clear G_16
  have HG_17 : Hid (Old w w17) := Old.by_ HG_16.out gm (fun b hb => by have := DG.out b hb; omega)
  have RC_17 : Hid (Rc w17 w.heap.size p n r) := RC_16.out.by_ gm (fun b hb => by have := DG.out b hb; omega)
  have O_17 : Hid (Own w17 w3.heap.size (.slice aw4 zs.length capw4) zs) := O_16.out.by_ gm (fun a b h1 h2 h3 => by have := DO.out a h1; have := DG.out b h2; omega)
  have Xv_17 : Hid (Own w17 w4.heap.size (.slice (some ⟨w4.heap.size, 0, none⟩) xs.length xs.length) (marks 1 xs.length)) := Xv_16.out.by_ gm (fun a b h1 h2 h3 => by have := DXv.out a h1; have := DG.out b h2; omega)
  have Xu_17 : Hid (Own w17 w5.heap.size (.slice (some ⟨w5.heap.size, 0, none⟩) ys.length ys.length) (marks (1 + (xs.length : Int)) ys.length)) := Xu_16.out.by_ gm (fun a b h1 h2 h3 => by have := DXu.out a h1; have := DG.out b h2; omega)
  clear HG_16 RC_16 O_16 Xv_16 Xu_16
  have G_17 : Hid (Own w17 w7.heap.size (.slice aw8 zs.length capw8) (marks 1 zs.length)) := om
  clear gm om
  go_wp2_with fail
  refine (heldInts_yes zs.length _ 1 _ (Own.row G_17.out) (by omega) (by omega) (by omega)).mono ?_
  rintro e w18 ⟨rfl, g⟩
  have hsw18 : w17.heap.size ≤ w18.heap.size := g.size
  have HG_18 : Hid (Old w w18) := Old.trans HG_17.out g
  have RC_18 : Hid (Rc w18 w.heap.size p n r) := RC_17.out.old g
  have O_18 : Hid (Own w18 w3.heap.size (.slice aw4 zs.length capw4) zs) := O_17.out.old g
  have Xv_18 : Hid (Own w18 w4.heap.size (.slice (some ⟨w4.heap.size, 0, none⟩) xs.length xs.length) (marks 1 xs.length)) := Xv_17.out.old g
  have Xu_18 : Hid (Own w18 w5.heap.size (.slice (some ⟨w5.heap.size, 0, none⟩) ys.length ys.length) (marks (1 + (xs.length : Int)) ys.length)) := Xu_17.out.old g
  have G_18 : Hid (Own w18 w7.heap.size (.slice aw8 zs.length capw8) (marks 1 zs.length)) := G_17.out.old g
  clear HG_17 RC_17 O_17 Xv_17 Xu_17 G_17
  clear g
  have z0 := RC_18.out.c0
  have z1 := RC_18.out.c1
  have z2 := RC_18.out.c2
  go_wp2_with fail
  refine (toRing_any _ _ _ _).mono ?_
  rintro e w19 ⟨rfl, g⟩
  have hsw19 : w18.heap.size ≤ w19.heap.size := g.size
  have HG_19 : Hid (Old w w19) := Old.trans HG_18.out g
  have RC_19 : Hid (Rc w19 w.heap.size p n r) := RC_18.out.old g
  have O_19 : Hid (Own w19 w3.heap.size (.slice aw4 zs.length capw4) zs) := O_18.out.old g
  have Xv_19 : Hid (Own w19 w4.heap.size (.slice (some ⟨w4.heap.size, 0, none⟩) xs.length xs.length) (marks 1 xs.length)) := Xv_18.out.old g
  have Xu_19 : Hid (Own w19 w5.heap.size (.slice (some ⟨w5.heap.size, 0, none⟩) ys.length ys.length) (marks (1 + (xs.length : Int)) ys.length)) := Xu_18.out.old g
  have G_19 : Hid (Own w19 w7.heap.size (.slice aw8 zs.length capw8) (marks 1 zs.length)) := G_18.out.old g
  clear HG_18 RC_18 O_18 Xv_18 Xu_18 G_18
  clear g
  clear z0 z1 z2
  go_wp2_with fail
  refine (toInts_any xs _ _ (Rv.out.old HG_19.out) lv).mono ?_
  rintro e w20 ⟨rfl, g, o⟩
  have hsw20 : w19.heap.size ≤ w20.heap.size := g.size
  have hbw20 : w19.heap.size < w20.heap.size := own_lt o
  have HG_20 : Hid (Old w w20) := Old.trans HG_19.out g
  have RC_20 : Hid (Rc w20 w.heap.size p n r) := RC_19.out.old g
  have O_20 : Hid (Own w20 w3.heap.size (.slice aw4 zs.length capw4) zs) := O_19.out.old g
  have Xv_20 : Hid (Own w20 w4.heap.size (.slice (some ⟨w4.heap.size, 0, none⟩) xs.length xs.length) (marks 1 xs.length)) := Xv_19.out.old g
  have Xu_20 : Hid (Own w20 w5.heap.size (.slice (some ⟨w5.heap.size, 0, none⟩) ys.length ys.length) (marks (1 + (xs.length : Int)) ys.length)) := Xu_19.out.old g
  have G_20 : Hid (Own w20 w7.heap.size (.slice aw8 zs.length capw8) (marks 1 zs.length)) := G_19.out.old g
  clear HG_19 RC_19 O_19 Xv_19 Xu_19 G_19
  have Cv_20 : Hid (Own w20 w19.heap.size (.slice (some ⟨w19.heap.size, 0, none⟩) xs.length xs.length) xs) := o
  have DCv : Hid (∀ g, (Value.slice (some ⟨w19.heap.size, 0, none⟩) xs.length xs.length).ownBlock = some g → w19.heap.size ≤ g ∧ g < w20.heap.size) := fun g hg => by have := o.lt g hg; exact this
  clear g o
  go_wp2_with fail
  refine (toInts_any ys _ _ (Ru.out.old HG_20.out) lu).mono ?_
  rintro e w21 ⟨rfl, g, o⟩
  have hsw21 : w20.heap.size ≤ w21.heap.size := g.size
  have hbw21 : w20.heap.size < w21.heap.size := own_lt o
  have HG_21 : Hid (Old w w21) := Old.trans HG_20.out g
  have RC_21 : Hid (Rc w21 w.heap.size p n r) := RC_20.out.old g
  have O_21 : Hid (Own w21 w3.heap.size (.slice aw4 zs.length capw4) zs) := O_20.out.old g
  have Xv_21 : Hid (Own w21 w4.heap.size (.slice (some ⟨w4.heap.size, 0, none⟩) xs.length xs.length) (marks 1 xs.length)) := Xv_20.out.old g
  have Xu_21 : Hid (Own w21 w5.heap.size (.slice (some ⟨w5.heap.size, 0, none⟩) ys.length ys.length) (marks (1 + (xs.length : Int)) ys.length)) := Xu_20.out.old g
  have G_21 : Hid (Own w21 w7.heap.size (.slice aw8 zs.length capw8) (marks 1 zs.length)) := G_20.out.old g
  have Cv_21 : Hid (Own w21 w19.heap.size (.slice (some ⟨w19.heap.size, 0, none⟩) xs.length xs.length) xs) := Cv_20.out.old g
  clear HG_20 RC_20 O_20 Xv_20 Xu_20 G_20 Cv_20
  have Cu_21 : Hid (Own w21 w20.heap.size (.slice (some ⟨w20.heap.size, 0, none⟩) ys.length ys.length) ys) := o
  have DCu : Hid (∀ g, (Value.slice (some ⟨w20.heap.size, 0, none⟩) ys.length ys.length).ownBlock = some g → w20.heap.size ≤ g ∧ g < w21.heap.size) := fun g hg => by have := o.lt g hg; exact this
  clear g o
  go_wp2_with fail
  refine (IM.out _ _ _ (HP.out.old HG_21.out) (HT.out.old HG_21.out) (Own.row Cv_21.out) (Own.row Cu_21.out)).mono ?_
  rintro e w22 ⟨vw22, rfl, g, o⟩
  obtain ⟨aw22, capw22, rfl⟩ := (Own.row o).slice
  have hsw22 : w21.heap.size ≤ w22.heap.size := g.size
  have HG_22 : Hid (Old w w22) := Old.trans HG_21.out g
  have RC_22 : Hid (Rc w22 w.heap.size p n r) := RC_21.out.old g
  have O_22 : Hid (Own w22 w3.heap.size (.slice aw4 zs.length capw4) zs) := O_21.out.old g
  have Xv_22 : Hid (Own w22 w4.heap.size (.slice (some ⟨w4.heap.size, 0, none⟩) xs.length xs.length) (marks 1 xs.length)) := Xv_21.out.old g
  have Xu_22 : Hid (Own w22 w5.heap.size (.slice (some ⟨w5.heap.size, 0, none⟩) ys.length ys.length) (marks (1 + (xs.length : Int)) ys.length)) := Xu_21.out.old g
  have G_22 : Hid (Own w22 w7.heap.size (.slice aw8 zs.length capw8) (marks 1 zs.length)) := G_21.out.old g
  have Cv_22 : Hid (Own w22 w19.heap.size (.slice (some ⟨w19.heap.size, 0, none⟩) xs.length xs.length) xs) := Cv_21.out.old g
  have Cu_22 : Hid (Own w22 w20.heap.size (.slice (some ⟨w20.heap.size, 0, none⟩) ys.length ys.length) ys) := Cu_21.out.old g
  clear HG_21 RC_21 O_21 Xv_21 Xu_21 G_21 Cv_21 Cu_21
  have H_22 : Hid (Own w22 w21.heap.size (.slice aw22 zs.length capw22) zs) := o
  have DH : Hid (∀ g, (Value.slice aw22 zs.length capw22).ownBlock = some g → w21.heap.size ≤ g ∧ g < w22.heap.size) := fun g hg => by have := o.lt g hg; exact this
  clear g o
  go_wp2_with fail
  refine (eqInts_yes zs _ _ _ (Own.row H_22.out) (Own.row O_22.out) (by omega)).mono ?_
  rintro e w23 ⟨rfl, g⟩
  have hsw23 : w22.heap.size ≤ w23.heap.size := g.size
  have HG_23 : Hid (Old w w23) := Old.trans HG_22.out g
  have RC_23 : Hid (Rc w23 w.heap.size p n r) := RC_22.out.old g
  have O_23 : Hid (Own w23 w3.heap.size (.slice aw4 zs.length capw4) zs) := O_22.out.old g
  have Xv_23 : Hid (Own w23 w4.heap.size (.slice (some ⟨w4.heap.size, 0, none⟩) xs.length xs.length) (marks 1 xs.length)) := Xv_22.out.old g
  have Xu_23 : Hid (Own w23 w5.heap.size (.slice (some ⟨w5.heap.size, 0, none⟩) ys.length ys.length) (marks (1 + (xs.length : Int)) ys.length)) := Xu_22.out.old g
  have G_23 : Hid (Own w23 w7.heap.size (.slice aw8 zs.length capw8) (marks 1 zs.length)) := G_22.out.old g
  have Cv_23 : Hid (Own w23 w19.heap.size (.slice (some ⟨w19.heap.size, 0, none⟩) xs.length xs.length) xs) := Cv_22.out.old g
  have Cu_23 : Hid (Own w23 w20.heap.size (.slice (some ⟨w20.heap.size, 0, none⟩) ys.length ys.length) ys) := Cu_22.out.old g
  have H_23 : Hid (Own w23 w21.heap.size (.slice aw22 zs.length capw22) zs) := H_22.out.old g
  clear HG_22 RC_22 O_22 Xv_22 Xu_22 G_22 Cv_22 Cu_22 H_22
  clear g
  go_wp2_with fail
  refine (heldInts_yes zs.length _ 1 _ (Own.row G_23.out) (by omega) (by omega) (by omega)).mono ?_
  rintro e w24 ⟨rfl, g⟩
  have hsw24 : w23.heap.size ≤ w24.heap.size := g.size
  have HG_24 : Hid (Old w w24) := Old.trans HG_23.out g
  have RC_24 : Hid (Rc w24 w.heap.size p n r) := RC_23.out.old g
  have O_24 : Hid (Own w24 w3.heap.size (.slice aw4 zs.length capw4) zs) := O_23.out.old g
  have Xv_24 : Hid (Own w24 w4.heap.size (.slice (some ⟨w4.heap.size, 0, none⟩) xs.length xs.length) (marks 1 xs.length)) := Xv_23.out.old g
  have Xu_24 : Hid (Own w24 w5.heap.size (.slice (some ⟨w5.heap.size, 0, none⟩) ys.length ys.length) (marks (1 + (xs.length : Int)) ys.length)) := Xu_23.out.old g
  have G_24 : Hid (Own w24 w7.heap.size (.slice aw8 zs.length capw8) (marks 1 zs.length)) := G_23.out.old g
  have Cv_24 : Hid (Own w24 w19.heap.size (.slice (some ⟨w19.heap.size, 0, none⟩) xs.length xs.length) xs) := Cv_23.out.old g
  have Cu_24 : Hid (Own w24 w20.heap.size (.slice (some ⟨w20.heap.size, 0, none⟩) ys.length ys.length) ys) := Cu_23.out.old g
  have H_24 : Hid (Own w24 w21.heap.size (.slice aw22 zs.length capw22) zs) := H_23.out.old g
  clear HG_23 RC_23 O_23 Xv_23 Xu_23 G_23 Cv_23 Cu_23 H_23
  clear g
  go_wp2_with fail
  go_ret
  exact ⟨rfl, HG_24.out⟩
end Go.Proofs.YtcgnndenmcmieaaDoor
