/- Proved: the walk of the statement on ExactConvert, under the contracts of the model's and of the program's function. -/
import Derived.Test.YtejkejfhahmhcaaDoorKG
import Derived.Test.YtejkejfhahmhcaaDoorKB
namespace Go.Proofs.YtejkejfhahmhcaaDoor
open Go.ChangeShapes Go.WideShapes Go.ChangeAt Go.RowKit
open M1
set_option linter.unusedVariables false
set_option linter.unusedSimpArgs false
set_option maxRecDepth 100000 in
set_option maxHeartbeats 8000000 in
theorem law_ExactConvert (t s : Int) (xs ys zz : List Int) (v u q : Value) (w : World) (hv : Row w v xs) (hlv : xs.length ≤ 9223372036854775807) (hu : Row w u ys) (hlu : ys.length ≤ 9223372036854775807) (hq : Row w q zz) (hlq : zz.length ≤ 9223372036854775807) (hP : PrsW w) (hT : TabW w) (ok : Bool) (zs : List Int) (hz : zs.length ≤ 1000)
    (hspec : xs.length ≤ 1048576 → ys.length ≤ 1048576 → zz.length ≤ 1048576 → ∀ v u q W, Row W v xs → Fit v → Row W u ys → Fit u → Row W q zz → Fit q → Calls Tryd.prog 26 #[v, u, .int .i64 t, .int .i64 s, q] W fun e w' => ∃ v', e = .returned (.tuple #[v', .bool ok]) ∧ Old W w' ∧ Own w' W.heap.size v' zs)
    (himpl : xs.length ≤ 1048576 → ys.length ≤ 1048576 → zz.length ≤ 1048576 → ∀ v u q W, PrsW W → TabW W → Row W v xs → Fit v → Row W u ys → Fit u → Row W q zz → Fit q → Calls Tryd.prog 27 #[v, u, .int .i64 t, .int .i64 s, q] W fun e w' => ∃ v', e = .returned (.tuple #[v', .bool ok]) ∧ Old W w' ∧ Own w' W.heap.size v' zs) :
    Calls Tryd.prog 7 #[v, u, .int .i64 t, .int .i64 s, q] w fun e w' => e = .returned (.bool true) ∧ Old w w' := by
  have HP : Hid (PrsW w) := hP
  have HT : Hid (TabW w) := hT
  have Rv : Hid (Row w v xs) := hv
  obtain ⟨cv, capv, rfl⟩ := hv.slice
  have Ru : Hid (Row w u ys) := hu
  obtain ⟨cu, capu, rfl⟩ := hu.slice
  have Rq : Hid (Row w q zz) := hq
  obtain ⟨cq, capq, rfl⟩ := hq.slice
  clear hT hP hv hu hq
  by_cases bigv : (1048576 : Int) < (xs.length : Int)
  · have dv : decide ((1048576 : Int) < (xs.length : Int)) = true := decide_eq_true bigv
    clear hspec himpl
    go_enter Tryd.func7, Tryd.ntmps7
    go_wp2_with fail
    go_ret
    exact ⟨rfl, by repeat (first | exact Old.refl _ | apply Old.alloc)⟩
  have dv : decide ((1048576 : Int) < (xs.length : Int)) = false := decide_eq_false bigv
  have lv : xs.length ≤ 1048576 := by omega
  by_cases bigu : (1048576 : Int) < (ys.length : Int)
  · have du : decide ((1048576 : Int) < (ys.length : Int)) = true := decide_eq_true bigu
    clear hspec himpl
    go_enter Tryd.func7, Tryd.ntmps7
    go_wp2_with fail
    go_ret
    exact ⟨rfl, by repeat (first | exact Old.refl _ | apply Old.alloc)⟩
  have du : decide ((1048576 : Int) < (ys.length : Int)) = false := decide_eq_false bigu
  have lu : ys.length ≤ 1048576 := by omega
  by_cases bigq : (1048576 : Int) < (zz.length : Int)
  · have dq : decide ((1048576 : Int) < (zz.length : Int)) = true := decide_eq_true bigq
    clear hspec himpl
    go_enter Tryd.func7, Tryd.ntmps7
    go_wp2_with fail
    go_ret
    exact ⟨rfl, by repeat (first | exact Old.refl _ | apply Old.alloc)⟩
  have dq : decide ((1048576 : Int) < (zz.length : Int)) = false := decide_eq_false bigq
  have lq : zz.length ≤ 1048576 := by omega
  have SP : Hid (∀ v u q W, Row W v xs → Fit v → Row W u ys → Fit u → Row W q zz → Fit q → Calls Tryd.prog 26 #[v, u, .int .i64 t, .int .i64 s, q] W fun e w' => ∃ v', e = .returned (.tuple #[v', .bool ok]) ∧ Old W w' ∧ Own w' W.heap.size v' zs) := hspec lv lu lq
  have IM : Hid (∀ v u q W, PrsW W → TabW W → Row W v xs → Fit v → Row W u ys → Fit u → Row W q zz → Fit q → Calls Tryd.prog 27 #[v, u, .int .i64 t, .int .i64 s, q] W fun e w' => ∃ v', e = .returned (.tuple #[v', .bool ok]) ∧ Old W w' ∧ Own w' W.heap.size v' zs) := himpl lv lu lq
  have dok : (ok != ok) = false := by simp
  have dq : decide ((1 : Int) + (zs.length : Int) < 0) = false := decide_eq_false (by omega)
  have dqm : ((1 : Int) + (zs.length : Int) != 1 + (zs.length : Int)) = false := by simp
  have dk : decide ((1 : Int) + (xs.length : Int) + (ys.length : Int) + (zz.length : Int) < 0) = false := decide_eq_false (by omega)
  clear hspec himpl bigv bigu bigq
  go_enter Tryd.func7, Tryd.ntmps7
  have HG_0 : Hid (Old w w) := Old.refl w
  go_wp2_with fail
  refine (toInts_any xs _ _ (Rv.out.old HG_0.out) lv).mono ?_
  rintro e w1 ⟨rfl, g, o⟩
  have hsw1 : w.heap.size ≤ w1.heap.size := g.size
  have hbw1 : w.heap.size < w1.heap.size := own_lt o
  have HG_1 : Hid (Old w w1) := Old.trans HG_0.out g
  clear HG_0
  have Av_1 : Hid (Own w1 w.heap.size (.slice (some ⟨w.heap.size, 0, none⟩) xs.length xs.length) xs) := o
  have DAv : Hid (∀ g, (Value.slice (some ⟨w.heap.size, 0, none⟩) xs.length xs.length).ownBlock = some g → w.heap.size ≤ g ∧ g < w1.heap.size) := fun g hg => by have := o.lt g hg; exact this
  clear g o
  go_wp2_with fail
  refine (toInts_any ys _ _ (Ru.out.old HG_1.out) lu).mono ?_
  rintro e w2 ⟨rfl, g, o⟩
  have hsw2 : w1.heap.size ≤ w2.heap.size := g.size
  have hbw2 : w1.heap.size < w2.heap.size := own_lt o
  have HG_2 : Hid (Old w w2) := Old.trans HG_1.out g
  have Av_2 : Hid (Own w2 w.heap.size (.slice (some ⟨w.heap.size, 0, none⟩) xs.length xs.length) xs) := Av_1.out.old g
  clear HG_1 Av_1
  have Au_2 : Hid (Own w2 w1.heap.size (.slice (some ⟨w1.heap.size, 0, none⟩) ys.length ys.length) ys) := o
  have DAu : Hid (∀ g, (Value.slice (some ⟨w1.heap.size, 0, none⟩) ys.length ys.length).ownBlock = some g → w1.heap.size ≤ g ∧ g < w2.heap.size) := fun g hg => by have := o.lt g hg; exact this
  clear g o
  go_wp2_with fail
  refine (toInts_any zz _ _ (Rq.out.old HG_2.out) lq).mono ?_
  rintro e w3 ⟨rfl, g, o⟩
  have hsw3 : w2.heap.size ≤ w3.heap.size := g.size
  have hbw3 : w2.heap.size < w3.heap.size := own_lt o
  have HG_3 : Hid (Old w w3) := Old.trans HG_2.out g
  have Av_3 : Hid (Own w3 w.heap.size (.slice (some ⟨w.heap.size, 0, none⟩) xs.length xs.length) xs) := Av_2.out.old g
  have Au_3 : Hid (Own w3 w1.heap.size (.slice (some ⟨w1.heap.size, 0, none⟩) ys.length ys.length) ys) := Au_2.out.old g
  clear HG_2 Av_2 Au_2
  have Aq_3 : Hid (Own w3 w2.heap.size (.slice (some ⟨w2.heap.size, 0, none⟩) zz.length zz.length) zz) := o
  have DAq : Hid (∀ g, (Value.slice (some ⟨w2.heap.size, 0, none⟩) zz.length zz.length).ownBlock = some g → w2.heap.size ≤ g ∧ g < w3.heap.size) := fun g hg => by have := o.lt g hg; exact this
  clear g o
  go_wp2_with fail
  refine (SP.out _ _ _ _ (Own.row Av_3.out) (Nat.le_refl _) (Own.row Au_3.out) (Nat.le_refl _) (Own.row Aq_3.out) (Nat.le_refl _)).mono ?_
  rintro e w4 ⟨vw4, rfl, g, o⟩
  obtain ⟨aw4, capw4, rfl⟩ := (Own.row o).slice
  have hsw4 : w3.heap.size ≤ w4.heap.size := g.size
  have HG_4 : Hid (Old w w4) := Old.trans HG_3.out g
  have Av_4 : Hid (Own w4 w.heap.size (.slice (some ⟨w.heap.size, 0, none⟩) xs.length xs.length) xs) := Av_3.out.old g
  have Au_4 : Hid (Own w4 w1.heap.size (.slice (some ⟨w1.heap.size, 0, none⟩) ys.length ys.length) ys) := Au_3.out.old g
  have Aq_4 : Hid (Own w4 w2.heap.size (.slice (some ⟨w2.heap.size, 0, none⟩) zz.length zz.length) zz) := Aq_3.out.old g
  clear HG_3 Av_3 Au_3 Aq_3
  have O_4 : Hid (Own w4 w3.heap.size (.slice aw4 zs.length capw4) zs) := o
  have DO : Hid (∀ g, (Value.slice aw4 zs.length capw4).ownBlock = some g → w3.heap.size ≤ g ∧ g < w4.heap.size) := fun g hg => by have := o.lt g hg; exact this
  clear g o
  clear Av_4
  clear Au_4
  clear Aq_4
  go_wp2_with fail
  refine (toInts_any xs _ _ (Rv.out.old HG_4.out) lv).mono ?_
  rintro e w5 ⟨rfl, g, o⟩
  have hsw5 : w4.heap.size ≤ w5.heap.size := g.size
  have hbw5 : w4.heap.size < w5.heap.size := own_lt o
  have HG_5 : Hid (Old w w5) := Old.trans HG_4.out g
  have O_5 : Hid (Own w5 w3.heap.size (.slice aw4 zs.length capw4) zs) := O_4.out.old g
  clear HG_4 O_4
  have Xv_5 : Hid (Own w5 w4.heap.size (.slice (some ⟨w4.heap.size, 0, none⟩) xs.length xs.length) xs) := o
  have DXv : Hid (∀ g, (Value.slice (some ⟨w4.heap.size, 0, none⟩) xs.length xs.length).ownBlock = some g → w4.heap.size ≤ g ∧ g < w5.heap.size) := fun g hg => by have := o.lt g hg; exact this
  clear g o
  go_wp2_with fail
  refine (toInts_any ys _ _ (Ru.out.old HG_5.out) lu).mono ?_
  rintro e w6 ⟨rfl, g, o⟩
  have hsw6 : w5.heap.size ≤ w6.heap.size := g.size
  have hbw6 : w5.heap.size < w6.heap.size := own_lt o
  have HG_6 : Hid (Old w w6) := Old.trans HG_5.out g
  have O_6 : Hid (Own w6 w3.heap.size (.slice aw4 zs.length capw4) zs) := O_5.out.old g
  have Xv_6 : Hid (Own w6 w4.heap.size (.slice (some ⟨w4.heap.size, 0, none⟩) xs.length xs.length) xs) := Xv_5.out.old g
  clear HG_5 O_5 Xv_5
  have Xu_6 : Hid (Own w6 w5.heap.size (.slice (some ⟨w5.heap.size, 0, none⟩) ys.length ys.length) ys) := o
  have DXu : Hid (∀ g, (Value.slice (some ⟨w5.heap.size, 0, none⟩) ys.length ys.length).ownBlock = some g → w5.heap.size ≤ g ∧ g < w6.heap.size) := fun g hg => by have := o.lt g hg; exact this
  clear g o
  go_wp2_with fail
  refine (toInts_any zz _ _ (Rq.out.old HG_6.out) lq).mono ?_
  rintro e w7 ⟨rfl, g, o⟩
  have hsw7 : w6.heap.size ≤ w7.heap.size := g.size
  have hbw7 : w6.heap.size < w7.heap.size := own_lt o
  have HG_7 : Hid (Old w w7) := Old.trans HG_6.out g
  have O_7 : Hid (Own w7 w3.heap.size (.slice aw4 zs.length capw4) zs) := O_6.out.old g
  have Xv_7 : Hid (Own w7 w4.heap.size (.slice (some ⟨w4.heap.size, 0, none⟩) xs.length xs.length) xs) := Xv_6.out.old g
  have Xu_7 : Hid (Own w7 w5.heap.size (.slice (some ⟨w5.heap.size, 0, none⟩) ys.length ys.length) ys) := Xu_6.out.old g
  clear HG_6 O_6 Xv_6 Xu_6
  have Xq_7 : Hid (Own w7 w6.heap.size (.slice (some ⟨w6.heap.size, 0, none⟩) zz.length zz.length) zz) := o
  have DXq : Hid (∀ g, (Value.slice (some ⟨w6.heap.size, 0, none⟩) zz.length zz.length).ownBlock = some g → w6.heap.size ≤ g ∧ g < w7.heap.size) := fun g hg => by have := o.lt g hg; exact this
  clear g o
  go_wp2_with fail
  refine (IM.out _ _ _ _ (HP.out.old HG_7.out) (HT.out.old HG_7.out) (Own.row Xv_7.out) (Nat.le_refl _) (Own.row Xu_7.out) (Nat.le_refl _) (Own.row Xq_7.out) (Nat.le_refl _)).mono ?_
  rintro e w8 ⟨vw8, rfl, g, o⟩
  obtain ⟨aw8, capw8, rfl⟩ := (Own.row o).slice
  have hsw8 : w7.heap.size ≤ w8.heap.size := g.size
  have HG_8 : Hid (Old w w8) := Old.trans HG_7.out g
  have O_8 : Hid (Own w8 w3.heap.size (.slice aw4 zs.length capw4) zs) := O_7.out.old g
  have Xv_8 : Hid (Own w8 w4.heap.size (.slice (some ⟨w4.heap.size, 0, none⟩) xs.length xs.length) xs) := Xv_7.out.old g
  have Xu_8 : Hid (Own w8 w5.heap.size (.slice (some ⟨w5.heap.size, 0, none⟩) ys.length ys.length) ys) := Xu_7.out.old g
  have Xq_8 : Hid (Own w8 w6.heap.size (.slice (some ⟨w6.heap.size, 0, none⟩) zz.length zz.length) zz) := Xq_7.out.old g
  clear HG_7 O_7 Xv_7 Xu_7 Xq_7
  have G_8 : Hid (Own w8 w7.heap.size (.slice aw8 zs.length capw8) zs) := o
  have DG : Hid (∀ g, (Value.slice aw8 zs.length capw8).ownBlock = some g → w7.heap.size ≤ g ∧ g < w8.heap.size) := fun g hg => by have := o.lt g hg; exact this
  clear g o
  go_wp2_with fail
  refine (eqInts_yes zs _ _ _ (Own.row G_8.out) (Own.row O_8.out) (by omega)).mono ?_
  rintro e w9 ⟨rfl, g⟩
  have hsw9 : w8.heap.size ≤ w9.heap.size := g.size
  have HG_9 : Hid (Old w w9) := Old.trans HG_8.out g
  have O_9 : Hid (Own w9 w3.heap.size (.slice aw4 zs.length capw4) zs) := O_8.out.old g
  have Xv_9 : Hid (Own w9 w4.heap.size (.slice (some ⟨w4.heap.size, 0, none⟩) xs.length xs.length) xs) := Xv_8.out.old g
  have Xu_9 : Hid (Own w9 w5.heap.size (.slice (some ⟨w5.heap.size, 0, none⟩) ys.length ys.length) ys) := Xu_8.out.old g
  have Xq_9 : Hid (Own w9 w6.heap.size (.slice (some ⟨w6.heap.size, 0, none⟩) zz.length zz.length) zz) := Xq_8.out.old g
  have G_9 : Hid (Own w9 w7.heap.size (.slice aw8 zs.length capw8) zs) := G_8.out.old g
  clear HG_8 O_8 Xv_8 Xu_8 Xq_8 G_8
  clear g
  go_wp2_with fail
  refine (toInts_any xs _ _ (Rv.out.old HG_9.out) lv).mono ?_
  rintro e w10 ⟨rfl, g, o⟩
  have hsw10 : w9.heap.size ≤ w10.heap.size := g.size
  have hbw10 : w9.heap.size < w10.heap.size := own_lt o
  have HG_10 : Hid (Old w w10) := Old.trans HG_9.out g
  have O_10 : Hid (Own w10 w3.heap.size (.slice aw4 zs.length capw4) zs) := O_9.out.old g
  have Xv_10 : Hid (Own w10 w4.heap.size (.slice (some ⟨w4.heap.size, 0, none⟩) xs.length xs.length) xs) := Xv_9.out.old g
  have Xu_10 : Hid (Own w10 w5.heap.size (.slice (some ⟨w5.heap.size, 0, none⟩) ys.length ys.length) ys) := Xu_9.out.old g
  have Xq_10 : Hid (Own w10 w6.heap.size (.slice (some ⟨w6.heap.size, 0, none⟩) zz.length zz.length) zz) := Xq_9.out.old g
  have G_10 : Hid (Own w10 w7.heap.size (.slice aw8 zs.length capw8) zs) := G_9.out.old g
  clear HG_9 O_9 Xv_9 Xu_9 Xq_9 G_9
  have Bv_10 : Hid (Own w10 w9.heap.size (.slice (some ⟨w9.heap.size, 0, none⟩) xs.length xs.length) xs) := o
  have DBv : Hid (∀ g, (Value.slice (some ⟨w9.heap.size, 0, none⟩) xs.length xs.length).ownBlock = some g → w9.heap.size ≤ g ∧ g < w10.heap.size) := fun g hg => by have := o.lt g hg; exact this
  clear g o
  go_wp2_with fail
  refine (eqInts_yes xs _ _ _ (Own.row Xv_10.out) (Own.row Bv_10.out) (by omega)).mono ?_
  rintro e w11 ⟨rfl, g⟩
  have hsw11 : w10.heap.size ≤ w11.heap.size := g.size
  have HG_11 : Hid (Old w w11) := Old.trans HG_10.out g
  have O_11 : Hid (Own w11 w3.heap.size (.slice aw4 zs.length capw4) zs) := O_10.out.old g
  have Xv_11 : Hid (Own w11 w4.heap.size (.slice (some ⟨w4.heap.size, 0, none⟩) xs.length xs.length) xs) := Xv_10.out.old g
  have Xu_11 : Hid (Own w11 w5.heap.size (.slice (some ⟨w5.heap.size, 0, none⟩) ys.length ys.length) ys) := Xu_10.out.old g
  have Xq_11 : Hid (Own w11 w6.heap.size (.slice (some ⟨w6.heap.size, 0, none⟩) zz.length zz.length) zz) := Xq_10.out.old g
  have G_11 : Hid (Own w11 w7.heap.size (.slice aw8 zs.length capw8) zs) := G_10.out.old g
  have Bv_11 : Hid (Own w11 w9.heap.size (.slice (some ⟨w9.heap.size, 0, none⟩) xs.length xs.length) xs) := Bv_10.out.old g
  clear HG_10 O_10 Xv_10 Xu_10 Xq_10 G_10 Bv_10
  clear g
  clear Bv_11
  go_wp2_with fail
  refine (toInts_any ys _ _ (Ru.out.old HG_11.out) lu).mono ?_
  rintro e w12 ⟨rfl, g, o⟩
  have hsw12 : w11.heap.size ≤ w12.heap.size := g.size
  have hbw12 : w11.heap.size < w12.heap.size := own_lt o
  have HG_12 : Hid (Old w w12) := Old.trans HG_11.out g
  have O_12 : Hid (Own w12 w3.heap.size (.slice aw4 zs.length capw4) zs) := O_11.out.old g
  have Xv_12 : Hid (Own w12 w4.heap.size (.slice (some ⟨w4.heap.size, 0, none⟩) xs.length xs.length) xs) := Xv_11.out.old g
  have Xu_12 : Hid (Own w12 w5.heap.size (.slice (some ⟨w5.heap.size, 0, none⟩) ys.length ys.length) ys) := Xu_11.out.old g
  have Xq_12 : Hid (Own w12 w6.heap.size (.slice (some ⟨w6.heap.size, 0, none⟩) zz.length zz.length) zz) := Xq_11.out.old g
  have G_12 : Hid (Own w12 w7.heap.size (.slice aw8 zs.length capw8) zs) := G_11.out.old g
  clear HG_11 O_11 Xv_11 Xu_11 Xq_11 G_11
  have Bu_12 : Hid (Own w12 w11.heap.size (.slice (some ⟨w11.heap.size, 0, none⟩) ys.length ys.length) ys) := o
  have DBu : Hid (∀ g, (Value.slice (some ⟨w11.heap.size, 0, none⟩) ys.length ys.length).ownBlock = some g → w11.heap.size ≤ g ∧ g < w12.heap.size) := fun g hg => by have := o.lt g hg; exact this
  clear g o
  go_wp2_with fail
  refine (eqInts_yes ys _ _ _ (Own.row Xu_12.out) (Own.row Bu_12.out) (by omega)).mono ?_
  rintro e w13 ⟨rfl, g⟩
  have hsw13 : w12.heap.size ≤ w13.heap.size := g.size
  have HG_13 : Hid (Old w w13) := Old.trans HG_12.out g
  have O_13 : Hid (Own w13 w3.heap.size (.slice aw4 zs.length capw4) zs) := O_12.out.old g
  have Xv_13 : Hid (Own w13 w4.heap.size (.slice (some ⟨w4.heap.size, 0, none⟩) xs.length xs.length) xs) := Xv_12.out.old g
  have Xu_13 : Hid (Own w13 w5.heap.size (.slice (some ⟨w5.heap.size, 0, none⟩) ys.length ys.length) ys) := Xu_12.out.old g
  have Xq_13 : Hid (Own w13 w6.heap.size (.slice (some ⟨w6.heap.size, 0, none⟩) zz.length zz.length) zz) := Xq_12.out.old g
  have G_13 : Hid (Own w13 w7.heap.size (.slice aw8 zs.length capw8) zs) := G_12.out.old g
  have Bu_13 : Hid (Own w13 w11.heap.size (.slice (some ⟨w11.heap.size, 0, none⟩) ys.length ys.length) ys) := Bu_12.out.old g
  clear HG_12 O_12 Xv_12 Xu_12 Xq_12 G_12 Bu_12
  clear g
  clear Bu_13
  go_wp2_with fail
  refine (toInts_any zz _ _ (Rq.out.old HG_13.out) lq).mono ?_
  rintro e w14 ⟨rfl, g, o⟩
  have hsw14 : w13.heap.size ≤ w14.heap.size := g.size
  have hbw14 : w13.heap.size < w14.heap.size := own_lt o
  have HG_14 : Hid (Old w w14) := Old.trans HG_13.out g
  have O_14 : Hid (Own w14 w3.heap.size (.slice aw4 zs.length capw4) zs) := O_13.out.old g
  have Xv_14 : Hid (Own w14 w4.heap.size (.slice (some ⟨w4.heap.size, 0, none⟩) xs.length xs.length) xs) := Xv_13.out.old g
  have Xu_14 : Hid (Own w14 w5.heap.size (.slice (some ⟨w5.heap.size, 0, none⟩) ys.length ys.length) ys) := Xu_13.out.old g
  have Xq_14 : Hid (Own w14 w6.heap.size (.slice (some ⟨w6.heap.size, 0, none⟩) zz.length zz.length) zz) := Xq_13.out.old g
  have G_14 : Hid (Own w14 w7.heap.size (.slice aw8 zs.length capw8) zs) := G_13.out.old g
  clear HG_13 O_13 Xv_13 Xu_13 Xq_13 G_13
  have Bq_14 : Hid (Own w14 w13.heap.size (.slice (some ⟨w13.heap.size, 0, none⟩) zz.length zz.length) zz) := o
  have DBq : Hid (∀ g, (Value.slice (some ⟨w13.heap.size, 0, none⟩) zz.length zz.length).ownBlock = some g → w13.heap.size ≤ g ∧ g < w14.heap.size) := fun g hg => by have := o.lt g hg; exact this
  clear g o
  go_wp2_with fail
  refine (eqInts_yes zz _ _ _ (Own.row Xq_14.out) (Own.row Bq_14.out) (by omega)).mono ?_
  rintro e w15 ⟨rfl, g⟩
  have hsw15 : w14.heap.size ≤ w15.heap.size := g.size
  have HG_15 : Hid (Old w w15) := Old.trans HG_14.out g
  have O_15 : Hid (Own w15 w3.heap.size (.slice aw4 zs.length capw4) zs) := O_14.out.old g
  have Xv_15 : Hid (Own w15 w4.heap.size (.slice (some ⟨w4.heap.size, 0, none⟩) xs.length xs.length) xs) := Xv_14.out.old g
  have Xu_15 : Hid (Own w15 w5.heap.size (.slice (some ⟨w5.heap.size, 0, none⟩) ys.length ys.length) ys) := Xu_14.out.old g
  have Xq_15 : Hid (Own w15 w6.heap.size (.slice (some ⟨w6.heap.size, 0, none⟩) zz.length zz.length) zz) := Xq_14.out.old g
  have G_15 : Hid (Own w15 w7.heap.size (.slice aw8 zs.length capw8) zs) := G_14.out.old g
  have Bq_15 : Hid (Own w15 w13.heap.size (.slice (some ⟨w13.heap.size, 0, none⟩) zz.length zz.length) zz) := Bq_14.out.old g
  clear HG_14 O_14 Xv_14 Xu_14 Xq_14 G_14 Bq_14
  clear g
  clear Bq_15
  go_wp2_with fail
  refine (markInts_any xs _ 1 _ _ Xv_15.out (by omega) (by omega) (by omega)).mono ?_
  rintro e w16 ⟨rfl, gm, om⟩
  have hsw16 : w15.heap.size ≤ w16.heap.size := gm.size
  clear Xv_15
  have HG_16 : Hid (Old w w16) := Old.by_ HG_15.out gm (fun b hb => by have := DXv.out b hb; omega)
  have O_16 : Hid (Own w16 w3.heap.size (.slice aw4 zs.length capw4) zs) := O_15.out.by_ gm (fun a b h1 h2 h3 => by have := DO.out a h1; have := DXv.out b h2; omega)
  have Xu_16 : Hid (Own w16 w5.heap.size (.slice (some ⟨w5.heap.size, 0, none⟩) ys.length ys.length) ys) := Xu_15.out.by_ gm (fun a b h1 h2 h3 => by have := DXu.out a h1; have := DXv.out b h2; omega)
  have Xq_16 : Hid (Own w16 w6.heap.size (.slice (some ⟨w6.heap.size, 0, none⟩) zz.length zz.length) zz) := Xq_15.out.by_ gm (fun a b h1 h2 h3 => by have := DXq.out a h1; have := DXv.out b h2; omega)
  have G_16 : Hid (Own w16 w7.heap.size (.slice aw8 zs.length capw8) zs) := G_15.out.by_ gm (fun a b h1 h2 h3 => by have := DG.out a h1; have := DXv.out b h2; omega)
  clear HG_15 O_15 Xu_15 Xq_15 G_15
  have Xv_16 : Hid (Own w16 w4.heap.size (.slice (some ⟨w4.heap.size, 0, none⟩) xs.length xs.length) (marks 1 xs.length)) := om
  clear gm om
  go_wp2_with fail
  refine (markInts_any ys _ (1 + (xs.length : Int)) _ _ Xu_16.out (by omega) (by omega) (by omega)).mono ?_
  rintro e w17 ⟨rfl, gm, om⟩
  have hsw17 : w16.heap.size ≤ w17.heap.size := gm.size
  clear Xu_16
  have HG_17 : Hid (Old w w17) := Old.by_ HG_16.out gm (fun b hb => by have := DXu.out b hb; omega)
  have O_17 : Hid (Own w17 w3.heap.size (.slice aw4 zs.length capw4) zs) := O_16.out.by_ gm (fun a b h1 h2 h3 => by have := DO.out a h1; have := DXu.out b h2; omega)
  have Xq_17 : Hid (Own w17 w6.heap.size (.slice (some ⟨w6.heap.size, 0, none⟩) zz.length zz.length) zz) := Xq_16.out.by_ gm (fun a b h1 h2 h3 => by have := DXq.out a h1; have := DXu.out b h2; omega)
  have G_17 : Hid (Own w17 w7.heap.size (.slice aw8 zs.length capw8) zs) := G_16.out.by_ gm (fun a b h1 h2 h3 => by have := DG.out a h1; have := DXu.out b h2; omega)
  have Xv_17 : Hid (Own w17 w4.heap.size (.slice (some ⟨w4.heap.size, 0, none⟩) xs.length xs.length) (marks 1 xs.length)) := Xv_16.out.by_ gm (fun a b h1 h2 h3 => by have := DXv.out a h1; have := DXu.out b h2; omega)
  clear HG_16 O_16 Xq_16 G_16 Xv_16
  have Xu_17 : Hid (Own w17 w5.heap.size (.slice (some ⟨w5.heap.size, 0, none⟩) ys.length ys.length) (marks (1 + (xs.length : Int)) ys.length)) := om
  clear gm om
  go_wp2_with fail
  refine (markInts_any zz _ (1 + (xs.length : Int) + (ys.length : Int)) _ _ Xq_17.out (by omega) (by omega) (by omega)).mono ?_
  rintro e w18 ⟨rfl, gm, om⟩
  have hsw18 : w17.heap.size ≤ w18.heap.size := gm.size
  clear Xq_17
  have HG_18 : Hid (Old w w18) := Old.by_ HG_17.out gm (fun b hb => by have := DXq.out b hb; omega)
  have O_18 : Hid (Own w18 w3.heap.size (.slice aw4 zs.length capw4) zs) := O_17.out.by_ gm (fun a b h1 h2 h3 => by have := DO.out a h1; have := DXq.out b h2; omega)
  have G_18 : Hid (Own w18 w7.heap.size (.slice aw8 zs.length capw8) zs) := G_17.out.by_ gm (fun a b h1 h2 h3 => by have := DG.out a h1; have := DXq.out b h2; omega)
  have Xv_18 : Hid (Own w18 w4.heap.size (.slice (some ⟨w4.heap.size, 0, none⟩) xs.length xs.length) (marks 1 xs.length)) := Xv_17.out.by_ gm (fun a b h1 h2 h3 => by have := DXv.out a h1; have := DXq.out b h2; omega)
  have Xu_18 : Hid (Own w18 w5.heap.size (.slice (some ⟨w5.heap.size, 0, none⟩) ys.length ys.length) (marks (1 + (xs.length : Int)) ys.length)) := Xu_17.out.by_ gm (fun a b h1 h2 h3 => by have := DXu.out a h1; have := DXq.out b h2; omega)
  clear HG_17 O_17 G_17 Xv_17 Xu_17
  have Xq_18 : Hid (Own w18 w6.heap.size (.slice (some ⟨w6.heap.size, 0, none⟩) zz.length zz.length) (marks (1 + (xs.length : Int) + (ys.length : Int)) zz.length)) := om
  clear gm om
  go_wp2_with fail
  refine (eqInts_yes zs _ _ _ (Own.row G_18.out) (Own.row O_18.out) (by omega)).mono ?_
  rintro e w19 ⟨rfl, g⟩
  have hsw19 : w18.heap.size ≤ w19.heap.size := g.size
  have HG_19 : Hid (Old w w19) := Old.trans HG_18.out g
  have O_19 : Hid (Own w19 w3.heap.size (.slice aw4 zs.length capw4) zs) := O_18.out.old g
  have G_19 : Hid (Own w19 w7.heap.size (.slice aw8 zs.length capw8) zs) := G_18.out.old g
  have Xv_19 : Hid (Own w19 w4.heap.size (.slice (some ⟨w4.heap.size, 0, none⟩) xs.length xs.length) (marks 1 xs.length)) := Xv_18.out.old g
  have Xu_19 : Hid (Own w19 w5.heap.size (.slice (some ⟨w5.heap.size, 0, none⟩) ys.length ys.length) (marks (1 + (xs.length : Int)) ys.length)) := Xu_18.out.old g
  have Xq_19 : Hid (Own w19 w6.heap.size (.slice (some ⟨w6.heap.size, 0, none⟩) zz.length zz.length) (marks (1 + (xs.length : Int) + (ys.length : Int)) zz.length)) := Xq_18.out.old g
  clear HG_18 O_18 G_18 Xv_18 Xu_18 Xq_18
  clear g
  go_wp2_with fail
  refine (markInts_any zs _ 1 _ _ G_19.out (by omega) (by omega) (by omega)).mono ?_
  rintro e w20 ⟨rfl, gm, om⟩
  have hsw20 : w19.heap.size ≤ w20.heap.size := gm.size
  clear G_19
  have HG_20 : Hid (Old w w20) := Old.by_ HG_19.out gm (fun b hb => by have := DG.out b hb; omega)
  have O_20 : Hid (Own w20 w3.heap.size (.slice aw4 zs.length capw4) zs) := O_19.out.by_ gm (fun a b h1 h2 h3 => by have := DO.out a h1; have := DG.out b h2; omega)
  have Xv_20 : Hid (Own w20 w4.heap.size (.slice (some ⟨w4.heap.size, 0, none⟩) xs.length xs.length) (marks 1 xs.length)) := Xv_19.out.by_ gm (fun a b h1 h2 h3 => by have := DXv.out a h1; have := DG.out b h2; omega)
  have Xu_20 : Hid (Own w20 w5.heap.size (.slice (some ⟨w5.heap.size, 0, none⟩) ys.length ys.length) (marks (1 + (xs.length : Int)) ys.length)) := Xu_19.out.by_ gm (fun a b h1 h2 h3 => by have := DXu.out a h1; have := DG.out b h2; omega)
  have Xq_20 : Hid (Own w20 w6.heap.size (.slice (some ⟨w6.heap.size, 0, none⟩) zz.length zz.length) (marks (1 + (xs.length : Int) + (ys.length : Int)) zz.length)) := Xq_19.out.by_ gm (fun a b h1 h2 h3 => by have := DXq.out a h1; have := DG.out b h2; omega)
  clear HG_19 O_19 Xv_19 Xu_19 Xq_19
  have G_20 : Hid (Own w20 w7.heap.size (.slice aw8 zs.length capw8) (marks 1 zs.length)) := om
  clear gm om
  go_wp2_with fail
  refine (heldInts_yes zs.length _ 1 _ (Own.row G_20.out) (by omega) (by omega) (by omega)).mono ?_
  rintro e w21 ⟨rfl, g⟩
  have hsw21 : w20.heap.size ≤ w21.heap.size := g.size
  have HG_21 : Hid (Old w w21) := Old.trans HG_20.out g
  have O_21 : Hid (Own w21 w3.heap.size (.slice aw4 zs.length capw4) zs) := O_20.out.old g
  have Xv_21 : Hid (Own w21 w4.heap.size (.slice (some ⟨w4.heap.size, 0, none⟩) xs.length xs.length) (marks 1 xs.length)) := Xv_20.out.old g
  have Xu_21 : Hid (Own w21 w5.heap.size (.slice (some ⟨w5.heap.size, 0, none⟩) ys.length ys.length) (marks (1 + (xs.length : Int)) ys.length)) := Xu_20.out.old g
  have Xq_21 : Hid (Own w21 w6.heap.size (.slice (some ⟨w6.heap.size, 0, none⟩) zz.length zz.length) (marks (1 + (xs.length : Int) + (ys.length : Int)) zz.length)) := Xq_20.out.old g
  have G_21 : Hid (Own w21 w7.heap.size (.slice aw8 zs.length capw8) (marks 1 zs.length)) := G_20.out.old g
  clear HG_20 O_20 Xv_20 Xu_20 Xq_20 G_20
  clear g
  go_wp2_with fail
  refine (toInts_any xs _ _ (Rv.out.old HG_21.out) lv).mono ?_
  rintro e w22 ⟨rfl, g, o⟩
  have hsw22 : w21.heap.size ≤ w22.heap.size := g.size
  have hbw22 : w21.heap.size < w22.heap.size := own_lt o
  have HG_22 : Hid (Old w w22) := Old.trans HG_21.out g
  have O_22 : Hid (Own w22 w3.heap.size (.slice aw4 zs.length capw4) zs) := O_21.out.old g
  have Xv_22 : Hid (Own w22 w4.heap.size (.slice (some ⟨w4.heap.size, 0, none⟩) xs.length xs.length) (marks 1 xs.length)) := Xv_21.out.old g
  have Xu_22 : Hid (Own w22 w5.heap.size (.slice (some ⟨w5.heap.size, 0, none⟩) ys.length ys.length) (marks (1 + (xs.length : Int)) ys.length)) := Xu_21.out.old g
  have Xq_22 : Hid (Own w22 w6.heap.size (.slice (some ⟨w6.heap.size, 0, none⟩) zz.length zz.length) (marks (1 + (xs.length : Int) + (ys.length : Int)) zz.length)) := Xq_21.out.old g
  have G_22 : Hid (Own w22 w7.heap.size (.slice aw8 zs.length capw8) (marks 1 zs.length)) := G_21.out.old g
  clear HG_21 O_21 Xv_21 Xu_21 Xq_21 G_21
  have Cv_22 : Hid (Own w22 w21.heap.size (.slice (some ⟨w21.heap.size, 0, none⟩) xs.length xs.length) xs) := o
  have DCv : Hid (∀ g, (Value.slice (some ⟨w21.heap.size, 0, none⟩) xs.length xs.length).ownBlock = some g → w21.heap.size ≤ g ∧ g < w22.heap.size) := fun g hg => by have := o.lt g hg; exact this
  clear g o
  go_wp2_with fail
  refine (toInts_any ys _ _ (Ru.out.old HG_22.out) lu).mono ?_
  rintro e w23 ⟨rfl, g, o⟩
  have hsw23 : w22.heap.size ≤ w23.heap.size := g.size
  have hbw23 : w22.heap.size < w23.heap.size := own_lt o
  have HG_23 : Hid (Old w w23) := Old.trans HG_22.out g
  have O_23 : Hid (Own w23 w3.heap.size (.slice aw4 zs.length capw4) zs) := O_22.out.old g
  have Xv_23 : Hid (Own w23 w4.heap.size (.slice (some ⟨w4.heap.size, 0, none⟩) xs.length xs.length) (marks 1 xs.length)) := Xv_22.out.old g
  have Xu_23 : Hid (Own w23 w5.heap.size (.slice (some ⟨w5.heap.size, 0, none⟩) ys.length ys.length) (marks (1 + (xs.length : Int)) ys.length)) := Xu_22.out.old g
  have Xq_23 : Hid (Own w23 w6.heap.size (.slice (some ⟨w6.heap.size, 0, none⟩) zz.length zz.length) (marks (1 + (xs.length : Int) + (ys.length : Int)) zz.length)) := Xq_22.out.old g
  have G_23 : Hid (Own w23 w7.heap.size (.slice aw8 zs.length capw8) (marks 1 zs.length)) := G_22.out.old g
  have Cv_23 : Hid (Own w23 w21.heap.size (.slice (some ⟨w21.heap.size, 0, none⟩) xs.length xs.length) xs) := Cv_22.out.old g
  clear HG_22 O_22 Xv_22 Xu_22 Xq_22 G_22 Cv_22
  have Cu_23 : Hid (Own w23 w22.heap.size (.slice (some ⟨w22.heap.size, 0, none⟩) ys.length ys.length) ys) := o
  have DCu : Hid (∀ g, (Value.slice (some ⟨w22.heap.size, 0, none⟩) ys.length ys.length).ownBlock = some g → w22.heap.size ≤ g ∧ g < w23.heap.size) := fun g hg => by have := o.lt g hg; exact this
  clear g o
  go_wp2_with fail
  refine (toInts_any zz _ _ (Rq.out.old HG_23.out) lq).mono ?_
  rintro e w24 ⟨rfl, g, o⟩
  have hsw24 : w23.heap.size ≤ w24.heap.size := g.size
  have hbw24 : w23.heap.size < w24.heap.size := own_lt o
  have HG_24 : Hid (Old w w24) := Old.trans HG_23.out g
  have O_24 : Hid (Own w24 w3.heap.size (.slice aw4 zs.length capw4) zs) := O_23.out.old g
  have Xv_24 : Hid (Own w24 w4.heap.size (.slice (some ⟨w4.heap.size, 0, none⟩) xs.length xs.length) (marks 1 xs.length)) := Xv_23.out.old g
  have Xu_24 : Hid (Own w24 w5.heap.size (.slice (some ⟨w5.heap.size, 0, none⟩) ys.length ys.length) (marks (1 + (xs.length : Int)) ys.length)) := Xu_23.out.old g
  have Xq_24 : Hid (Own w24 w6.heap.size (.slice (some ⟨w6.heap.size, 0, none⟩) zz.length zz.length) (marks (1 + (xs.length : Int) + (ys.length : Int)) zz.length)) := Xq_23.out.old g
  have G_24 : Hid (Own w24 w7.heap.size (.slice aw8 zs.length capw8) (marks 1 zs.length)) := G_23.out.old g
  have Cv_24 : Hid (Own w24 w21.heap.size (.slice (some ⟨w21.heap.size, 0, none⟩) xs.length xs.length) xs) := Cv_23.out.old g
  have Cu_24 : Hid (Own w24 w22.heap.size (.slice (some ⟨w22.heap.size, 0, none⟩) ys.length ys.length) ys) := Cu_23.out.old g
  clear HG_23 O_23 Xv_23 Xu_23 Xq_23 G_23 Cv_23 Cu_23
  have Cq_24 : Hid (Own w24 w23.heap.size (.slice (some ⟨w23.heap.size, 0, none⟩) zz.length zz.length) zz) := o
  have DCq : Hid (∀ g, (Value.slice (some ⟨w23.heap.size, 0, none⟩) zz.length zz.length).ownBlock = some g → w23.heap.size ≤ g ∧ g < w24.heap.size) := fun g hg => by have := o.lt g hg; exact this
  clear g o
  go_wp2_with fail
  refine (IM.out _ _ _ _ (HP.out.old HG_24.out) (HT.out.old HG_24.out) (Own.row Cv_24.out) (Nat.le_refl _) (Own.row Cu_24.out) (Nat.le_refl _) (Own.row Cq_24.out) (Nat.le_refl _)).mono ?_
  rintro e w25 ⟨vw25, rfl, g, o⟩
  obtain ⟨aw25, capw25, rfl⟩ := (Own.row o).slice
  have hsw25 : w24.heap.size ≤ w25.heap.size := g.size
  have HG_25 : Hid (Old w w25) := Old.trans HG_24.out g
  have O_25 : Hid (Own w25 w3.heap.size (.slice aw4 zs.length capw4) zs) := O_24.out.old g
  have Xv_25 : Hid (Own w25 w4.heap.size (.slice (some ⟨w4.heap.size, 0, none⟩) xs.length xs.length) (marks 1 xs.length)) := Xv_24.out.old g
  have Xu_25 : Hid (Own w25 w5.heap.size (.slice (some ⟨w5.heap.size, 0, none⟩) ys.length ys.length) (marks (1 + (xs.length : Int)) ys.length)) := Xu_24.out.old g
  have Xq_25 : Hid (Own w25 w6.heap.size (.slice (some ⟨w6.heap.size, 0, none⟩) zz.length zz.length) (marks (1 + (xs.length : Int) + (ys.length : Int)) zz.length)) := Xq_24.out.old g
  have G_25 : Hid (Own w25 w7.heap.size (.slice aw8 zs.length capw8) (marks 1 zs.length)) := G_24.out.old g
  have Cv_25 : Hid (Own w25 w21.heap.size (.slice (some ⟨w21.heap.size, 0, none⟩) xs.length xs.length) xs) := Cv_24.out.old g
  have Cu_25 : Hid (Own w25 w22.heap.size (.slice (some ⟨w22.heap.size, 0, none⟩) ys.length ys.length) ys) := Cu_24.out.old g
  have Cq_25 : Hid (Own w25 w23.heap.size (.slice (some ⟨w23.heap.size, 0, none⟩) zz.length zz.length) zz) := Cq_24.out.old g
  clear HG_24 O_24 Xv_24 Xu_24 Xq_24 G_24 Cv_24 Cu_24 Cq_24
  have H_25 : Hid (Own w25 w24.heap.size (.slice aw25 zs.length capw25) zs) := o
  have DH : Hid (∀ g, (Value.slice aw25 zs.length capw25).ownBlock = some g → w24.heap.size ≤ g ∧ g < w25.heap.size) := fun g hg => by have := o.lt g hg; exact this
  clear g o
  go_wp2_with fail
  refine (eqInts_yes zs _ _ _ (Own.row H_25.out) (Own.row O_25.out) (by omega)).mono ?_
  rintro e w26 ⟨rfl, g⟩
  have hsw26 : w25.heap.size ≤ w26.heap.size := g.size
  have HG_26 : Hid (Old w w26) := Old.trans HG_25.out g
  have O_26 : Hid (Own w26 w3.heap.size (.slice aw4 zs.length capw4) zs) := O_25.out.old g
  have Xv_26 : Hid (Own w26 w4.heap.size (.slice (some ⟨w4.heap.size, 0, none⟩) xs.length xs.length) (marks 1 xs.length)) := Xv_25.out.old g
  have Xu_26 : Hid (Own w26 w5.heap.size (.slice (some ⟨w5.heap.size, 0, none⟩) ys.length ys.length) (marks (1 + (xs.length : Int)) ys.length)) := Xu_25.out.old g
  have Xq_26 : Hid (Own w26 w6.heap.size (.slice (some ⟨w6.heap.size, 0, none⟩) zz.length zz.length) (marks (1 + (xs.length : Int) + (ys.length : Int)) zz.length)) := Xq_25.out.old g
  have G_26 : Hid (Own w26 w7.heap.size (.slice aw8 zs.length capw8) (marks 1 zs.length)) := G_25.out.old g
  have Cv_26 : Hid (Own w26 w21.heap.size (.slice (some ⟨w21.heap.size, 0, none⟩) xs.length xs.length) xs) := Cv_25.out.old g
  have Cu_26 : Hid (Own w26 w22.heap.size (.slice (some ⟨w22.heap.size, 0, none⟩) ys.length ys.length) ys) := Cu_25.out.old g
  have Cq_26 : Hid (Own w26 w23.heap.size (.slice (some ⟨w23.heap.size, 0, none⟩) zz.length zz.length) zz) := Cq_25.out.old g
  have H_26 : Hid (Own w26 w24.heap.size (.slice aw25 zs.length capw25) zs) := H_25.out.old g
  clear HG_25 O_25 Xv_25 Xu_25 Xq_25 G_25 Cv_25 Cu_25 Cq_25 H_25
  clear g
  go_wp2_with fail
  refine (heldInts_yes zs.length _ 1 _ (Own.row G_26.out) (by omega) (by omega) (by omega)).mono ?_
  rintro e w27 ⟨rfl, g⟩
  have hsw27 : w26.heap.size ≤ w27.heap.size := g.size
  have HG_27 : Hid (Old w w27) := Old.trans HG_26.out g
  have O_27 : Hid (Own w27 w3.heap.size (.slice aw4 zs.length capw4) zs) := O_26.out.old g
  have Xv_27 : Hid (Own w27 w4.heap.size (.slice (some ⟨w4.heap.size, 0, none⟩) xs.length xs.length) (marks 1 xs.length)) := Xv_26.out.old g
  have Xu_27 : Hid (Own w27 w5.heap.size (.slice (some ⟨w5.heap.size, 0, none⟩) ys.length ys.length) (marks (1 + (xs.length : Int)) ys.length)) := Xu_26.out.old g
  have Xq_27 : Hid (Own w27 w6.heap.size (.slice (some ⟨w6.heap.size, 0, none⟩) zz.length zz.length) (marks (1 + (xs.length : Int) + (ys.length : Int)) zz.length)) := Xq_26.out.old g
  have G_27 : Hid (Own w27 w7.heap.size (.slice aw8 zs.length capw8) (marks 1 zs.length)) := G_26.out.old g
  have Cv_27 : Hid (Own w27 w21.heap.size (.slice (some ⟨w21.heap.size, 0, none⟩) xs.length xs.length) xs) := Cv_26.out.old g
  have Cu_27 : Hid (Own w27 w22.heap.size (.slice (some ⟨w22.heap.size, 0, none⟩) ys.length ys.length) ys) := Cu_26.out.old g
  have Cq_27 : Hid (Own w27 w23.heap.size (.slice (some ⟨w23.heap.size, 0, none⟩) zz.length zz.length) zz) := Cq_26.out.old g
  have H_27 : Hid (Own w27 w24.heap.size (.slice aw25 zs.length capw25) zs) := H_26.out.old g
  clear HG_26 O_26 Xv_26 Xu_26 Xq_26 G_26 Cv_26 Cu_26 Cq_26 H_26
  clear g
  go_wp2_with fail
  go_ret
  exact ⟨rfl, HG_27.out⟩
end Go.Proofs.YtejkejfhahmhcaaDoor
