/- Proved: the walk of the statement on FloorConvert, under the contracts of the model's and of the program's function. -/
import Derived.Test.YtejkejfhahmhcaaDoorKG
import Derived.Test.YtejkejfhahmhcaaDoorKB
namespace Go.Proofs.YtejkejfhahmhcaaDoor
open Go.ChangeShapes Go.WideShapes Go.ChangeAt Go.RowKit
open M1
set_option linter.unusedVariables false
set_option linter.unusedSimpArgs false
set_option maxRecDepth 100000 in
set_option maxHeartbeats 8000000 in
theorem law_FloorConvert (xs ys zz us : List Int) (v u q d : Value) (w : World) (hv : Row w v xs) (hlv : xs.length ≤ 9223372036854775807) (hu : Row w u ys) (hlu : ys.length ≤ 9223372036854775807) (hq : Row w q zz) (hlq : zz.length ≤ 9223372036854775807) (hd : Row w d us) (hld : us.length ≤ 9223372036854775807) (hP : PrsW w) (hT : TabW w) (ok : Bool) (zs : List Int) (hz : zs.length ≤ 1000)
    (hspec : xs.length ≤ 1048576 → ys.length ≤ 1048576 → zz.length ≤ 1048576 → us.length ≤ 1048576 → ∀ v u q d W, Row W v xs → Fit v → Row W u ys → Fit u → Row W q zz → Fit q → Row W d us → Fit d → Calls Tryd.prog 30 #[v, u, q, d] W fun e w' => ∃ v', e = .returned (.tuple #[v', .bool ok]) ∧ Old W w' ∧ Own w' W.heap.size v' zs)
    (himpl : xs.length ≤ 1048576 → ys.length ≤ 1048576 → zz.length ≤ 1048576 → us.length ≤ 1048576 → ∀ v u q d W, PrsW W → TabW W → Row W v xs → Fit v → Row W u ys → Fit u → Row W q zz → Fit q → Row W d us → Fit d → Calls Tryd.prog 31 #[v, u, q, d] W fun e w' => ∃ v', e = .returned (.tuple #[v', .bool ok]) ∧ Old W w' ∧ Own w' W.heap.size v' zs) :
    Calls Tryd.prog 9 #[v, u, q, d] w fun e w' => e = .returned (.bool true) ∧ Old w w' := by
  have HP : Hid (PrsW w) := hP
  have HT : Hid (TabW w) := hT
  have Rv : Hid (Row w v xs) := hv
  obtain ⟨cv, capv, rfl⟩ := hv.slice
  have Ru : Hid (Row w u ys) := hu
  obtain ⟨cu, capu, rfl⟩ := hu.slice
  have Rq : Hid (Row w q zz) := hq
  obtain ⟨cq, capq, rfl⟩ := hq.slice
  have Rd : Hid (Row w d us) := hd
  obtain ⟨cd, capd, rfl⟩ := hd.slice
  clear hT hP hv hu hq hd
  by_cases bigv : (1048576 : Int) < (xs.length : Int)
  · have dv : decide ((1048576 : Int) < (xs.length : Int)) = true := decide_eq_true bigv
    clear hspec himpl
    go_enter Tryd.func9, Tryd.ntmps9
    go_wp2_with fail
    go_ret
    exact ⟨rfl, by repeat (first | exact Old.refl _ | apply Old.alloc)⟩
  have dv : decide ((1048576 : Int) < (xs.length : Int)) = false := decide_eq_false bigv
  have lv : xs.length ≤ 1048576 := by omega
  by_cases bigu : (1048576 : Int) < (ys.length : Int)
  · have du : decide ((1048576 : Int) < (ys.length : Int)) = true := decide_eq_true bigu
    clear hspec himpl
    go_enter Tryd.func9, Tryd.ntmps9
    go_wp2_with fail
    go_ret
    exact ⟨rfl, by repeat (first | exact Old.refl _ | apply Old.alloc)⟩
  have du : decide ((1048576 : Int) < (ys.length : Int)) = false := decide_eq_false bigu
  have lu : ys.length ≤ 1048576 := by omega
  by_cases bigq : (1048576 : Int) < (zz.length : Int)
  · have dq : decide ((1048576 : Int) < (zz.length : Int)) = true := decide_eq_true bigq
    clear hspec himpl
    go_enter Tryd.func9, Tryd.ntmps9
    go_wp2_with fail
    go_ret
    exact ⟨rfl, by repeat (first | exact Old.refl _ | apply Old.alloc)⟩
  have dq : decide ((1048576 : Int) < (zz.length : Int)) = false := decide_eq_false bigq
  have lq : zz.length ≤ 1048576 := by omega
  by_cases bigd : (1048576 : Int) < (us.length : Int)
  · have dd : decide ((1048576 : Int) < (us.length : Int)) = true := decide_eq_true bigd
    clear hspec himpl
    go_enter Tryd.func9, Tryd.ntmps9
    go_wp2_with fail
    go_ret
    exact ⟨rfl, by repeat (first | exact Old.refl _ | apply Old.alloc)⟩
  have dd : decide ((1048576 : Int) < (us.length : Int)) = false := decide_eq_false bigd
  have ld : us.length ≤ 1048576 := by omega
  have SP : Hid (∀ v u q d W, Row W v xs → Fit v → Row W u ys → Fit u → Row W q zz → Fit q → Row W d us → Fit d → Calls Tryd.prog 30 #[v, u, q, d] W fun e w' => ∃ v', e = .returned (.tuple #[v', .bool ok]) ∧ Old W w' ∧ Own w' W.heap.size v' zs) := hspec lv lu lq ld
  have IM : Hid (∀ v u q d W, PrsW W → TabW W → Row W v xs → Fit v → Row W u ys → Fit u → Row W q zz → Fit q → Row W d us → Fit d → Calls Tryd.prog 31 #[v, u, q, d] W fun e w' => ∃ v', e = .returned (.tuple #[v', .bool ok]) ∧ Old W w' ∧ Own w' W.heap.size v' zs) := himpl lv lu lq ld
  have dok : (ok != ok) = false := by simp
  have dq : decide ((1 : Int) + (zs.length : Int) < 0) = false := decide_eq_false (by omega)
  have dqm : ((1 : Int) + (zs.length : Int) != 1 + (zs.length : Int)) = false := by simp
  have dk : decide ((1 : Int) + (xs.length : Int) + (ys.length : Int) + (zz.length : Int) + (us.length : Int) < 0) = false := decide_eq_false (by omega)
  clear hspec himpl bigv bigu bigq bigd
  go_enter Tryd.func9, Tryd.ntmps9
  have HG_0 : Hid (Old w w) := Old.refl w
  go_wp2_with fail
  refine (toInts_any xs _ _ (Rv.out.old HG_0.out) lv).mono ?_
  rintro e w1 ⟨rfl, g, o⟩
  have hsw1 : w.heap.size ≤ w1.heap.size := g.size
  have hbw1 : w.heap.size < w1.heap.size := own_lt o
  have HG_1 : Hid (Old w w1) := Old.trans HG_0.out g
  clear HG_0
  have Av_1 : Hid (Own w1 w.heap.size (.slice (some ⟨w.heap.size, 0, none⟩) xs.length xs.length) xs) := o
  have DAv : Hid (∀ g, (Value.slice (some ⟨w.heap.size, 0, none⟩) xs.length xs.length).ownBlock = some g → w.heap.size ≤ g ∧ g < w1.heap.size) := fun g hg => by have := o.lt g hg; exact this
  clear g o
  go_wp2_with fail
  refine (toInts_any ys _ _ (Ru.out.old HG_1.out) lu).mono ?_
  rintro e w2 ⟨rfl, g, o⟩
  have hsw2 : w1.heap.size ≤ w2.heap.size := g.size
  have hbw2 : w1.heap.size < w2.heap.size := own_lt o
  have HG_2 : Hid (Old w w2) := Old.trans HG_1.out g
  have Av_2 : Hid (Own w2 w.heap.size (.slice (some ⟨w.heap.size, 0, none⟩) xs.length xs.length) xs) := Av_1.out.old g
  clear HG_1 Av_1
  have Au_2 : Hid (Own w2 w1.heap.size (.slice (some ⟨w1.heap.size, 0, none⟩) ys.length ys.length) ys) := o
  have DAu : Hid (∀ g, (Value.slice (some ⟨w1.heap.size, 0, none⟩) ys.length ys.length).ownBlock = some g → w1.heap.size ≤ g ∧ g < w2.heap.size) := fun g hg => by have := o.lt g hg; exact this
  clear g o
  go_wp2_with fail
  refine (toInts_any zz _ _ (Rq.out.old HG_2.out) lq).mono ?_
  rintro e w3 ⟨rfl, g, o⟩
  have hsw3 : w2.heap.size ≤ w3.heap.size := g.size
  have hbw3 : w2.heap.size < w3.heap.size := own_lt o
  have HG_3 : Hid (Old w w3) := Old.trans HG_2.out g
  have Av_3 : Hid (Own w3 w.heap.size (.slice (some ⟨w.heap.size, 0, none⟩) xs.length xs.length) xs) := Av_2.out.old g
  have Au_3 : Hid (Own w3 w1.heap.size (.slice (some ⟨w1.heap.size, 0, none⟩) ys.length ys.length) ys) := Au_2.out.old g
  clear HG_2 Av_2 Au_2
  have Aq_3 : Hid (Own w3 w2.heap.size (.slice (some ⟨w2.heap.size, 0, none⟩) zz.length zz.length) zz) := o
  have DAq : Hid (∀ g, (Value.slice (some ⟨w2.heap.size, 0, none⟩) zz.length zz.length).ownBlock = some g → w2.heap.size ≤ g ∧ g < w3.heap.size) := fun g hg => by have := o.lt g hg; exact this
  clear g o
  go_wp2_with fail
  refine (toInts_any us _ _ (Rd.out.old HG_3.out) ld).mono ?_
  rintro e w4 ⟨rfl, g, o⟩
  have hsw4 : w3.heap.size ≤ w4.heap.size := g.size
  have hbw4 : w3.heap.size < w4.heap.size := own_lt o
  have HG_4 : Hid (Old w w4) := Old.trans HG_3.out g
  have Av_4 : Hid (Own w4 w.heap.size (.slice (some ⟨w.heap.size, 0, none⟩) xs.length xs.length) xs) := Av_3.out.old g
  have Au_4 : Hid (Own w4 w1.heap.size (.slice (some ⟨w1.heap.size, 0, none⟩) ys.length ys.length) ys) := Au_3.out.old g
  have Aq_4 : Hid (Own w4 w2.heap.size (.slice (some ⟨w2.heap.size, 0, none⟩) zz.length zz.length) zz) := Aq_3.out.old g
  clear HG_3 Av_3 Au_3 Aq_3
  have Ad_4 : Hid (Own w4 w3.heap.size (.slice (some ⟨w3.heap.size, 0, none⟩) us.length us.length) us) := o
  have DAd : Hid (∀ g, (Value.slice (some ⟨w3.heap.size, 0, none⟩) us.length us.length).ownBlock = some g → w3.heap.size ≤ g ∧ g < w4.heap.size) := fun g hg => by have := o.lt g hg; exact this
  clear g o
  go_wp2_with fail
  refine (SP.out _ _ _ _ _ (Own.row Av_4.out) (Nat.le_refl _) (Own.row Au_4.out) (Nat.le_refl _) (Own.row Aq_4.out) (Nat.le_refl _) (Own.row Ad_4.out) (Nat.le_refl _)).mono ?_
  rintro e w5 ⟨vw5, rfl, g, o⟩
  obtain ⟨aw5, capw5, rfl⟩ := (Own.row o).slice
  have hsw5 : w4.heap.size ≤ w5.heap.size := g.size
  have HG_5 : Hid (Old w w5) := Old.trans HG_4.out g
  have Av_5 : Hid (Own w5 w.heap.size (.slice (some ⟨w.heap.size, 0, none⟩) xs.length xs.length) xs) := Av_4.out.old g
  have Au_5 : Hid (Own w5 w1.heap.size (.slice (some ⟨w1.heap.size, 0, none⟩) ys.length ys.length) ys) := Au_4.out.old g
  have Aq_5 : Hid (Own w5 w2.heap.size (.slice (some ⟨w2.heap.size, 0, none⟩) zz.length zz.length) zz) := Aq_4.out.old g
  have Ad_5 : Hid (Own w5 w3.heap.size (.slice (some ⟨w3.heap.size, 0, none⟩) us.length us.length) us) := Ad_4.out.old g
  clear HG_4 Av_4 Au_4 Aq_4 Ad_4
  have O_5 : Hid (Own w5 w4.heap.size (.slice aw5 zs.length capw5) zs) := o
  have DO : Hid (∀ g, (Value.slice aw5 zs.length capw5).ownBlock = some g → w4.heap.size ≤ g ∧ g < w5.heap.size) := fun g hg => by have := o.lt g hg; exact this
  clear g o
  clear Av_5
  clear Au_5
  clear Aq_5
  clear Ad_5
  go_wp2_with fail
  refine (toInts_any xs _ _ (Rv.out.old HG_5.out) lv).mono ?_
  rintro e w6 ⟨rfl, g, o⟩
  have hsw6 : w5.heap.size ≤ w6.heap.size := g.size
  have hbw6 : w5.heap.size < w6.heap.size := own_lt o
  have HG_6 : Hid (Old w w6) := Old.trans HG_5.out g
  have O_6 : Hid (Own w6 w4.heap.size (.slice aw5 zs.length capw5) zs) := O_5.out.old g
  clear HG_5 O_5
  have Xv_6 : Hid (Own w6 w5.heap.size (.slice (some ⟨w5.heap.size, 0, none⟩) xs.length xs.length) xs) := o
  have DXv : Hid (∀ g, (Value.slice (some ⟨w5.heap.size, 0, none⟩) xs.length xs.length).ownBlock = some g → w5.heap.size ≤ g ∧ g < w6.heap.size) := fun g hg => by have := o.lt g hg; exact this
  clear g o
  go_wp2_with fail
  refine (toInts_any ys _ _ (Ru.out.old HG_6.out) lu).mono ?_
  rintro e w7 ⟨rfl, g, o⟩
  have hsw7 : w6.heap.size ≤ w7.heap.size := g.size
  have hbw7 : w6.heap.size < w7.heap.size := own_lt o
  have HG_7 : Hid (Old w w7) := Old.trans HG_6.out g
  have O_7 : Hid (Own w7 w4.heap.size (.slice aw5 zs.length capw5) zs) := O_6.out.old g
  have Xv_7 : Hid (Own w7 w5.heap.size (.slice (some ⟨w5.heap.size, 0, none⟩) xs.length xs.length) xs) := Xv_6.out.old g
  clear HG_6 O_6 Xv_6
  have Xu_7 : Hid (Own w7 w6.heap.size (.slice (some ⟨w6.heap.size, 0, none⟩) ys.length ys.length) ys) := o
  have DXu : Hid (∀ g, (Value.slice (some ⟨w6.heap.size, 0, none⟩) ys.length ys.length).ownBlock = some g → w6.heap.size ≤ g ∧ g < w7.heap.size) := fun g hg => by have := o.lt g hg; exact this
  clear g o
  go_wp2_with fail
  refine (toInts_any zz _ _ (Rq.out.old HG_7.out) lq).mono ?_
  rintro e w8 ⟨rfl, g, o⟩
  have hsw8 : w7.heap.size ≤ w8.heap.size := g.size
  have hbw8 : w7.heap.size < w8.heap.size := own_lt o
  have HG_8 : Hid (Old w w8) := Old.trans HG_7.out g
  have O_8 : Hid (Own w8 w4.heap.size (.slice aw5 zs.length capw5) zs) := O_7.out.old g
  have Xv_8 : Hid (Own w8 w5.heap.size (.slice (some ⟨w5.heap.size, 0, none⟩) xs.length xs.length) xs) := Xv_7.out.old g
  have Xu_8 : Hid (Own w8 w6.heap.size (.slice (some ⟨w6.heap.size, 0, none⟩) ys.length ys.length) ys) := Xu_7.out.old g
  clear HG_7 O_7 Xv_7 Xu_7
  have Xq_8 : Hid (Own w8 w7.heap.size (.slice (some ⟨w7.heap.size, 0, none⟩) zz.length zz.length) zz) := o
  have DXq : Hid (∀ g, (Value.slice (some ⟨w7.heap.size, 0, none⟩) zz.length zz.length).ownBlock = some g → w7.heap.size ≤ g ∧ g < w8.heap.size) := fun g hg => by have := o.lt g hg; exact this
  clear g o
  go_wp2_with fail
  refine (toInts_any us _ _ (Rd.out.old HG_8.out) ld).mono ?_
  rintro e w9 ⟨rfl, g, o⟩
  have hsw9 : w8.heap.size ≤ w9.heap.size := g.size
  have hbw9 : w8.heap.size < w9.heap.size := own_lt o
  have HG_9 : Hid (Old w w9) := Old.trans HG_8.out g
  have O_9 : Hid (Own w9 w4.heap.size (.slice aw5 zs.length capw5) zs) := O_8.out.old g
  have Xv_9 : Hid (Own w9 w5.heap.size (.slice (some ⟨w5.heap.size, 0, none⟩) xs.length xs.length) xs) := Xv_8.out.old g
  have Xu_9 : Hid (Own w9 w6.heap.size (.slice (some ⟨w6.heap.size, 0, none⟩) ys.length ys.length) ys) := Xu_8.out.old g
  have Xq_9 : Hid (Own w9 w7.heap.size (.slice (some ⟨w7.heap.size, 0, none⟩) zz.length zz.length) zz) := Xq_8.out.old g
  clear HG_8 O_8 Xv_8 Xu_8 Xq_8
  have Xd_9 : Hid (Own w9 w8.heap.size (.slice (some ⟨w8.heap.size, 0, none⟩) us.length us.length) us) := o
  have DXd : Hid (∀ g, (Value.slice (some ⟨w8.heap.size, 0, none⟩) us.length us.length).ownBlock = some g → w8.heap.size ≤ g ∧ g < w9.heap.size) := fun g hg => by have := o.lt g hg; exact this
  clear g o
  go_wp2_with fail
  refine (IM.out _ _ _ _ _ (HP.out.old HG_9.out) (HT.out.old HG_9.out) (Own.row Xv_9.out) (Nat.le_refl _) (Own.row Xu_9.out) (Nat.le_refl _) (Own.row Xq_9.out) (Nat.le_refl _) (Own.row Xd_9.out) (Nat.le_refl _)).mono ?_
  rintro e w10 ⟨vw10, rfl, g, o⟩
  obtain ⟨aw10, capw10, rfl⟩ := (Own.row o).slice
  have hsw10 : w9.heap.size ≤ w10.heap.size := g.size
  have HG_10 : Hid (Old w w10) := Old.trans HG_9.out g
  have O_10 : Hid (Own w10 w4.heap.size (.slice aw5 zs.length capw5) zs) := O_9.out.old g
  have Xv_10 : Hid (Own w10 w5.heap.size (.slice (some ⟨w5.heap.size, 0, none⟩) xs.length xs.length) xs) := Xv_9.out.old g
  have Xu_10 : Hid (Own w10 w6.heap.size (.slice (some ⟨w6.heap.size, 0, none⟩) ys.length ys.length) ys) := Xu_9.out.old g
  have Xq_10 : Hid (Own w10 w7.heap.size (.slice (some ⟨w7.heap.size, 0, none⟩) zz.length zz.length) zz) := Xq_9.out.old g
  have Xd_10 : Hid (Own w10 w8.heap.size (.slice (some ⟨w8.heap.size, 0, none⟩) us.length us.length) us) := Xd_9.out.old g
  clear HG_9 O_9 Xv_9 Xu_9 Xq_9 Xd_9
  have G_10 : Hid (Own w10 w9.heap.size (.slice aw10 zs.length capw10) zs) := o
  have DG : Hid (∀ g, (Value.slice aw10 zs.length capw10).ownBlock = some g → w9.heap.size ≤ g ∧ g < w10.heap.size) := fun g hg => by have := o.lt g hg; exact this
  clear g o
  go_wp2_with fail
  refine (eqInts_yes zs _ _ _ (Own.row G_10.out) (Own.row O_10.out) (by omega)).mono ?_
  rintro e w11 ⟨rfl, g⟩
  have hsw11 : w10.heap.size ≤ w11.heap.size := g.size
  have HG_11 : Hid (Old w w11) := Old.trans HG_10.out g
  have O_11 : Hid (Own w11 w4.heap.size (.slice aw5 zs.length capw5) zs) := O_10.out.old g
  have Xv_11 : Hid (Own w11 w5.heap.size (.slice (some ⟨w5.heap.size, 0, none⟩) xs.length xs.length) xs) := Xv_10.out.old g
  have Xu_11 : Hid (Own w11 w6.heap.size (.slice (some ⟨w6.heap.size, 0, none⟩) ys.length ys.length) ys) := Xu_10.out.old g
  have Xq_11 : Hid (Own w11 w7.heap.size (.slice (some ⟨w7.heap.size, 0, none⟩) zz.length zz.length) zz) := Xq_10.out.old g
  have Xd_11 : Hid (Own w11 w8.heap.size (.slice (some ⟨w8.heap.size, 0, none⟩) us.length us.length) us) := Xd_10.out.old g
  have G_11 : Hid (Own w11 w9.heap.size (.slice aw10 zs.length capw10) zs) := G_10.out.old g
  clear HG_10 O_10 Xv_10 Xu_10 Xq_10 Xd_10 G_10
  clear g
  go_wp2_with fail
  refine (toInts_any xs _ _ (Rv.out.old HG_11.out) lv).mono ?_
  rintro e w12 ⟨rfl, g, o⟩
  have hsw12 : w11.heap.size ≤ w12.heap.size := g.size
  have hbw12 : w11.heap.size < w12.heap.size := own_lt o
  have HG_12 : Hid (Old w w12) := Old.trans HG_11.out g
  have O_12 : Hid (Own w12 w4.heap.size (.slice aw5 zs.length capw5) zs) := O_11.out.old g
  have Xv_12 : Hid (Own w12 w5.heap.size (.slice (some ⟨w5.heap.size, 0, none⟩) xs.length xs.length) xs) := Xv_11.out.old g
  have Xu_12 : Hid (Own w12 w6.heap.size (.slice (some ⟨w6.heap.size, 0, none⟩) ys.length ys.length) ys) := Xu_11.out.old g
  have Xq_12 : Hid (Own w12 w7.heap.size (.slice (some ⟨w7.heap.size, 0, none⟩) zz.length zz.length) zz) := Xq_11.out.old g
  have Xd_12 : Hid (Own w12 w8.heap.size (.slice (some ⟨w8.heap.size, 0, none⟩) us.length us.length) us) := Xd_11.out.old g
  have G_12 : Hid (Own w12 w9.heap.size (.slice aw10 zs.length capw10) zs) := G_11.out.old g
  clear HG_11 O_11 Xv_11 Xu_11 Xq_11 Xd_11 G_11
  have Bv_12 : Hid (Own w12 w11.heap.size (.slice (some ⟨w11.heap.size, 0, none⟩) xs.length xs.length) xs) := o
  have DBv : Hid (∀ g, (Value.slice (some ⟨w11.heap.size, 0, none⟩) xs.length xs.length).ownBlock = some g → w11.heap.size ≤ g ∧ g < w12.heap.size) := fun g hg => by have := o.lt g hg; exact this
  clear g o
  go_wp2_with fail
  refine (eqInts_yes xs _ _ _ (Own.row Xv_12.out) (Own.row Bv_12.out) (by omega)).mono ?_
  rintro e w13 ⟨rfl, g⟩
  have hsw13 : w12.heap.size ≤ w13.heap.size := g.size
  have HG_13 : Hid (Old w w13) := Old.trans HG_12.out g
  have O_13 : Hid (Own w13 w4.heap.size (.slice aw5 zs.length capw5) zs) := O_12.out.old g
  have Xv_13 : Hid (Own w13 w5.heap.size (.slice (some ⟨w5.heap.size, 0, none⟩) xs.length xs.length) xs) := Xv_12.out.old g
  have Xu_13 : Hid (Own w13 w6.heap.size (.slice (some ⟨w6.heap.size, 0, none⟩) ys.length ys.length) ys) := Xu_12.out.old g
  have Xq_13 : Hid (Own w13 w7.heap.size (.slice (some ⟨w7.heap.size, 0, none⟩) zz.length zz.length) zz) := Xq_12.out.old g
  have Xd_13 : Hid (Own w13 w8.heap.size (.slice (some ⟨w8.heap.size, 0, none⟩) us.length us.length) us) := Xd_12.out.old g
  have G_13 : Hid (Own w13 w9.heap.size (.slice aw10 zs.length capw10) zs) := G_12.out.old g
  have Bv_13 : Hid (Own w13 w11.heap.size (.slice (some ⟨w11.heap.size, 0, none⟩) xs.length xs.length) xs) := Bv_12.out.old g
  clear HG_12 O_12 Xv_12 Xu_12 Xq_12 Xd_12 G_12 Bv_12
  clear g
  clear Bv_13
  go_wp2_with fail
  refine (toInts_any ys _ _ (Ru.out.old HG_13.out) lu).mono ?_
  rintro e w14 ⟨rfl, g, o⟩
  have hsw14 : w13.heap.size ≤ w14.heap.size := g.size
  have hbw14 : w13.heap.size < w14.heap.size := own_lt o
  have HG_14 : Hid (Old w w14) := Old.trans HG_13.out g
  have O_14 : Hid (Own w14 w4.heap.size (.slice aw5 zs.length capw5) zs) := O_13.out.old g
  have Xv_14 : Hid (Own w14 w5.heap.size (.slice (some ⟨w5.heap.size, 0, none⟩) xs.length xs.length) xs) := Xv_13.out.old g
  have Xu_14 : Hid (Own w14 w6.heap.size (.slice (some ⟨w6.heap.size, 0, none⟩) ys.length ys.length) ys) := Xu_13.out.old g
  have Xq_14 : Hid (Own w14 w7.heap.size (.slice (some ⟨w7.heap.size, 0, none⟩) zz.length zz.length) zz) := Xq_13.out.old g
  have Xd_14 : Hid (Own w14 w8.heap.size (.slice (some ⟨w8.heap.size, 0, none⟩) us.length us.length) us) := Xd_13.out.old g
  have G_14 : Hid (Own w14 w9.heap.size (.slice aw10 zs.length capw10) zs) := G_13.out.old g
  clear HG_13 O_13 Xv_13 Xu_13 Xq_13 Xd_13 G_13
  have Bu_14 : Hid (Own w14 w13.heap.size (.slice (some ⟨w13.heap.size, 0, none⟩) ys.length ys.length) ys) := o
  have DBu : Hid (∀ g, (Value.slice (some ⟨w13.heap.size, 0, none⟩) ys.length ys.length).ownBlock = some g → w13.heap.size ≤ g ∧ g < w14.heap.size) := fun g hg => by have := o.lt g hg; exact this
  clear g o
  go_wp2_with fail
  refine (eqInts_yes ys _ _ _ (Own.row Xu_14.out) (Own.row Bu_14.out) (by omega)).mono ?_
  rintro e w15 ⟨rfl, g⟩
  have hsw15 : w14.heap.size ≤ w15.heap.size := g.size
  have HG_15 : Hid (Old w w15) := Old.trans HG_14.out g
  have O_15 : Hid (Own w15 w4.heap.size (.slice aw5 zs.length capw5) zs) := O_14.out.old g
  have Xv_15 : Hid (Own w15 w5.heap.size (.slice (some ⟨w5.heap.size, 0, none⟩) xs.length xs.length) xs) := Xv_14.out.old g
  have Xu_15 : Hid (Own w15 w6.heap.size (.slice (some ⟨w6.heap.size, 0, none⟩) ys.length ys.length) ys) := Xu_14.out.old g
  have Xq_15 : Hid (Own w15 w7.heap.size (.slice (some ⟨w7.heap.size, 0, none⟩) zz.length zz.length) zz) := Xq_14.out.old g
  have Xd_15 : Hid (Own w15 w8.heap.size (.slice (some ⟨w8.heap.size, 0, none⟩) us.length us.length) us) := Xd_14.out.old g
  have G_15 : Hid (Own w15 w9.heap.size (.slice aw10 zs.length capw10) zs) := G_14.out.old g
  have Bu_15 : Hid (Own w15 w13.heap.size (.slice (some ⟨w13.heap.size, 0, none⟩) ys.length ys.length) ys) := Bu_14.out.old g
  clear HG_14 O_14 Xv_14 Xu_14 Xq_14 Xd_14 G_14 Bu_14
  clear g
  clear Bu_15
  go_wp2_with fail
  refine (toInts_any zz _ _ (Rq.out.old HG_15.out) lq).mono ?_
  rintro e w16 ⟨rfl, g, o⟩
  have hsw16 : w15.heap.size ≤ w16.heap.size := g.size
  have hbw16 : w15.heap.size < w16.heap.size := own_lt o
  have HG_16 : Hid (Old w w16) := Old.trans HG_15.out g
  have O_16 : Hid (Own w16 w4.heap.size (.slice aw5 zs.length capw5) zs) := O_15.out.old g
  have Xv_16 : Hid (Own w16 w5.heap.size (.slice (some ⟨w5.heap.size, 0, none⟩) xs.length xs.length) xs) := Xv_15.out.old g
  have Xu_16 : Hid (Own w16 w6.heap.size (.slice (some ⟨w6.heap.size, 0, none⟩) ys.length ys.length) ys) := Xu_15.out.old g
  have Xq_16 : Hid (Own w16 w7.heap.size (.slice (some ⟨w7.heap.size, 0, none⟩) zz.length zz.length) zz) := Xq_15.out.old g
  have Xd_16 : Hid (Own w16 w8.heap.size (.slice (some ⟨w8.heap.size, 0, none⟩) us.length us.length) us) := Xd_15.out.old g
  have G_16 : Hid (Own w16 w9.heap.size (.slice aw10 zs.length capw10) zs) := G_15.out.old g
  clear HG_15 O_15 Xv_15 Xu_15 Xq_15 Xd_15 G_15
  have Bq_16 : Hid (Own w16 w15.heap.size (.slice (some ⟨w15.heap.size, 0, none⟩) zz.length zz.length) zz) := o
  have DBq : Hid (∀ g, (Value.slice (some ⟨w15.heap.size, 0, none⟩) zz.length zz.length).ownBlock = some g → w15.heap.size ≤ g ∧ g < w16.heap.size) := fun g hg => by have := o.lt g hg; exact this
  clear g o
  go_wp2_with fail
  refine (eqInts_yes zz _ _ _ (Own.row Xq_16.out) (Own.row Bq_16.out) (by omega)).mono ?_
  rintro e w17 ⟨rfl, g⟩
  have hsw17 : w16.heap.size ≤ w17.heap.size := g.size
  have HG_17 : Hid (Old w w17) := Old.trans HG_16.out g
  have O_17 : Hid (Own w17 w4.heap.size (.slice aw5 zs.length capw5) zs) := O_16.out.old g
  have Xv_17 : Hid (Own w17 w5.heap.size (.slice (some ⟨w5.heap.size, 0, none⟩) xs.length xs.length) xs) := Xv_16.out.old g
  have Xu_17 : Hid (Own w17 w6.heap.size (.slice (some ⟨w6.heap.size, 0, none⟩) ys.length ys.length) ys) := Xu_16.out.old g
  have Xq_17 : Hid (Own w17 w7.heap.size (.slice (some ⟨w7.heap.size, 0, none⟩) zz.length zz.length) zz) := Xq_16.out.old g
  have Xd_17 : Hid (Own w17 w8.heap.size (.slice (some ⟨w8.heap.size, 0, none⟩) us.length us.length) us) := Xd_16.out.old g
  have G_17 : Hid (Own w17 w9.heap.size (.slice aw10 zs.length capw10) zs) := G_16.out.old g
  have Bq_17 : Hid (Own w17 w15.heap.size (.slice (some ⟨w15.heap.size, 0, none⟩) zz.length zz.length) zz) := Bq_16.out.old g
  clear HG_16 O_16 Xv_16 Xu_16 Xq_16 Xd_16 G_16 Bq_16
  clear g
  clear Bq_17
  go_wp2_with fail
  refine (toInts_any us _ _ (Rd.out.old HG_17.out) ld).mono ?_
  rintro e w18 ⟨rfl, g, o⟩
  have hsw18 : w17.heap.size ≤ w18.heap.size := g.size
  have hbw18 : w17.heap.size < w18.heap.size := own_lt o
  have HG_18 : Hid (Old w w18) := Old.trans HG_17.out g
  have O_18 : Hid (Own w18 w4.heap.size (.slice aw5 zs.length capw5) zs) := O_17.out.old g
  have Xv_18 : Hid (Own w18 w5.heap.size (.slice (some ⟨w5.heap.size, 0, none⟩) xs.length xs.length) xs) := Xv_17.out.old g
  have Xu_18 : Hid (Own w18 w6.heap.size (.slice (some ⟨w6.heap.size, 0, none⟩) ys.length ys.length) ys) := Xu_17.out.old g
  have Xq_18 : Hid (Own w18 w7.heap.size (.slice (some ⟨w7.heap.size, 0, none⟩) zz.length zz.length) zz) := Xq_17.out.old g
  have Xd_18 : Hid (Own w18 w8.heap.size (.slice (some ⟨w8.heap.size, 0, none⟩) us.length us.length) us) := Xd_17.out.old g
  have G_18 : Hid (Own w18 w9.heap.size (.slice aw10 zs.length capw10) zs) := G_17.out.old g
  clear HG_17 O_17 Xv_17 Xu_17 Xq_17 Xd_17 G_17
  have Bd_18 : Hid (Own w18 w17.heap.size (.slice (some ⟨w17.heap.size, 0, none⟩) us.length us.length) us) := o
  have DBd : Hid (∀ g, (Value.slice (some ⟨w17.heap.size, 0, none⟩) us.length us.length).ownBlock = some g → w17.heap.size ≤ g ∧ g < w18.heap.size) := fun g hg => by have := o.lt g hg; exact this
  clear g o
  go_wp2_with fail
  refine (eqInts_yes us _ _ _ (Own.row Xd_18.out) (Own.row Bd_18.out) (by omega)).mono ?_
  rintro e w19 ⟨rfl, g⟩
  have hsw19 : w18.heap.size ≤ w19.heap.size := g.size
  have HG_19 : Hid (Old w w19) := Old.trans HG_18.out g
  have O_19 : Hid (Own w19 w4.heap.size (.slice aw5 zs.length capw5) zs) := O_18.out.old g
  have Xv_19 : Hid (Own w19 w5.heap.size (.slice (some ⟨w5.heap.size, 0, none⟩) xs.length xs.length) xs) := Xv_18.out.old g
  have Xu_19 : Hid (Own w19 w6.heap.size (.slice (some ⟨w6.heap.size, 0, none⟩) ys.length ys.length) ys) := Xu_18.out.old g
  have Xq_19 : Hid (Own w19 w7.heap.size (.slice (some ⟨w7.heap.size, 0, none⟩) zz.length zz.length) zz) := Xq_18.out.old g
  have Xd_19 : Hid (Own w19 w8.heap.size (.slice (some ⟨w8.heap.size, 0, none⟩) us.length us.length) us) := Xd_18.out.old g
  have G_19 : Hid (Own w19 w9.heap.size (.slice aw10 zs.length capw10) zs) := G_18.out.old g
  have Bd_19 : Hid (Own w19 w17.heap.size (.slice (some ⟨w17.heap.size, 0, none⟩) us.length us.length) us) := Bd_18.out.old g
  clear HG_18 O_18 Xv_18 Xu_18 Xq_18 Xd_18 G_18 Bd_18
  clear g
  clear Bd_19
  go_wp2_with fail
  refine (markInts_any xs _ 1 _ _ Xv_19.out (by omega) (by omega) (by omega)).mono ?_
  rintro e w20 ⟨rfl, gm, om⟩
  have hsw20 : w19.heap.size ≤ w20.heap.size := gm.size
  clear Xv_19
  have HG_20 : Hid (Old w w20) := Old.by_ HG_19.out gm (fun b hb => by have := DXv.out b hb; omega)
  have O_20 : Hid (Own w20 w4.heap.size (.slice aw5 zs.length capw5) zs) := O_19.out.by_ gm (fun a b h1 h2 h3 => by have := DO.out a h1; have := DXv.out b h2; omega)
  have Xu_20 : Hid (Own w20 w6.heap.size (.slice (some ⟨w6.heap.size, 0, none⟩) ys.length ys.length) ys) := Xu_19.out.by_ gm (fun a b h1 h2 h3 => by have := DXu.out a h1; have := DXv.out b h2; omega)
  have Xq_20 : Hid (Own w20 w7.heap.size (.slice (some ⟨w7.heap.size, 0, none⟩) zz.length zz.length) zz) := Xq_19.out.by_ gm (fun a b h1 h2 h3 => by have := DXq.out a h1; have := DXv.out b h2; omega)
  have Xd_20 : Hid (Own w20 w8.heap.size (.slice (some ⟨w8.heap.size, 0, none⟩) us.length us.length) us) := Xd_19.out.by_ gm (fun a b h1 h2 h3 => by have := DXd.out a h1; have := DXv.out b h2; omega)
  have G_20 : Hid (Own w20 w9.heap.size (.slice aw10 zs.length capw10) zs) := G_19.out.by_ gm (fun a b h1 h2 h3 => by have := DG.out a h1; have := DXv.out b h2; omega)
  clear HG_19 O_19 Xu_19 Xq_19 Xd_19 G_19
  have Xv_20 : Hid (Own w20 w5.heap.size (.slice (some ⟨w5.heap.size, 0, none⟩) xs.length xs.length) (marks 1 xs.length)) := om
  clear gm om
  go_wp2_with fail
  refine (markInts_any ys _ (1 + (xs.length : Int)) _ _ Xu_20.out (by omega) (by omega) (by omega)).mono ?_
  rintro e w21 ⟨rfl, gm, om⟩
  have hsw21 : w20.heap.size ≤ w21.heap.size := gm.size
  clear Xu_20
  have HG_21 : Hid (Old w w21) := Old.by_ HG_20.out gm (fun b hb => by have := DXu.out b hb; omega)
  have O_21 : Hid (Own w21 w4.heap.size (.slice aw5 zs.length capw5) zs) := O_20.out.by_ gm (fun a b h1 h2 h3 => by have := DO.out a h1; have := DXu.out b h2; omega)
  have Xq_21 : Hid (Own w21 w7.heap.size (.slice (some ⟨w7.heap.size, 0, none⟩) zz.length zz.length) zz) := Xq_20.out.by_ gm (fun a b h1 h2 h3 => by have := DXq.out a h1; have := DXu.out b h2; omega)
  have Xd_21 : Hid (Own w21 w8.heap.size (.slice (some ⟨w8.heap.size, 0, none⟩) us.length us.length) us) := Xd_20.out.by_ gm (fun a b h1 h2 h3 => by have := DXd.out a h1; have := DXu.out b h2; omega)
  have G_21 : Hid (Own w21 w9.heap.size (.slice aw10 zs.length capw10) zs) := G_20.out.by_ gm (fun a b h1 h2 h3 => by have := DG.out a h1; have := DXu.out b h2; omega)
  have Xv_21 : Hid (Own w21 w5.heap.size (.slice (some ⟨w5.heap.size, 0, none⟩) xs.length xs.length) (marks 1 xs.length)) := Xv_20.out.by_ gm (fun a b h1 h2 h3 => by have := DXv.out a h1; have := DXu.out b h2; omega)
  clear HG_20 O_20 Xq_20 Xd_20 G_20 Xv_20
  have Xu_21 : Hid (Own w21 w6.heap.size (.slice (some ⟨w6.heap.size, 0, none⟩) ys.length ys.length) (marks (1 + (xs.length : Int)) ys.length)) := om
  clear gm om
  go_wp2_with fail
  refine (markInts_any zz _ (1 + (xs.length : Int) + (ys.length : Int)) _ _ Xq_21.out (by omega) (by omega) (by omega)).mono ?_
  rintro e w22 ⟨rfl, gm, om⟩
  have hsw22 : w21.heap.size ≤ w22.heap.size := gm.size
  clear Xq_21
  have HG_22 : Hid (Old w w22) := Old.by_ HG_21.out gm (fun b hb => by have := DXq.out b hb; omega)
  have O_22 : Hid (Own w22 w4.heap.size (.slice aw5 zs.length capw5) zs) := O_21.out.by_ gm (fun a b h1 h2 h3 => by have := DO.out a h1; have := DXq.out b h2; omega)
  have Xd_22 : Hid (Own w22 w8.heap.size (.slice (some ⟨w8.heap.size, 0, none⟩) us.length us.length) us) := Xd_21.out.by_ gm (fun a b h1 h2 h3 => by have := DXd.out a h1; have := DXq.out b h2; omega)
  have G_22 : Hid (Own w22 w9.heap.size (.slice aw10 zs.length capw10) zs) := G_21.out.by_ gm (fun a b h1 h2 h3 => by have := DG.out a h1; have := DXq.out b h2; omega)
  have Xv_22 : Hid (Own w22 w5.heap.size (.slice (some ⟨w5.heap.size, 0, none⟩) xs.length xs.length) (marks 1 xs.length)) := Xv_21.out.by_ gm (fun a b h1 h2 h3 => by have := DXv.out a h1; have := DXq.out b h2; omega)
  have Xu_22 : Hid (Own w22 w6.heap.size (.slice (some ⟨w6.heap.size, 0, none⟩) ys.length ys.length) (marks (1 + (xs.length : Int)) ys.length)) := Xu_21.out.by_ gm (fun a b h1 h2 h3 => by have := DXu.out a h1; have := DXq.out b h2; omega)
  clear HG_21 O_21 Xd_21 G_21 Xv_21 Xu_21
  have Xq_22 : Hid (Own w22 w7.heap.size (.slice (some ⟨w7.heap.size, 0, none⟩) zz.length zz.length) (marks (1 + (xs.length : Int) + (ys.length : Int)) zz.length)) := om
  clear gm om
  go_wp2_with fail
  refine (markInts_any us _ (1 + (xs.length : Int) + (ys.length : Int) + (zz.length : Int)) _ _ Xd_22.out (by omega) (by omega) (by omega)).mono ?_
  rintro e w23 ⟨rfl, gm, om⟩
  have hsw23 : w22.heap.size ≤ w23.heap.size := gm.size
  clear Xd_22
  have HG_23 : Hid (Old w w23) := Old.by_ HG_22.out gm (fun b hb => by have := DXd.out b hb; omega)
  have O_23 : Hid (Own w23 w4.heap.size (.slice aw5 zs.length capw5) zs) := O_22.out.by_ gm (fun a b h1 h2 h3 => by have := DO.out a h1; have := DXd.out b h2; omega)
  have G_23 : Hid (Own w23 w9.heap.size (.slice aw10 zs.length capw10) zs) := G_22.out.by_ gm (fun a b h1 h2 h3 => by have := DG.out a h1; have := DXd.out b h2; omega)
  have Xv_23 : Hid (Own w23 w5.heap.size (.slice (some ⟨w5.heap.size, 0, none⟩) xs.length xs.length) (marks 1 xs.length)) := Xv_22.out.by_ gm (fun a b h1 h2 h3 => by have := DXv.out a h1; have := DXd.out b h2; omega)
  have Xu_23 : Hid (Own w23 w6.heap.size (.slice (some ⟨w6.heap.size, 0, none⟩) ys.length ys.length) (marks (1 + (xs.length : Int)) ys.length)) := Xu_22.out.by_ gm (fun a b h1 h2 h3 => by have := DXu.out a h1; have := DXd.out b h2; omega)
  have Xq_23 : Hid (Own w23 w7.heap.size (.slice (some ⟨w7.heap.size, 0, none⟩) zz.length zz.length) (marks (1 + (xs.length : Int) + (ys.length : Int)) zz.length)) := Xq_22.out.by_ gm (fun a b h1 h2 h3 => by have := DXq.out a h1; have := DXd.out b h2; omega)
  clear HG_22 O_22 G_22 Xv_22 Xu_22 Xq_22
  have Xd_23 : Hid (Own w23 w8.heap.size (.slice (some ⟨w8.heap.size, 0, none⟩) us.length us.length) (marks (1 + (xs.length : Int) + (ys.length : Int) + (zz.length : Int)) us.length)) := om
  clear gm om
  go_wp2_with fail
  refine (eqInts_yes zs _ _ _ (Own.row G_23.out) (Own.row O_23.out) (by omega)).mono ?_
  rintro e w24 ⟨rfl, g⟩
  have hsw24 : w23.heap.size ≤ w24.heap.size := g.size
  have HG_24 : Hid (Old w w24) := Old.trans HG_23.out g
  have O_24 : Hid (Own w24 w4.heap.size (.slice aw5 zs.length capw5) zs) := O_23.out.old g
  have G_24 : Hid (Own w24 w9.heap.size (.slice aw10 zs.length capw10) zs) := G_23.out.old g
  have Xv_24 : Hid (Own w24 w5.heap.size (.slice (some ⟨w5.heap.size, 0, none⟩) xs.length xs.length) (marks 1 xs.length)) := Xv_23.out.old g
  have Xu_24 : Hid (Own w24 w6.heap.size (.slice (some ⟨w6.heap.size, 0, none⟩) ys.length ys.length) (marks (1 + (xs.length : Int)) ys.length)) := Xu_23.out.old g
  have Xq_24 : Hid (Own w24 w7.heap.size (.slice (some ⟨w7.heap.size, 0, none⟩) zz.length zz.length) (marks (1 + (xs.length : Int) + (ys.length : Int)) zz.length)) := Xq_23.out.old g
  have Xd_24 : Hid (Own w24 w8.heap.size (.slice (some ⟨w8.heap.size, 0, none⟩) us.length us.length) (marks (1 + (xs.length : Int) + (ys.length : Int) + (zz.length : Int)) us.length)) := Xd_23.out.old g
  clear HG_23 O_23 G_23 Xv_23 Xu_23 Xq_23 Xd_23
  clear g
  go_wp2_with fail
  refine (markInts_any zs _ 1 _ _ G_24.out (by omega) (by omega) (by omega)).mono ?_
  rintro e w25 ⟨rfl, gm, om⟩
  have hsw25 : w24.heap.size ≤ w25.heap.size := gm.size
  clear G_24
  have HG_25 : Hid (Old w w25) := Old.by_ HG_24.out gm (fun b hb => by have := DG.out b hb; omega)
  have O_25 : Hid (Own w25 w4.heap.size (.slice aw5 zs.length capw5) zs) := O_24.out.by_ gm (fun a b h1 h2 h3 => by have := DO.out a h1; have := DG.out b h2; omega)
  have Xv_25 : Hid (Own w25 w5.heap.size (.slice (some ⟨w5.heap.size, 0, none⟩) xs.length xs.length) (marks 1 xs.length)) := Xv_24.out.by_ gm (fun a b h1 h2 h3 => by have := DXv.out a h1; have := DG.out b h2; omega)
  have Xu_25 : Hid (Own w25 w6.heap.size (.slice (some ⟨w6.heap.size, 0, none⟩) ys.length ys.length) (marks (1 + (xs.length : Int)) ys.length)) := Xu_24.out.by_ gm (fun a b h1 h2 h3 => by have := DXu.out a h1; have := DG.out b h2; omega)
  have Xq_25 : Hid (Own w25 w7.heap.size (.slice (some ⟨w7.heap.size, 0, none⟩) zz.length zz.length) (marks (1 + (xs.length : Int) + (ys.length : Int)) zz.length)) := Xq_24.out.by_ gm (fun a b h1 h2 h3 => by have := DXq.out a h1; have := DG.out b h2; omega)
  have Xd_25 : Hid (Own w25 w8.heap.size (.slice (some ⟨w8.heap.size, 0, none⟩) us.length us.length) (marks (1 + (xs.length : Int) + (ys.length : Int) + (zz.length : Int)) us.length)) := Xd_24.out.by_ gm (fun a b h1 h2 h3 => by have := DXd.out a h1; have := DG.out b h2; omega)
  clear HG_24 O_24 Xv_24 Xu_24 Xq_24 Xd_24
  have G_25 : Hid (Own w25 w9.heap.size (.slice aw10 zs.length capw10) (marks 1 zs.length)) := om
  clear gm om
  go_wp2_with fail
  refine (heldInts_yes zs.length _ 1 _ (Own.row G_25.out) (by omega) (by omega) (by omega)).mono ?_
  rintro e w26 ⟨rfl, g⟩
  have hsw26 : w25.heap.size ≤ w26.heap.size := g.size
  have HG_26 : Hid (Old w w26) := Old.trans HG_25.out g
  have O_26 : Hid (Own w26 w4.heap.size (.slice aw5 zs.length capw5) zs) := O_25.out.old g
  have Xv_26 : Hid (Own w26 w5.heap.size (.slice (some ⟨w5.heap.size, 0, none⟩) xs.length xs.length) (marks 1 xs.length)) := Xv_25.out.old g
  have Xu_26 : Hid (Own w26 w6.heap.size (.slice (some ⟨w6.heap.size, 0, none⟩) ys.length ys.length) (marks (1 + (xs.length : Int)) ys.length)) := Xu_25.out.old g
  have Xq_26 : Hid (Own w26 w7.heap.size (.slice (some ⟨w7.heap.size, 0, none⟩) zz.length zz.length) (marks (1 + (xs.length : Int) + (ys.length : Int)) zz.length)) := Xq_25.out.old g
  have Xd_26 : Hid (Own w26 w8.heap.size (.slice (some ⟨w8.heap.size, 0, none⟩) us.length us.length) (marks (1 + (xs.length : Int) + (ys.length : Int) + (zz.length : Int)) us.length)) := Xd_25.out.old g
  have G_26 : Hid (Own w26 w9.heap.size (.slice aw10 zs.length capw10) (marks 1 zs.length)) := G_25.out.old g
  clear HG_25 O_25 Xv_25 Xu_25 Xq_25 Xd_25 G_25
  clear g
  go_wp2_with fail
  refine (toInts_any xs _ _ (Rv.out.old HG_26.out) lv).mono ?_
  rintro e w27 ⟨rfl, g, o⟩
  have hsw27 : w26.heap.size ≤ w27.heap.size := g.size
  have hbw27 : w26.heap.size < w27.heap.size := own_lt o
  have HG_27 : Hid (Old w w27) := Old.trans HG_26.out g
  have O_27 : Hid (Own w27 w4.heap.size (.slice aw5 zs.length capw5) zs) := O_26.out.old g
  have Xv_27 : Hid (Own w27 w5.heap.size (.slice (some ⟨w5.heap.size, 0, none⟩) xs.length xs.length) (marks 1 xs.length)) := Xv_26.out.old g
  have Xu_27 : Hid (Own w27 w6.heap.size (.slice (some ⟨w6.heap.size, 0, none⟩) ys.length ys.length) (marks (1 + (xs.length : Int)) ys.length)) := Xu_26.out.old g
  have Xq_27 : Hid (Own w27 w7.heap.size (.slice (some ⟨w7.heap.size, 0, none⟩) zz.length zz.length) (marks (1 + (xs.length : Int) + (ys.length : Int)) zz.length)) := Xq_26.out.old g
  have Xd_27 : Hid (Own w27 w8.heap.size (.slice (some ⟨w8.heap.size, 0, none⟩) us.length us.length) (marks (1 + (xs.length : Int) + (ys.length : Int) + (zz.length : Int)) us.length)) := Xd_26.out.old g
  have G_27 : Hid (Own w27 w9.heap.size (.slice aw10 zs.length capw10) (marks 1 zs.length)) := G_26.out.old g
  clear HG_26 O_26 Xv_26 Xu_26 Xq_26 Xd_26 G_26
  have Cv_27 : Hid (Own w27 w26.heap.size (.slice (some ⟨w26.heap.size, 0, none⟩) xs.length xs.length) xs) := o
  have DCv : Hid (∀ g, (Value.slice (some ⟨w26.heap.size, 0, none⟩) xs.length xs.length).ownBlock = some g → w26.heap.size ≤ g ∧ g < w27.heap.size) := fun g hg => by have := o.lt g hg; exact this
  clear g o
  go_wp2_with fail
  refine (toInts_any ys _ _ (Ru.out.old HG_27.out) lu).mono ?_
  rintro e w28 ⟨rfl, g, o⟩
  have hsw28 : w27.heap.size ≤ w28.heap.size := g.size
  have hbw28 : w27.heap.size < w28.heap.size := own_lt o
  have HG_28 : Hid (Old w w28) := Old.trans HG_27.out g
  have O_28 : Hid (Own w28 w4.heap.size (.slice aw5 zs.length capw5) zs) := O_27.out.old g
  have Xv_28 : Hid (Own w28 w5.heap.size (.slice (some ⟨w5.heap.size, 0, none⟩) xs.length xs.length) (marks 1 xs.length)) := Xv_27.out.old g
  have Xu_28 : Hid (Own w28 w6.heap.size (.slice (some ⟨w6.heap.size, 0, none⟩) ys.length ys.length) (marks (1 + (xs.length : Int)) ys.length)) := Xu_27.out.old g
  have Xq_28 : Hid (Own w28 w7.heap.size (.slice (some ⟨w7.heap.size, 0, none⟩) zz.length zz.length) (marks (1 + (xs.length : Int) + (ys.length : Int)) zz.length)) := Xq_27.out.old g
  have Xd_28 : Hid (Own w28 w8.heap.size (.slice (some ⟨w8.heap.size, 0, none⟩) us.length us.length) (marks (1 + (xs.length : Int) + (ys.length : Int) + (zz.length : Int)) us.length)) := Xd_27.out.old g
  have G_28 : Hid (Own w28 w9.heap.size (.slice aw10 zs.length capw10) (marks 1 zs.length)) := G_27.out.old g
  have Cv_28 : Hid (Own w28 w26.heap.size (.slice (some ⟨w26.heap.size, 0, none⟩) xs.length xs.length) xs) := Cv_27.out.old g
  clear HG_27 O_27 Xv_27 Xu_27 Xq_27 Xd_27 G_27 Cv_27
  have Cu_28 : Hid (Own w28 w27.heap.size (.slice (some ⟨w27.heap.size, 0, none⟩) ys.length ys.length) ys) := o
  have DCu : Hid (∀ g, (Value.slice (some ⟨w27.heap.size, 0, none⟩) ys.length ys.length).ownBlock = some g → w27.heap.size ≤ g ∧ g < w28.heap.size) := fun g hg => by have := o.lt g hg; exact this
  clear g o
  go_wp2_with fail
  refine (toInts_any zz _ _ (Rq.out.old HG_28.out) lq).mono ?_
  rintro e w29 ⟨rfl, g, o⟩
  have hsw29 : w28.heap.size ≤ w29.heap.size := g.size
  have hbw29 : w28.heap.size < w29.heap.size := own_lt o
  have HG_29 : Hid (Old w w29) := Old.trans HG_28.out g
  have O_29 : Hid (Own w29 w4.heap.size (.slice aw5 zs.length capw5) zs) := O_28.out.old g
  have Xv_29 : Hid (Own w29 w5.heap.size (.slice (some ⟨w5.heap.size, 0, none⟩) xs.length xs.length) (marks 1 xs.length)) := Xv_28.out.old g
  have Xu_29 : Hid (Own w29 w6.heap.size (.slice (some ⟨w6.heap.size, 0, none⟩) ys.length ys.length) (marks (1 + (xs.length : Int)) ys.length)) := Xu_28.out.old g
  have Xq_29 : Hid (Own w29 w7.heap.size (.slice (some ⟨w7.heap.size, 0, none⟩) zz.length zz.length) (marks (1 + (xs.length : Int) + (ys.length : Int)) zz.length)) := Xq_28.out.old g
  have Xd_29 : Hid (Own w29 w8.heap.size (.slice (some ⟨w8.heap.size, 0, none⟩) us.length us.length) (marks (1 + (xs.length : Int) + (ys.length : Int) + (zz.length : Int)) us.length)) := Xd_28.out.old g
  have G_29 : Hid (Own w29 w9.heap.size (.slice aw10 zs.length capw10) (marks 1 zs.length)) := G_28.out.old g
  have Cv_29 : Hid (Own w29 w26.heap.size (.slice (some ⟨w26.heap.size, 0, none⟩) xs.length xs.length) xs) := Cv_28.out.old g
  have Cu_29 : Hid (Own w29 w27.heap.size (.slice (some ⟨w27.heap.size, 0, none⟩) ys.length ys.length) ys) := Cu_28.out.old g
  clear HG_28 O_28 Xv_28 Xu_28 Xq_28 Xd_28 G_28 Cv_28 Cu_28
  have Cq_29 : Hid (Own w29 w28.heap.size (.slice (some ⟨w28.heap.size, 0, none⟩) zz.length zz.length) zz) := o
  have DCq : Hid (∀ g, (Value.slice (some ⟨w28.heap.size, 0, none⟩) zz.length zz.length).ownBlock = some g → w28.heap.size ≤ g ∧ g < w29.heap.size) := fun g hg => by have := o.lt g hg; exact this
  clear g o
  go_wp2_with fail
  refine (toInts_any us _ _ (Rd.out.old HG_29.out) ld).mono ?_
  rintro e w30 ⟨rfl, g, o⟩
  have hsw30 : w29.heap.size ≤ w30.heap.size := g.size
  have hbw30 : w29.heap.size < w30.heap.size := own_lt o
  have HG_30 : Hid (Old w w30) := Old.trans HG_29.out g
  have O_30 : Hid (Own w30 w4.heap.size (.slice aw5 zs.length capw5) zs) := O_29.out.old g
  have Xv_30 : Hid (Own w30 w5.heap.size (.slice (some ⟨w5.heap.size, 0, none⟩) xs.length xs.length) (marks 1 xs.length)) := Xv_29.out.old g
  have Xu_30 : Hid (Own w30 w6.heap.size (.slice (some ⟨w6.heap.size, 0, none⟩) ys.length ys.length) (marks (1 + (xs.length : Int)) ys.length)) := Xu_29.out.old g
  have Xq_30 : Hid (Own w30 w7.heap.size (.slice (some ⟨w7.heap.size, 0, none⟩) zz.length zz.length) (marks (1 + (xs.length : Int) + (ys.length : Int)) zz.length)) := Xq_29.out.old g
  have Xd_30 : Hid (Own w30 w8.heap.size (.slice (some ⟨w8.heap.size, 0, none⟩) us.length us.length) (marks (1 + (xs.length : Int) + (ys.length : Int) + (zz.length : Int)) us.length)) := Xd_29.out.old g
  have G_30 : Hid (Own w30 w9.heap.size (.slice aw10 zs.length capw10) (marks 1 zs.length)) := G_29.out.old g
  have Cv_30 : Hid (Own w30 w26.heap.size (.slice (some ⟨w26.heap.size, 0, none⟩) xs.length xs.length) xs) := Cv_29.out.old g
  have Cu_30 : Hid (Own w30 w27.heap.size (.slice (some ⟨w27.heap.size, 0, none⟩) ys.length ys.length) ys) := Cu_29.out.old g
  have Cq_30 : Hid (Own w30 w28.heap.size (.slice (some ⟨w28.heap.size, 0, none⟩) zz.length zz.length) zz) := Cq_29.out.old g
  clear HG_29 O_29 Xv_29 Xu_29 Xq_29 Xd_29 G_29 Cv_29 Cu_29 Cq_29
  have Cd_30 : Hid (Own w30 w29.heap.size (.slice (some ⟨w29.heap.size, 0, none⟩) us.length us.length) us) := o
  have DCd : Hid (∀ g, (Value.slice (some ⟨w29.heap.size, 0, none⟩) us.length us.length).ownBlock = some g → w29.heap.size ≤ g ∧ g < w30.heap.size) := fun g hg => by have := o.lt g hg; exact this
  clear g o
  go_wp2_with fail
  refine (IM.out _ _ _ _ _ (HP.out.old HG_30.out) (HT.out.old HG_30.out) (Own.row Cv_30.out) (Nat.le_refl _) (Own.row Cu_30.out) (Nat.le_refl _) (Own.row Cq_30.out) (Nat.le_refl _) (Own.row Cd_30.out) (Nat.le_refl _)).mono ?_
  rintro e w31 ⟨vw31, rfl, g, o⟩
  obtain ⟨aw31, capw31, rfl⟩ := (Own.row o).slice
  have hsw31 : w30.heap.size ≤ w31.heap.size := g.size
  have HG_31 : Hid (Old w w31) := Old.trans HG_30.out g
  have O_31 : Hid (Own w31 w4.heap.size (.slice aw5 zs.length capw5) zs) := O_30.out.old g
  have Xv_31 : Hid (Own w31 w5.heap.size (.slice (some ⟨w5.heap.size, 0, none⟩) xs.length xs.length) (marks 1 xs.length)) := Xv_30.out.old g
  have Xu_31 : Hid (Own w31 w6.heap.size (.slice (some ⟨w6.heap.size, 0, none⟩) ys.length ys.length) (marks (1 + (xs.length : Int)) ys.length)) := Xu_30.out.old g
  have Xq_31 : Hid (Own w31 w7.heap.size (.slice (some ⟨w7.heap.size, 0, none⟩) zz.length zz.length) (marks (1 + (xs.length : Int) + (ys.length : Int)) zz.length)) := Xq_30.out.old g
  have Xd_31 : Hid (Own w31 w8.heap.size (.slice (some ⟨w8.heap.size, 0, none⟩) us.length us.length) (marks (1 + (xs.length : Int) + (ys.length : Int) + (zz.length : Int)) us.length)) := Xd_30.out.old g
  have G_31 : Hid (Own w31 w9.heap.size (.slice aw10 zs.length capw10) (marks 1 zs.length)) := G_30.out.old g
  have Cv_31 : Hid (Own w31 w26.heap.size (.slice (some ⟨w26.heap.size, 0, none⟩) xs.length xs.length) xs) := Cv_30.out.old g
  have Cu_31 : Hid (Own w31 w27.heap.size (.slice (some ⟨w27.heap.size, 0, none⟩) ys.length ys.length) ys) := Cu_30.out.old g
  have Cq_31 : Hid (Own w31 w28.heap.size (.slice (some ⟨w28.heap.size, 0, none⟩) zz.length zz.length) zz) := Cq_30.out.old g
  have Cd_31 : Hid (Own w31 w29.heap.size (.slice (some ⟨w29.heap.size, 0, none⟩) us.length us.length) us) := Cd_30.out.old g
  clear HG_30 O_30 Xv_30 Xu_30 Xq_30 Xd_30 G_30 Cv_30 Cu_30 Cq_30 Cd_30
  have H_31 : Hid (Own w31 w30.heap.size (.slice aw31 zs.length capw31) zs) := o
  have DH : Hid (∀ g, (Value.slice aw31 zs.length capw31).ownBlock = some g → w30.heap.size ≤ g ∧ g < w31.heap.size) := fun g hg => by have := o.lt g hg; exact this
  clear g o
  go_wp2_with fail
  refine (eqInts_yes zs _ _ _ (Own.row H_31.out) (Own.row O_31.out) (by omega)).mono ?_
  rintro e w32 ⟨rfl, g⟩
  have hsw32 : w31.heap.size ≤ w32.heap.size := g.size
  have HG_32 : Hid (Old w w32) := Old.trans HG_31.out g
  have O_32 : Hid (Own w32 w4.heap.size (.slice aw5 zs.length capw5) zs) := O_31.out.old g
  have Xv_32 : Hid (Own w32 w5.heap.size (.slice (some ⟨w5.heap.size, 0, none⟩) xs.length xs.length) (marks 1 xs.length)) := Xv_31.out.old g
  have Xu_32 : Hid (Own w32 w6.heap.size (.slice (some ⟨w6.heap.size, 0, none⟩) ys.length ys.length) (marks (1 + (xs.length : Int)) ys.length)) := Xu_31.out.old g
  have Xq_32 : Hid (Own w32 w7.heap.size (.slice (some ⟨w7.heap.size, 0, none⟩) zz.length zz.length) (marks (1 + (xs.length : Int) + (ys.length : Int)) zz.length)) := Xq_31.out.old g
  have Xd_32 : Hid (Own w32 w8.heap.size (.slice (some ⟨w8.heap.size, 0, none⟩) us.length us.length) (marks (1 + (xs.length : Int) + (ys.length : Int) + (zz.length : Int)) us.length)) := Xd_31.out.old g
  have G_32 : Hid (Own w32 w9.heap.size (.slice aw10 zs.length capw10) (marks 1 zs.length)) := G_31.out.old g
  have Cv_32 : Hid (Own w32 w26.heap.size (.slice (some ⟨w26.heap.size, 0, none⟩) xs.length xs.length) xs) := Cv_31.out.old g
  have Cu_32 : Hid (Own w32 w27.heap.size (.slice (some ⟨w27.heap.size, 0, none⟩) ys.length ys.length) ys) := Cu_31.out.old g
  have Cq_32 : Hid (Own w32 w28.heap.size (.slice (some ⟨w28.heap.size, 0, none⟩) zz.length zz.length) zz) := Cq_31.out.old g
  have Cd_32 : Hid (Own w32 w29.heap.size (.slice (some ⟨w29.heap.size, 0, none⟩) us.length us.length) us) := Cd_31.out.old g
  have H_32 : Hid (Own w32 w30.heap.size (.slice aw31 zs.length capw31) zs) := H_31.out.old g
  clear HG_31 O_31 Xv_31 Xu_31 Xq_31 Xd_31 G_31 Cv_31 Cu_31 Cq_31 Cd_31 H_31
  clear g
  go_wp2_with fail
  refine (heldInts_yes zs.length _ 1 _ (Own.row G_32.out) (by omega) (by omega) (by omega)).mono ?_
  rintro e w33 ⟨rfl, g⟩
  have hsw33 : w32.heap.size ≤ w33.heap.size := g.size
  have HG_33 : Hid (Old w w33) := Old.trans HG_32.out g
  have O_33 : Hid (Own w33 w4.heap.size (.slice aw5 zs.length capw5) zs) := O_32.out.old g
  have Xv_33 : Hid (Own w33 w5.heap.size (.slice (some ⟨w5.heap.size, 0, none⟩) xs.length xs.length) (marks 1 xs.length)) := Xv_32.out.old g
  have Xu_33 : Hid (Own w33 w6.heap.size (.slice (some ⟨w6.heap.size, 0, none⟩) ys.length ys.length) (marks (1 + (xs.length : Int)) ys.length)) := Xu_32.out.old g
  have Xq_33 : Hid (Own w33 w7.heap.size (.slice (some ⟨w7.heap.size, 0, none⟩) zz.length zz.length) (marks (1 + (xs.length : Int) + (ys.length : Int)) zz.length)) := Xq_32.out.old g
  have Xd_33 : Hid (Own w33 w8.heap.size (.slice (some ⟨w8.heap.size, 0, none⟩) us.length us.length) (marks (1 + (xs.length : Int) + (ys.length : Int) + (zz.length : Int)) us.length)) := Xd_32.out.old g
  have G_33 : Hid (Own w33 w9.heap.size (.slice aw10 zs.length capw10) (marks 1 zs.length)) := G_32.out.old g
  have Cv_33 : Hid (Own w33 w26.heap.size (.slice (some ⟨w26.heap.size, 0, none⟩) xs.length xs.length) xs) := Cv_32.out.old g
  have Cu_33 : Hid (Own w33 w27.heap.size (.slice (some ⟨w27.heap.size, 0, none⟩) ys.length ys.length) ys) := Cu_32.out.old g
  have Cq_33 : Hid (Own w33 w28.heap.size (.slice (some ⟨w28.heap.size, 0, none⟩) zz.length zz.length) zz) := Cq_32.out.old g
  have Cd_33 : Hid (Own w33 w29.heap.size (.slice (some ⟨w29.heap.size, 0, none⟩) us.length us.length) us) := Cd_32.out.old g
  have H_33 : Hid (Own w33 w30.heap.size (.slice aw31 zs.length capw31) zs) := H_32.out.old g
  clear HG_32 O_32 Xv_32 Xu_32 Xq_32 Xd_32 G_32 Cv_32 Cu_32 Cq_32 Cd_32 H_32
  clear g
  go_wp2_with fail
  go_ret
  exact ⟨rfl, HG_33.out⟩
end Go.Proofs.YtejkejfhahmhcaaDoor
