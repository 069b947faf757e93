/- Proved: the walk of the statement on ScaleDown, under the contracts of the model's and of the program's function. -/
import Derived.Test.YtejkejfhahmhcaaDoorKG
import Derived.Test.YtejkejfhahmhcaaDoorKB
namespace Go.Proofs.YtejkejfhahmhcaaDoor
open Go.ChangeShapes Go.WideShapes Go.ChangeAt Go.RowKit
open M1
set_option linter.unusedVariables false
set_option linter.unusedSimpArgs false
set_option maxRecDepth 100000 in
set_option maxHeartbeats 8000000 in
theorem law_ScaleDown (t s : Int) (xs ys : List Int) (v u : Value) (w : World) (hv : Row w v xs) (hlv : xs.length ≤ 9223372036854775807) (hu : Row w u ys) (hlu : ys.length ≤ 9223372036854775807) (hP : PrsW w) (hT : TabW w) (ok : Bool) (z : Int)
    (hspec : xs.length ≤ 1048576 → ys.length ≤ 1048576 → ∀ v u W, Row W v xs → Fit v → Row W u ys → Fit u → Calls Tryd.prog 32 #[v, u, .int .i64 t, .int .i64 s] W fun e w' => e = .returned (.tuple #[.int .i64 z, .bool ok]) ∧ Old W w')
    (himpl : xs.length ≤ 1048576 → ys.length ≤ 1048576 → ∀ v u W, PrsW W → TabW W → Row W v xs → Fit v → Row W u ys → Fit u → Calls Tryd.prog 33 #[v, u, .int .i64 t, .int .i64 s] W fun e w' => e = .returned (.tuple #[.int .i64 z, .bool ok]) ∧ Old W w') :
    Calls Tryd.prog 10 #[v, u, .int .i64 t, .int .i64 s] w fun e w' => e = .returned (.bool true) ∧ Old w w' := by
  have HP : Hid (PrsW w) := hP
  have HT : Hid (TabW w) := hT
  have Rv : Hid (Row w v xs) := hv
  obtain ⟨cv, capv, rfl⟩ := hv.slice
  have Ru : Hid (Row w u ys) := hu
  obtain ⟨cu, capu, rfl⟩ := hu.slice
  clear hT hP hv hu
  by_cases bigv : (1048576 : Int) < (xs.length : Int)
  · have dv : decide ((1048576 : Int) < (xs.length : Int)) = true := decide_eq_true bigv
    clear hspec himpl
    go_enter Tryd.func10, Tryd.ntmps10
    go_wp2_with fail
    go_ret
    exact ⟨rfl, by repeat (first | exact Old.refl _ | apply Old.alloc)⟩
  have dv : decide ((1048576 : Int) < (xs.length : Int)) = false := decide_eq_false bigv
  have lv : xs.length ≤ 1048576 := by omega
  by_cases bigu : (1048576 : Int) < (ys.length : Int)
  · have du : decide ((1048576 : Int) < (ys.length : Int)) = true := decide_eq_true bigu
    clear hspec himpl
    go_enter Tryd.func10, Tryd.ntmps10
    go_wp2_with fail
    go_ret
    exact ⟨rfl, by repeat (first | exact Old.refl _ | apply Old.alloc)⟩
  have du : decide ((1048576 : Int) < (ys.length : Int)) = false := decide_eq_false bigu
  have lu : ys.length ≤ 1048576 := by omega
  have SP : Hid (∀ v u W, Row W v xs → Fit v → Row W u ys → Fit u → Calls Tryd.prog 32 #[v, u, .int .i64 t, .int .i64 s] W fun e w' => e = .returned (.tuple #[.int .i64 z, .bool ok]) ∧ Old W w') := hspec lv lu
  have IM : Hid (∀ v u W, PrsW W → TabW W → Row W v xs → Fit v → Row W u ys → Fit u → Calls Tryd.prog 33 #[v, u, .int .i64 t, .int .i64 s] W fun e w' => e = .returned (.tuple #[.int .i64 z, .bool ok]) ∧ Old W w') := himpl lv lu
  have dok : (ok != ok) = false := by simp
  have dzz : (z != z) = false := by simp
  clear hspec himpl bigv bigu
  go_enter Tryd.func10, Tryd.ntmps10
  have HG_0 : Hid (Old w w) := Old.refl w
  go_wp2_with fail
  refine (toInts_any xs _ _ (Rv.out.old HG_0.out) lv).mono ?_
  rintro e w1 ⟨rfl, g, o⟩
  have hsw1 : w.heap.size ≤ w1.heap.size := g.size
  have hbw1 : w.heap.size < w1.heap.size := own_lt o
  have HG_1 : Hid (Old w w1) := Old.trans HG_0.out g
  clear HG_0
  have Av_1 : Hid (Own w1 w.heap.size (.slice (some ⟨w.heap.size, 0, none⟩) xs.length xs.length) xs) := o
  have DAv : Hid (∀ g, (Value.slice (some ⟨w.heap.size, 0, none⟩) xs.length xs.length).ownBlock = some g → w.heap.size ≤ g ∧ g < w1.heap.size) := fun g hg => by have := o.lt g hg; exact this
  clear g o
  go_wp2_with fail
  refine (toInts_any ys _ _ (Ru.out.old HG_1.out) lu).mono ?_
  rintro e w2 ⟨rfl, g, o⟩
  have hsw2 : w1.heap.size ≤ w2.heap.size := g.size
  have hbw2 : w1.heap.size < w2.heap.size := own_lt o
  have HG_2 : Hid (Old w w2) := Old.trans HG_1.out g
  have Av_2 : Hid (Own w2 w.heap.size (.slice (some ⟨w.heap.size, 0, none⟩) xs.length xs.length) xs) := Av_1.out.old g
  clear HG_1 Av_1
  have Au_2 : Hid (Own w2 w1.heap.size (.slice (some ⟨w1.heap.size, 0, none⟩) ys.length ys.length) ys) := o
  have DAu : Hid (∀ g, (Value.slice (some ⟨w1.heap.size, 0, none⟩) ys.length ys.length).ownBlock = some g → w1.heap.size ≤ g ∧ g < w2.heap.size) := fun g hg => by have := o.lt g hg; exact this
  clear g o
  go_wp2_with fail
  refine (SP.out _ _ _ (Own.row Av_2.out) (Nat.le_refl _) (Own.row Au_2.out) (Nat.le_refl _)).mono ?_
  rintro e w3 ⟨rfl, g⟩
  have hsw3 : w2.heap.size ≤ w3.heap.size := g.size
  have HG_3 : Hid (Old w w3) := Old.trans HG_2.out g
  have Av_3 : Hid (Own w3 w.heap.size (.slice (some ⟨w.heap.size, 0, none⟩) xs.length xs.length) xs) := Av_2.out.old g
  have Au_3 : Hid (Own w3 w1.heap.size (.slice (some ⟨w1.heap.size, 0, none⟩) ys.length ys.length) ys) := Au_2.out.old g
  clear HG_2 Av_2 Au_2
  clear g
  clear Av_3
  clear Au_3
  go_wp2_with fail
  refine (toInts_any xs _ _ (Rv.out.old HG_3.out) lv).mono ?_
  rintro e w4 ⟨rfl, g, o⟩
  have hsw4 : w3.heap.size ≤ w4.heap.size := g.size
  have hbw4 : w3.heap.size < w4.heap.size := own_lt o
  have HG_4 : Hid (Old w w4) := Old.trans HG_3.out g
  clear HG_3
  have Xv_4 : Hid (Own w4 w3.heap.size (.slice (some ⟨w3.heap.size, 0, none⟩) xs.length xs.length) xs) := o
  have DXv : Hid (∀ g, (Value.slice (some ⟨w3.heap.size, 0, none⟩) xs.length xs.length).ownBlock = some g → w3.heap.size ≤ g ∧ g < w4.heap.size) := fun g hg => by have := o.lt g hg; exact this
  clear g o
  go_wp2_with fail
  refine (toInts_any ys _ _ (Ru.out.old HG_4.out) lu).mono ?_
  rintro e w5 ⟨rfl, g, o⟩
  have hsw5 : w4.heap.size ≤ w5.heap.size := g.size
  have hbw5 : w4.heap.size < w5.heap.size := own_lt o
  have HG_5 : Hid (Old w w5) := Old.trans HG_4.out g
  have Xv_5 : Hid (Own w5 w3.heap.size (.slice (some ⟨w3.heap.size, 0, none⟩) xs.length xs.length) xs) := Xv_4.out.old g
  clear HG_4 Xv_4
  have Xu_5 : Hid (Own w5 w4.heap.size (.slice (some ⟨w4.heap.size, 0, none⟩) ys.length ys.length) ys) := o
  have DXu : Hid (∀ g, (Value.slice (some ⟨w4.heap.size, 0, none⟩) ys.length ys.length).ownBlock = some g → w4.heap.size ≤ g ∧ g < w5.heap.size) := fun g hg => by have := o.lt g hg; exact this
  clear g o
  go_wp2_with fail
  refine (IM.out _ _ _ (HP.out.old HG_5.out) (HT.out.old HG_5.out) (Own.row Xv_5.out) (Nat.le_refl _) (Own.row Xu_5.out) (Nat.le_refl _)).mono ?_
  rintro e w6 ⟨rfl, g⟩
  have hsw6 : w5.heap.size ≤ w6.heap.size := g.size
  have HG_6 : Hid (Old w w6) := Old.trans HG_5.out g
  have Xv_6 : Hid (Own w6 w3.heap.size (.slice (some ⟨w3.heap.size, 0, none⟩) xs.length xs.length) xs) := Xv_5.out.old g
  have Xu_6 : Hid (Own w6 w4.heap.size (.slice (some ⟨w4.heap.size, 0, none⟩) ys.length ys.length) ys) := Xu_5.out.old g
  clear HG_5 Xv_5 Xu_5
  clear g
  go_wp2_with fail
  refine (toInts_any xs _ _ (Rv.out.old HG_6.out) lv).mono ?_
  rintro e w7 ⟨rfl, g, o⟩
  have hsw7 : w6.heap.size ≤ w7.heap.size := g.size
  have hbw7 : w6.heap.size < w7.heap.size := own_lt o
  have HG_7 : Hid (Old w w7) := Old.trans HG_6.out g
  have Xv_7 : Hid (Own w7 w3.heap.size (.slice (some ⟨w3.heap.size, 0, none⟩) xs.length xs.length) xs) := Xv_6.out.old g
  have Xu_7 : Hid (Own w7 w4.heap.size (.slice (some ⟨w4.heap.size, 0, none⟩) ys.length ys.length) ys) := Xu_6.out.old g
  clear HG_6 Xv_6 Xu_6
  have Bv_7 : Hid (Own w7 w6.heap.size (.slice (some ⟨w6.heap.size, 0, none⟩) xs.length xs.length) xs) := o
  have DBv : Hid (∀ g, (Value.slice (some ⟨w6.heap.size, 0, none⟩) xs.length xs.length).ownBlock = some g → w6.heap.size ≤ g ∧ g < w7.heap.size) := fun g hg => by have := o.lt g hg; exact this
  clear g o
  go_wp2_with fail
  refine (eqInts_yes xs _ _ _ (Own.row Xv_7.out) (Own.row Bv_7.out) (by omega)).mono ?_
  rintro e w8 ⟨rfl, g⟩
  have hsw8 : w7.heap.size ≤ w8.heap.size := g.size
  have HG_8 : Hid (Old w w8) := Old.trans HG_7.out g
  have Xv_8 : Hid (Own w8 w3.heap.size (.slice (some ⟨w3.heap.size, 0, none⟩) xs.length xs.length) xs) := Xv_7.out.old g
  have Xu_8 : Hid (Own w8 w4.heap.size (.slice (some ⟨w4.heap.size, 0, none⟩) ys.length ys.length) ys) := Xu_7.out.old g
  have Bv_8 : Hid (Own w8 w6.heap.size (.slice (some ⟨w6.heap.size, 0, none⟩) xs.length xs.length) xs) := Bv_7.out.old g
  clear HG_7 Xv_7 Xu_7 Bv_7
  clear g
  clear Bv_8
  go_wp2_with fail
  refine (toInts_any ys _ _ (Ru.out.old HG_8.out) lu).mono ?_
  rintro e w9 ⟨rfl, g, o⟩
  have hsw9 : w8.heap.size ≤ w9.heap.size := g.size
  have hbw9 : w8.heap.size < w9.heap.size := own_lt o
  have HG_9 : Hid (Old w w9) := Old.trans HG_8.out g
  have Xv_9 : Hid (Own w9 w3.heap.size (.slice (some ⟨w3.heap.size, 0, none⟩) xs.length xs.length) xs) := Xv_8.out.old g
  have Xu_9 : Hid (Own w9 w4.heap.size (.slice (some ⟨w4.heap.size, 0, none⟩) ys.length ys.length) ys) := Xu_8.out.old g
  clear HG_8 Xv_8 Xu_8
  have Bu_9 : Hid (Own w9 w8.heap.size (.slice (some ⟨w8.heap.size, 0, none⟩) ys.length ys.length) ys) := o
  have DBu : Hid (∀ g, (Value.slice (some ⟨w8.heap.size, 0, none⟩) ys.length ys.length).ownBlock = some g → w8.heap.size ≤ g ∧ g < w9.heap.size) := fun g hg => by have := o.lt g hg; exact this
  clear g o
  go_wp2_with fail
  refine (eqInts_yes ys _ _ _ (Own.row Xu_9.out) (Own.row Bu_9.out) (by omega)).mono ?_
  rintro e w10 ⟨rfl, g⟩
  have hsw10 : w9.heap.size ≤ w10.heap.size := g.size
  have HG_10 : Hid (Old w w10) := Old.trans HG_9.out g
  have Xv_10 : Hid (Own w10 w3.heap.size (.slice (some ⟨w3.heap.size, 0, none⟩) xs.length xs.length) xs) := Xv_9.out.old g
  have Xu_10 : Hid (Own w10 w4.heap.size (.slice (some ⟨w4.heap.size, 0, none⟩) ys.length ys.length) ys) := Xu_9.out.old g
  have Bu_10 : Hid (Own w10 w8.heap.size (.slice (some ⟨w8.heap.size, 0, none⟩) ys.length ys.length) ys) := Bu_9.out.old g
  clear HG_9 Xv_9 Xu_9 Bu_9
  clear g
  clear Bu_10
  go_wp2_with fail
  go_ret
  exact ⟨rfl, HG_10.out⟩
end Go.Proofs.YtejkejfhahmhcaaDoor
