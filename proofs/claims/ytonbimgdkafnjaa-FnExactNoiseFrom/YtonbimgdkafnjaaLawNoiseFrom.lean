/- Proved: the walk of the statement on NoiseFrom, under the contracts of the model's and of the program's function. -/
import Derived.Test.YtonbimgdkafnjaaSlP
import Derived.Test.YtonbimgdkafnjaaPurseB
namespace Go.Proofs.Ytonbimgdkafnjaa
open Go.ChangeShapes Go.WideShapes Go.ChangeAt Go.RowKit
set_option linter.unusedVariables false
set_option linter.unusedSimpArgs false
set_option maxRecDepth 100000 in
set_option maxHeartbeats 8000000 in
theorem law_NoiseFrom (t s : Int) (xs : List Int) (v : Value) (w : World) (hv : Row w v xs) (hlv : xs.length ≤ 9223372036854775807) (ok : Bool) (kk : Int) (z : Int)
    (hspec : xs.length ≤ 1048576 → ∀ v W, Row W v xs → Fit7 v → Calls Try.prog 26 #[v, .int .i64 t, .int .i64 s] W fun e w' => e = .returned (.tuple #[.int .i64 z, .int .i64 kk, .bool ok]) ∧ Old W w')
    (himpl : xs.length ≤ 1048576 → ∀ v W, Row W v xs → Fit7 v → Calls Try.prog 18 #[v, .int .i64 t, .int .i64 s] W fun e w' => e = .returned (.tuple #[.int .i64 z, .int .i64 kk, .bool ok]) ∧ Old W w') :
    Calls Try.prog 6 #[v, .int .i64 t, .int .i64 s] w fun e w' => e = .returned (.bool true) ∧ Old w w' := by
  have Rv : Hid (Row w v xs) := hv
  obtain ⟨cv, capv, rfl⟩ := hv.slice
  clear hv
  by_cases bigv : (1048576 : Int) < (xs.length : Int)
  · have dv : decide ((1048576 : Int) < (xs.length : Int)) = true := decide_eq_true bigv
    clear hspec himpl
    go_enter Try.func6, Try.ntmps6
    go_wp2_with fail
    go_ret
    exact ⟨rfl, by repeat (first | exact Old.refl _ | apply Old.alloc)⟩
  have dv : decide ((1048576 : Int) < (xs.length : Int)) = false := decide_eq_false bigv
  have lv : xs.length ≤ 1048576 := by omega
  have SP : Hid (∀ v W, Row W v xs → Fit7 v → Calls Try.prog 26 #[v, .int .i64 t, .int .i64 s] W fun e w' => e = .returned (.tuple #[.int .i64 z, .int .i64 kk, .bool ok]) ∧ Old W w') := hspec lv
  have IM : Hid (∀ v W, Row W v xs → Fit7 v → Calls Try.prog 18 #[v, .int .i64 t, .int .i64 s] W fun e w' => e = .returned (.tuple #[.int .i64 z, .int .i64 kk, .bool ok]) ∧ Old W w') := himpl lv
  have dok : (ok != ok) = false := by simp
  have dkk : (kk != kk) = false := by simp
  have dzz : (z != z) = false := by simp
  clear hspec himpl bigv
  go_enter Try.func6, Try.ntmps6
  have HG_0 : Hid (Old w w) := Old.refl w
  go_wp2_with fail
  refine (toInts_any xs _ _ (Rv.out.old HG_0.out) lv).mono ?_
  rintro e w1 ⟨rfl, g, o⟩
  have hsw1 : w.heap.size ≤ w1.heap.size := g.size
  have hbw1 : w.heap.size < w1.heap.size := own_lt o
  have HG_1 : Hid (Old w w1) := Old.trans HG_0.out g
  clear HG_0
  have Av_1 : Hid (Own w1 w.heap.size (.slice (some ⟨w.heap.size, 0, none⟩) xs.length xs.length) xs) := o
  have DAv : Hid (∀ g, (Value.slice (some ⟨w.heap.size, 0, none⟩) xs.length xs.length).ownBlock = some g → w.heap.size ≤ g ∧ g < w1.heap.size) := fun g hg => by have := o.lt g hg; exact this
  clear g o
  go_wp2_with fail
  refine (SP.out _ _ (Own.row Av_1.out) (Nat.le_refl _)).mono ?_
  rintro e w2 ⟨rfl, g⟩
  have hsw2 : w1.heap.size ≤ w2.heap.size := g.size
  have HG_2 : Hid (Old w w2) := Old.trans HG_1.out g
  have Av_2 : Hid (Own w2 w.heap.size (.slice (some ⟨w.heap.size, 0, none⟩) xs.length xs.length) xs) := Av_1.out.old g
  clear HG_1 Av_1
  clear g
  clear Av_2
  go_wp2_with fail
  refine (toInts_any xs _ _ (Rv.out.old HG_2.out) lv).mono ?_
  rintro e w3 ⟨rfl, g, o⟩
  have hsw3 : w2.heap.size ≤ w3.heap.size := g.size
  have hbw3 : w2.heap.size < w3.heap.size := own_lt o
  have HG_3 : Hid (Old w w3) := Old.trans HG_2.out g
  clear HG_2
  have Xv_3 : Hid (Own w3 w2.heap.size (.slice (some ⟨w2.heap.size, 0, none⟩) xs.length xs.length) xs) := o
  have DXv : Hid (∀ g, (Value.slice (some ⟨w2.heap.size, 0, none⟩) xs.length xs.length).ownBlock = some g → w2.heap.size ≤ g ∧ g < w3.heap.size) := fun g hg => by have := o.lt g hg; exact this
  clear g o
  go_wp2_with fail
  refine (IM.out _ _  (Own.row Xv_3.out) (Nat.le_refl _)).mono ?_
  rintro e w4 ⟨rfl, g⟩
  have hsw4 : w3.heap.size ≤ w4.heap.size := g.size
  have HG_4 : Hid (Old w w4) := Old.trans HG_3.out g
  have Xv_4 : Hid (Own w4 w2.heap.size (.slice (some ⟨w2.heap.size, 0, none⟩) xs.length xs.length) xs) := Xv_3.out.old g
  clear HG_3 Xv_3
  clear g
  go_wp2_with fail
  refine (toInts_any xs _ _ (Rv.out.old HG_4.out) lv).mono ?_
  rintro e w5 ⟨rfl, g, o⟩
  have hsw5 : w4.heap.size ≤ w5.heap.size := g.size
  have hbw5 : w4.heap.size < w5.heap.size := own_lt o
  have HG_5 : Hid (Old w w5) := Old.trans HG_4.out g
  have Xv_5 : Hid (Own w5 w2.heap.size (.slice (some ⟨w2.heap.size, 0, none⟩) xs.length xs.length) xs) := Xv_4.out.old g
  clear HG_4 Xv_4
  have Bv_5 : Hid (Own w5 w4.heap.size (.slice (some ⟨w4.heap.size, 0, none⟩) xs.length xs.length) xs) := o
  have DBv : Hid (∀ g, (Value.slice (some ⟨w4.heap.size, 0, none⟩) xs.length xs.length).ownBlock = some g → w4.heap.size ≤ g ∧ g < w5.heap.size) := fun g hg => by have := o.lt g hg; exact this
  clear g o
  go_wp2_with fail
  refine (eqInts_yes xs _ _ _ (Own.row Xv_5.out) (Own.row Bv_5.out) (by omega)).mono ?_
  rintro e w6 ⟨rfl, g⟩
  have hsw6 : w5.heap.size ≤ w6.heap.size := g.size
  have HG_6 : Hid (Old w w6) := Old.trans HG_5.out g
  have Xv_6 : Hid (Own w6 w2.heap.size (.slice (some ⟨w2.heap.size, 0, none⟩) xs.length xs.length) xs) := Xv_5.out.old g
  have Bv_6 : Hid (Own w6 w4.heap.size (.slice (some ⟨w4.heap.size, 0, none⟩) xs.length xs.length) xs) := Bv_5.out.old g
  clear HG_5 Xv_5 Bv_5
  clear g
  clear Bv_6
  go_wp2_with fail
  go_ret
  exact ⟨rfl, HG_6.out⟩
end Go.Proofs.Ytonbimgdkafnjaa
