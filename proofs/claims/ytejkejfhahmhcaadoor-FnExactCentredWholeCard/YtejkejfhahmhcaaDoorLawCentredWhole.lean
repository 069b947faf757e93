/- Proved: the walk of the statement on CentredWhole, under the contracts of the model's and of the program's function. -/
import Derived.Test.YtejkejfhahmhcaaDoorKG
namespace Go.Proofs.YtejkejfhahmhcaaDoor
open Go.ChangeShapes Go.WideShapes Go.ChangeAt Go.RowKit
set_option linter.unusedVariables false
set_option linter.unusedSimpArgs false
set_option maxRecDepth 100000 in
set_option maxHeartbeats 8000000 in
theorem law_CentredWhole (xs ys : List Int) (v u : Value) (w : World) (hv : Row w v xs) (hlv : xs.length ≤ 9223372036854775807) (hu : Row w u ys) (hlu : ys.length ≤ 9223372036854775807) (hP : PrsW w) (hT : TabW w) (rb ok : Bool) (rl : List Nat) (hz : rl.length ≤ 1000)
    (hspec : xs.length ≤ 1048576 → ys.length ≤ 1048576 → ∀ v u W, Row W v xs → Fit v → Row W u ys → Fit u → Calls Tryd.prog 19 #[v, u] W fun e w' => ∃ v', e = .returned (.tuple #[.agg #[.bool rb, v'], .bool ok]) ∧ Old W w' ∧ Own w' W.heap.size v' (toI rl))
    (himpl : xs.length ≤ 1048576 → ys.length ≤ 1048576 → ∀ v u W, PrsW W → TabW W → Row W v xs → Fit v → Row W u ys → Fit u → Calls Tryd.prog 20 #[v, u] W fun e w' => ∃ v', e = .returned (.tuple #[.agg #[.bool rb, v'], .bool ok]) ∧ Old W w' ∧ Own w' W.heap.size v' (toI rl)) :
    Calls Tryd.prog 4 #[v, u] w fun e w' => e = .returned (.bool true) ∧ Old w w' := by
  have HP : Hid (PrsW w) := hP
  have HT : Hid (TabW w) := hT
  have Rv : Hid (Row w v xs) := hv
  obtain ⟨cv, capv, rfl⟩ := hv.slice
  have Ru : Hid (Row w u ys) := hu
  obtain ⟨cu, capu, rfl⟩ := hu.slice
  clear hT hP hv hu
  by_cases bigv : (1048576 : Int) < (xs.length : Int)
  · have dv : decide ((1048576 : Int) < (xs.length : Int)) = true := decide_eq_true bigv
    clear hspec himpl
    go_enter Tryd.func4, Tryd.ntmps4
    go_wp2_with fail
    go_ret
    exact ⟨rfl, by repeat (first | exact Old.refl _ | apply Old.alloc)⟩
  have dv : decide ((1048576 : Int) < (xs.length : Int)) = false := decide_eq_false bigv
  have lv : xs.length ≤ 1048576 := by omega
  by_cases bigu : (1048576 : Int) < (ys.length : Int)
  · have du : decide ((1048576 : Int) < (ys.length : Int)) = true := decide_eq_true bigu
    clear hspec himpl
    go_enter Tryd.func4, Tryd.ntmps4
    go_wp2_with fail
    go_ret
    exact ⟨rfl, by repeat (first | exact Old.refl _ | apply Old.alloc)⟩
  have du : decide ((1048576 : Int) < (ys.length : Int)) = false := decide_eq_false bigu
  have lu : ys.length ≤ 1048576 := by omega
  have SP : Hid (∀ v u W, Row W v xs → Fit v → Row W u ys → Fit u → Calls Tryd.prog 19 #[v, u] W fun e w' => ∃ v', e = .returned (.tuple #[.agg #[.bool rb, v'], .bool ok]) ∧ Old W w' ∧ Own w' W.heap.size v' (toI rl)) := hspec lv lu
  have IM : Hid (∀ v u W, PrsW W → TabW W → Row W v xs → Fit v → Row W u ys → Fit u → Calls Tryd.prog 20 #[v, u] W fun e w' => ∃ v', e = .returned (.tuple #[.agg #[.bool rb, v'], .bool ok]) ∧ Old W w' ∧ Own w' W.heap.size v' (toI rl)) := himpl lv lu
  have hrl : (toI rl).length ≤ 1000 := by rw [toI_len]; exact hz
  have dok : (ok != ok) = false := by simp
  have dq : decide ((1 : Int) + ((toI rl).length : Int) < 0) = false := decide_eq_false (by omega)
  have dqm : ((1 : Int) + ((toI rl).length : Int) != 1 + ((toI rl).length : Int)) = false := by simp
  have dk : decide ((1 : Int) + (xs.length : Int) + (ys.length : Int) < 0) = false := decide_eq_false (by omega)
  clear hspec himpl hz bigv bigu
  go_enter Tryd.func4, Tryd.ntmps4
  have HG_0 : Hid (Old w w) := Old.refl w
  go_wp2_with fail
  refine (toInts_any xs _ _ (Rv.out.old HG_0.out) lv).mono ?_
  rintro e w1 ⟨rfl, g, o⟩
  have hsw1 : w.heap.size ≤ w1.heap.size := by have := g.size; (try simp at this); omega
  have hbw1 : w.heap.size < w1.heap.size := by have := own_lt o; (try simp at this); omega
  have HG_1 : Hid (Old w w1) := Old.trans HG_0.out g
  clear HG_0
  have Av_1 : Hid (Own w1 (w.heap.size) (.slice (some ⟨w.heap.size, 0, none⟩) xs.length xs.length) xs) := by first | exact o | (simp at o; exact o)
  have DAv : Hid (∀ g, (Value.slice (some ⟨w.heap.size, 0, none⟩) xs.length xs.length).ownBlock = some g → w.heap.size ≤ g ∧ g < w1.heap.size) := fun g hg => Av_1.out.lt g hg
  clear g o
  go_wp2_with fail
  refine (toInts_any ys _ _ (Ru.out.old HG_1.out) lu).mono ?_
  rintro e w2 ⟨rfl, g, o⟩
  have hsw2 : w1.heap.size ≤ w2.heap.size := by have := g.size; (try simp at this); omega
  have hbw2 : w1.heap.size < w2.heap.size := by have := own_lt o; (try simp at this); omega
  have HG_2 : Hid (Old w w2) := Old.trans HG_1.out g
  have Av_2 : Hid (Own w2 (w.heap.size) (.slice (some ⟨w.heap.size, 0, none⟩) xs.length xs.length) xs) := Av_1.out.old g
  clear HG_1 Av_1
  have Au_2 : Hid (Own w2 (w1.heap.size) (.slice (some ⟨w1.heap.size, 0, none⟩) ys.length ys.length) ys) := by first | exact o | (simp at o; exact o)
  have DAu : Hid (∀ g, (Value.slice (some ⟨w1.heap.size, 0, none⟩) ys.length ys.length).ownBlock = some g → w1.heap.size ≤ g ∧ g < w2.heap.size) := fun g hg => Au_2.out.lt g hg
  clear g o
  go_wp2_with fail
  refine (SP.out _ _ _ (Own.row Av_2.out) (Nat.le_refl _) (Own.row Au_2.out) (Nat.le_refl _)).mono ?_
  rintro e w3 ⟨vw3, rfl, g, o⟩
  obtain ⟨aw3, capw3, rfl⟩ := (Own.row o).slice
  have hsw3 : w2.heap.size ≤ w3.heap.size := by have := g.size; (try simp at this); omega
  have HG_3 : Hid (Old w (w3.alloc (.cells #[.bool rb, .slice aw3 (toI rl).length capw3] 24))) := Old.trans HG_2.out (Old.trans g ((Old.refl w3).alloc _))
  have Av_3 : Hid (Own (w3.alloc (.cells #[.bool rb, .slice aw3 (toI rl).length capw3] 24)) (w.heap.size) (.slice (some ⟨w.heap.size, 0, none⟩) xs.length xs.length) xs) := Av_2.out.old (Old.trans g ((Old.refl w3).alloc _))
  have Au_3 : Hid (Own (w3.alloc (.cells #[.bool rb, .slice aw3 (toI rl).length capw3] 24)) (w1.heap.size) (.slice (some ⟨w1.heap.size, 0, none⟩) ys.length ys.length) ys) := Au_2.out.old (Old.trans g ((Old.refl w3).alloc _))
  clear HG_2 Av_2 Au_2
  have C_3 : Hid (StW (w3.alloc (.cells #[.bool rb, .slice aw3 (toI rl).length capw3] 24)) w3.heap.size (.bool rb) (.slice aw3 (toI rl).length capw3) 24) := StW.new w3 _ _ _
  have O_3 : Hid (Own (w3.alloc (.cells #[.bool rb, .slice aw3 (toI rl).length capw3] 24)) (w2.heap.size) (.slice aw3 (toI rl).length capw3) (toI rl)) := by have := (Own.low o (base' := w2.heap.size) (by simp)); exact this.alloc _
  have DO : Hid (∀ g, (Value.slice aw3 (toI rl).length capw3).ownBlock = some g → w2.heap.size ≤ g ∧ g < w3.heap.size) := fun g hg => by have := o.lt g hg; (try simp at this); omega
  clear g o
  clear Av_3
  clear Au_3
  go_wp2_with fail
  refine (toInts_any xs _ _ (Rv.out.old HG_3.out) lv).mono ?_
  rintro e w4 ⟨rfl, g, o⟩
  have hsw4 : w3.heap.size + 1 ≤ w4.heap.size := by have := g.size; (try simp at this); omega
  have hbw4 : w3.heap.size + 1 < w4.heap.size := by have := own_lt o; (try simp at this); omega
  have HG_4 : Hid (Old w w4) := Old.trans HG_3.out g
  have C_4 : Hid (StW w4 w3.heap.size (.bool rb) (.slice aw3 (toI rl).length capw3) 24) := C_3.out.old g
  have O_4 : Hid (Own w4 (w2.heap.size) (.slice aw3 (toI rl).length capw3) (toI rl)) := O_3.out.old g
  clear HG_3 C_3 O_3
  have Xv_4 : Hid (Own w4 (w3.heap.size + 1) (.slice (some ⟨w3.heap.size + 1, 0, none⟩) xs.length xs.length) xs) := by first | exact o | (simp at o; exact o)
  have DXv : Hid (∀ g, (Value.slice (some ⟨w3.heap.size + 1, 0, none⟩) xs.length xs.length).ownBlock = some g → w3.heap.size + 1 ≤ g ∧ g < w4.heap.size) := fun g hg => Xv_4.out.lt g hg
  clear g o
  go_wp2_with fail
  refine (toInts_any ys _ _ (Ru.out.old HG_4.out) lu).mono ?_
  rintro e w5 ⟨rfl, g, o⟩
  have hsw5 : w4.heap.size ≤ w5.heap.size := by have := g.size; (try simp at this); omega
  have hbw5 : w4.heap.size < w5.heap.size := by have := own_lt o; (try simp at this); omega
  have HG_5 : Hid (Old w w5) := Old.trans HG_4.out g
  have C_5 : Hid (StW w5 w3.heap.size (.bool rb) (.slice aw3 (toI rl).length capw3) 24) := C_4.out.old g
  have O_5 : Hid (Own w5 (w2.heap.size) (.slice aw3 (toI rl).length capw3) (toI rl)) := O_4.out.old g
  have Xv_5 : Hid (Own w5 (w3.heap.size + 1) (.slice (some ⟨w3.heap.size + 1, 0, none⟩) xs.length xs.length) xs) := Xv_4.out.old g
  clear HG_4 C_4 O_4 Xv_4
  have Xu_5 : Hid (Own w5 (w4.heap.size) (.slice (some ⟨w4.heap.size, 0, none⟩) ys.length ys.length) ys) := by first | exact o | (simp at o; exact o)
  have DXu : Hid (∀ g, (Value.slice (some ⟨w4.heap.size, 0, none⟩) ys.length ys.length).ownBlock = some g → w4.heap.size ≤ g ∧ g < w5.heap.size) := fun g hg => Xu_5.out.lt g hg
  clear g o
  go_wp2_with fail
  refine (IM.out _ _ _ (HP.out.old HG_5.out) (HT.out.old HG_5.out) (Own.row Xv_5.out) (Nat.le_refl _) (Own.row Xu_5.out) (Nat.le_refl _)).mono ?_
  rintro e w6 ⟨vw6, rfl, g, o⟩
  obtain ⟨aw6, capw6, rfl⟩ := (Own.row o).slice
  have hsw6 : w5.heap.size ≤ w6.heap.size := by have := g.size; (try simp at this); omega
  have HG_6 : Hid (Old w (w6.alloc (.cells #[.bool rb, .slice aw6 (toI rl).length capw6] 24))) := Old.trans HG_5.out (Old.trans g ((Old.refl w6).alloc _))
  have C_6 : Hid (StW (w6.alloc (.cells #[.bool rb, .slice aw6 (toI rl).length capw6] 24)) w3.heap.size (.bool rb) (.slice aw3 (toI rl).length capw3) 24) := C_5.out.old (Old.trans g ((Old.refl w6).alloc _))
  have O_6 : Hid (Own (w6.alloc (.cells #[.bool rb, .slice aw6 (toI rl).length capw6] 24)) (w2.heap.size) (.slice aw3 (toI rl).length capw3) (toI rl)) := O_5.out.old (Old.trans g ((Old.refl w6).alloc _))
  have Xv_6 : Hid (Own (w6.alloc (.cells #[.bool rb, .slice aw6 (toI rl).length capw6] 24)) (w3.heap.size + 1) (.slice (some ⟨w3.heap.size + 1, 0, none⟩) xs.length xs.length) xs) := Xv_5.out.old (Old.trans g ((Old.refl w6).alloc _))
  have Xu_6 : Hid (Own (w6.alloc (.cells #[.bool rb, .slice aw6 (toI rl).length capw6] 24)) (w4.heap.size) (.slice (some ⟨w4.heap.size, 0, none⟩) ys.length ys.length) ys) := Xu_5.out.old (Old.trans g ((Old.refl w6).alloc _))
  clear HG_5 C_5 O_5 Xv_5 Xu_5
  have Z_6 : Hid (StW (w6.alloc (.cells #[.bool rb, .slice aw6 (toI rl).length capw6] 24)) w6.heap.size (.bool rb) (.slice aw6 (toI rl).length capw6) 24) := StW.new w6 _ _ _
  have G_6 : Hid (Own (w6.alloc (.cells #[.bool rb, .slice aw6 (toI rl).length capw6] 24)) (w5.heap.size) (.slice aw6 (toI rl).length capw6) (toI rl)) := by have := (Own.low o (base' := w5.heap.size) (by simp)); exact this.alloc _
  have DG : Hid (∀ g, (Value.slice aw6 (toI rl).length capw6).ownBlock = some g → w5.heap.size ≤ g ∧ g < w6.heap.size) := fun g hg => by have := o.lt g hg; (try simp at this); omega
  clear g o
  have zZ0 := Z_6.out.c0
  have zZ1 := Z_6.out.c1
  have zC0 := C_6.out.c0
  have zC1 := C_6.out.c1
  go_wp2_with fail
  refine (eqWhole_yes rb (toI rl) _ _ _ (Own.row G_6.out) (Own.row O_6.out) (by omega)).mono ?_
  rintro e w7 ⟨rfl, g⟩
  have hsw7 : w6.heap.size + 1 ≤ w7.heap.size := by have := g.size; (try simp at this); omega
  clear zZ0 zZ1 zC0 zC1
  have HG_7 : Hid (Old w w7) := Old.trans HG_6.out g
  have C_7 : Hid (StW w7 w3.heap.size (.bool rb) (.slice aw3 (toI rl).length capw3) 24) := C_6.out.old g
  have O_7 : Hid (Own w7 (w2.heap.size) (.slice aw3 (toI rl).length capw3) (toI rl)) := O_6.out.old g
  have Xv_7 : Hid (Own w7 (w3.heap.size + 1) (.slice (some ⟨w3.heap.size + 1, 0, none⟩) xs.length xs.length) xs) := Xv_6.out.old g
  have Xu_7 : Hid (Own w7 (w4.heap.size) (.slice (some ⟨w4.heap.size, 0, none⟩) ys.length ys.length) ys) := Xu_6.out.old g
  have Z_7 : Hid (StW w7 w6.heap.size (.bool rb) (.slice aw6 (toI rl).length capw6) 24) := Z_6.out.old g
  have G_7 : Hid (Own w7 (w5.heap.size) (.slice aw6 (toI rl).length capw6) (toI rl)) := G_6.out.old g
  clear HG_6 C_6 O_6 Xv_6 Xu_6 Z_6 G_6
  clear g
  go_wp2_with fail
  refine (toInts_any xs _ _ (Rv.out.old HG_7.out) lv).mono ?_
  rintro e w8 ⟨rfl, g, o⟩
  have hsw8 : w7.heap.size ≤ w8.heap.size := by have := g.size; (try simp at this); omega
  have hbw8 : w7.heap.size < w8.heap.size := by have := own_lt o; (try simp at this); omega
  have HG_8 : Hid (Old w w8) := Old.trans HG_7.out g
  have C_8 : Hid (StW w8 w3.heap.size (.bool rb) (.slice aw3 (toI rl).length capw3) 24) := C_7.out.old g
  have O_8 : Hid (Own w8 (w2.heap.size) (.slice aw3 (toI rl).length capw3) (toI rl)) := O_7.out.old g
  have Xv_8 : Hid (Own w8 (w3.heap.size + 1) (.slice (some ⟨w3.heap.size + 1, 0, none⟩) xs.length xs.length) xs) := Xv_7.out.old g
  have Xu_8 : Hid (Own w8 (w4.heap.size) (.slice (some ⟨w4.heap.size, 0, none⟩) ys.length ys.length) ys) := Xu_7.out.old g
  have Z_8 : Hid (StW w8 w6.heap.size (.bool rb) (.slice aw6 (toI rl).length capw6) 24) := Z_7.out.old g
  have G_8 : Hid (Own w8 (w5.heap.size) (.slice aw6 (toI rl).length capw6) (toI rl)) := G_7.out.old g
  clear HG_7 C_7 O_7 Xv_7 Xu_7 Z_7 G_7
  have Bv_8 : Hid (Own w8 (w7.heap.size) (.slice (some ⟨w7.heap.size, 0, none⟩) xs.length xs.length) xs) := by first | exact o | (simp at o; exact o)
  have DBv : Hid (∀ g, (Value.slice (some ⟨w7.heap.size, 0, none⟩) xs.length xs.length).ownBlock = some g → w7.heap.size ≤ g ∧ g < w8.heap.size) := fun g hg => Bv_8.out.lt g hg
  clear g o
  go_wp2_with fail
  refine (eqInts_yes xs _ _ _ (Own.row Xv_8.out) (Own.row Bv_8.out) (by omega)).mono ?_
  rintro e w9 ⟨rfl, g⟩
  have hsw9 : w8.heap.size ≤ w9.heap.size := by have := g.size; (try simp at this); omega
  have HG_9 : Hid (Old w w9) := Old.trans HG_8.out g
  have C_9 : Hid (StW w9 w3.heap.size (.bool rb) (.slice aw3 (toI rl).length capw3) 24) := C_8.out.old g
  have O_9 : Hid (Own w9 (w2.heap.size) (.slice aw3 (toI rl).length capw3) (toI rl)) := O_8.out.old g
  have Xv_9 : Hid (Own w9 (w3.heap.size + 1) (.slice (some ⟨w3.heap.size + 1, 0, none⟩) xs.length xs.length) xs) := Xv_8.out.old g
  have Xu_9 : Hid (Own w9 (w4.heap.size) (.slice (some ⟨w4.heap.size, 0, none⟩) ys.length ys.length) ys) := Xu_8.out.old g
  have Z_9 : Hid (StW w9 w6.heap.size (.bool rb) (.slice aw6 (toI rl).length capw6) 24) := Z_8.out.old g
  have G_9 : Hid (Own w9 (w5.heap.size) (.slice aw6 (toI rl).length capw6) (toI rl)) := G_8.out.old g
  have Bv_9 : Hid (Own w9 (w7.heap.size) (.slice (some ⟨w7.heap.size, 0, none⟩) xs.length xs.length) xs) := Bv_8.out.old g
  clear HG_8 C_8 O_8 Xv_8 Xu_8 Z_8 G_8 Bv_8
  clear g
  clear Bv_9
  go_wp2_with fail
  refine (toInts_any ys _ _ (Ru.out.old HG_9.out) lu).mono ?_
  rintro e w10 ⟨rfl, g, o⟩
  have hsw10 : w9.heap.size ≤ w10.heap.size := by have := g.size; (try simp at this); omega
  have hbw10 : w9.heap.size < w10.heap.size := by have := own_lt o; (try simp at this); omega
  have HG_10 : Hid (Old w w10) := Old.trans HG_9.out g
  have C_10 : Hid (StW w10 w3.heap.size (.bool rb) (.slice aw3 (toI rl).length capw3) 24) := C_9.out.old g
  have O_10 : Hid (Own w10 (w2.heap.size) (.slice aw3 (toI rl).length capw3) (toI rl)) := O_9.out.old g
  have Xv_10 : Hid (Own w10 (w3.heap.size + 1) (.slice (some ⟨w3.heap.size + 1, 0, none⟩) xs.length xs.length) xs) := Xv_9.out.old g
  have Xu_10 : Hid (Own w10 (w4.heap.size) (.slice (some ⟨w4.heap.size, 0, none⟩) ys.length ys.length) ys) := Xu_9.out.old g
  have Z_10 : Hid (StW w10 w6.heap.size (.bool rb) (.slice aw6 (toI rl).length capw6) 24) := Z_9.out.old g
  have G_10 : Hid (Own w10 (w5.heap.size) (.slice aw6 (toI rl).length capw6) (toI rl)) := G_9.out.old g
  clear HG_9 C_9 O_9 Xv_9 Xu_9 Z_9 G_9
  have Bu_10 : Hid (Own w10 (w9.heap.size) (.slice (some ⟨w9.heap.size, 0, none⟩) ys.length ys.length) ys) := by first | exact o | (simp at o; exact o)
  have DBu : Hid (∀ g, (Value.slice (some ⟨w9.heap.size, 0, none⟩) ys.length ys.length).ownBlock = some g → w9.heap.size ≤ g ∧ g < w10.heap.size) := fun g hg => Bu_10.out.lt g hg
  clear g o
  go_wp2_with fail
  refine (eqInts_yes ys _ _ _ (Own.row Xu_10.out) (Own.row Bu_10.out) (by omega)).mono ?_
  rintro e w11 ⟨rfl, g⟩
  have hsw11 : w10.heap.size ≤ w11.heap.size := by have := g.size; (try simp at this); omega
  have HG_11 : Hid (Old w w11) := Old.trans HG_10.out g
  have C_11 : Hid (StW w11 w3.heap.size (.bool rb) (.slice aw3 (toI rl).length capw3) 24) := C_10.out.old g
  have O_11 : Hid (Own w11 (w2.heap.size) (.slice aw3 (toI rl).length capw3) (toI rl)) := O_10.out.old g
  have Xv_11 : Hid (Own w11 (w3.heap.size + 1) (.slice (some ⟨w3.heap.size + 1, 0, none⟩) xs.length xs.length) xs) := Xv_10.out.old g
  have Xu_11 : Hid (Own w11 (w4.heap.size) (.slice (some ⟨w4.heap.size, 0, none⟩) ys.length ys.length) ys) := Xu_10.out.old g
  have Z_11 : Hid (StW w11 w6.heap.size (.bool rb) (.slice aw6 (toI rl).length capw6) 24) := Z_10.out.old g
  have G_11 : Hid (Own w11 (w5.heap.size) (.slice aw6 (toI rl).length capw6) (toI rl)) := G_10.out.old g
  have Bu_11 : Hid (Own w11 (w9.heap.size) (.slice (some ⟨w9.heap.size, 0, none⟩) ys.length ys.length) ys) := Bu_10.out.old g
  clear HG_10 C_10 O_10 Xv_10 Xu_10 Z_10 G_10 Bu_10
  clear g
  clear Bu_11
  go_wp2_with fail
  refine (markInts_any xs _ 1 _ _ Xv_11.out (by omega) (by omega) (by omega)).mono ?_
  rintro e w12 ⟨rfl, gm, om⟩
  have hsw12 : w11.heap.size ≤ w12.heap.size := by have := gm.size; (try simp at this); omega
  clear Xv_11
  have HG_12 : Hid (Old w w12) := Old.by_ HG_11.out gm (fun b hb => by have := DXv.out b hb; omega)
  have C_12 : Hid (StW w12 w3.heap.size (.bool rb) (.slice aw3 (toI rl).length capw3) 24) := C_11.out.byW_ gm (fun b hb hbk => by have := DXv.out b hb; omega)
  have O_12 : Hid (Own w12 (w2.heap.size) (.slice aw3 (toI rl).length capw3) (toI rl)) := O_11.out.by_ gm (fun a b h1 h2 h3 => by have := DO.out a h1; have := DXv.out b h2; omega)
  have Xu_12 : Hid (Own w12 (w4.heap.size) (.slice (some ⟨w4.heap.size, 0, none⟩) ys.length ys.length) ys) := Xu_11.out.by_ gm (fun a b h1 h2 h3 => by have := DXu.out a h1; have := DXv.out b h2; omega)
  have Z_12 : Hid (StW w12 w6.heap.size (.bool rb) (.slice aw6 (toI rl).length capw6) 24) := Z_11.out.byW_ gm (fun b hb hbk => by have := DXv.out b hb; omega)
  have G_12 : Hid (Own w12 (w5.heap.size) (.slice aw6 (toI rl).length capw6) (toI rl)) := G_11.out.by_ gm (fun a b h1 h2 h3 => by have := DG.out a h1; have := DXv.out b h2; omega)
  clear HG_11 C_11 O_11 Xu_11 Z_11 G_11
  have Xv_12 : Hid (Own w12 (w3.heap.size + 1) (.slice (some ⟨w3.heap.size + 1, 0, none⟩) xs.length xs.length) (marks 1 xs.length)) := om
  clear gm om
  go_wp2_with fail
  refine (markInts_any ys _ (1 + (xs.length : Int)) _ _ Xu_12.out (by omega) (by omega) (by omega)).mono ?_
  rintro e w13 ⟨rfl, gm, om⟩
  have hsw13 : w12.heap.size ≤ w13.heap.size := by have := gm.size; (try simp at this); omega
  clear Xu_12
  have HG_13 : Hid (Old w w13) := Old.by_ HG_12.out gm (fun b hb => by have := DXu.out b hb; omega)
  have C_13 : Hid (StW w13 w3.heap.size (.bool rb) (.slice aw3 (toI rl).length capw3) 24) := C_12.out.byW_ gm (fun b hb hbk => by have := DXu.out b hb; omega)
  have O_13 : Hid (Own w13 (w2.heap.size) (.slice aw3 (toI rl).length capw3) (toI rl)) := O_12.out.by_ gm (fun a b h1 h2 h3 => by have := DO.out a h1; have := DXu.out b h2; omega)
  have Z_13 : Hid (StW w13 w6.heap.size (.bool rb) (.slice aw6 (toI rl).length capw6) 24) := Z_12.out.byW_ gm (fun b hb hbk => by have := DXu.out b hb; omega)
  have G_13 : Hid (Own w13 (w5.heap.size) (.slice aw6 (toI rl).length capw6) (toI rl)) := G_12.out.by_ gm (fun a b h1 h2 h3 => by have := DG.out a h1; have := DXu.out b h2; omega)
  have Xv_13 : Hid (Own w13 (w3.heap.size + 1) (.slice (some ⟨w3.heap.size + 1, 0, none⟩) xs.length xs.length) (marks 1 xs.length)) := Xv_12.out.by_ gm (fun a b h1 h2 h3 => by have := DXv.out a h1; have := DXu.out b h2; omega)
  clear HG_12 C_12 O_12 Z_12 G_12 Xv_12
  have Xu_13 : Hid (Own w13 (w4.heap.size) (.slice (some ⟨w4.heap.size, 0, none⟩) ys.length ys.length) (marks (1 + (xs.length : Int)) ys.length)) := om
  clear gm om
  have zZ0 := Z_13.out.c0
  have zZ1 := Z_13.out.c1
  have zC0 := C_13.out.c0
  have zC1 := C_13.out.c1
  go_wp2_with fail
  refine (eqWhole_yes rb (toI rl) _ _ _ (Own.row G_13.out) (Own.row O_13.out) (by omega)).mono ?_
  rintro e w14 ⟨rfl, g⟩
  have hsw14 : w13.heap.size ≤ w14.heap.size := by have := g.size; (try simp at this); omega
  clear zZ0 zZ1 zC0 zC1
  have HG_14 : Hid (Old w w14) := Old.trans HG_13.out g
  have C_14 : Hid (StW w14 w3.heap.size (.bool rb) (.slice aw3 (toI rl).length capw3) 24) := C_13.out.old g
  have O_14 : Hid (Own w14 (w2.heap.size) (.slice aw3 (toI rl).length capw3) (toI rl)) := O_13.out.old g
  have Z_14 : Hid (StW w14 w6.heap.size (.bool rb) (.slice aw6 (toI rl).length capw6) 24) := Z_13.out.old g
  have G_14 : Hid (Own w14 (w5.heap.size) (.slice aw6 (toI rl).length capw6) (toI rl)) := G_13.out.old g
  have Xv_14 : Hid (Own w14 (w3.heap.size + 1) (.slice (some ⟨w3.heap.size + 1, 0, none⟩) xs.length xs.length) (marks 1 xs.length)) := Xv_13.out.old g
  have Xu_14 : Hid (Own w14 (w4.heap.size) (.slice (some ⟨w4.heap.size, 0, none⟩) ys.length ys.length) (marks (1 + (xs.length : Int)) ys.length)) := Xu_13.out.old g
  clear HG_13 C_13 O_13 Z_13 G_13 Xv_13 Xu_13
  clear g
  have zZ0 := Z_14.out.c0
  have zZ1 := Z_14.out.c1
  go_wp2_with fail
  refine (markWhole_any rb (toI rl) _ 1 _ _ G_14.out (by omega) (by omega) (by omega)).mono ?_
  rintro e w15 ⟨rfl, gm, om⟩
  have hsw15 : w14.heap.size ≤ w15.heap.size := by have := gm.size; (try simp at this); omega
  clear zZ0 zZ1
  clear G_14
  have HG_15 : Hid (Old w w15) := Old.by_ HG_14.out gm (fun b hb => by have := DG.out b hb; omega)
  have C_15 : Hid (StW w15 w3.heap.size (.bool rb) (.slice aw3 (toI rl).length capw3) 24) := C_14.out.byW_ gm (fun b hb hbk => by have := DG.out b hb; omega)
  have O_15 : Hid (Own w15 (w2.heap.size) (.slice aw3 (toI rl).length capw3) (toI rl)) := O_14.out.by_ gm (fun a b h1 h2 h3 => by have := DO.out a h1; have := DG.out b h2; omega)
  have Z_15 : Hid (StW w15 w6.heap.size (.bool rb) (.slice aw6 (toI rl).length capw6) 24) := Z_14.out.byW_ gm (fun b hb hbk => by have := DG.out b hb; omega)
  have Xv_15 : Hid (Own w15 (w3.heap.size + 1) (.slice (some ⟨w3.heap.size + 1, 0, none⟩) xs.length xs.length) (marks 1 xs.length)) := Xv_14.out.by_ gm (fun a b h1 h2 h3 => by have := DXv.out a h1; have := DG.out b h2; omega)
  have Xu_15 : Hid (Own w15 (w4.heap.size) (.slice (some ⟨w4.heap.size, 0, none⟩) ys.length ys.length) (marks (1 + (xs.length : Int)) ys.length)) := Xu_14.out.by_ gm (fun a b h1 h2 h3 => by have := DXu.out a h1; have := DG.out b h2; omega)
  clear HG_14 C_14 O_14 Z_14 Xv_14 Xu_14
  have G_15 : Hid (Own w15 (w5.heap.size) (.slice aw6 (toI rl).length capw6) (marks 1 (toI rl).length)) := om
  clear gm om
  have zZ0 := Z_15.out.c0
  have zZ1 := Z_15.out.c1
  go_wp2_with fail
  refine (heldWhole_yes rb (toI rl).length _ 1 _ (by have := Own.row G_15.out; exact this) (by omega) (by omega) (by omega)).mono ?_
  rintro e w16 ⟨rfl, g⟩
  have hsw16 : w15.heap.size ≤ w16.heap.size := by have := g.size; (try simp at this); omega
  clear zZ0 zZ1
  have HG_16 : Hid (Old w w16) := Old.trans HG_15.out g
  have C_16 : Hid (StW w16 w3.heap.size (.bool rb) (.slice aw3 (toI rl).length capw3) 24) := C_15.out.old g
  have O_16 : Hid (Own w16 (w2.heap.size) (.slice aw3 (toI rl).length capw3) (toI rl)) := O_15.out.old g
  have Z_16 : Hid (StW w16 w6.heap.size (.bool rb) (.slice aw6 (toI rl).length capw6) 24) := Z_15.out.old g
  have Xv_16 : Hid (Own w16 (w3.heap.size + 1) (.slice (some ⟨w3.heap.size + 1, 0, none⟩) xs.length xs.length) (marks 1 xs.length)) := Xv_15.out.old g
  have Xu_16 : Hid (Own w16 (w4.heap.size) (.slice (some ⟨w4.heap.size, 0, none⟩) ys.length ys.length) (marks (1 + (xs.length : Int)) ys.length)) := Xu_15.out.old g
  have G_16 : Hid (Own w16 (w5.heap.size) (.slice aw6 (toI rl).length capw6) (marks 1 (toI rl).length)) := G_15.out.old g
  clear HG_15 C_15 O_15 Z_15 Xv_15 Xu_15 G_15
  clear g
  go_wp2_with fail
  refine (toInts_any xs _ _ (Rv.out.old HG_16.out) lv).mono ?_
  rintro e w17 ⟨rfl, g, o⟩
  have hsw17 : w16.heap.size ≤ w17.heap.size := by have := g.size; (try simp at this); omega
  have hbw17 : w16.heap.size < w17.heap.size := by have := own_lt o; (try simp at this); omega
  have HG_17 : Hid (Old w w17) := Old.trans HG_16.out g
  have C_17 : Hid (StW w17 w3.heap.size (.bool rb) (.slice aw3 (toI rl).length capw3) 24) := C_16.out.old g
  have O_17 : Hid (Own w17 (w2.heap.size) (.slice aw3 (toI rl).length capw3) (toI rl)) := O_16.out.old g
  have Z_17 : Hid (StW w17 w6.heap.size (.bool rb) (.slice aw6 (toI rl).length capw6) 24) := Z_16.out.old g
  have Xv_17 : Hid (Own w17 (w3.heap.size + 1) (.slice (some ⟨w3.heap.size + 1, 0, none⟩) xs.length xs.length) (marks 1 xs.length)) := Xv_16.out.old g
  have Xu_17 : Hid (Own w17 (w4.heap.size) (.slice (some ⟨w4.heap.size, 0, none⟩) ys.length ys.length) (marks (1 + (xs.length : Int)) ys.length)) := Xu_16.out.old g
  have G_17 : Hid (Own w17 (w5.heap.size) (.slice aw6 (toI rl).length capw6) (marks 1 (toI rl).length)) := G_16.out.old g
  clear HG_16 C_16 O_16 Z_16 Xv_16 Xu_16 G_16
  have Cv_17 : Hid (Own w17 (w16.heap.size) (.slice (some ⟨w16.heap.size, 0, none⟩) xs.length xs.length) xs) := by first | exact o | (simp at o; exact o)
  have DCv : Hid (∀ g, (Value.slice (some ⟨w16.heap.size, 0, none⟩) xs.length xs.length).ownBlock = some g → w16.heap.size ≤ g ∧ g < w17.heap.size) := fun g hg => Cv_17.out.lt g hg
  clear g o
  go_wp2_with fail
  refine (toInts_any ys _ _ (Ru.out.old HG_17.out) lu).mono ?_
  rintro e w18 ⟨rfl, g, o⟩
  have hsw18 : w17.heap.size ≤ w18.heap.size := by have := g.size; (try simp at this); omega
  have hbw18 : w17.heap.size < w18.heap.size := by have := own_lt o; (try simp at this); omega
  have HG_18 : Hid (Old w w18) := Old.trans HG_17.out g
  have C_18 : Hid (StW w18 w3.heap.size (.bool rb) (.slice aw3 (toI rl).length capw3) 24) := C_17.out.old g
  have O_18 : Hid (Own w18 (w2.heap.size) (.slice aw3 (toI rl).length capw3) (toI rl)) := O_17.out.old g
  have Z_18 : Hid (StW w18 w6.heap.size (.bool rb) (.slice aw6 (toI rl).length capw6) 24) := Z_17.out.old g
  have Xv_18 : Hid (Own w18 (w3.heap.size + 1) (.slice (some ⟨w3.heap.size + 1, 0, none⟩) xs.length xs.length) (marks 1 xs.length)) := Xv_17.out.old g
  have Xu_18 : Hid (Own w18 (w4.heap.size) (.slice (some ⟨w4.heap.size, 0, none⟩) ys.length ys.length) (marks (1 + (xs.length : Int)) ys.length)) := Xu_17.out.old g
  have G_18 : Hid (Own w18 (w5.heap.size) (.slice aw6 (toI rl).length capw6) (marks 1 (toI rl).length)) := G_17.out.old g
  have Cv_18 : Hid (Own w18 (w16.heap.size) (.slice (some ⟨w16.heap.size, 0, none⟩) xs.length xs.length) xs) := Cv_17.out.old g
  clear HG_17 C_17 O_17 Z_17 Xv_17 Xu_17 G_17 Cv_17
  have Cu_18 : Hid (Own w18 (w17.heap.size) (.slice (some ⟨w17.heap.size, 0, none⟩) ys.length ys.length) ys) := by first | exact o | (simp at o; exact o)
  have DCu : Hid (∀ g, (Value.slice (some ⟨w17.heap.size, 0, none⟩) ys.length ys.length).ownBlock = some g → w17.heap.size ≤ g ∧ g < w18.heap.size) := fun g hg => Cu_18.out.lt g hg
  clear g o
  go_wp2_with fail
  refine (IM.out _ _ _ (HP.out.old HG_18.out) (HT.out.old HG_18.out) (Own.row Cv_18.out) (Nat.le_refl _) (Own.row Cu_18.out) (Nat.le_refl _)).mono ?_
  rintro e w19 ⟨vw19, rfl, g, o⟩
  obtain ⟨aw19, capw19, rfl⟩ := (Own.row o).slice
  have hsw19 : w18.heap.size ≤ w19.heap.size := by have := g.size; (try simp at this); omega
  have HG_19 : Hid (Old w (w19.alloc (.cells #[.bool rb, .slice aw19 (toI rl).length capw19] 24))) := Old.trans HG_18.out (Old.trans g ((Old.refl w19).alloc _))
  have C_19 : Hid (StW (w19.alloc (.cells #[.bool rb, .slice aw19 (toI rl).length capw19] 24)) w3.heap.size (.bool rb) (.slice aw3 (toI rl).length capw3) 24) := C_18.out.old (Old.trans g ((Old.refl w19).alloc _))
  have O_19 : Hid (Own (w19.alloc (.cells #[.bool rb, .slice aw19 (toI rl).length capw19] 24)) (w2.heap.size) (.slice aw3 (toI rl).length capw3) (toI rl)) := O_18.out.old (Old.trans g ((Old.refl w19).alloc _))
  have Z_19 : Hid (StW (w19.alloc (.cells #[.bool rb, .slice aw19 (toI rl).length capw19] 24)) w6.heap.size (.bool rb) (.slice aw6 (toI rl).length capw6) 24) := Z_18.out.old (Old.trans g ((Old.refl w19).alloc _))
  have Xv_19 : Hid (Own (w19.alloc (.cells #[.bool rb, .slice aw19 (toI rl).length capw19] 24)) (w3.heap.size + 1) (.slice (some ⟨w3.heap.size + 1, 0, none⟩) xs.length xs.length) (marks 1 xs.length)) := Xv_18.out.old (Old.trans g ((Old.refl w19).alloc _))
  have Xu_19 : Hid (Own (w19.alloc (.cells #[.bool rb, .slice aw19 (toI rl).length capw19] 24)) (w4.heap.size) (.slice (some ⟨w4.heap.size, 0, none⟩) ys.length ys.length) (marks (1 + (xs.length : Int)) ys.length)) := Xu_18.out.old (Old.trans g ((Old.refl w19).alloc _))
  have G_19 : Hid (Own (w19.alloc (.cells #[.bool rb, .slice aw19 (toI rl).length capw19] 24)) (w5.heap.size) (.slice aw6 (toI rl).length capw6) (marks 1 (toI rl).length)) := G_18.out.old (Old.trans g ((Old.refl w19).alloc _))
  have Cv_19 : Hid (Own (w19.alloc (.cells #[.bool rb, .slice aw19 (toI rl).length capw19] 24)) (w16.heap.size) (.slice (some ⟨w16.heap.size, 0, none⟩) xs.length xs.length) xs) := Cv_18.out.old (Old.trans g ((Old.refl w19).alloc _))
  have Cu_19 : Hid (Own (w19.alloc (.cells #[.bool rb, .slice aw19 (toI rl).length capw19] 24)) (w17.heap.size) (.slice (some ⟨w17.heap.size, 0, none⟩) ys.length ys.length) ys) := Cu_18.out.old (Old.trans g ((Old.refl w19).alloc _))
  clear HG_18 C_18 O_18 Z_18 Xv_18 Xu_18 G_18 Cv_18 Cu_18
  have Y_19 : Hid (StW (w19.alloc (.cells #[.bool rb, .slice aw19 (toI rl).length capw19] 24)) w19.heap.size (.bool rb) (.slice aw19 (toI rl).length capw19) 24) := StW.new w19 _ _ _
  have H_19 : Hid (Own (w19.alloc (.cells #[.bool rb, .slice aw19 (toI rl).length capw19] 24)) (w18.heap.size) (.slice aw19 (toI rl).length capw19) (toI rl)) := by have := (Own.low o (base' := w18.heap.size) (by simp)); exact this.alloc _
  have DH : Hid (∀ g, (Value.slice aw19 (toI rl).length capw19).ownBlock = some g → w18.heap.size ≤ g ∧ g < w19.heap.size) := fun g hg => by have := o.lt g hg; (try simp at this); omega
  clear g o
  have zY0 := Y_19.out.c0
  have zY1 := Y_19.out.c1
  have zC0 := C_19.out.c0
  have zC1 := C_19.out.c1
  go_wp2_with fail
  refine (eqWhole_yes rb (toI rl) _ _ _ (Own.row H_19.out) (Own.row O_19.out) (by omega)).mono ?_
  rintro e w20 ⟨rfl, g⟩
  have hsw20 : w19.heap.size + 1 ≤ w20.heap.size := by have := g.size; (try simp at this); omega
  clear zY0 zY1 zC0 zC1
  have HG_20 : Hid (Old w w20) := Old.trans HG_19.out g
  have C_20 : Hid (StW w20 w3.heap.size (.bool rb) (.slice aw3 (toI rl).length capw3) 24) := C_19.out.old g
  have O_20 : Hid (Own w20 (w2.heap.size) (.slice aw3 (toI rl).length capw3) (toI rl)) := O_19.out.old g
  have Z_20 : Hid (StW w20 w6.heap.size (.bool rb) (.slice aw6 (toI rl).length capw6) 24) := Z_19.out.old g
  have Xv_20 : Hid (Own w20 (w3.heap.size + 1) (.slice (some ⟨w3.heap.size + 1, 0, none⟩) xs.length xs.length) (marks 1 xs.length)) := Xv_19.out.old g
  have Xu_20 : Hid (Own w20 (w4.heap.size) (.slice (some ⟨w4.heap.size, 0, none⟩) ys.length ys.length) (marks (1 + (xs.length : Int)) ys.length)) := Xu_19.out.old g
  have G_20 : Hid (Own w20 (w5.heap.size) (.slice aw6 (toI rl).length capw6) (marks 1 (toI rl).length)) := G_19.out.old g
  have Cv_20 : Hid (Own w20 (w16.heap.size) (.slice (some ⟨w16.heap.size, 0, none⟩) xs.length xs.length) xs) := Cv_19.out.old g
  have Cu_20 : Hid (Own w20 (w17.heap.size) (.slice (some ⟨w17.heap.size, 0, none⟩) ys.length ys.length) ys) := Cu_19.out.old g
  have Y_20 : Hid (StW w20 w19.heap.size (.bool rb) (.slice aw19 (toI rl).length capw19) 24) := Y_19.out.old g
  have H_20 : Hid (Own w20 (w18.heap.size) (.slice aw19 (toI rl).length capw19) (toI rl)) := H_19.out.old g
  clear HG_19 C_19 O_19 Z_19 Xv_19 Xu_19 G_19 Cv_19 Cu_19 Y_19 H_19
  clear g
  have zZ0 := Z_20.out.c0
  have zZ1 := Z_20.out.c1
  go_wp2_with fail
  refine (heldWhole_yes rb (toI rl).length _ 1 _ (by have := Own.row G_20.out; exact this) (by omega) (by omega) (by omega)).mono ?_
  rintro e w21 ⟨rfl, g⟩
  have hsw21 : w20.heap.size ≤ w21.heap.size := by have := g.size; (try simp at this); omega
  clear zZ0 zZ1
  have HG_21 : Hid (Old w w21) := Old.trans HG_20.out g
  have C_21 : Hid (StW w21 w3.heap.size (.bool rb) (.slice aw3 (toI rl).length capw3) 24) := C_20.out.old g
  have O_21 : Hid (Own w21 (w2.heap.size) (.slice aw3 (toI rl).length capw3) (toI rl)) := O_20.out.old g
  have Z_21 : Hid (StW w21 w6.heap.size (.bool rb) (.slice aw6 (toI rl).length capw6) 24) := Z_20.out.old g
  have Xv_21 : Hid (Own w21 (w3.heap.size + 1) (.slice (some ⟨w3.heap.size + 1, 0, none⟩) xs.length xs.length) (marks 1 xs.length)) := Xv_20.out.old g
  have Xu_21 : Hid (Own w21 (w4.heap.size) (.slice (some ⟨w4.heap.size, 0, none⟩) ys.length ys.length) (marks (1 + (xs.length : Int)) ys.length)) := Xu_20.out.old g
  have G_21 : Hid (Own w21 (w5.heap.size) (.slice aw6 (toI rl).length capw6) (marks 1 (toI rl).length)) := G_20.out.old g
  have Cv_21 : Hid (Own w21 (w16.heap.size) (.slice (some ⟨w16.heap.size, 0, none⟩) xs.length xs.length) xs) := Cv_20.out.old g
  have Cu_21 : Hid (Own w21 (w17.heap.size) (.slice (some ⟨w17.heap.size, 0, none⟩) ys.length ys.length) ys) := Cu_20.out.old g
  have Y_21 : Hid (StW w21 w19.heap.size (.bool rb) (.slice aw19 (toI rl).length capw19) 24) := Y_20.out.old g
  have H_21 : Hid (Own w21 (w18.heap.size) (.slice aw19 (toI rl).length capw19) (toI rl)) := H_20.out.old g
  clear HG_20 C_20 O_20 Z_20 Xv_20 Xu_20 G_20 Cv_20 Cu_20 Y_20 H_20
  clear g
  go_wp2_with fail
  go_ret
  exact ⟨rfl, HG_21.out⟩
end Go.Proofs.YtejkejfhahmhcaaDoor
