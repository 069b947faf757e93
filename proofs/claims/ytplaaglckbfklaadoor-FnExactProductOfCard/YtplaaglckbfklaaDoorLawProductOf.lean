/- Proved: the walk of the statement on ProductOf, under the contracts of the model's and of the program's function. -/
import Derived.Test.YtplaaglckbfklaaDoorProdD
namespace Go.Proofs.YtplaaglckbfklaaDoor
open Go.ChangeShapes Go.WideShapes Go.ChangeAt Go.RowKit
set_option linter.unusedVariables false
set_option linter.unusedSimpArgs false
set_option maxRecDepth 100000 in
set_option maxHeartbeats 8000000 in
theorem law_ProductOf (xs : List Int) (v : Value) (w : World) (hv : Row w v xs) (hlv : xs.length ≤ 9223372036854775807) (hP : PrsW w) (hT : TabW w) (rb ok : Bool) (rl : List Nat) (hz : rl.length ≤ 1000)
    (hspec : xs.length ≤ 1048576 → ∀ v W, Row W v xs → Fit v → Calls Tryd.prog 51 #[v] W fun e w' => ∃ v', e = .returned (.tuple #[.agg #[.bool rb, v'], .bool ok]) ∧ Old W w' ∧ Own w' W.heap.size v' (toI rl))
    (himpl : xs.length ≤ 1048576 → ∀ v W, PrsW W → TabW W → Row W v xs → Fit v → Calls Tryd.prog 52 #[v] W fun e w' => ∃ v', e = .returned (.tuple #[.agg #[.bool rb, v'], .bool ok]) ∧ Old W w' ∧ Own w' W.heap.size v' (toI rl)) :
    Calls Tryd.prog 11 #[v] w fun e w' => e = .returned (.bool true) ∧ Old w w' := by
  have HP : Hid (PrsW w) := hP
  have HT : Hid (TabW w) := hT
  have Rv : Hid (Row w v xs) := hv
  obtain ⟨cv, capv, rfl⟩ := hv.slice
  clear hT hP hv
  by_cases bigv : (1048576 : Int) < (xs.length : Int)
  · have dv : decide ((1048576 : Int) < (xs.length : Int)) = true := decide_eq_true bigv
    clear hspec himpl
    go_enter Tryd.func11, Tryd.ntmps11
    go_wp2_with fail
    go_ret
    exact ⟨rfl, by repeat (first | exact Old.refl _ | apply Old.alloc)⟩
  have dv : decide ((1048576 : Int) < (xs.length : Int)) = false := decide_eq_false bigv
  have lv : xs.length ≤ 1048576 := by omega
  have SP : Hid (∀ v W, Row W v xs → Fit v → Calls Tryd.prog 51 #[v] W fun e w' => ∃ v', e = .returned (.tuple #[.agg #[.bool rb, v'], .bool ok]) ∧ Old W w' ∧ Own w' W.heap.size v' (toI rl)) := hspec lv
  have IM : Hid (∀ v W, PrsW W → TabW W → Row W v xs → Fit v → Calls Tryd.prog 52 #[v] W fun e w' => ∃ v', e = .returned (.tuple #[.agg #[.bool rb, v'], .bool ok]) ∧ Old W w' ∧ Own w' W.heap.size v' (toI rl)) := himpl lv
  have hrl : (toI rl).length ≤ 1000 := by rw [toI_len]; exact hz
  have dok : (ok != ok) = false := by simp
  have dq : decide ((1 : Int) + ((toI rl).length : Int) < 0) = false := decide_eq_false (by omega)
  have dqm : ((1 : Int) + ((toI rl).length : Int) != 1 + ((toI rl).length : Int)) = false := by simp
  have dk : decide ((1 : Int) + (xs.length : Int) < 0) = false := decide_eq_false (by omega)
  clear hspec himpl hz bigv
  go_enter Tryd.func11, Tryd.ntmps11
  have HG_0 : Hid (Old w w) := Old.refl w
  go_wp2_with fail
  refine (toInts_any xs _ _ (Rv.out.old HG_0.out) lv).mono ?_
  rintro e w1 ⟨rfl, g, o⟩
  have hsw1 : w.heap.size ≤ w1.heap.size := by have := g.size; (try simp at this); omega
  have hbw1 : w.heap.size < w1.heap.size := by have := own_lt o; (try simp at this); omega
  have HG_1 : Hid (Old w w1) := Old.trans HG_0.out g
  clear HG_0
  have Av_1 : Hid (Own w1 (w.heap.size) (.slice (some ⟨w.heap.size, 0, none⟩) xs.length xs.length) xs) := by first | exact o | (simp at o; exact o)
  have DAv : Hid (∀ g, (Value.slice (some ⟨w.heap.size, 0, none⟩) xs.length xs.length).ownBlock = some g → w.heap.size ≤ g ∧ g < w1.heap.size) := fun g hg => Av_1.out.lt g hg
  clear g o
  go_wp2_with fail
  refine (SP.out _ _ (Own.row Av_1.out) (Nat.le_refl _)).mono ?_
  rintro e w2 ⟨vw2, rfl, g, o⟩
  obtain ⟨aw2, capw2, rfl⟩ := (Own.row o).slice
  have hsw2 : w1.heap.size ≤ w2.heap.size := by have := g.size; (try simp at this); omega
  have HG_2 : Hid (Old w (w2.alloc (.cells #[.bool rb, .slice aw2 (toI rl).length capw2] 25))) := Old.trans HG_1.out (Old.trans g ((Old.refl w2).alloc _))
  have Av_2 : Hid (Own (w2.alloc (.cells #[.bool rb, .slice aw2 (toI rl).length capw2] 25)) (w.heap.size) (.slice (some ⟨w.heap.size, 0, none⟩) xs.length xs.length) xs) := Av_1.out.old (Old.trans g ((Old.refl w2).alloc _))
  clear HG_1 Av_1
  have C_2 : Hid (StW (w2.alloc (.cells #[.bool rb, .slice aw2 (toI rl).length capw2] 25)) w2.heap.size (.bool rb) (.slice aw2 (toI rl).length capw2) 25) := StW.new w2 _ _ _
  have O_2 : Hid (Own (w2.alloc (.cells #[.bool rb, .slice aw2 (toI rl).length capw2] 25)) (w1.heap.size) (.slice aw2 (toI rl).length capw2) (toI rl)) := by have := (Own.low o (base' := w1.heap.size) (by simp)); exact this.alloc _
  have DO : Hid (∀ g, (Value.slice aw2 (toI rl).length capw2).ownBlock = some g → w1.heap.size ≤ g ∧ g < w2.heap.size) := fun g hg => by have := o.lt g hg; (try simp at this); omega
  clear g o
  clear Av_2
  go_wp2_with fail
  refine (toInts_any xs _ _ (Rv.out.old HG_2.out) lv).mono ?_
  rintro e w3 ⟨rfl, g, o⟩
  have hsw3 : w2.heap.size + 1 ≤ w3.heap.size := by have := g.size; (try simp at this); omega
  have hbw3 : w2.heap.size + 1 < w3.heap.size := by have := own_lt o; (try simp at this); omega
  have HG_3 : Hid (Old w w3) := Old.trans HG_2.out g
  have C_3 : Hid (StW w3 w2.heap.size (.bool rb) (.slice aw2 (toI rl).length capw2) 25) := C_2.out.old g
  have O_3 : Hid (Own w3 (w1.heap.size) (.slice aw2 (toI rl).length capw2) (toI rl)) := O_2.out.old g
  clear HG_2 C_2 O_2
  have Xv_3 : Hid (Own w3 (w2.heap.size + 1) (.slice (some ⟨w2.heap.size + 1, 0, none⟩) xs.length xs.length) xs) := by first | exact o | (simp at o; exact o)
  have DXv : Hid (∀ g, (Value.slice (some ⟨w2.heap.size + 1, 0, none⟩) xs.length xs.length).ownBlock = some g → w2.heap.size + 1 ≤ g ∧ g < w3.heap.size) := fun g hg => Xv_3.out.lt g hg
  clear g o
  go_wp2_with fail
  refine (IM.out _ _ (HP.out.old HG_3.out) (HT.out.old HG_3.out) (Own.row Xv_3.out) (Nat.le_refl _)).mono ?_
  rintro e w4 ⟨vw4, rfl, g, o⟩
  obtain ⟨aw4, capw4, rfl⟩ := (Own.row o).slice
  have hsw4 : w3.heap.size ≤ w4.heap.size := by have := g.size; (try simp at this); omega
  have HG_4 : Hid (Old w (w4.alloc (.cells #[.bool rb, .slice aw4 (toI rl).length capw4] 25))) := Old.trans HG_3.out (Old.trans g ((Old.refl w4).alloc _))
  have C_4 : Hid (StW (w4.alloc (.cells #[.bool rb, .slice aw4 (toI rl).length capw4] 25)) w2.heap.size (.bool rb) (.slice aw2 (toI rl).length capw2) 25) := C_3.out.old (Old.trans g ((Old.refl w4).alloc _))
  have O_4 : Hid (Own (w4.alloc (.cells #[.bool rb, .slice aw4 (toI rl).length capw4] 25)) (w1.heap.size) (.slice aw2 (toI rl).length capw2) (toI rl)) := O_3.out.old (Old.trans g ((Old.refl w4).alloc _))
  have Xv_4 : Hid (Own (w4.alloc (.cells #[.bool rb, .slice aw4 (toI rl).length capw4] 25)) (w2.heap.size + 1) (.slice (some ⟨w2.heap.size + 1, 0, none⟩) xs.length xs.length) xs) := Xv_3.out.old (Old.trans g ((Old.refl w4).alloc _))
  clear HG_3 C_3 O_3 Xv_3
  have Z_4 : Hid (StW (w4.alloc (.cells #[.bool rb, .slice aw4 (toI rl).length capw4] 25)) w4.heap.size (.bool rb) (.slice aw4 (toI rl).length capw4) 25) := StW.new w4 _ _ _
  have G_4 : Hid (Own (w4.alloc (.cells #[.bool rb, .slice aw4 (toI rl).length capw4] 25)) (w3.heap.size) (.slice aw4 (toI rl).length capw4) (toI rl)) := by have := (Own.low o (base' := w3.heap.size) (by simp)); exact this.alloc _
  have DG : Hid (∀ g, (Value.slice aw4 (toI rl).length capw4).ownBlock = some g → w3.heap.size ≤ g ∧ g < w4.heap.size) := fun g hg => by have := o.lt g hg; (try simp at this); omega
  clear g o
  have zZ0 := Z_4.out.c0
  have zZ1 := Z_4.out.c1
  have zC0 := C_4.out.c0
  have zC1 := C_4.out.c1
  go_wp2_with fail
  refine (eqWhole_yes rb (toI rl) _ _ _ (Own.row G_4.out) (Own.row O_4.out) (by omega)).mono ?_
  rintro e w5 ⟨rfl, g⟩
  have hsw5 : w4.heap.size + 1 ≤ w5.heap.size := by have := g.size; (try simp at this); omega
  clear zZ0 zZ1 zC0 zC1
  have HG_5 : Hid (Old w w5) := Old.trans HG_4.out g
  have C_5 : Hid (StW w5 w2.heap.size (.bool rb) (.slice aw2 (toI rl).length capw2) 25) := C_4.out.old g
  have O_5 : Hid (Own w5 (w1.heap.size) (.slice aw2 (toI rl).length capw2) (toI rl)) := O_4.out.old g
  have Xv_5 : Hid (Own w5 (w2.heap.size + 1) (.slice (some ⟨w2.heap.size + 1, 0, none⟩) xs.length xs.length) xs) := Xv_4.out.old g
  have Z_5 : Hid (StW w5 w4.heap.size (.bool rb) (.slice aw4 (toI rl).length capw4) 25) := Z_4.out.old g
  have G_5 : Hid (Own w5 (w3.heap.size) (.slice aw4 (toI rl).length capw4) (toI rl)) := G_4.out.old g
  clear HG_4 C_4 O_4 Xv_4 Z_4 G_4
  clear g
  go_wp2_with fail
  refine (toInts_any xs _ _ (Rv.out.old HG_5.out) lv).mono ?_
  rintro e w6 ⟨rfl, g, o⟩
  have hsw6 : w5.heap.size ≤ w6.heap.size := by have := g.size; (try simp at this); omega
  have hbw6 : w5.heap.size < w6.heap.size := by have := own_lt o; (try simp at this); omega
  have HG_6 : Hid (Old w w6) := Old.trans HG_5.out g
  have C_6 : Hid (StW w6 w2.heap.size (.bool rb) (.slice aw2 (toI rl).length capw2) 25) := C_5.out.old g
  have O_6 : Hid (Own w6 (w1.heap.size) (.slice aw2 (toI rl).length capw2) (toI rl)) := O_5.out.old g
  have Xv_6 : Hid (Own w6 (w2.heap.size + 1) (.slice (some ⟨w2.heap.size + 1, 0, none⟩) xs.length xs.length) xs) := Xv_5.out.old g
  have Z_6 : Hid (StW w6 w4.heap.size (.bool rb) (.slice aw4 (toI rl).length capw4) 25) := Z_5.out.old g
  have G_6 : Hid (Own w6 (w3.heap.size) (.slice aw4 (toI rl).length capw4) (toI rl)) := G_5.out.old g
  clear HG_5 C_5 O_5 Xv_5 Z_5 G_5
  have Bv_6 : Hid (Own w6 (w5.heap.size) (.slice (some ⟨w5.heap.size, 0, none⟩) xs.length xs.length) xs) := by first | exact o | (simp at o; exact o)
  have DBv : Hid (∀ g, (Value.slice (some ⟨w5.heap.size, 0, none⟩) xs.length xs.length).ownBlock = some g → w5.heap.size ≤ g ∧ g < w6.heap.size) := fun g hg => Bv_6.out.lt g hg
  clear g o
  go_wp2_with fail
  refine (eqInts_yes xs _ _ _ (Own.row Xv_6.out) (Own.row Bv_6.out) (by omega)).mono ?_
  rintro e w7 ⟨rfl, g⟩
  have hsw7 : w6.heap.size ≤ w7.heap.size := by have := g.size; (try simp at this); omega
  have HG_7 : Hid (Old w w7) := Old.trans HG_6.out g
  have C_7 : Hid (StW w7 w2.heap.size (.bool rb) (.slice aw2 (toI rl).length capw2) 25) := C_6.out.old g
  have O_7 : Hid (Own w7 (w1.heap.size) (.slice aw2 (toI rl).length capw2) (toI rl)) := O_6.out.old g
  have Xv_7 : Hid (Own w7 (w2.heap.size + 1) (.slice (some ⟨w2.heap.size + 1, 0, none⟩) xs.length xs.length) xs) := Xv_6.out.old g
  have Z_7 : Hid (StW w7 w4.heap.size (.bool rb) (.slice aw4 (toI rl).length capw4) 25) := Z_6.out.old g
  have G_7 : Hid (Own w7 (w3.heap.size) (.slice aw4 (toI rl).length capw4) (toI rl)) := G_6.out.old g
  have Bv_7 : Hid (Own w7 (w5.heap.size) (.slice (some ⟨w5.heap.size, 0, none⟩) xs.length xs.length) xs) := Bv_6.out.old g
  clear HG_6 C_6 O_6 Xv_6 Z_6 G_6 Bv_6
  clear g
  clear Bv_7
  go_wp2_with fail
  refine (markInts_any xs _ 1 _ _ Xv_7.out (by omega) (by omega) (by omega)).mono ?_
  rintro e w8 ⟨rfl, gm, om⟩
  have hsw8 : w7.heap.size ≤ w8.heap.size := by have := gm.size; (try simp at this); omega
  clear Xv_7
  have HG_8 : Hid (Old w w8) := Old.by_ HG_7.out gm (fun b hb => by have := DXv.out b hb; omega)
  have C_8 : Hid (StW w8 w2.heap.size (.bool rb) (.slice aw2 (toI rl).length capw2) 25) := C_7.out.byW_ gm (fun b hb hbk => by have := DXv.out b hb; omega)
  have O_8 : Hid (Own w8 (w1.heap.size) (.slice aw2 (toI rl).length capw2) (toI rl)) := O_7.out.by_ gm (fun a b h1 h2 h3 => by have := DO.out a h1; have := DXv.out b h2; omega)
  have Z_8 : Hid (StW w8 w4.heap.size (.bool rb) (.slice aw4 (toI rl).length capw4) 25) := Z_7.out.byW_ gm (fun b hb hbk => by have := DXv.out b hb; omega)
  have G_8 : Hid (Own w8 (w3.heap.size) (.slice aw4 (toI rl).length capw4) (toI rl)) := G_7.out.by_ gm (fun a b h1 h2 h3 => by have := DG.out a h1; have := DXv.out b h2; omega)
  clear HG_7 C_7 O_7 Z_7 G_7
  have Xv_8 : Hid (Own w8 (w2.heap.size + 1) (.slice (some ⟨w2.heap.size + 1, 0, none⟩) xs.length xs.length) (marks 1 xs.length)) := om
  clear gm om
  have zZ0 := Z_8.out.c0
  have zZ1 := Z_8.out.c1
  have zC0 := C_8.out.c0
  have zC1 := C_8.out.c1
  go_wp2_with fail
  refine (eqWhole_yes rb (toI rl) _ _ _ (Own.row G_8.out) (Own.row O_8.out) (by omega)).mono ?_
  rintro e w9 ⟨rfl, g⟩
  have hsw9 : w8.heap.size ≤ w9.heap.size := by have := g.size; (try simp at this); omega
  clear zZ0 zZ1 zC0 zC1
  have HG_9 : Hid (Old w w9) := Old.trans HG_8.out g
  have C_9 : Hid (StW w9 w2.heap.size (.bool rb) (.slice aw2 (toI rl).length capw2) 25) := C_8.out.old g
  have O_9 : Hid (Own w9 (w1.heap.size) (.slice aw2 (toI rl).length capw2) (toI rl)) := O_8.out.old g
  have Z_9 : Hid (StW w9 w4.heap.size (.bool rb) (.slice aw4 (toI rl).length capw4) 25) := Z_8.out.old g
  have G_9 : Hid (Own w9 (w3.heap.size) (.slice aw4 (toI rl).length capw4) (toI rl)) := G_8.out.old g
  have Xv_9 : Hid (Own w9 (w2.heap.size + 1) (.slice (some ⟨w2.heap.size + 1, 0, none⟩) xs.length xs.length) (marks 1 xs.length)) := Xv_8.out.old g
  clear HG_8 C_8 O_8 Z_8 G_8 Xv_8
  clear g
  have zZ0 := Z_9.out.c0
  have zZ1 := Z_9.out.c1
  go_wp2_with fail
  refine (markWhole_any rb (toI rl) _ 1 _ _ G_9.out (by omega) (by omega) (by omega)).mono ?_
  rintro e w10 ⟨rfl, gm, om⟩
  have hsw10 : w9.heap.size ≤ w10.heap.size := by have := gm.size; (try simp at this); omega
  clear zZ0 zZ1
  clear G_9
  have HG_10 : Hid (Old w w10) := Old.by_ HG_9.out gm (fun b hb => by have := DG.out b hb; omega)
  have C_10 : Hid (StW w10 w2.heap.size (.bool rb) (.slice aw2 (toI rl).length capw2) 25) := C_9.out.byW_ gm (fun b hb hbk => by have := DG.out b hb; omega)
  have O_10 : Hid (Own w10 (w1.heap.size) (.slice aw2 (toI rl).length capw2) (toI rl)) := O_9.out.by_ gm (fun a b h1 h2 h3 => by have := DO.out a h1; have := DG.out b h2; omega)
  have Z_10 : Hid (StW w10 w4.heap.size (.bool rb) (.slice aw4 (toI rl).length capw4) 25) := Z_9.out.byW_ gm (fun b hb hbk => by have := DG.out b hb; omega)
  have Xv_10 : Hid (Own w10 (w2.heap.size + 1) (.slice (some ⟨w2.heap.size + 1, 0, none⟩) xs.length xs.length) (marks 1 xs.length)) := Xv_9.out.by_ gm (fun a b h1 h2 h3 => by have := DXv.out a h1; have := DG.out b h2; omega)
  clear HG_9 C_9 O_9 Z_9 Xv_9
  have G_10 : Hid (Own w10 (w3.heap.size) (.slice aw4 (toI rl).length capw4) (marks 1 (toI rl).length)) := om
  clear gm om
  have zZ0 := Z_10.out.c0
  have zZ1 := Z_10.out.c1
  go_wp2_with fail
  refine (heldWhole_yes rb (toI rl).length _ 1 _ (by have := Own.row G_10.out; exact this) (by omega) (by omega) (by omega)).mono ?_
  rintro e w11 ⟨rfl, g⟩
  have hsw11 : w10.heap.size ≤ w11.heap.size := by have := g.size; (try simp at this); omega
  clear zZ0 zZ1
  have HG_11 : Hid (Old w w11) := Old.trans HG_10.out g
  have C_11 : Hid (StW w11 w2.heap.size (.bool rb) (.slice aw2 (toI rl).length capw2) 25) := C_10.out.old g
  have O_11 : Hid (Own w11 (w1.heap.size) (.slice aw2 (toI rl).length capw2) (toI rl)) := O_10.out.old g
  have Z_11 : Hid (StW w11 w4.heap.size (.bool rb) (.slice aw4 (toI rl).length capw4) 25) := Z_10.out.old g
  have Xv_11 : Hid (Own w11 (w2.heap.size + 1) (.slice (some ⟨w2.heap.size + 1, 0, none⟩) xs.length xs.length) (marks 1 xs.length)) := Xv_10.out.old g
  have G_11 : Hid (Own w11 (w3.heap.size) (.slice aw4 (toI rl).length capw4) (marks 1 (toI rl).length)) := G_10.out.old g
  clear HG_10 C_10 O_10 Z_10 Xv_10 G_10
  clear g
  go_wp2_with fail
  refine (toInts_any xs _ _ (Rv.out.old HG_11.out) lv).mono ?_
  rintro e w12 ⟨rfl, g, o⟩
  have hsw12 : w11.heap.size ≤ w12.heap.size := by have := g.size; (try simp at this); omega
  have hbw12 : w11.heap.size < w12.heap.size := by have := own_lt o; (try simp at this); omega
  have HG_12 : Hid (Old w w12) := Old.trans HG_11.out g
  have C_12 : Hid (StW w12 w2.heap.size (.bool rb) (.slice aw2 (toI rl).length capw2) 25) := C_11.out.old g
  have O_12 : Hid (Own w12 (w1.heap.size) (.slice aw2 (toI rl).length capw2) (toI rl)) := O_11.out.old g
  have Z_12 : Hid (StW w12 w4.heap.size (.bool rb) (.slice aw4 (toI rl).length capw4) 25) := Z_11.out.old g
  have Xv_12 : Hid (Own w12 (w2.heap.size + 1) (.slice (some ⟨w2.heap.size + 1, 0, none⟩) xs.length xs.length) (marks 1 xs.length)) := Xv_11.out.old g
  have G_12 : Hid (Own w12 (w3.heap.size) (.slice aw4 (toI rl).length capw4) (marks 1 (toI rl).length)) := G_11.out.old g
  clear HG_11 C_11 O_11 Z_11 Xv_11 G_11
  have Cv_12 : Hid (Own w12 (w11.heap.size) (.slice (some ⟨w11.heap.size, 0, none⟩) xs.length xs.length) xs) := by first | exact o | (simp at o; exact o)
  have DCv : Hid (∀ g, (Value.slice (some ⟨w11.heap.size, 0, none⟩) xs.length xs.length).ownBlock = some g → w11.heap.size ≤ g ∧ g < w12.heap.size) := fun g hg => Cv_12.out.lt g hg
  clear g o
  go_wp2_with fail
  refine (IM.out _ _ (HP.out.old HG_12.out) (HT.out.old HG_12.out) (Own.row Cv_12.out) (Nat.le_refl _)).mono ?_
  rintro e w13 ⟨vw13, rfl, g, o⟩
  obtain ⟨aw13, capw13, rfl⟩ := (Own.row o).slice
  have hsw13 : w12.heap.size ≤ w13.heap.size := by have := g.size; (try simp at this); omega
  have HG_13 : Hid (Old w (w13.alloc (.cells #[.bool rb, .slice aw13 (toI rl).length capw13] 25))) := Old.trans HG_12.out (Old.trans g ((Old.refl w13).alloc _))
  have C_13 : Hid (StW (w13.alloc (.cells #[.bool rb, .slice aw13 (toI rl).length capw13] 25)) w2.heap.size (.bool rb) (.slice aw2 (toI rl).length capw2) 25) := C_12.out.old (Old.trans g ((Old.refl w13).alloc _))
  have O_13 : Hid (Own (w13.alloc (.cells #[.bool rb, .slice aw13 (toI rl).length capw13] 25)) (w1.heap.size) (.slice aw2 (toI rl).length capw2) (toI rl)) := O_12.out.old (Old.trans g ((Old.refl w13).alloc _))
  have Z_13 : Hid (StW (w13.alloc (.cells #[.bool rb, .slice aw13 (toI rl).length capw13] 25)) w4.heap.size (.bool rb) (.slice aw4 (toI rl).length capw4) 25) := Z_12.out.old (Old.trans g ((Old.refl w13).alloc _))
  have Xv_13 : Hid (Own (w13.alloc (.cells #[.bool rb, .slice aw13 (toI rl).length capw13] 25)) (w2.heap.size + 1) (.slice (some ⟨w2.heap.size + 1, 0, none⟩) xs.length xs.length) (marks 1 xs.length)) := Xv_12.out.old (Old.trans g ((Old.refl w13).alloc _))
  have G_13 : Hid (Own (w13.alloc (.cells #[.bool rb, .slice aw13 (toI rl).length capw13] 25)) (w3.heap.size) (.slice aw4 (toI rl).length capw4) (marks 1 (toI rl).length)) := G_12.out.old (Old.trans g ((Old.refl w13).alloc _))
  have Cv_13 : Hid (Own (w13.alloc (.cells #[.bool rb, .slice aw13 (toI rl).length capw13] 25)) (w11.heap.size) (.slice (some ⟨w11.heap.size, 0, none⟩) xs.length xs.length) xs) := Cv_12.out.old (Old.trans g ((Old.refl w13).alloc _))
  clear HG_12 C_12 O_12 Z_12 Xv_12 G_12 Cv_12
  have Y_13 : Hid (StW (w13.alloc (.cells #[.bool rb, .slice aw13 (toI rl).length capw13] 25)) w13.heap.size (.bool rb) (.slice aw13 (toI rl).length capw13) 25) := StW.new w13 _ _ _
  have H_13 : Hid (Own (w13.alloc (.cells #[.bool rb, .slice aw13 (toI rl).length capw13] 25)) (w12.heap.size) (.slice aw13 (toI rl).length capw13) (toI rl)) := by have := (Own.low o (base' := w12.heap.size) (by simp)); exact this.alloc _
  have DH : Hid (∀ g, (Value.slice aw13 (toI rl).length capw13).ownBlock = some g → w12.heap.size ≤ g ∧ g < w13.heap.size) := fun g hg => by have := o.lt g hg; (try simp at this); omega
  clear g o
  have zY0 := Y_13.out.c0
  have zY1 := Y_13.out.c1
  have zC0 := C_13.out.c0
  have zC1 := C_13.out.c1
  go_wp2_with fail
  refine (eqWhole_yes rb (toI rl) _ _ _ (Own.row H_13.out) (Own.row O_13.out) (by omega)).mono ?_
  rintro e w14 ⟨rfl, g⟩
  have hsw14 : w13.heap.size + 1 ≤ w14.heap.size := by have := g.size; (try simp at this); omega
  clear zY0 zY1 zC0 zC1
  have HG_14 : Hid (Old w w14) := Old.trans HG_13.out g
  have C_14 : Hid (StW w14 w2.heap.size (.bool rb) (.slice aw2 (toI rl).length capw2) 25) := C_13.out.old g
  have O_14 : Hid (Own w14 (w1.heap.size) (.slice aw2 (toI rl).length capw2) (toI rl)) := O_13.out.old g
  have Z_14 : Hid (StW w14 w4.heap.size (.bool rb) (.slice aw4 (toI rl).length capw4) 25) := Z_13.out.old g
  have Xv_14 : Hid (Own w14 (w2.heap.size + 1) (.slice (some ⟨w2.heap.size + 1, 0, none⟩) xs.length xs.length) (marks 1 xs.length)) := Xv_13.out.old g
  have G_14 : Hid (Own w14 (w3.heap.size) (.slice aw4 (toI rl).length capw4) (marks 1 (toI rl).length)) := G_13.out.old g
  have Cv_14 : Hid (Own w14 (w11.heap.size) (.slice (some ⟨w11.heap.size, 0, none⟩) xs.length xs.length) xs) := Cv_13.out.old g
  have Y_14 : Hid (StW w14 w13.heap.size (.bool rb) (.slice aw13 (toI rl).length capw13) 25) := Y_13.out.old g
  have H_14 : Hid (Own w14 (w12.heap.size) (.slice aw13 (toI rl).length capw13) (toI rl)) := H_13.out.old g
  clear HG_13 C_13 O_13 Z_13 Xv_13 G_13 Cv_13 Y_13 H_13
  clear g
  have zZ0 := Z_14.out.c0
  have zZ1 := Z_14.out.c1
  go_wp2_with fail
  refine (heldWhole_yes rb (toI rl).length _ 1 _ (by have := Own.row G_14.out; exact this) (by omega) (by omega) (by omega)).mono ?_
  rintro e w15 ⟨rfl, g⟩
  have hsw15 : w14.heap.size ≤ w15.heap.size := by have := g.size; (try simp at this); omega
  clear zZ0 zZ1
  have HG_15 : Hid (Old w w15) := Old.trans HG_14.out g
  have C_15 : Hid (StW w15 w2.heap.size (.bool rb) (.slice aw2 (toI rl).length capw2) 25) := C_14.out.old g
  have O_15 : Hid (Own w15 (w1.heap.size) (.slice aw2 (toI rl).length capw2) (toI rl)) := O_14.out.old g
  have Z_15 : Hid (StW w15 w4.heap.size (.bool rb) (.slice aw4 (toI rl).length capw4) 25) := Z_14.out.old g
  have Xv_15 : Hid (Own w15 (w2.heap.size + 1) (.slice (some ⟨w2.heap.size + 1, 0, none⟩) xs.length xs.length) (marks 1 xs.length)) := Xv_14.out.old g
  have G_15 : Hid (Own w15 (w3.heap.size) (.slice aw4 (toI rl).length capw4) (marks 1 (toI rl).length)) := G_14.out.old g
  have Cv_15 : Hid (Own w15 (w11.heap.size) (.slice (some ⟨w11.heap.size, 0, none⟩) xs.length xs.length) xs) := Cv_14.out.old g
  have Y_15 : Hid (StW w15 w13.heap.size (.bool rb) (.slice aw13 (toI rl).length capw13) 25) := Y_14.out.old g
  have H_15 : Hid (Own w15 (w12.heap.size) (.slice aw13 (toI rl).length capw13) (toI rl)) := H_14.out.old g
  clear HG_14 C_14 O_14 Z_14 Xv_14 G_14 Cv_14 Y_14 H_14
  clear g
  go_wp2_with fail
  go_ret
  exact ⟨rfl, HG_15.out⟩
end Go.Proofs.YtplaaglckbfklaaDoor
