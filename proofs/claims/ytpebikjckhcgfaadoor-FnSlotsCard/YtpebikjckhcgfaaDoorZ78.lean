/- Proved: several texts in one: what each proves is said ahead of it. -/
import Derived.Test.YtpebikjckhcgfaaDoorZ12
/- Proved: the walk of the statement on SlotPoints, under the contracts of the model's and of the program's function. -/
namespace Go.Proofs.YtpebikjckhcgfaaDoor
open Go.ChangeShapes Go.WideShapes Go.ChangeAt Go.RowKit
open M1
set_option linter.unusedVariables false
set_option linter.unusedSimpArgs false
set_option maxRecDepth 100000 in
set_option maxHeartbeats 8000000 in
theorem law_SlotPoints (t : Int) (w : World) (hT : TabW w) (ok : Bool) (zs : List Int) (hz : zs.length ≤ 1000)
    (hspec : ∀ W, Calls Tryd.prog 26 #[.int .i64 t] W fun e w' => ∃ v', e = .returned (.tuple #[v', .bool ok]) ∧ Old W w' ∧ Own w' W.heap.size v' zs)
    (himpl : ∀ W, TabW W → Calls Tryd.prog 27 #[.int .i64 t] W fun e w' => ∃ v', e = .returned (.tuple #[v', .bool ok]) ∧ Old W w' ∧ Own w' W.heap.size v' zs) :
    Calls Tryd.prog 5 #[.int .i64 t] w fun e w' => e = .returned (.bool true) ∧ Old w w' := by
  have HT : Hid (TabW w) := hT
  clear hT 
  have SP : Hid (∀ W, Calls Tryd.prog 26 #[.int .i64 t] W fun e w' => ∃ v', e = .returned (.tuple #[v', .bool ok]) ∧ Old W w' ∧ Own w' W.heap.size v' zs) := hspec 
  have IM : Hid (∀ W, TabW W → Calls Tryd.prog 27 #[.int .i64 t] W fun e w' => ∃ v', e = .returned (.tuple #[v', .bool ok]) ∧ Old W w' ∧ Own w' W.heap.size v' zs) := himpl 
  have dok : (ok != ok) = false := by simp
  have dq : decide ((1 : Int) + (zs.length : Int) < 0) = false := decide_eq_false (by omega)
  have dqm : ((1 : Int) + (zs.length : Int) != 1 + (zs.length : Int)) = false := by simp
  clear hspec himpl 
  go_enter Tryd.func5, Tryd.ntmps5
  have HG_0 : Hid (Old w w) := Old.refl w
  go_wp2_with fail
  refine (SP.out _ ).mono ?_
  rintro e w1 ⟨vw1, rfl, g, o⟩
  obtain ⟨aw1, capw1, rfl⟩ := (Own.row o).slice
  have hsw1 : w.heap.size ≤ w1.heap.size := g.size
  have HG_1 : Hid (Old w w1) := Old.trans HG_0.out g
  clear HG_0
  have O_1 : Hid (Own w1 w.heap.size (.slice aw1 zs.length capw1) zs) := o
  have DO : Hid (∀ g, (Value.slice aw1 zs.length capw1).ownBlock = some g → w.heap.size ≤ g ∧ g < w1.heap.size) := fun g hg => by have := o.lt g hg; exact this
  clear g o
  go_wp2_with fail
  refine (IM.out _ (HT.out.old HG_1.out) ).mono ?_
  rintro e w2 ⟨vw2, rfl, g, o⟩
  obtain ⟨aw2, capw2, rfl⟩ := (Own.row o).slice
  have hsw2 : w1.heap.size ≤ w2.heap.size := g.size
  have HG_2 : Hid (Old w w2) := Old.trans HG_1.out g
  have O_2 : Hid (Own w2 w.heap.size (.slice aw1 zs.length capw1) zs) := O_1.out.old g
  clear HG_1 O_1
  have G_2 : Hid (Own w2 w1.heap.size (.slice aw2 zs.length capw2) zs) := o
  have DG : Hid (∀ g, (Value.slice aw2 zs.length capw2).ownBlock = some g → w1.heap.size ≤ g ∧ g < w2.heap.size) := fun g hg => by have := o.lt g hg; exact this
  clear g o
  go_wp2_with fail
  refine (eqInts_yes zs _ _ _ (Own.row G_2.out) (Own.row O_2.out) (by omega)).mono ?_
  rintro e w3 ⟨rfl, g⟩
  have hsw3 : w2.heap.size ≤ w3.heap.size := g.size
  have HG_3 : Hid (Old w w3) := Old.trans HG_2.out g
  have O_3 : Hid (Own w3 w.heap.size (.slice aw1 zs.length capw1) zs) := O_2.out.old g
  have G_3 : Hid (Own w3 w1.heap.size (.slice aw2 zs.length capw2) zs) := G_2.out.old g
  clear HG_2 O_2 G_2
  clear g
  go_wp2_with fail
  refine (markInts_any zs _ 1 _ _ G_3.out (by omega) (by omega) (by omega)).mono ?_
  rintro e w4 ⟨rfl, gm, om⟩
  have hsw4 : w3.heap.size ≤ w4.heap.size := gm.size
  clear G_3
  have HG_4 : Hid (Old w w4) := Old.by_ HG_3.out gm (fun b hb => by have := DG.out b hb; omega)
  have O_4 : Hid (Own w4 w.heap.size (.slice aw1 zs.length capw1) zs) := O_3.out.by_ gm (fun a b h1 h2 h3 => by have := DO.out a h1; have := DG.out b h2; omega)
  clear HG_3 O_3
  have G_4 : Hid (Own w4 w1.heap.size (.slice aw2 zs.length capw2) (marks 1 zs.length)) := om
  clear gm om
  go_wp2_with fail
  refine (heldInts_yes zs.length _ 1 _ (Own.row G_4.out) (by omega) (by omega) (by omega)).mono ?_
  rintro e w5 ⟨rfl, g⟩
  have hsw5 : w4.heap.size ≤ w5.heap.size := g.size
  have HG_5 : Hid (Old w w5) := Old.trans HG_4.out g
  have O_5 : Hid (Own w5 w.heap.size (.slice aw1 zs.length capw1) zs) := O_4.out.old g
  have G_5 : Hid (Own w5 w1.heap.size (.slice aw2 zs.length capw2) (marks 1 zs.length)) := G_4.out.old g
  clear HG_4 O_4 G_4
  clear g
  go_wp2_with fail
  refine (IM.out _ (HT.out.old HG_5.out) ).mono ?_
  rintro e w6 ⟨vw6, rfl, g, o⟩
  obtain ⟨aw6, capw6, rfl⟩ := (Own.row o).slice
  have hsw6 : w5.heap.size ≤ w6.heap.size := g.size
  have HG_6 : Hid (Old w w6) := Old.trans HG_5.out g
  have O_6 : Hid (Own w6 w.heap.size (.slice aw1 zs.length capw1) zs) := O_5.out.old g
  have G_6 : Hid (Own w6 w1.heap.size (.slice aw2 zs.length capw2) (marks 1 zs.length)) := G_5.out.old g
  clear HG_5 O_5 G_5
  have H_6 : Hid (Own w6 w5.heap.size (.slice aw6 zs.length capw6) zs) := o
  have DH : Hid (∀ g, (Value.slice aw6 zs.length capw6).ownBlock = some g → w5.heap.size ≤ g ∧ g < w6.heap.size) := fun g hg => by have := o.lt g hg; exact this
  clear g o
  go_wp2_with fail
  refine (eqInts_yes zs _ _ _ (Own.row H_6.out) (Own.row O_6.out) (by omega)).mono ?_
  rintro e w7 ⟨rfl, g⟩
  have hsw7 : w6.heap.size ≤ w7.heap.size := g.size
  have HG_7 : Hid (Old w w7) := Old.trans HG_6.out g
  have O_7 : Hid (Own w7 w.heap.size (.slice aw1 zs.length capw1) zs) := O_6.out.old g
  have G_7 : Hid (Own w7 w1.heap.size (.slice aw2 zs.length capw2) (marks 1 zs.length)) := G_6.out.old g
  have H_7 : Hid (Own w7 w5.heap.size (.slice aw6 zs.length capw6) zs) := H_6.out.old g
  clear HG_6 O_6 G_6 H_6
  clear g
  go_wp2_with fail
  refine (heldInts_yes zs.length _ 1 _ (Own.row G_7.out) (by omega) (by omega) (by omega)).mono ?_
  rintro e w8 ⟨rfl, g⟩
  have hsw8 : w7.heap.size ≤ w8.heap.size := g.size
  have HG_8 : Hid (Old w w8) := Old.trans HG_7.out g
  have O_8 : Hid (Own w8 w.heap.size (.slice aw1 zs.length capw1) zs) := O_7.out.old g
  have G_8 : Hid (Own w8 w1.heap.size (.slice aw2 zs.length capw2) (marks 1 zs.length)) := G_7.out.old g
  have H_8 : Hid (Own w8 w5.heap.size (.slice aw6 zs.length capw6) zs) := H_7.out.old g
  clear HG_7 O_7 G_7 H_7
  clear g
  go_wp2_with fail
  go_ret
  exact ⟨rfl, HG_8.out⟩
end Go.Proofs.YtpebikjckhcgfaaDoor
