/- Proved: the walk of the statement FnExactWholeOf, under the contracts of the model's and of the program's function. -/
import Derived.Test.YtdpcahphbjdhaaaHelpW
import Derived.Test.YtdpcahphbjdhaaaLawB
namespace Go.Proofs.Ytdpcahphbjdhaaa
open Go.ChangeShapes Go.WideShapes Go.ChangeAt Go.RowKit
open M2
set_option linter.unusedVariables false
set_option linter.unusedSimpArgs false
set_option maxRecDepth 100000 in
set_option maxHeartbeats 8000000 in
theorem law_of (z : Int) (w : World) (rb : Bool) (rl : List Nat) (hR : rl.length ≤ 1000)
    (hspec : ∀ W, Calls Try.prog 26 #[.int .i64 z] W fun e w' => ∃ v', e = .returned (.agg #[.bool rb, v']) ∧ Old W w' ∧ Own w' W.heap.size v' (toI rl))
    (himpl : ∀ W, Calls Try.prog 27 #[.int .i64 z] W fun e w' => ∃ v', e = .returned (.agg #[.bool rb, v']) ∧ Old W w' ∧ Own w' W.heap.size v' (toI rl)) :
    Calls Try.prog 5 #[.int .i64 z] w fun e w' => e = .returned (.bool true) ∧ Old w w' := by
  have SP : Hid (∀ W, Calls Try.prog 26 #[.int .i64 z] W fun e w' => ∃ v', e = .returned (.agg #[.bool rb, v']) ∧ Old W w' ∧ Own w' W.heap.size v' (toI rl)) := hspec
  have IM : Hid (∀ W, Calls Try.prog 27 #[.int .i64 z] W fun e w' => ∃ v', e = .returned (.agg #[.bool rb, v']) ∧ Old W w' ∧ Own w' W.heap.size v' (toI rl)) := himpl
  have hrl : (toI rl).length ≤ 1000 := by rw [toI_len]; exact hR
  have dq : decide ((1 : Int) + ((toI rl).length : Int) < 0) = false := decide_eq_false (by omega)
  have dqm : ((1 : Int) + ((toI rl).length : Int) != 1 + ((toI rl).length : Int)) = false := by simp
  clear hspec himpl hR
  go_enter Try.func5, Try.ntmps5
  go_wp2_with fail
  refine (SP.out _).mono ?_
  rintro e w1 ⟨v1, rfl, g1, o1⟩
  obtain ⟨a1, cap1, rfl⟩ := (Own.row o1).slice
  have hs1 := g1.size
  have HG_0 : Hid (Old w (w1.alloc (.cells #[.bool rb, .slice a1 (toI rl).length cap1] 25))) := Old.alloc g1 _
  have C_0 : Hid (St (w1.alloc (.cells #[.bool rb, .slice a1 (toI rl).length cap1] 25)) w1.heap.size (.bool rb) (.slice a1 (toI rl).length cap1) 25) := St.new w1 _ _ _
  have O_0 : Hid (Own (w1.alloc (.cells #[.bool rb, .slice a1 (toI rl).length cap1] 25)) w.heap.size (.slice a1 (toI rl).length cap1) (toI rl)) := o1.alloc _
  have DC : Hid (∀ g, (Value.slice a1 (toI rl).length cap1).ownBlock = some g → w.heap.size ≤ g ∧ g < w1.heap.size) := fun g hg => o1.lt g hg
  clear g1 o1
  go_wp2_with fail
  refine (IM.out _).mono ?_
  rintro e w2 ⟨v2, rfl, g2, o2⟩
  obtain ⟨a2, cap2, rfl⟩ := (Own.row o2).slice
  have hs2 : w1.heap.size + 1 ≤ w2.heap.size := by have := g2.size; simp at this; omega
  have HG_1 : Hid (Old w (w2.alloc (.cells #[.bool rb, .slice a2 (toI rl).length cap2] 25))) := Old.trans HG_0.out (Old.trans g2 ((Old.refl w2).alloc _))
  have C_1 : Hid (St (w2.alloc (.cells #[.bool rb, .slice a2 (toI rl).length cap2] 25)) w1.heap.size (.bool rb) (.slice a1 (toI rl).length cap1) 25) := C_0.out.old (Old.trans g2 ((Old.refl w2).alloc _))
  have O_1 : Hid (Own (w2.alloc (.cells #[.bool rb, .slice a2 (toI rl).length cap2] 25)) w.heap.size (.slice a1 (toI rl).length cap1) (toI rl)) := O_0.out.old (Old.trans g2 ((Old.refl w2).alloc _))
  clear HG_0 C_0 O_0
  have Z_1 : Hid (St (w2.alloc (.cells #[.bool rb, .slice a2 (toI rl).length cap2] 25)) w2.heap.size (.bool rb) (.slice a2 (toI rl).length cap2) 25) := St.new w2 _ _ _
  have N_1 : Hid (Own (w2.alloc (.cells #[.bool rb, .slice a2 (toI rl).length cap2] 25)) (w1.heap.size + 1) (.slice a2 (toI rl).length cap2) (toI rl)) := by have := Own.low o2 (base' := w1.heap.size + 1) (by simp); exact this.alloc _
  have D2 : Hid (∀ g, (Value.slice a2 (toI rl).length cap2).ownBlock = some g → w1.heap.size + 1 ≤ g ∧ g < w2.heap.size) := fun g hg => by have := o2.lt g hg; simp at this; exact this
  clear g2 o2
  have zZ0 := Z_1.out.c0
  have zZ1 := Z_1.out.c1
  have zC0 := C_1.out.c0
  have zC1 := C_1.out.c1
  go_wp2_with fail
  refine (eqWhole_yes rb (toI rl) _ _ _ (Own.row N_1.out) (Own.row O_1.out) (by omega)).mono ?_
  rintro e w3 ⟨rfl, g3⟩
  clear zZ0 zZ1 zC0 zC1
  have hs3 : w2.heap.size + 1 ≤ w3.heap.size := by have := g3.size; simp at this; omega
  have HG_2 : Hid (Old w w3) := Old.trans HG_1.out (g3)
  have C_2 : Hid (St w3 w1.heap.size (.bool rb) (.slice a1 (toI rl).length cap1) 25) := C_1.out.old (g3)
  have O_2 : Hid (Own w3 w.heap.size (.slice a1 (toI rl).length cap1) (toI rl)) := O_1.out.old (g3)
  have Z_2 : Hid (St w3 w2.heap.size (.bool rb) (.slice a2 (toI rl).length cap2) 25) := Z_1.out.old (g3)
  have N_2 : Hid (Own w3 (w1.heap.size + 1) (.slice a2 (toI rl).length cap2) (toI rl)) := N_1.out.old (g3)
  clear HG_1 C_1 O_1 Z_1 N_1
  clear g3
  have zZ0 := Z_2.out.c0
  have zZ1 := Z_2.out.c1
  go_wp2_with fail
  refine (markWhole_any rb (toI rl) _ 1 (w1.heap.size + 1) _ N_2.out (by omega) (by omega) (by omega)).mono ?_
  rintro e w4 ⟨rfl, gm, om⟩
  have hs4 := gm.size
  have HG_3 : Hid (Old w w4) := Old.by_ HG_2.out gm (fun b hb => by have := D2.out b hb; omega)
  have C_3 : Hid (St w4 w1.heap.size (.bool rb) (.slice a1 (toI rl).length cap1) 25) := C_2.out.by_ gm (fun b hb hbk => by have := D2.out b hb; omega)
  have Z_3 : Hid (St w4 w2.heap.size (.bool rb) (.slice a2 (toI rl).length cap2) 25) := Z_2.out.by_ gm (fun b hb hbk => by have := D2.out b hb; omega)
  have O_3 : Hid (Own w4 w.heap.size (.slice a1 (toI rl).length cap1) (toI rl)) := O_2.out.by_ gm (fun a b h1 h2 h3 => by have := DC.out a h1; have := D2.out b h2; omega)
  have N_3 : Hid (Own w4 (w1.heap.size + 1) (.slice a2 (toI rl).length cap2) (marks 1 (toI rl).length)) := om
  clear gm om HG_2 C_2 Z_2 O_2 N_2 zZ0 zZ1
  have zZ0 := Z_3.out.c0
  have zZ1 := Z_3.out.c1
  go_wp2_with fail
  refine (heldWhole_yes rb (toI rl).length _ 1 _ (by have := Own.row N_3.out; exact this) (by omega) (by omega) (by omega)).mono ?_
  rintro e w5 ⟨rfl, g5⟩
  clear zZ0 zZ1
  have HG_4 : Hid (Old w w5) := Old.trans HG_3.out (g5)
  have C_4 : Hid (St w5 w1.heap.size (.bool rb) (.slice a1 (toI rl).length cap1) 25) := C_3.out.old (g5)
  have O_4 : Hid (Own w5 w.heap.size (.slice a1 (toI rl).length cap1) (toI rl)) := O_3.out.old (g5)
  have Z_4 : Hid (St w5 w2.heap.size (.bool rb) (.slice a2 (toI rl).length cap2) 25) := Z_3.out.old (g5)
  have N_4 : Hid (Own w5 (w1.heap.size + 1) (.slice a2 (toI rl).length cap2) (marks 1 (toI rl).length)) := N_3.out.old (g5)
  clear HG_3 C_3 O_3 Z_3 N_3
  clear g5
  go_wp2_with fail
  refine (IM.out _).mono ?_
  rintro e w6 ⟨v6, rfl, g6, o6⟩
  obtain ⟨a6, cap6, rfl⟩ := (Own.row o6).slice
  have HG_5 : Hid (Old w (w6.alloc (.cells #[.bool rb, .slice a6 (toI rl).length cap6] 25))) := Old.trans HG_4.out (Old.trans g6 ((Old.refl w6).alloc _))
  have C_5 : Hid (St (w6.alloc (.cells #[.bool rb, .slice a6 (toI rl).length cap6] 25)) w1.heap.size (.bool rb) (.slice a1 (toI rl).length cap1) 25) := C_4.out.old (Old.trans g6 ((Old.refl w6).alloc _))
  have O_5 : Hid (Own (w6.alloc (.cells #[.bool rb, .slice a6 (toI rl).length cap6] 25)) w.heap.size (.slice a1 (toI rl).length cap1) (toI rl)) := O_4.out.old (Old.trans g6 ((Old.refl w6).alloc _))
  have Z_5 : Hid (St (w6.alloc (.cells #[.bool rb, .slice a6 (toI rl).length cap6] 25)) w2.heap.size (.bool rb) (.slice a2 (toI rl).length cap2) 25) := Z_4.out.old (Old.trans g6 ((Old.refl w6).alloc _))
  have N_5 : Hid (Own (w6.alloc (.cells #[.bool rb, .slice a6 (toI rl).length cap6] 25)) (w1.heap.size + 1) (.slice a2 (toI rl).length cap2) (marks 1 (toI rl).length)) := N_4.out.old (Old.trans g6 ((Old.refl w6).alloc _))
  clear HG_4 C_4 O_4 Z_4 N_4
  have H_5 : Hid (St (w6.alloc (.cells #[.bool rb, .slice a6 (toI rl).length cap6] 25)) w6.heap.size (.bool rb) (.slice a6 (toI rl).length cap6) 25) := St.new w6 _ _ _
  have R_5 : Hid (Row (w6.alloc (.cells #[.bool rb, .slice a6 (toI rl).length cap6] 25)) (.slice a6 (toI rl).length cap6) (toI rl)) := (Own.row o6).old ((Old.refl _).alloc _)
  clear g6 o6
  have zH0 := H_5.out.c0
  have zH1 := H_5.out.c1
  have zC0 := C_5.out.c0
  have zC1 := C_5.out.c1
  go_wp2_with fail
  refine (eqWhole_yes rb (toI rl) _ _ _ R_5.out (Own.row O_5.out) (by omega)).mono ?_
  rintro e w7 ⟨rfl, g7⟩
  clear zH0 zH1 zC0 zC1
  have HG_6 : Hid (Old w w7) := Old.trans HG_5.out (g7)
  have C_6 : Hid (St w7 w1.heap.size (.bool rb) (.slice a1 (toI rl).length cap1) 25) := C_5.out.old (g7)
  have O_6 : Hid (Own w7 w.heap.size (.slice a1 (toI rl).length cap1) (toI rl)) := O_5.out.old (g7)
  have Z_6 : Hid (St w7 w2.heap.size (.bool rb) (.slice a2 (toI rl).length cap2) 25) := Z_5.out.old (g7)
  have N_6 : Hid (Own w7 (w1.heap.size + 1) (.slice a2 (toI rl).length cap2) (marks 1 (toI rl).length)) := N_5.out.old (g7)
  have H_6 : Hid (St w7 w6.heap.size (.bool rb) (.slice a6 (toI rl).length cap6) 25) := H_5.out.old (g7)
  have R_6 : Hid (Row w7 (.slice a6 (toI rl).length cap6) (toI rl)) := R_5.out.old (g7)
  clear HG_5 C_5 O_5 Z_5 N_5 H_5 R_5
  clear g7
  have zZ0 := Z_6.out.c0
  have zZ1 := Z_6.out.c1
  go_wp2_with fail
  refine (heldWhole_yes rb (toI rl).length _ 1 _ (by have := Own.row N_6.out; exact this) (by omega) (by omega) (by omega)).mono ?_
  rintro e w8 ⟨rfl, g8⟩
  clear zZ0 zZ1
  have HG_7 : Hid (Old w w8) := Old.trans HG_6.out (g8)
  have C_7 : Hid (St w8 w1.heap.size (.bool rb) (.slice a1 (toI rl).length cap1) 25) := C_6.out.old (g8)
  have O_7 : Hid (Own w8 w.heap.size (.slice a1 (toI rl).length cap1) (toI rl)) := O_6.out.old (g8)
  have Z_7 : Hid (St w8 w2.heap.size (.bool rb) (.slice a2 (toI rl).length cap2) 25) := Z_6.out.old (g8)
  have N_7 : Hid (Own w8 (w1.heap.size + 1) (.slice a2 (toI rl).length cap2) (marks 1 (toI rl).length)) := N_6.out.old (g8)
  have H_7 : Hid (St w8 w6.heap.size (.bool rb) (.slice a6 (toI rl).length cap6) 25) := H_6.out.old (g8)
  have R_7 : Hid (Row w8 (.slice a6 (toI rl).length cap6) (toI rl)) := R_6.out.old (g8)
  clear HG_6 C_6 O_6 Z_6 N_6 H_6 R_6
  clear g8
  go_wp2_with fail
  go_ret
  exact ⟨rfl, HG_7.out⟩
end Go.Proofs.Ytdpcahphbjdhaaa
