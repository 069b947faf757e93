/- Proved: several texts in one: what each proves is said ahead of it. -/
import Derived.Test.YtimmcijoebmaiaaS00
import Derived.Deep.RegionWith
import Derived.Test.YtimmcijoebmaiaaS01
/- Proved: the walk of the statement on GoodWhole, under the contract of the program's own function. -/
namespace Go.Proofs.Ytimmcijoebmaiaa
open Go.ChangeShapes Go.WideShapes Go.ChangeAt Go.RowKit
open M2
set_option linter.unusedVariables false
set_option linter.unusedSimpArgs false
abbrev StW (w : World) (k : Nat) (x y : Value) (t : TypeId) : Prop := w.heap[k]? = some (.cells #[x, y] t (0, 0))
theorem StW.c0 {w : World} {k : Nat} {x y : Value} {t : TypeId} (h : StW w k x y t) : w.cell? ⟨k, 0, none⟩ = some x := cell_of_row w k 0 _ t (0, 0) h
theorem StW.c1 {w : World} {k : Nat} {x y : Value} {t : TypeId} (h : StW w k x y t) : w.cell? ⟨k, 1, none⟩ = some y := cell_of_row w k 1 _ t (0, 0) h
theorem StW.f0 {w : World} {k : Nat} {x y : Value} {t : TypeId} (h : StW w k x y t) : w.frozen? ⟨k, 0, none⟩ = false := frozen_of_row w k 0 _ t h
theorem StW.f1 {w : World} {k : Nat} {x y : Value} {t : TypeId} (h : StW w k x y t) : w.frozen? ⟨k, 1, none⟩ = false := frozen_of_row w k 1 _ t h
theorem StW.lt {w : World} {k : Nat} {x y : Value} {t : TypeId} (h : StW w k x y t) : k < w.heap.size := (Array.getElem?_eq_some_iff.1 h).1
theorem StW.old {w w' : World} {k : Nat} {x y : Value} {t : TypeId} (h : StW w k x y t) (g : Old w w') : StW w' k x y t := (g.block k h.lt).trans h
theorem StW.new (w : World) (x y : Value) (t : TypeId) : StW (w.alloc (.cells #[x, y] t)) w.heap.size x y t := heap_alloc_new w _
end Go.Proofs.Ytimmcijoebmaiaa
/- Proved: structs of two cells under writes into other blocks; no function of the program. -/
namespace Go.Proofs.Ytimmcijoebmaiaa
open Go.ChangeShapes Go.WideShapes Go.ChangeAt Go.RowKit
set_option linter.unusedVariables false
set_option linter.unusedSimpArgs false
theorem StW.byW_ {w w' : World} {k : Nat} {x y : Value} {t : TypeId} {ob : Option Nat} (h : StW w k x y t) (g : w.grownBy w' ob) (hne : ∀ b, ob = some b → b ≠ k) : StW w' k x y t :=
  (g.block k h.lt (fun e => hne k e.symm rfl)).trans h
theorem Own.byW_ {w w' : World} {base : Nat} {v : Value} {xs : List Int} {ob : Option Nat} (h : Own w base v xs) (g : w.grownBy w' ob) (hne : ∀ a b, v.ownBlock = some a → ob = some b → a ≠ b) : Own w' base v xs := by
  refine World.ownsRow.kept h g ?_
  cases hv : v.ownBlock with
  | none => exact Or.inl rfl
  | some a =>
    refine Or.inr (fun e => ?_)
    exact hne a a hv e.symm rfl
theorem Old.byW_ {a w w' : World} {ob : Option Nat} (h : Old a w) (g : w.grownBy w' ob) (hb : ∀ b, ob = some b → a.heap.size ≤ b) : Old a w' := Below.grown h g h.size hb
end Go.Proofs.Ytimmcijoebmaiaa
/- Proved: the walk of the statement FnExactReadWhole, under the contracts of the model's and of the program's function. -/
namespace Go.Proofs.Ytimmcijoebmaiaa
open Go.ChangeShapes Go.WideShapes Go.ChangeAt Go.RowKit
open M2
set_option linter.unusedVariables false
set_option linter.unusedSimpArgs false
set_option maxRecDepth 100000 in
set_option maxHeartbeats 8000000 in
theorem law_read (s : ByteArray) (w : World) (rb ro : Bool) (rl : List Nat) (hR : rl.length ≤ 1000)
    (hspec : s.size ≤ 1048576 → ∀ W, Calls Try.prog 12 #[.string s] W fun e w' => ∃ v', e = .returned (.tuple #[.agg #[.bool rb, v'], .bool ro]) ∧ Old W w' ∧ Own w' W.heap.size v' (toI rl))
    (himpl : s.size ≤ 1048576 → ∀ W, Calls Try.prog 13 #[.string s] W fun e w' => ∃ v', e = .returned (.tuple #[.agg #[.bool rb, v'], .bool ro]) ∧ Old W w' ∧ Own w' W.heap.size v' (toI rl)) :
    Calls Try.prog 4 #[.string s] w fun e w' => e = .returned (.bool true) ∧ Old w w' := by
  by_cases hb : (1048576 : Int) < (s.size : Int)
  · have d1 : decide ((1048576 : Int) < (s.size : Int)) = true := decide_eq_true hb
    have d2 : decide (1048576 < s.size) = true := decide_eq_true (by omega)
    go_enter Try.func4, Try.ntmps4
    go_wp2_with fail
    go_ret
    exact ⟨rfl, Old.refl _⟩
  have d1 : decide ((1048576 : Int) < (s.size : Int)) = false := decide_eq_false hb
  have d2 : decide (1048576 < s.size) = false := decide_eq_false (by omega)
  have hspec := hspec (by omega)
  have himpl := himpl (by omega)
  have dro : (ro != ro) = false := by simp
  have SP : Hid (∀ W, Calls Try.prog 12 #[.string s] W fun e w' => ∃ v', e = .returned (.tuple #[.agg #[.bool rb, v'], .bool ro]) ∧ Old W w' ∧ Own w' W.heap.size v' (toI rl)) := hspec
  have IM : Hid (∀ W, Calls Try.prog 13 #[.string s] W fun e w' => ∃ v', e = .returned (.tuple #[.agg #[.bool rb, v'], .bool ro]) ∧ Old W w' ∧ Own w' W.heap.size v' (toI rl)) := himpl
  have hrl : (toI rl).length ≤ 1000 := by rw [toI_len]; exact hR
  have dq : decide ((1 : Int) + ((toI rl).length : Int) < 0) = false := decide_eq_false (by omega)
  have dqm : ((1 : Int) + ((toI rl).length : Int) != 1 + ((toI rl).length : Int)) = false := by simp
  clear hspec himpl hR hb
  go_enter Try.func4, Try.ntmps4
  go_wp2_with fail
  refine (SP.out _).mono ?_
  rintro e w1 ⟨v1, rfl, g1, o1⟩
  obtain ⟨a1, cap1, rfl⟩ := (Own.row o1).slice
  have hs1 := g1.size
  have HG_0 : Hid (Old w (w1.alloc (.cells #[.bool rb, .slice a1 (toI rl).length cap1] 25))) := Old.alloc g1 _
  have C_0 : Hid (StW (w1.alloc (.cells #[.bool rb, .slice a1 (toI rl).length cap1] 25)) w1.heap.size (.bool rb) (.slice a1 (toI rl).length cap1) 25) := StW.new w1 _ _ _
  have O_0 : Hid (Own (w1.alloc (.cells #[.bool rb, .slice a1 (toI rl).length cap1] 25)) w.heap.size (.slice a1 (toI rl).length cap1) (toI rl)) := o1.alloc _
  have DC : Hid (∀ g, (Value.slice a1 (toI rl).length cap1).ownBlock = some g → w.heap.size ≤ g ∧ g < w1.heap.size) := fun g hg => o1.lt g hg
  clear g1 o1
  go_wp2_with fail
  refine (IM.out _).mono ?_
  rintro e w2 ⟨v2, rfl, g2, o2⟩
  obtain ⟨a2, cap2, rfl⟩ := (Own.row o2).slice
  have hs2 : w1.heap.size + 1 ≤ w2.heap.size := by have := g2.size; simp at this; omega
  have HG_1 : Hid (Old w (w2.alloc (.cells #[.bool rb, .slice a2 (toI rl).length cap2] 25))) := Old.trans HG_0.out (Old.trans g2 ((Old.refl w2).alloc _))
  have C_1 : Hid (StW (w2.alloc (.cells #[.bool rb, .slice a2 (toI rl).length cap2] 25)) w1.heap.size (.bool rb) (.slice a1 (toI rl).length cap1) 25) := C_0.out.old (Old.trans g2 ((Old.refl w2).alloc _))
  have O_1 : Hid (Own (w2.alloc (.cells #[.bool rb, .slice a2 (toI rl).length cap2] 25)) w.heap.size (.slice a1 (toI rl).length cap1) (toI rl)) := O_0.out.old (Old.trans g2 ((Old.refl w2).alloc _))
  clear HG_0 C_0 O_0
  have Z_1 : Hid (StW (w2.alloc (.cells #[.bool rb, .slice a2 (toI rl).length cap2] 25)) w2.heap.size (.bool rb) (.slice a2 (toI rl).length cap2) 25) := StW.new w2 _ _ _
  have N_1 : Hid (Own (w2.alloc (.cells #[.bool rb, .slice a2 (toI rl).length cap2] 25)) (w1.heap.size + 1) (.slice a2 (toI rl).length cap2) (toI rl)) := by have := Own.low o2 (base' := w1.heap.size + 1) (by simp); exact this.alloc _
  have D2 : Hid (∀ g, (Value.slice a2 (toI rl).length cap2).ownBlock = some g → w1.heap.size + 1 ≤ g ∧ g < w2.heap.size) := fun g hg => by have := o2.lt g hg; simp at this; exact this
  clear g2 o2
  have zZ0 := Z_1.out.c0
  have zZ1 := Z_1.out.c1
  have zC0 := C_1.out.c0
  have zC1 := C_1.out.c1
  go_wp2_with fail
  refine (eqWhole_yes rb (toI rl) _ _ _ (Own.row N_1.out) (Own.row O_1.out) (by omega)).mono ?_
  rintro e w3 ⟨rfl, g3⟩
  clear zZ0 zZ1 zC0 zC1
  have hs3 : w2.heap.size + 1 ≤ w3.heap.size := by have := g3.size; simp at this; omega
  have HG_2 : Hid (Old w w3) := Old.trans HG_1.out (g3)
  have C_2 : Hid (StW w3 w1.heap.size (.bool rb) (.slice a1 (toI rl).length cap1) 25) := C_1.out.old (g3)
  have O_2 : Hid (Own w3 w.heap.size (.slice a1 (toI rl).length cap1) (toI rl)) := O_1.out.old (g3)
  have Z_2 : Hid (StW w3 w2.heap.size (.bool rb) (.slice a2 (toI rl).length cap2) 25) := Z_1.out.old (g3)
  have N_2 : Hid (Own w3 (w1.heap.size + 1) (.slice a2 (toI rl).length cap2) (toI rl)) := N_1.out.old (g3)
  clear HG_1 C_1 O_1 Z_1 N_1
  clear g3
  have zZ0 := Z_2.out.c0
  have zZ1 := Z_2.out.c1
  go_wp2_with fail
  refine (markWhole_any rb (toI rl) _ 1 (w1.heap.size + 1) _ N_2.out (by omega) (by omega) (by omega)).mono ?_
  rintro e w4 ⟨rfl, gm, om⟩
  have hs4 := gm.size
  have HG_3 : Hid (Old w w4) := Old.byW_ HG_2.out gm (fun b hb => by have := D2.out b hb; omega)
  have C_3 : Hid (StW w4 w1.heap.size (.bool rb) (.slice a1 (toI rl).length cap1) 25) := C_2.out.byW_ gm (fun b hb hbk => by have := D2.out b hb; omega)
  have Z_3 : Hid (StW w4 w2.heap.size (.bool rb) (.slice a2 (toI rl).length cap2) 25) := Z_2.out.byW_ gm (fun b hb hbk => by have := D2.out b hb; omega)
  have O_3 : Hid (Own w4 w.heap.size (.slice a1 (toI rl).length cap1) (toI rl)) := O_2.out.byW_ gm (fun a b h1 h2 h3 => by have := DC.out a h1; have := D2.out b h2; omega)
  have N_3 : Hid (Own w4 (w1.heap.size + 1) (.slice a2 (toI rl).length cap2) (marks 1 (toI rl).length)) := om
  clear gm om HG_2 C_2 Z_2 O_2 N_2 zZ0 zZ1
  have zZ0 := Z_3.out.c0
  have zZ1 := Z_3.out.c1
  go_wp2_with fail
  refine (heldWhole_yes rb (toI rl).length _ 1 _ (by have := Own.row N_3.out; exact this) (by omega) (by omega) (by omega)).mono ?_
  rintro e w5 ⟨rfl, g5⟩
  clear zZ0 zZ1
  have HG_4 : Hid (Old w w5) := Old.trans HG_3.out (g5)
  have C_4 : Hid (StW w5 w1.heap.size (.bool rb) (.slice a1 (toI rl).length cap1) 25) := C_3.out.old (g5)
  have O_4 : Hid (Own w5 w.heap.size (.slice a1 (toI rl).length cap1) (toI rl)) := O_3.out.old (g5)
  have Z_4 : Hid (StW w5 w2.heap.size (.bool rb) (.slice a2 (toI rl).length cap2) 25) := Z_3.out.old (g5)
  have N_4 : Hid (Own w5 (w1.heap.size + 1) (.slice a2 (toI rl).length cap2) (marks 1 (toI rl).length)) := N_3.out.old (g5)
  clear HG_3 C_3 O_3 Z_3 N_3
  clear g5
  go_wp2_with fail
  refine (IM.out _).mono ?_
  rintro e w6 ⟨v6, rfl, g6, o6⟩
  obtain ⟨a6, cap6, rfl⟩ := (Own.row o6).slice
  have HG_5 : Hid (Old w (w6.alloc (.cells #[.bool rb, .slice a6 (toI rl).length cap6] 25))) := Old.trans HG_4.out (Old.trans g6 ((Old.refl w6).alloc _))
  have C_5 : Hid (StW (w6.alloc (.cells #[.bool rb, .slice a6 (toI rl).length cap6] 25)) w1.heap.size (.bool rb) (.slice a1 (toI rl).length cap1) 25) := C_4.out.old (Old.trans g6 ((Old.refl w6).alloc _))
  have O_5 : Hid (Own (w6.alloc (.cells #[.bool rb, .slice a6 (toI rl).length cap6] 25)) w.heap.size (.slice a1 (toI rl).length cap1) (toI rl)) := O_4.out.old (Old.trans g6 ((Old.refl w6).alloc _))
  have Z_5 : Hid (StW (w6.alloc (.cells #[.bool rb, .slice a6 (toI rl).length cap6] 25)) w2.heap.size (.bool rb) (.slice a2 (toI rl).length cap2) 25) := Z_4.out.old (Old.trans g6 ((Old.refl w6).alloc _))
  have N_5 : Hid (Own (w6.alloc (.cells #[.bool rb, .slice a6 (toI rl).length cap6] 25)) (w1.heap.size + 1) (.slice a2 (toI rl).length cap2) (marks 1 (toI rl).length)) := N_4.out.old (Old.trans g6 ((Old.refl w6).alloc _))
  clear HG_4 C_4 O_4 Z_4 N_4
  have H_5 : Hid (StW (w6.alloc (.cells #[.bool rb, .slice a6 (toI rl).length cap6] 25)) w6.heap.size (.bool rb) (.slice a6 (toI rl).length cap6) 25) := StW.new w6 _ _ _
  have R_5 : Hid (Row (w6.alloc (.cells #[.bool rb, .slice a6 (toI rl).length cap6] 25)) (.slice a6 (toI rl).length cap6) (toI rl)) := (Own.row o6).old ((Old.refl _).alloc _)
  clear g6 o6
  have zH0 := H_5.out.c0
  have zH1 := H_5.out.c1
  have zC0 := C_5.out.c0
  have zC1 := C_5.out.c1
  go_wp2_with fail
  refine (eqWhole_yes rb (toI rl) _ _ _ R_5.out (Own.row O_5.out) (by omega)).mono ?_
  rintro e w7 ⟨rfl, g7⟩
  clear zH0 zH1 zC0 zC1
  have HG_6 : Hid (Old w w7) := Old.trans HG_5.out (g7)
  have C_6 : Hid (StW w7 w1.heap.size (.bool rb) (.slice a1 (toI rl).length cap1) 25) := C_5.out.old (g7)
  have O_6 : Hid (Own w7 w.heap.size (.slice a1 (toI rl).length cap1) (toI rl)) := O_5.out.old (g7)
  have Z_6 : Hid (StW w7 w2.heap.size (.bool rb) (.slice a2 (toI rl).length cap2) 25) := Z_5.out.old (g7)
  have N_6 : Hid (Own w7 (w1.heap.size + 1) (.slice a2 (toI rl).length cap2) (marks 1 (toI rl).length)) := N_5.out.old (g7)
  have H_6 : Hid (StW w7 w6.heap.size (.bool rb) (.slice a6 (toI rl).length cap6) 25) := H_5.out.old (g7)
  have R_6 : Hid (Row w7 (.slice a6 (toI rl).length cap6) (toI rl)) := R_5.out.old (g7)
  clear HG_5 C_5 O_5 Z_5 N_5 H_5 R_5
  clear g7
  have zZ0 := Z_6.out.c0
  have zZ1 := Z_6.out.c1
  go_wp2_with fail
  refine (heldWhole_yes rb (toI rl).length _ 1 _ (by have := Own.row N_6.out; exact this) (by omega) (by omega) (by omega)).mono ?_
  rintro e w8 ⟨rfl, g8⟩
  clear zZ0 zZ1
  have HG_7 : Hid (Old w w8) := Old.trans HG_6.out (g8)
  have C_7 : Hid (StW w8 w1.heap.size (.bool rb) (.slice a1 (toI rl).length cap1) 25) := C_6.out.old (g8)
  have O_7 : Hid (Own w8 w.heap.size (.slice a1 (toI rl).length cap1) (toI rl)) := O_6.out.old (g8)
  have Z_7 : Hid (StW w8 w2.heap.size (.bool rb) (.slice a2 (toI rl).length cap2) 25) := Z_6.out.old (g8)
  have N_7 : Hid (Own w8 (w1.heap.size + 1) (.slice a2 (toI rl).length cap2) (marks 1 (toI rl).length)) := N_6.out.old (g8)
  have H_7 : Hid (StW w8 w6.heap.size (.bool rb) (.slice a6 (toI rl).length cap6) 25) := H_6.out.old (g8)
  have R_7 : Hid (Row w8 (.slice a6 (toI rl).length cap6) (toI rl)) := R_6.out.old (g8)
  clear HG_6 C_6 O_6 Z_6 N_6 H_6 R_6
  clear g8
  go_wp2_with fail
  go_ret
  exact ⟨rfl, HG_7.out⟩
end Go.Proofs.Ytimmcijoebmaiaa
/- Proved: contracts of the model's functions on whole numbers of any length. -/
namespace Go.Proofs.Ytimmcijoebmaiaa
open Go.ChangeShapes Go.WideShapes Go.ChangeAt Go.RowKit
open M2
set_option linter.unusedVariables false
set_option linter.unusedSimpArgs false
def Gw (neg : Bool) (xs : List Nat) : Prop := Nrm xs ∧ (neg = true → xs ≠ [])
theorem Gw.pos {neg : Bool} {xs : List Nat} (h : Gw neg xs) (hn : neg = true) : 0 < val xs := by
  rcases Nat.eq_zero_or_pos (val xs) with h0 | h0
  · exact absurd (val_zero_of h.1 h0) (h.2 hn)
  · exact h0
end Go.Proofs.Ytimmcijoebmaiaa
/- Proved: a struct in a block of its own stays where only others are written; no function of the program. -/
namespace Go.Proofs.Ytimmcijoebmaiaa
open Go.ChangeShapes Go.WideShapes Go.ChangeAt Go.RowKit
set_option linter.unusedVariables false
set_option linter.unusedSimpArgs false
def Bk (w : World) (k : Nat) (cs : Array Value) (t : TypeId) : Prop := w.heap[k]? = some (.cells cs t (0, 0))
theorem Bk.lt {w : World} {k : Nat} {cs : Array Value} {t : TypeId} (h : Bk w k cs t) : k < w.heap.size := (Array.getElem?_eq_some_iff.1 h).1
theorem Bk.old {w w' : World} {k : Nat} {cs : Array Value} {t : TypeId} (h : Bk w k cs t) (g : Old w w') : Bk w' k cs t := (g.block k h.lt).trans h
theorem Bk.new' (w : World) {k : Nat} (cs : Array Value) (t : TypeId) (hk : w.heap.size = k) : Bk (w.alloc (.cells cs t)) k cs t := by
  subst hk
  exact heap_alloc_new w _
theorem Bk.alloc {w : World} {k : Nat} {cs : Array Value} {t : TypeId} (h : Bk w k cs t) (o : Obj) : Bk (w.alloc o) k cs t := h.old ((Old.refl w).alloc o)
theorem Bk.c {w : World} {k : Nat} {cs : Array Value} {t : TypeId} (h : Bk w k cs t) {i : Nat} {v : Value} (hi : cs[i]? = some v) : w.cell? ⟨k, i, none⟩ = some v := by
  rw [← hi]
  exact cell_of_row w k i cs t (0, 0) h
end Go.Proofs.Ytimmcijoebmaiaa
