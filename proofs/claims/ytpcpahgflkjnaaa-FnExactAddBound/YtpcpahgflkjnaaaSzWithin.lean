/- Proved: the contract of the program's wholeWithin: a whole number out of a size, where it is not too long. -/
import Derived.Test.YtpcpahgflkjnaaaSzOut
namespace Go.Proofs.Ytpcpahgflkjnaaa
open Go.ChangeShapes Go.WideShapes Go.ChangeAt Go.RowKit
open M2
set_option linter.unusedVariables false
set_option linter.unusedSimpArgs false

/-- what wholeWithin answers -/
def toldN (neg : Bool) (n : Nat) : Bool × List Nat × Bool := if cnt n ≤ 40 then (neg && decide (n ≠ 0), dig n, true) else (false, [], false)
set_option maxRecDepth 100000 in
set_option maxHeartbeats 4000000 in
theorem within_no (neg : Bool) (n : Nat) (w : World) (hn : cnt n ≤ 80) (h40 : 40 < cnt n) :
    Calls Try.prog 25 #[.bool neg, .agg (szV n)] w fun e w' => e = .returned (.tuple #[.agg #[.bool false, .slice none 0 0], .bool false]) ∧ Old w w' := by
  have HL := pad_len' hn (by omega)
  have a80 := szA_cnt HL (cnt n)
  have HS0 : Hid (Sz ((w.alloc (.cells (szA (pad n) (cnt n)) 46)).alloc (.cells #[.bool false, .slice none 0 0] 26)) w.heap.size (pad n) (cnt n)) := (Sz.new w _ _ HL).alloc _
  have HT0 : Hid (StW ((w.alloc (.cells (szA (pad n) (cnt n)) 46)).alloc (.cells #[.bool false, .slice none 0 0] 26)) (w.heap.size + 1) (.bool false) (.slice none 0 0) 26) := by
    have := StW.new (w.alloc (.cells (szA (pad n) (cnt n)) 46)) (.bool false) (.slice none 0 0) 26
    rw [show (w.alloc (.cells (szA (pad n) (cnt n)) 46)).heap.size = w.heap.size + 1 by simp] at this
    exact this
  have HW0 : Hid (Old w ((w.alloc (.cells (szA (pad n) (cnt n)) 46)).alloc (.cells #[.bool false, .slice none 0 0] 26))) := ((Old.refl w).alloc _).alloc _
  clear HL
  have d0 : decide ((40 : Int) < (cnt n : Int)) = true := dlt_yes (by omega)
  unfold szV
  go_enter Try.func25, Try.ntmps25
  go_wp2_with fail
  refine bodyPost_ret (v := .tuple #[.agg #[.bool false, .slice none 0 0], .bool false]) (by simp [results, Try.results25, go_sem]) rfl ⟨rfl, ?_⟩
  exact HW0.out
set_option maxRecDepth 100000 in
set_option maxHeartbeats 4000000 in
theorem within_yes (neg b : Bool) (n : Nat) (w : World) (hn : cnt n ≤ 40) (hb : b = (neg && decide (n ≠ 0))) :
    Calls Try.prog 25 #[.bool neg, .agg (szV n)] w fun e w' => ∃ v, e = .returned (.tuple #[.agg #[.bool b, v], .bool true]) ∧ Old w w' ∧ Own w' w.heap.size v (toI (dig n)) := by
  have HC : Hid (∀ W, Calls Try.prog 29 #[.bool neg, .agg (szV n)] W fun e w' => ∃ v, e = .returned (.agg #[.bool b, v]) ∧ Old W w' ∧ Own w' W.heap.size v (toI (dig n))) := fun W => by
    by_cases h0 : n = 0
    · subst h0
      refine (whole_none neg W).mono ?_
      rintro e w' ⟨rfl, g⟩
      have hb' : b = false := by rw [hb]; simp
      rw [hb']
      refine ⟨.slice none 0 0, rfl, g, ?_⟩
      rw [dig_zero]
      exact ⟨rfl, Or.inl ⟨rfl, rfl⟩⟩
    · refine (whole_some neg n W h0 (by omega)).mono ?_
      rintro e w' ⟨v, rfl, g, o⟩
      have hb' : b = neg := by rw [hb]; simp [h0]
      rw [hb']
      exact ⟨v, rfl, g, o⟩
  have h40 := hn
  have hn : cnt n ≤ 80 := by omega
  have HL := pad_len' hn (by omega)
  have a80 := szA_cnt HL (cnt n)
  have HS0 : Hid (Sz ((w.alloc (.cells (szA (pad n) (cnt n)) 46)).alloc (.cells #[.bool false, .slice none 0 0] 26)) w.heap.size (pad n) (cnt n)) := (Sz.new w _ _ HL).alloc _
  have HT0 : Hid (StW ((w.alloc (.cells (szA (pad n) (cnt n)) 46)).alloc (.cells #[.bool false, .slice none 0 0] 26)) (w.heap.size + 1) (.bool false) (.slice none 0 0) 26) := by
    have := StW.new (w.alloc (.cells (szA (pad n) (cnt n)) 46)) (.bool false) (.slice none 0 0) 26
    rw [show (w.alloc (.cells (szA (pad n) (cnt n)) 46)).heap.size = w.heap.size + 1 by simp] at this
    exact this
  have HW0 : Hid (Old w ((w.alloc (.cells (szA (pad n) (cnt n)) 46)).alloc (.cells #[.bool false, .slice none 0 0] 26))) := ((Old.refl w).alloc _).alloc _
  clear HL
  have d0 : decide ((40 : Int) < (cnt n : Int)) = false := dlt_no (by omega)
  clear hb
  unfold szV at *
  go_enter Try.func25, Try.ntmps25
  go_wp2_with (first | ((with_reducible refine load_sz HS0.out ?_ ?_); exact rfl; simp only [Act.put, List.setIfInBounds_toArray, List.set_cons_succ, List.set_cons_zero]) | (go_at_call 29; refine (HC.out _).mono ?_; rintro e w2 ⟨v2, rfl, g2, o2⟩; obtain ⟨a2, cap2, rfl⟩ := (Own.row o2).sliceN; have S2 : Hid (StW w2 (w.heap.size + 1) (.bool false) (.slice none 0 0) 26) := HT0.out.old g2; have HG2 : Hid (Old w w2) := Old.trans HW0.out g2; have HO2 : Hid (Own w2 (w.heap.size + 1 + 1) (.slice a2 (dig n).length cap2) (toI (dig n))) := Own.low o2 (by simp); have s0 := S2.out.c0; have s1 := S2.out.c1; have f0 := S2.out.f0; have f1 := S2.out.f1; clear g2 o2))
  refine bodyPost_ret (v := .tuple #[.agg #[.bool b, .slice a2 (dig n).length cap2], .bool true]) (by simp [results, Try.results25, go_sem, s0, s1]) rfl ⟨_, rfl, ?_, ?_⟩
  · exact (HG2.out.own (p := ⟨w.heap.size + 1, 0, none⟩) (by simp) _).own (p := ⟨w.heap.size + 1, 1, none⟩) (by simp) _
  · refine Own.low (base := w.heap.size + 1 + 1) (ownsRow_setCell_other (ownsRow_setCell_other HO2.out (fun e => ?_) _) (fun e => ?_) _) (by omega)
    · have := (HO2.out.lt (w.heap.size + 1) e).1; omega
    · have := (HO2.out.lt (w.heap.size + 1) e).1; omega
theorem within_any (neg : Bool) (n : Nat) (w : World) (hn : cnt n ≤ 80) :
    Calls Try.prog 25 #[.bool neg, .agg (szV n)] w fun e w' => ∃ v, e = .returned (.tuple #[.agg #[.bool (toldN neg n).1, v], .bool (toldN neg n).2.2]) ∧ Old w w' ∧ Own w' w.heap.size v (toI (toldN neg n).2.1) := by
  by_cases h40 : cnt n ≤ 40
  · have e : toldN neg n = (neg && decide (n ≠ 0), dig n, true) := by unfold toldN; rw [if_pos h40]
    rw [e]
    exact within_yes neg _ n w h40 rfl
  · have e : toldN neg n = (false, [], false) := by unfold toldN; rw [if_neg h40]
    rw [e]
    refine (within_no neg n w hn (by omega)).mono ?_
    rintro e w' ⟨rfl, g⟩
    exact ⟨_, rfl, g, rfl, Or.inl ⟨rfl, rfl⟩⟩
end Go.Proofs.Ytpcpahgflkjnaaa
