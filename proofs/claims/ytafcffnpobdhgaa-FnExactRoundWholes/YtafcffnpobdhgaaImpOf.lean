/- Proved: the contract of the program's WholeOf. -/
import Derived.Test.YtafcffnpobdhgaaKS
import Derived.Test.YtafcffnpobdhgaaKD
namespace Go.Proofs.Ytafcffnpobdhgaa
open Go.ChangeShapes Go.WideShapes Go.ChangeAt Go.RowKit
open M2
set_option linter.unusedVariables false
set_option linter.unusedSimpArgs false
set_option maxHeartbeats 4000000 in
theorem impl_of (z : Int) (w : World) (h0 : -9223372036854775808 ≤ z) (h1 : z ≤ 9223372036854775807) :
    Calls Try.prog 29 #[.int .i64 z] w fun e w' => ∃ v', e = .returned (.agg #[.bool (ng z), v']) ∧ Old w w' ∧ Own w' w.heap.size v' (toI (dg z)) := by
  have HS0 : Hid (St (w.alloc (.cells #[.bool false, .slice none 0 0] 25)) w.heap.size (.bool false) (.slice none 0 0) 25) := St.new w _ _ _
  have HA : Hid (Old w (w.alloc (.cells #[.bool false, .slice none 0 0] 25))) := (Old.refl w).alloc _
  by_cases hz : z < 0
  · have e0 : ng z = true := decide_eq_true hz
    obtain ⟨k, hk⟩ : ∃ k : Nat, z = -(k : Int) := ⟨z.natAbs, by omega⟩
    have e1 : dg z = dig k := by unfold dg; congr 1; omega
    rw [e0, e1]
    subst hk
    have hk0 : k ≠ 0 := by omega
    have hk1 : k < 18446744073709551616 := by omega
    clear e0 e1
    have hwr : IntKind.u64.wrap (-IntKind.u64.wrap (-(k : Int))) = (k : Int) := by
      rw [IntKind.wrap_u64, IntKind.wrap_u64]; omega
    go_enter Try.func29, Try.ntmps29
    go_wp2_with fail
    try rw [hwr]
    refine (ofWord_sz k _ hk1).mono ?_
    rintro e w1 ⟨rfl, g1⟩
    go_wp2_with fail
    refine (whole_some true k _ hk0 (by have := cnt_word hk1; omega)).mono ?_
    rintro e w2 ⟨v2, rfl, g2, o2⟩
    have g2' : Old w1 w2 := g2
    have S2 : Hid (St w2 w.heap.size (.bool false) (.slice none 0 0) 25) := (HS0.out.old g1).old g2'
    have HG2 : Hid (Old w w2) := Old.trans (Old.trans HA.out g1) g2'
    have hsz : w.heap.size < w1.heap.size := (HS0.out.old g1).lt
    obtain ⟨a2, cap2, rfl⟩ := (Own.row o2).sliceN
    have HO2 : Hid (Own w2 w1.heap.size (.slice a2 (dig k).length cap2) (toI (dig k))) := o2
    clear g2 o2
    have s0 := S2.out.c0
    have s1 := S2.out.c1
    have f0 := S2.out.f0
    have f1 := S2.out.f1
    clear g1 g2'
    go_wp2_with fail
    refine bodyPost_ret (v := .agg #[.bool true, .slice a2 (dig k).length cap2]) (by simp [results, Try.results29, go_sem, s0, s1]) rfl ⟨_, rfl, ?_, ?_⟩
    · exact (HG2.out.own (p := ⟨w.heap.size, 0, none⟩) (by simp) _).own (p := ⟨w.heap.size, 1, none⟩) (by simp) _
    · refine Own.low (base := w1.heap.size) (ownsRow_setCell_other (ownsRow_setCell_other HO2.out (fun e => ?_) _) (fun e => ?_) _) (by omega)
      · have := (HO2.out.lt w.heap.size e).1; omega
      · have := (HO2.out.lt w.heap.size e).1; omega
  · have e0 : ng z = false := decide_eq_false hz
    obtain ⟨k, hk⟩ : ∃ k : Nat, z = (k : Int) := ⟨z.natAbs, by omega⟩
    have e1 : dg z = dig k := by unfold dg; congr 1; omega
    rw [e0, e1]
    subst hk
    have hk1 : k < 18446744073709551616 := by omega
    clear e0 e1
    have hwr : IntKind.u64.wrap (k : Int) = (k : Int) := by
      rw [IntKind.wrap_u64]; omega
    by_cases hk0 : k = 0
    · subst hk0
      rw [dig_zero]
      go_enter Try.func29, Try.ntmps29
      go_wp2_with fail
      refine (ofWord_sz 0 _ hk1).mono ?_
      rintro e w1 ⟨rfl, g1⟩
      go_wp2_with fail
      refine (whole_none false _).mono ?_
      rintro e w2 ⟨rfl, g2⟩
      have g2' : Old w1 w2 := g2
      have S2 : Hid (St w2 w.heap.size (.bool false) (.slice none 0 0) 25) := (HS0.out.old g1).old g2'
      have HG2 : Hid (Old w w2) := Old.trans (Old.trans HA.out g1) g2'
      have hsz : w.heap.size < w1.heap.size := (HS0.out.old g1).lt
      clear g2
      have s0 := S2.out.c0
      have s1 := S2.out.c1
      have f0 := S2.out.f0
      have f1 := S2.out.f1
      clear g1 g2'
      go_wp2_with fail
      refine bodyPost_ret (v := .agg #[.bool false, .slice none 0 0]) (by simp [results, Try.results29, go_sem, s0, s1]) rfl ⟨_, rfl, ?_, ?_⟩
      · exact (HG2.out.own (p := ⟨w.heap.size, 0, none⟩) (by simp) _).own (p := ⟨w.heap.size, 1, none⟩) (by simp) _
      · exact ⟨rfl, Or.inl ⟨rfl, rfl⟩⟩
    · skip
      go_enter Try.func29, Try.ntmps29
      go_wp2_with fail
      try rw [hwr]
      refine (ofWord_sz k _ hk1).mono ?_
      rintro e w1 ⟨rfl, g1⟩
      go_wp2_with fail
      refine (whole_some false k _ hk0 (by have := cnt_word hk1; omega)).mono ?_
      rintro e w2 ⟨v2, rfl, g2, o2⟩
      have g2' : Old w1 w2 := g2
      have S2 : Hid (St w2 w.heap.size (.bool false) (.slice none 0 0) 25) := (HS0.out.old g1).old g2'
      have HG2 : Hid (Old w w2) := Old.trans (Old.trans HA.out g1) g2'
      have hsz : w.heap.size < w1.heap.size := (HS0.out.old g1).lt
      obtain ⟨a2, cap2, rfl⟩ := (Own.row o2).sliceN
      have HO2 : Hid (Own w2 w1.heap.size (.slice a2 (dig k).length cap2) (toI (dig k))) := o2
      clear g2 o2
      have s0 := S2.out.c0
      have s1 := S2.out.c1
      have f0 := S2.out.f0
      have f1 := S2.out.f1
      clear g1 g2'
      go_wp2_with fail
      refine bodyPost_ret (v := .agg #[.bool false, .slice a2 (dig k).length cap2]) (by simp [results, Try.results29, go_sem, s0, s1]) rfl ⟨_, rfl, ?_, ?_⟩
      · exact (HG2.out.own (p := ⟨w.heap.size, 0, none⟩) (by simp) _).own (p := ⟨w.heap.size, 1, none⟩) (by simp) _
      · refine Own.low (base := w1.heap.size) (ownsRow_setCell_other (ownsRow_setCell_other HO2.out (fun e => ?_) _) (fun e => ?_) _) (by omega)
        · have := (HO2.out.lt w.heap.size e).1; omega
        · have := (HO2.out.lt w.heap.size e).1; omega
end Go.Proofs.Ytafcffnpobdhgaa
