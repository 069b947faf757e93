/- Proved: what the model answers, as functions of the numbers: the whole number of a word. -/
import Derived.Test.YtdpcahphbjdhaaaExpA
import Derived.Test.YtdpcahphbjdhaaaLawB
namespace Go.Proofs.Ytdpcahphbjdhaaa
open Go.ChangeShapes Go.WideShapes Go.ChangeAt Go.RowKit
open M2
set_option linter.unusedVariables false
set_option linter.unusedSimpArgs false
theorem told_word (z : Int) (h0 : -9223372036854775808 ≤ z) (h1 : z ≤ 9223372036854775807) : (dg z).length ≤ 40 := by
  refine Nat.le_trans (dg_len (k := 3) ?_) (by omega)
  unfold LB
  omega
set_option maxHeartbeats 8000000 in
theorem spec_of (z : Int) (w : World) (h0 : -9223372036854775808 ≤ z) (h1 : z ≤ 9223372036854775807) :
    Calls Try.prog 26 #[.int .i64 z] w fun e w' => ∃ v', e = .returned (.agg #[.bool (ng z), v']) ∧ Old w w' ∧ Own w' w.heap.size v' (toI (dg z)) := by
  have h40 := told_word z h0 h1
  go_enter Try.func26, Try.ntmps26
  go_wp2_with fail
  refine (int_any z _ h0 h1).mono ?_
  rintro e w1 ⟨v1, rfl, g1, o1⟩
  obtain ⟨a1, cap1, rfl⟩ := (Own.row o1).sliceN
  have S1 : Hid (St w1 w.heap.size (.bool false) (.slice none 0 0) 25) := (St.new w _ _ _).old g1
  have HG1 : Hid (Old w w1) := Old.trans ((Old.refl w).alloc _) g1
  have HR1 : Hid (Row w1 (.slice a1 (dg z).length cap1) (toI (dg z))) := Own.row o1
  clear g1 o1
  go_wp2_with fail
  refine (out_any (ng z) (dg z) _ _ HR1.out h40).mono ?_
  rintro e w2 ⟨v2, rfl, g2, o2⟩
  obtain ⟨a2, cap2, rfl⟩ := (Own.row o2).sliceN
  have S2 : Hid (St (w2.alloc (.cells #[.bool (ng z), .slice a2 (dg z).length cap2] 25)) w.heap.size (.bool false) (.slice none 0 0) 25) := (S1.out.old g2).old ((Old.refl _).alloc _)
  have HG2 : Hid (Old w w2) := Old.trans HG1.out g2
  have HO2 : Hid (Own w2 (w.heap.size + 1) (.slice a2 (dg z).length cap2) (toI (dg z))) := Own.low o2 (by have := S1.out.lt; omega)
  have q0 := S2.out.c0
  have q1 := S2.out.c1
  have f0 := S2.out.f0
  have f1 := S2.out.f1
  clear g2 o2 S1 S2 HG1 HR1
  go_wp2_with fail
  refine bodyPost_ret (v := .agg #[.bool (ng z), .slice a2 (dg z).length cap2]) (by simp [results, Try.results26, go_sem, q0, q1]) rfl ⟨_, rfl, ?_, ?_⟩
  · exact ((HG2.out.alloc _).own (p := ⟨w.heap.size, 0, none⟩) (by simp) _).own (p := ⟨w.heap.size, 1, none⟩) (by simp) _
  · refine Own.low (base := w.heap.size + 1) (ownsRow_setCell_other (ownsRow_setCell_other (HO2.out.alloc _) (fun e => ?_) _) (fun e => ?_) _) (by omega)
    · have := (HO2.out.lt w.heap.size e).1; omega
    · have := (HO2.out.lt w.heap.size e).1; omega
end Go.Proofs.Ytdpcahphbjdhaaa
