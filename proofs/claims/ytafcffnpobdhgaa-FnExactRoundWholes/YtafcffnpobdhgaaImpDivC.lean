/- Proved: DivWholes of what is not good, or by what is negative or nothing: it tells so. -/
import Derived.Test.YtafcffnpobdhgaaImpDivB
namespace Go.Proofs.Ytafcffnpobdhgaa
open Go.ChangeShapes Go.WideShapes Go.ChangeAt Go.RowKit
open M2
set_option linter.unusedVariables false
set_option linter.unusedSimpArgs false
theorem own_nilD (w : World) (base : Nat) : Own w base (.slice none 0 0) [] := ⟨rfl, Or.inl ⟨rfl, rfl⟩⟩
set_option maxRecDepth 100000 in
set_option maxHeartbeats 4000000 in
theorem impl_div_no1 (n m : Bool) (xs ys : List Int) (c0 c1 : Option Addr) (cap0 cap1 : Nat) (w : World) (hv : Row w (.slice c0 xs.length cap0) xs) (hu : Row w (.slice c1 ys.length cap1) ys)
    (cga : ∀ W, Row W (.slice c0 xs.length cap0) xs → Calls Try.prog 42 #[.agg #[.bool n, .slice c0 xs.length cap0]] W fun e w' => e = .returned (.bool false) ∧ Old W w')
    : Calls Try.prog 17 #[.agg #[.bool n, .slice c0 xs.length cap0], .agg #[.bool m, .slice c1 ys.length cap1]] w fun e w' => ∃ v1 v2, e = .returned (.tuple #[.agg #[.bool false, v1], .agg #[.bool false, v2], .bool false]) ∧ Old w w' ∧ Own w' w.heap.size v1 [] ∧ Own w' w.heap.size v2 [] := by
  have HV : Hid (Row w (.slice c0 xs.length cap0) xs) := hv
  have HU : Hid (Row w (.slice c1 ys.length cap1) ys) := hu
  have HG0 : Hid (Old w ((((w.alloc (.cells #[.bool n, .slice c0 xs.length cap0] 25)).alloc (.cells #[.bool m, .slice c1 ys.length cap1] 25)).alloc (.cells #[.bool false, .slice none 0 0] 25)).alloc (.cells #[.bool false, .slice none 0 0] 25))) := ((((Old.refl w).alloc _).alloc _).alloc _).alloc _
  have SB0 : Hid (St ((((w.alloc (.cells #[.bool n, .slice c0 xs.length cap0] 25)).alloc (.cells #[.bool m, .slice c1 ys.length cap1] 25)).alloc (.cells #[.bool false, .slice none 0 0] 25)).alloc (.cells #[.bool false, .slice none 0 0] 25)) (w.heap.size + 1) (.bool m) (.slice c1 ys.length cap1) 25) := (St.at2 w _ _ _ _ _ _).old (((Old.refl _).alloc _).alloc _)
  have SC0 : Hid (St ((((w.alloc (.cells #[.bool n, .slice c0 xs.length cap0] 25)).alloc (.cells #[.bool m, .slice c1 ys.length cap1] 25)).alloc (.cells #[.bool false, .slice none 0 0] 25)).alloc (.cells #[.bool false, .slice none 0 0] 25)) (w.heap.size + 1 + 1) (.bool false) (.slice none 0 0) 25) := by
    have h := (St.new ((w.alloc (.cells #[.bool n, .slice c0 xs.length cap0] 25)).alloc (.cells #[.bool m, .slice c1 ys.length cap1] 25)) (.bool false) (.slice none 0 0) 25).old ((Old.refl _).alloc (.cells #[.bool false, .slice none 0 0] 25))
    rw [show ((w.alloc (.cells #[.bool n, .slice c0 xs.length cap0] 25)).alloc (.cells #[.bool m, .slice c1 ys.length cap1] 25)).heap.size = w.heap.size + 1 + 1 by simp] at h
    exact h
  have SD0 : Hid (St ((((w.alloc (.cells #[.bool n, .slice c0 xs.length cap0] 25)).alloc (.cells #[.bool m, .slice c1 ys.length cap1] 25)).alloc (.cells #[.bool false, .slice none 0 0] 25)).alloc (.cells #[.bool false, .slice none 0 0] 25)) (w.heap.size + 1 + 1 + 1) (.bool false) (.slice none 0 0) 25) := by
    have h := St.new (((w.alloc (.cells #[.bool n, .slice c0 xs.length cap0] 25)).alloc (.cells #[.bool m, .slice c1 ys.length cap1] 25)).alloc (.cells #[.bool false, .slice none 0 0] 25)) (.bool false) (.slice none 0 0) 25
    rw [show (((w.alloc (.cells #[.bool n, .slice c0 xs.length cap0] 25)).alloc (.cells #[.bool m, .slice c1 ys.length cap1] 25)).alloc (.cells #[.bool false, .slice none 0 0] 25)).heap.size = w.heap.size + 1 + 1 + 1 by simp] at h
    exact h
  clear hv hu
  go_enter Try.func17, Try.ntmps17
  go_wp2_with fail
  refine (cga _ (HV.out.old HG0.out)).mono ?_
  rintro e w1 ⟨rfl, g1⟩
  have SB1 : Hid (St w1 (w.heap.size + 1) (.bool m) (.slice c1 ys.length cap1) 25) := SB0.out.old g1
  have SC1 : Hid (St w1 (w.heap.size + 1 + 1) (.bool false) (.slice none 0 0) 25) := SC0.out.old g1
  have SD1 : Hid (St w1 (w.heap.size + 1 + 1 + 1) (.bool false) (.slice none 0 0) 25) := SD0.out.old g1
  have HG1 : Hid (Old w w1) := Old.trans HG0.out g1
  clear g1 SB0 SC0 SD0 HG0
  have q0 := SC1.out.c0
  have q1 := SC1.out.c1
  have f0 := SC1.out.f0
  have f1 := SC1.out.f1
  have q2 := SD1.out.c0
  have q3 := SD1.out.c1
  have f2 := SD1.out.f0
  have f3 := SD1.out.f1
  have T4 : Hid (St ((((w1.setCell ⟨w.heap.size + 1 + 1, 0, none⟩ (.bool false)).setCell ⟨w.heap.size + 1 + 1, 1, none⟩ (.slice none 0 0)).setCell ⟨w.heap.size + 1 + 1 + 1, 0, none⟩ (.bool false)).setCell ⟨w.heap.size + 1 + 1 + 1, 1, none⟩ (.slice none 0 0)) (w.heap.size + 1 + 1) (.bool false) (.slice none 0 0) 25) := set_two _ _ (St.set2 SC1.out (.bool false) (.slice none 0 0)) (by omega)
  have T5 : Hid (St ((((w1.setCell ⟨w.heap.size + 1 + 1, 0, none⟩ (.bool false)).setCell ⟨w.heap.size + 1 + 1, 1, none⟩ (.slice none 0 0)).setCell ⟨w.heap.size + 1 + 1 + 1, 0, none⟩ (.bool false)).setCell ⟨w.heap.size + 1 + 1 + 1, 1, none⟩ (.slice none 0 0)) (w.heap.size + 1 + 1 + 1) (.bool false) (.slice none 0 0) 25) := St.set2 (x := .bool false) (y := .slice none 0 0) (set_two _ _ SD1.out (by omega)) (.bool false) (.slice none 0 0)
  have HO : Hid (Old w ((((w1.setCell ⟨w.heap.size + 1 + 1, 0, none⟩ (.bool false)).setCell ⟨w.heap.size + 1 + 1, 1, none⟩ (.slice none 0 0)).setCell ⟨w.heap.size + 1 + 1 + 1, 0, none⟩ (.bool false)).setCell ⟨w.heap.size + 1 + 1 + 1, 1, none⟩ (.slice none 0 0))) := (((HG1.out.own (p := ⟨w.heap.size + 1 + 1, 0, none⟩) (by simp; omega) _).own (p := ⟨w.heap.size + 1 + 1, 1, none⟩) (by simp; omega) _).own (p := ⟨w.heap.size + 1 + 1 + 1, 0, none⟩) (by simp; omega) _).own (p := ⟨w.heap.size + 1 + 1 + 1, 1, none⟩) (by simp; omega) _
  go_wp2_with fail
  exact bodyPost_ret (ret_three Try.results17 _ _ rfl rfl rfl T4.out T5.out) rfl ⟨_, _, rfl, HO.out, own_nilD _ _, own_nilD _ _⟩
set_option maxRecDepth 100000 in
set_option maxHeartbeats 4000000 in
theorem impl_div_no2 (n m : Bool) (xs ys : List Int) (c0 c1 : Option Addr) (cap0 cap1 : Nat) (w : World) (hv : Row w (.slice c0 xs.length cap0) xs) (hu : Row w (.slice c1 ys.length cap1) ys)
    (cga : ∀ W, Row W (.slice c0 xs.length cap0) xs → Calls Try.prog 42 #[.agg #[.bool n, .slice c0 xs.length cap0]] W fun e w' => e = .returned (.bool true) ∧ Old W w')
    (cgb : ∀ W, Row W (.slice c1 ys.length cap1) ys → Calls Try.prog 42 #[.agg #[.bool m, .slice c1 ys.length cap1]] W fun e w' => e = .returned (.bool false) ∧ Old W w')
    : Calls Try.prog 17 #[.agg #[.bool n, .slice c0 xs.length cap0], .agg #[.bool m, .slice c1 ys.length cap1]] w fun e w' => ∃ v1 v2, e = .returned (.tuple #[.agg #[.bool false, v1], .agg #[.bool false, v2], .bool false]) ∧ Old w w' ∧ Own w' w.heap.size v1 [] ∧ Own w' w.heap.size v2 [] := by
  have HV : Hid (Row w (.slice c0 xs.length cap0) xs) := hv
  have HU : Hid (Row w (.slice c1 ys.length cap1) ys) := hu
  have HG0 : Hid (Old w ((((w.alloc (.cells #[.bool n, .slice c0 xs.length cap0] 25)).alloc (.cells #[.bool m, .slice c1 ys.length cap1] 25)).alloc (.cells #[.bool false, .slice none 0 0] 25)).alloc (.cells #[.bool false, .slice none 0 0] 25))) := ((((Old.refl w).alloc _).alloc _).alloc _).alloc _
  have SB0 : Hid (St ((((w.alloc (.cells #[.bool n, .slice c0 xs.length cap0] 25)).alloc (.cells #[.bool m, .slice c1 ys.length cap1] 25)).alloc (.cells #[.bool false, .slice none 0 0] 25)).alloc (.cells #[.bool false, .slice none 0 0] 25)) (w.heap.size + 1) (.bool m) (.slice c1 ys.length cap1) 25) := (St.at2 w _ _ _ _ _ _).old (((Old.refl _).alloc _).alloc _)
  have SC0 : Hid (St ((((w.alloc (.cells #[.bool n, .slice c0 xs.length cap0] 25)).alloc (.cells #[.bool m, .slice c1 ys.length cap1] 25)).alloc (.cells #[.bool false, .slice none 0 0] 25)).alloc (.cells #[.bool false, .slice none 0 0] 25)) (w.heap.size + 1 + 1) (.bool false) (.slice none 0 0) 25) := by
    have h := (St.new ((w.alloc (.cells #[.bool n, .slice c0 xs.length cap0] 25)).alloc (.cells #[.bool m, .slice c1 ys.length cap1] 25)) (.bool false) (.slice none 0 0) 25).old ((Old.refl _).alloc (.cells #[.bool false, .slice none 0 0] 25))
    rw [show ((w.alloc (.cells #[.bool n, .slice c0 xs.length cap0] 25)).alloc (.cells #[.bool m, .slice c1 ys.length cap1] 25)).heap.size = w.heap.size + 1 + 1 by simp] at h
    exact h
  have SD0 : Hid (St ((((w.alloc (.cells #[.bool n, .slice c0 xs.length cap0] 25)).alloc (.cells #[.bool m, .slice c1 ys.length cap1] 25)).alloc (.cells #[.bool false, .slice none 0 0] 25)).alloc (.cells #[.bool false, .slice none 0 0] 25)) (w.heap.size + 1 + 1 + 1) (.bool false) (.slice none 0 0) 25) := by
    have h := St.new (((w.alloc (.cells #[.bool n, .slice c0 xs.length cap0] 25)).alloc (.cells #[.bool m, .slice c1 ys.length cap1] 25)).alloc (.cells #[.bool false, .slice none 0 0] 25)) (.bool false) (.slice none 0 0) 25
    rw [show (((w.alloc (.cells #[.bool n, .slice c0 xs.length cap0] 25)).alloc (.cells #[.bool m, .slice c1 ys.length cap1] 25)).alloc (.cells #[.bool false, .slice none 0 0] 25)).heap.size = w.heap.size + 1 + 1 + 1 by simp] at h
    exact h
  clear hv hu
  go_enter Try.func17, Try.ntmps17
  go_wp2_with fail
  refine (cga _ (HV.out.old HG0.out)).mono ?_
  rintro e w1 ⟨rfl, g1⟩
  have SB1 : Hid (St w1 (w.heap.size + 1) (.bool m) (.slice c1 ys.length cap1) 25) := SB0.out.old g1
  have SC1 : Hid (St w1 (w.heap.size + 1 + 1) (.bool false) (.slice none 0 0) 25) := SC0.out.old g1
  have SD1 : Hid (St w1 (w.heap.size + 1 + 1 + 1) (.bool false) (.slice none 0 0) 25) := SD0.out.old g1
  have HG1 : Hid (Old w w1) := Old.trans HG0.out g1
  clear g1 SB0 SC0 SD0 HG0
  have b0 := SB1.out.c0
  have b1 := SB1.out.c1
  go_wp2_with fail
  refine (cgb _ (HU.out.old HG1.out)).mono ?_
  rintro e w2 ⟨rfl, g2⟩
  clear b0 b1
  have SB2 : Hid (St w2 (w.heap.size + 1) (.bool m) (.slice c1 ys.length cap1) 25) := SB1.out.old g2
  have SC2 : Hid (St w2 (w.heap.size + 1 + 1) (.bool false) (.slice none 0 0) 25) := SC1.out.old g2
  have SD2 : Hid (St w2 (w.heap.size + 1 + 1 + 1) (.bool false) (.slice none 0 0) 25) := SD1.out.old g2
  have HG2 : Hid (Old w w2) := Old.trans HG1.out g2
  have b0 := SB2.out.c0
  have b1 := SB2.out.c1
  clear g2 SB1 SC1 SD1 HG1 cga cgb
  have q0 := SC2.out.c0
  have q1 := SC2.out.c1
  have f0 := SC2.out.f0
  have f1 := SC2.out.f1
  have q2 := SD2.out.c0
  have q3 := SD2.out.c1
  have f2 := SD2.out.f0
  have f3 := SD2.out.f1
  have T4 : Hid (St ((((w2.setCell ⟨w.heap.size + 1 + 1, 0, none⟩ (.bool false)).setCell ⟨w.heap.size + 1 + 1, 1, none⟩ (.slice none 0 0)).setCell ⟨w.heap.size + 1 + 1 + 1, 0, none⟩ (.bool false)).setCell ⟨w.heap.size + 1 + 1 + 1, 1, none⟩ (.slice none 0 0)) (w.heap.size + 1 + 1) (.bool false) (.slice none 0 0) 25) := set_two _ _ (St.set2 SC2.out (.bool false) (.slice none 0 0)) (by omega)
  have T5 : Hid (St ((((w2.setCell ⟨w.heap.size + 1 + 1, 0, none⟩ (.bool false)).setCell ⟨w.heap.size + 1 + 1, 1, none⟩ (.slice none 0 0)).setCell ⟨w.heap.size + 1 + 1 + 1, 0, none⟩ (.bool false)).setCell ⟨w.heap.size + 1 + 1 + 1, 1, none⟩ (.slice none 0 0)) (w.heap.size + 1 + 1 + 1) (.bool false) (.slice none 0 0) 25) := St.set2 (x := .bool false) (y := .slice none 0 0) (set_two _ _ SD2.out (by omega)) (.bool false) (.slice none 0 0)
  have HO : Hid (Old w ((((w2.setCell ⟨w.heap.size + 1 + 1, 0, none⟩ (.bool false)).setCell ⟨w.heap.size + 1 + 1, 1, none⟩ (.slice none 0 0)).setCell ⟨w.heap.size + 1 + 1 + 1, 0, none⟩ (.bool false)).setCell ⟨w.heap.size + 1 + 1 + 1, 1, none⟩ (.slice none 0 0))) := (((HG2.out.own (p := ⟨w.heap.size + 1 + 1, 0, none⟩) (by simp; omega) _).own (p := ⟨w.heap.size + 1 + 1, 1, none⟩) (by simp; omega) _).own (p := ⟨w.heap.size + 1 + 1 + 1, 0, none⟩) (by simp; omega) _).own (p := ⟨w.heap.size + 1 + 1 + 1, 1, none⟩) (by simp; omega) _
  go_wp2_with fail
  exact bodyPost_ret (ret_three Try.results17 _ _ rfl rfl rfl T4.out T5.out) rfl ⟨_, _, rfl, HO.out, own_nilD _ _, own_nilD _ _⟩
set_option maxRecDepth 100000 in
set_option maxHeartbeats 4000000 in
theorem impl_div_neg (n : Bool) (xs ys : List Int) (c0 c1 : Option Addr) (cap0 cap1 : Nat) (w : World) (hv : Row w (.slice c0 xs.length cap0) xs) (hu : Row w (.slice c1 ys.length cap1) ys)
    (cga : ∀ W, Row W (.slice c0 xs.length cap0) xs → Calls Try.prog 42 #[.agg #[.bool n, .slice c0 xs.length cap0]] W fun e w' => e = .returned (.bool true) ∧ Old W w')
    (cgb : ∀ W, Row W (.slice c1 ys.length cap1) ys → Calls Try.prog 42 #[.agg #[.bool true, .slice c1 ys.length cap1]] W fun e w' => e = .returned (.bool true) ∧ Old W w')
    : Calls Try.prog 17 #[.agg #[.bool n, .slice c0 xs.length cap0], .agg #[.bool true, .slice c1 ys.length cap1]] w fun e w' => ∃ v1 v2, e = .returned (.tuple #[.agg #[.bool false, v1], .agg #[.bool false, v2], .bool false]) ∧ Old w w' ∧ Own w' w.heap.size v1 [] ∧ Own w' w.heap.size v2 [] := by
  have HV : Hid (Row w (.slice c0 xs.length cap0) xs) := hv
  have HU : Hid (Row w (.slice c1 ys.length cap1) ys) := hu
  have HG0 : Hid (Old w ((((w.alloc (.cells #[.bool n, .slice c0 xs.length cap0] 25)).alloc (.cells #[.bool true, .slice c1 ys.length cap1] 25)).alloc (.cells #[.bool false, .slice none 0 0] 25)).alloc (.cells #[.bool false, .slice none 0 0] 25))) := ((((Old.refl w).alloc _).alloc _).alloc _).alloc _
  have SB0 : Hid (St ((((w.alloc (.cells #[.bool n, .slice c0 xs.length cap0] 25)).alloc (.cells #[.bool true, .slice c1 ys.length cap1] 25)).alloc (.cells #[.bool false, .slice none 0 0] 25)).alloc (.cells #[.bool false, .slice none 0 0] 25)) (w.heap.size + 1) (.bool true) (.slice c1 ys.length cap1) 25) := (St.at2 w _ _ _ _ _ _).old (((Old.refl _).alloc _).alloc _)
  have SC0 : Hid (St ((((w.alloc (.cells #[.bool n, .slice c0 xs.length cap0] 25)).alloc (.cells #[.bool true, .slice c1 ys.length cap1] 25)).alloc (.cells #[.bool false, .slice none 0 0] 25)).alloc (.cells #[.bool false, .slice none 0 0] 25)) (w.heap.size + 1 + 1) (.bool false) (.slice none 0 0) 25) := by
    have h := (St.new ((w.alloc (.cells #[.bool n, .slice c0 xs.length cap0] 25)).alloc (.cells #[.bool true, .slice c1 ys.length cap1] 25)) (.bool false) (.slice none 0 0) 25).old ((Old.refl _).alloc (.cells #[.bool false, .slice none 0 0] 25))
    rw [show ((w.alloc (.cells #[.bool n, .slice c0 xs.length cap0] 25)).alloc (.cells #[.bool true, .slice c1 ys.length cap1] 25)).heap.size = w.heap.size + 1 + 1 by simp] at h
    exact h
  have SD0 : Hid (St ((((w.alloc (.cells #[.bool n, .slice c0 xs.length cap0] 25)).alloc (.cells #[.bool true, .slice c1 ys.length cap1] 25)).alloc (.cells #[.bool false, .slice none 0 0] 25)).alloc (.cells #[.bool false, .slice none 0 0] 25)) (w.heap.size + 1 + 1 + 1) (.bool false) (.slice none 0 0) 25) := by
    have h := St.new (((w.alloc (.cells #[.bool n, .slice c0 xs.length cap0] 25)).alloc (.cells #[.bool true, .slice c1 ys.length cap1] 25)).alloc (.cells #[.bool false, .slice none 0 0] 25)) (.bool false) (.slice none 0 0) 25
    rw [show (((w.alloc (.cells #[.bool n, .slice c0 xs.length cap0] 25)).alloc (.cells #[.bool true, .slice c1 ys.length cap1] 25)).alloc (.cells #[.bool false, .slice none 0 0] 25)).heap.size = w.heap.size + 1 + 1 + 1 by simp] at h
    exact h
  clear hv hu
  go_enter Try.func17, Try.ntmps17
  go_wp2_with fail
  refine (cga _ (HV.out.old HG0.out)).mono ?_
  rintro e w1 ⟨rfl, g1⟩
  have SB1 : Hid (St w1 (w.heap.size + 1) (.bool true) (.slice c1 ys.length cap1) 25) := SB0.out.old g1
  have SC1 : Hid (St w1 (w.heap.size + 1 + 1) (.bool false) (.slice none 0 0) 25) := SC0.out.old g1
  have SD1 : Hid (St w1 (w.heap.size + 1 + 1 + 1) (.bool false) (.slice none 0 0) 25) := SD0.out.old g1
  have HG1 : Hid (Old w w1) := Old.trans HG0.out g1
  clear g1 SB0 SC0 SD0 HG0
  have b0 := SB1.out.c0
  have b1 := SB1.out.c1
  go_wp2_with fail
  refine (cgb _ (HU.out.old HG1.out)).mono ?_
  rintro e w2 ⟨rfl, g2⟩
  clear b0 b1
  have SB2 : Hid (St w2 (w.heap.size + 1) (.bool true) (.slice c1 ys.length cap1) 25) := SB1.out.old g2
  have SC2 : Hid (St w2 (w.heap.size + 1 + 1) (.bool false) (.slice none 0 0) 25) := SC1.out.old g2
  have SD2 : Hid (St w2 (w.heap.size + 1 + 1 + 1) (.bool false) (.slice none 0 0) 25) := SD1.out.old g2
  have HG2 : Hid (Old w w2) := Old.trans HG1.out g2
  have b0 := SB2.out.c0
  have b1 := SB2.out.c1
  clear g2 SB1 SC1 SD1 HG1 cga cgb
  have q0 := SC2.out.c0
  have q1 := SC2.out.c1
  have f0 := SC2.out.f0
  have f1 := SC2.out.f1
  have q2 := SD2.out.c0
  have q3 := SD2.out.c1
  have f2 := SD2.out.f0
  have f3 := SD2.out.f1
  have T4 : Hid (St ((((w2.setCell ⟨w.heap.size + 1 + 1, 0, none⟩ (.bool false)).setCell ⟨w.heap.size + 1 + 1, 1, none⟩ (.slice none 0 0)).setCell ⟨w.heap.size + 1 + 1 + 1, 0, none⟩ (.bool false)).setCell ⟨w.heap.size + 1 + 1 + 1, 1, none⟩ (.slice none 0 0)) (w.heap.size + 1 + 1) (.bool false) (.slice none 0 0) 25) := set_two _ _ (St.set2 SC2.out (.bool false) (.slice none 0 0)) (by omega)
  have T5 : Hid (St ((((w2.setCell ⟨w.heap.size + 1 + 1, 0, none⟩ (.bool false)).setCell ⟨w.heap.size + 1 + 1, 1, none⟩ (.slice none 0 0)).setCell ⟨w.heap.size + 1 + 1 + 1, 0, none⟩ (.bool false)).setCell ⟨w.heap.size + 1 + 1 + 1, 1, none⟩ (.slice none 0 0)) (w.heap.size + 1 + 1 + 1) (.bool false) (.slice none 0 0) 25) := St.set2 (x := .bool false) (y := .slice none 0 0) (set_two _ _ SD2.out (by omega)) (.bool false) (.slice none 0 0)
  have HO : Hid (Old w ((((w2.setCell ⟨w.heap.size + 1 + 1, 0, none⟩ (.bool false)).setCell ⟨w.heap.size + 1 + 1, 1, none⟩ (.slice none 0 0)).setCell ⟨w.heap.size + 1 + 1 + 1, 0, none⟩ (.bool false)).setCell ⟨w.heap.size + 1 + 1 + 1, 1, none⟩ (.slice none 0 0))) := (((HG2.out.own (p := ⟨w.heap.size + 1 + 1, 0, none⟩) (by simp; omega) _).own (p := ⟨w.heap.size + 1 + 1, 1, none⟩) (by simp; omega) _).own (p := ⟨w.heap.size + 1 + 1 + 1, 0, none⟩) (by simp; omega) _).own (p := ⟨w.heap.size + 1 + 1 + 1, 1, none⟩) (by simp; omega) _
  go_wp2_with fail
  exact bodyPost_ret (ret_three Try.results17 _ _ rfl rfl rfl T4.out T5.out) rfl ⟨_, _, rfl, HO.out, own_nilD _ _, own_nilD _ _⟩
set_option maxRecDepth 100000 in
set_option maxHeartbeats 4000000 in
theorem impl_div_nil (n : Bool) (xs ys : List Int) (c0 c1 : Option Addr) (cap0 cap1 : Nat) (w : World) (hv : Row w (.slice c0 xs.length cap0) xs) (hu : Row w (.slice c1 ys.length cap1) ys)
    (cga : ∀ W, Row W (.slice c0 xs.length cap0) xs → Calls Try.prog 42 #[.agg #[.bool n, .slice c0 xs.length cap0]] W fun e w' => e = .returned (.bool true) ∧ Old W w')
    (cgb : ∀ W, Row W (.slice c1 ys.length cap1) ys → Calls Try.prog 42 #[.agg #[.bool false, .slice c1 ys.length cap1]] W fun e w' => e = .returned (.bool true) ∧ Old W w')
    (h0 : ys.length = 0)
    : Calls Try.prog 17 #[.agg #[.bool n, .slice c0 xs.length cap0], .agg #[.bool false, .slice c1 ys.length cap1]] w fun e w' => ∃ v1 v2, e = .returned (.tuple #[.agg #[.bool false, v1], .agg #[.bool false, v2], .bool false]) ∧ Old w w' ∧ Own w' w.heap.size v1 [] ∧ Own w' w.heap.size v2 [] := by
  have HV : Hid (Row w (.slice c0 xs.length cap0) xs) := hv
  have HU : Hid (Row w (.slice c1 ys.length cap1) ys) := hu
  have HG0 : Hid (Old w ((((w.alloc (.cells #[.bool n, .slice c0 xs.length cap0] 25)).alloc (.cells #[.bool false, .slice c1 ys.length cap1] 25)).alloc (.cells #[.bool false, .slice none 0 0] 25)).alloc (.cells #[.bool false, .slice none 0 0] 25))) := ((((Old.refl w).alloc _).alloc _).alloc _).alloc _
  have SB0 : Hid (St ((((w.alloc (.cells #[.bool n, .slice c0 xs.length cap0] 25)).alloc (.cells #[.bool false, .slice c1 ys.length cap1] 25)).alloc (.cells #[.bool false, .slice none 0 0] 25)).alloc (.cells #[.bool false, .slice none 0 0] 25)) (w.heap.size + 1) (.bool false) (.slice c1 ys.length cap1) 25) := (St.at2 w _ _ _ _ _ _).old (((Old.refl _).alloc _).alloc _)
  have SC0 : Hid (St ((((w.alloc (.cells #[.bool n, .slice c0 xs.length cap0] 25)).alloc (.cells #[.bool false, .slice c1 ys.length cap1] 25)).alloc (.cells #[.bool false, .slice none 0 0] 25)).alloc (.cells #[.bool false, .slice none 0 0] 25)) (w.heap.size + 1 + 1) (.bool false) (.slice none 0 0) 25) := by
    have h := (St.new ((w.alloc (.cells #[.bool n, .slice c0 xs.length cap0] 25)).alloc (.cells #[.bool false, .slice c1 ys.length cap1] 25)) (.bool false) (.slice none 0 0) 25).old ((Old.refl _).alloc (.cells #[.bool false, .slice none 0 0] 25))
    rw [show ((w.alloc (.cells #[.bool n, .slice c0 xs.length cap0] 25)).alloc (.cells #[.bool false, .slice c1 ys.length cap1] 25)).heap.size = w.heap.size + 1 + 1 by simp] at h
    exact h
  have SD0 : Hid (St ((((w.alloc (.cells #[.bool n, .slice c0 xs.length cap0] 25)).alloc (.cells #[.bool false, .slice c1 ys.length cap1] 25)).alloc (.cells #[.bool false, .slice none 0 0] 25)).alloc (.cells #[.bool false, .slice none 0 0] 25)) (w.heap.size + 1 + 1 + 1) (.bool false) (.slice none 0 0) 25) := by
    have h := St.new (((w.alloc (.cells #[.bool n, .slice c0 xs.length cap0] 25)).alloc (.cells #[.bool false, .slice c1 ys.length cap1] 25)).alloc (.cells #[.bool false, .slice none 0 0] 25)) (.bool false) (.slice none 0 0) 25
    rw [show (((w.alloc (.cells #[.bool n, .slice c0 xs.length cap0] 25)).alloc (.cells #[.bool false, .slice c1 ys.length cap1] 25)).alloc (.cells #[.bool false, .slice none 0 0] 25)).heap.size = w.heap.size + 1 + 1 + 1 by simp] at h
    exact h
  have HB0 : Hid ((ys.length : Int) = 0) := by show (ys.length : Int) = 0; omega
  clear h0
  clear hv hu
  go_enter Try.func17, Try.ntmps17
  go_wp2_with fail
  refine (cga _ (HV.out.old HG0.out)).mono ?_
  rintro e w1 ⟨rfl, g1⟩
  have SB1 : Hid (St w1 (w.heap.size + 1) (.bool false) (.slice c1 ys.length cap1) 25) := SB0.out.old g1
  have SC1 : Hid (St w1 (w.heap.size + 1 + 1) (.bool false) (.slice none 0 0) 25) := SC0.out.old g1
  have SD1 : Hid (St w1 (w.heap.size + 1 + 1 + 1) (.bool false) (.slice none 0 0) 25) := SD0.out.old g1
  have HG1 : Hid (Old w w1) := Old.trans HG0.out g1
  clear g1 SB0 SC0 SD0 HG0
  have b0 := SB1.out.c0
  have b1 := SB1.out.c1
  go_wp2_with fail
  refine (cgb _ (HU.out.old HG1.out)).mono ?_
  rintro e w2 ⟨rfl, g2⟩
  clear b0 b1
  have SB2 : Hid (St w2 (w.heap.size + 1) (.bool false) (.slice c1 ys.length cap1) 25) := SB1.out.old g2
  have SC2 : Hid (St w2 (w.heap.size + 1 + 1) (.bool false) (.slice none 0 0) 25) := SC1.out.old g2
  have SD2 : Hid (St w2 (w.heap.size + 1 + 1 + 1) (.bool false) (.slice none 0 0) 25) := SD1.out.old g2
  have HG2 : Hid (Old w w2) := Old.trans HG1.out g2
  have b0 := SB2.out.c0
  have b1 := SB2.out.c1
  clear g2 SB1 SC1 SD1 HG1 cga cgb
  have hb0 := HB0.out
  have q0 := SC2.out.c0
  have q1 := SC2.out.c1
  have f0 := SC2.out.f0
  have f1 := SC2.out.f1
  have q2 := SD2.out.c0
  have q3 := SD2.out.c1
  have f2 := SD2.out.f0
  have f3 := SD2.out.f1
  have T4 : Hid (St ((((w2.setCell ⟨w.heap.size + 1 + 1, 0, none⟩ (.bool false)).setCell ⟨w.heap.size + 1 + 1, 1, none⟩ (.slice none 0 0)).setCell ⟨w.heap.size + 1 + 1 + 1, 0, none⟩ (.bool false)).setCell ⟨w.heap.size + 1 + 1 + 1, 1, none⟩ (.slice none 0 0)) (w.heap.size + 1 + 1) (.bool false) (.slice none 0 0) 25) := set_two _ _ (St.set2 SC2.out (.bool false) (.slice none 0 0)) (by omega)
  have T5 : Hid (St ((((w2.setCell ⟨w.heap.size + 1 + 1, 0, none⟩ (.bool false)).setCell ⟨w.heap.size + 1 + 1, 1, none⟩ (.slice none 0 0)).setCell ⟨w.heap.size + 1 + 1 + 1, 0, none⟩ (.bool false)).setCell ⟨w.heap.size + 1 + 1 + 1, 1, none⟩ (.slice none 0 0)) (w.heap.size + 1 + 1 + 1) (.bool false) (.slice none 0 0) 25) := St.set2 (x := .bool false) (y := .slice none 0 0) (set_two _ _ SD2.out (by omega)) (.bool false) (.slice none 0 0)
  have HO : Hid (Old w ((((w2.setCell ⟨w.heap.size + 1 + 1, 0, none⟩ (.bool false)).setCell ⟨w.heap.size + 1 + 1, 1, none⟩ (.slice none 0 0)).setCell ⟨w.heap.size + 1 + 1 + 1, 0, none⟩ (.bool false)).setCell ⟨w.heap.size + 1 + 1 + 1, 1, none⟩ (.slice none 0 0))) := (((HG2.out.own (p := ⟨w.heap.size + 1 + 1, 0, none⟩) (by simp; omega) _).own (p := ⟨w.heap.size + 1 + 1, 1, none⟩) (by simp; omega) _).own (p := ⟨w.heap.size + 1 + 1 + 1, 0, none⟩) (by simp; omega) _).own (p := ⟨w.heap.size + 1 + 1 + 1, 1, none⟩) (by simp; omega) _
  go_wp2_with fail
  exact bodyPost_ret (ret_three Try.results17 _ _ rfl rfl rfl T4.out T5.out) rfl ⟨_, _, rfl, HO.out, own_nilD _ _, own_nilD _ _⟩
end Go.Proofs.Ytafcffnpobdhgaa
