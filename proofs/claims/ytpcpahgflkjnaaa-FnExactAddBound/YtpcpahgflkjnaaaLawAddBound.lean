/- Proved: the walk of the statement FnExactAddBound, under the contracts of the model's and of the program's function. -/
import Derived.Test.YtpcpahgflkjnaaaHelpW
import Derived.Test.YtpcpahgflkjnaaaLimbs
import Derived.Test.YtpcpahgflkjnaaaLawB
import Derived.Deep.RegionWith
import Derived.Deep.RegionHeld3
import Derived.Deep.DeepCutAuto
import Derived.Test.YtpcpahgflkjnaaaRegAddBound
namespace Go.Proofs.Ytpcpahgflkjnaaa
open Go.ChangeShapes Go.WideShapes Go.ChangeAt Go.RowKit
open M2
set_option linter.unusedVariables false
set_option linter.unusedSimpArgs false
set_option maxRecDepth 100000 in
set_option maxHeartbeats 16000000 in
theorem law_ab (n m : Bool) (xs ys : List Int) (v u : Value) (w : World) (hv : Row w v xs) (hu : Row w u ys) (hlx : xs.length ≤ 9223372036854775807) (hly : ys.length ≤ 9223372036854775807) (R : Bool × List Nat × Bool) (hR : R.2.1.length ≤ 1000)
    (hspec : xs.length ≤ 1048576 → ys.length ≤ 1048576 → ∀ v u W, Row W v xs → Row W u ys → Calls Try.prog 5 #[.agg #[.bool n, v], .agg #[.bool m, u]] W fun e w' => ∃ v', e = .returned (.tuple #[.agg #[.bool R.1, v'], .bool R.2.2]) ∧ Old W w' ∧ Own w' W.heap.size v' (toI R.2.1))
    (himpl : xs.length ≤ 1048576 → ys.length ≤ 1048576 → ∀ v u W, Row W v xs → Row W u ys → Calls Try.prog 7 #[.agg #[.bool n, v], .agg #[.bool m, u]] W fun e w' => ∃ v', e = .returned (.tuple #[.agg #[.bool R.1, v'], .bool R.2.2]) ∧ Old W w' ∧ Own w' W.heap.size v' (toI R.2.1)) :
    Calls Try.prog 3 #[.agg #[.bool n, v], .agg #[.bool m, u]] w fun e w' => e = .returned (.bool true) ∧ Old w w' := by
  have HV : Hid (Row w v xs) := hv
  have HU : Hid (Row w u ys) := hu
  obtain ⟨c0, cap0, rfl⟩ := hv.slice
  obtain ⟨c1, cap1, rfl⟩ := hu.slice
  clear hv hu
  obtain ⟨rb, rl, ro⟩ := R
  simp only at hR hspec himpl
  have HA : Hid (∀ t1 t2 xs1 xs2, Old w ((w.alloc (.cells xs1 t1)).alloc (.cells xs2 t2))) := fun t1 t2 xs1 xs2 => ((Old.refl w).alloc _).alloc _
  by_cases hbig : (1048576 : Int) < (xs.length : Int)
  · clear hspec himpl
    go_enter Try.func3, Try.ntmps3
    go_wp2_with fail
    refine (szWhole_no n c0 xs.length cap0 1048576 _ hlx (by omega) (by omega) hbig).mono ?_
    rintro e w1 ⟨rfl, g1⟩
    have HG1 : Hid (Old w w1) := Old.trans (HA.out _ _ _ _) g1
    clear g1
    go_wp2_with fail
    go_ret
    exact ⟨rfl, HG1.out⟩
  · have hx2 : xs.length ≤ 1048576 := by omega
    have dl : decide ((1048576 : Int) - (xs.length : Int) < 0) = false := decide_eq_false (by omega)
    by_cases hbig2 : (1048576 : Int) - (xs.length : Int) < (ys.length : Int)
    · clear hspec himpl
      go_enter Try.func3, Try.ntmps3
      go_wp2_with fail
      refine (szWhole_yes n c0 xs.length cap0 1048576 _ hlx (by omega) (by omega) (by omega)).mono ?_
      rintro e w1 ⟨rfl, g1⟩
      have s1 := (StW.at1 w (.bool n) (.slice c0 xs.length cap0) (.bool m) (.slice c1 ys.length cap1) 24 24).old g1
      have s2 := (StW.at2 w (.bool n) (.slice c0 xs.length cap0) (.bool m) (.slice c1 ys.length cap1) 24 24).old g1
      have b0 := s2.c0
      have b1 := s2.c1
      have HG1 : Hid (Old w w1) := Old.trans (HA.out _ _ _ _) g1
      have HS1 : Hid (StW w1 w.heap.size (.bool n) (.slice c0 xs.length cap0) 24 ∧ StW w1 (w.heap.size + 1) (.bool m) (.slice c1 ys.length cap1) 24) := ⟨s1, s2⟩
      clear g1 s1 s2 hbig
      go_wp2_with fail
      refine (szWhole_no m c1 ys.length cap1 (1048576 - (xs.length : Int)) _ hly (by omega) (by omega) hbig2).mono ?_
      rintro e w2 ⟨rfl, g2⟩
      have HG2 : Hid (Old w w2) := Old.trans HG1.out g2
      clear g2
      go_wp2_with fail
      go_ret
      exact ⟨rfl, HG2.out⟩
    · have hy2 : ys.length ≤ 1048576 := by omega
      have SP : Hid (∀ v u W, Row W v xs → Row W u ys → Calls Try.prog 5 #[.agg #[.bool n, v], .agg #[.bool m, u]] W fun e w' => ∃ v', e = .returned (.tuple #[.agg #[.bool rb, v'], .bool ro]) ∧ Old W w' ∧ Own w' W.heap.size v' (toI rl)) := hspec hx2 hy2
      have IM : Hid (∀ v u W, Row W v xs → Row W u ys → Calls Try.prog 7 #[.agg #[.bool n, v], .agg #[.bool m, u]] W fun e w' => ∃ v', e = .returned (.tuple #[.agg #[.bool rb, v'], .bool ro]) ∧ Old W w' ∧ Own w' W.heap.size v' (toI rl)) := himpl hx2 hy2
      have dl2 : decide ((1048576 : Int) - (xs.length : Int) - (ys.length : Int) < 0) = false := decide_eq_false (by omega)
      have hrl : (toI rl).length ≤ 1000 := by rw [toI_len]; exact hR
      have dro : (ro != ro) = false := by simp
      clear hspec himpl hR
      go_enter Try.func3, Try.ntmps3
      go_wp2_with fail
      refine (szWhole_yes n c0 xs.length cap0 1048576 _ hlx (by omega) (by omega) (by omega)).mono ?_
      rintro e w1 ⟨rfl, g1⟩
      have s1 := (StW.at1 w (.bool n) (.slice c0 xs.length cap0) (.bool m) (.slice c1 ys.length cap1) 24 24).old g1
      have s2 := (StW.at2 w (.bool n) (.slice c0 xs.length cap0) (.bool m) (.slice c1 ys.length cap1) 24 24).old g1
      have b0 := s2.c0
      have b1 := s2.c1
      have HG1 : Hid (Old w w1) := Old.trans (HA.out _ _ _ _) g1
      have HS1 : Hid (StW w1 w.heap.size (.bool n) (.slice c0 xs.length cap0) 24 ∧ StW w1 (w.heap.size + 1) (.bool m) (.slice c1 ys.length cap1) 24) := ⟨s1, s2⟩
      clear g1 s1 s2 hbig
      go_wp2_with fail
      refine (szWhole_yes m c1 ys.length cap1 (1048576 - (xs.length : Int)) _ hly (by omega) (by omega) (by omega)).mono ?_
      rintro e w2 ⟨rfl, g2⟩
      clear b0 b1 hbig2
      have HG_0 : Hid (Old w w2) := Old.trans HG1.out g2
      have A_0 : Hid (StW w2 w.heap.size (.bool n) (.slice c0 xs.length cap0) 24) := HS1.out.1.old g2
      have B_0 : Hid (StW w2 (w.heap.size + 1) (.bool m) (.slice c1 ys.length cap1) 24) := HS1.out.2.old g2
      have hs2 : w.heap.size + 2 ≤ w2.heap.size := by have := B_0.out.lt; omega
      clear g2 HG1 HS1 HA
      have zA0 := A_0.out.c0
      have zA1 := A_0.out.c1
      have zB0 := B_0.out.c0
      have zB1 := B_0.out.c1
      go_upto_region 8 with fail
      go_cut [6, 7] (fun s6 s7 W => ∃ k6 a5 cap5, s6 = .pointer (some ⟨k6, 0, none⟩) ∧ s7 = .bool ro ∧ Made w2 rb rl W k6 a5 cap5)
      case first =>
        have AS : ∀ W', Old w2 W' → (W'.cell? ⟨w.heap.size, 0, none⟩ = some (.bool n) ∧ W'.cell? ⟨w.heap.size, 1, none⟩ = some (.slice c0 xs.length cap0) ∧ W'.cell? ⟨w.heap.size + 1, 0, none⟩ = some (.bool m) ∧ W'.cell? ⟨w.heap.size + 1, 1, none⟩ = some (.slice c1 ys.length cap1)) := fun W' g => ⟨(A_0.out.old g).c0, (A_0.out.old g).c1, (B_0.out.old g).c0, (B_0.out.old g).c1⟩
        have HAS : Hid (∀ W', Old w2 W' → (W'.cell? ⟨w.heap.size, 0, none⟩ = some (.bool n) ∧ W'.cell? ⟨w.heap.size, 1, none⟩ = some (.slice c0 xs.length cap0) ∧ W'.cell? ⟨w.heap.size + 1, 0, none⟩ = some (.bool m) ∧ W'.cell? ⟨w.heap.size + 1, 1, none⟩ = some (.slice c1 ys.length cap1))) := AS
        clear AS
        have tok : True := trivial
        go_region_held3 (fun W' => W'.cell? ⟨w.heap.size, 0, none⟩ = some (.bool n) ∧ W'.cell? ⟨w.heap.size, 1, none⟩ = some (.slice c0 xs.length cap0) ∧ W'.cell? ⟨w.heap.size + 1, 0, none⟩ = some (.bool m) ∧ W'.cell? ⟨w.heap.size + 1, 1, none⟩ = some (.slice c1 ys.length cap1)) (first | exact HAS.out _ (G5.out.alloc _) | exact HAS.out _ (G5.out) | exact HAS.out _ (G4.out.alloc _) | exact HAS.out _ (G4.out) | exact HAS.out _ (G3.out.alloc _) | exact HAS.out _ (G3.out) | exact HAS.out _ ((Below.drew (Old.refl w2)).alloc (Nat.le_refl _) _) | exact HAS.out _ (Below.drew (Old.refl w2)) | exact HAS.out _ (Old.refl w2) | exact HAS.out _ ((G5.out.own (p := ⟨w2.heap.size, 0, none⟩) (by have := G3.out.size; have := G4.out.size; show w2.heap.size ≤ w2.heap.size; omega) _).own (p := ⟨w2.heap.size, 1, none⟩) (by have := G3.out.size; have := G4.out.size; show w2.heap.size ≤ w2.heap.size; omega) _) | exact HAS.out _ ((G5.out.own (p := ⟨w3.heap.size, 0, none⟩) (by have := G3.out.size; have := G4.out.size; show w2.heap.size ≤ w3.heap.size; omega) _).own (p := ⟨w3.heap.size, 1, none⟩) (by have := G3.out.size; have := G4.out.size; show w2.heap.size ≤ w3.heap.size; omega) _) | exact HAS.out _ ((G5.out.own (p := ⟨w4.heap.size, 0, none⟩) (by have := G3.out.size; have := G4.out.size; show w2.heap.size ≤ w4.heap.size; omega) _).own (p := ⟨w4.heap.size, 1, none⟩) (by have := G3.out.size; have := G4.out.size; show w2.heap.size ≤ w4.heap.size; omega) _)) (first
          | (go_at_call 6; have _t := tok; refine (toWhole_any n xs _ _ (HV.out.old (HG_0.out.drewN 1)) hx2).mono ?_; rintro e w3 ⟨v3, rfl, g3, o3⟩; obtain ⟨a3, cap3, rfl⟩ := (Own.row o3).slice; have G3 : Hid (Old w2 w3) := Old.trans ((Old.refl _).drewN 1) g3; have R3 : Hid (Row w3 (.slice a3 xs.length cap3) xs) := Own.row o3; clear tok g3 o3)
          | (go_at_call 6; have _t := tok; refine (toWhole_any n xs _ _ (HV.out.old ((HG_0.out.drewN 1).alloc (.cells #[.bool false, .slice none 0 0] 26))) hx2).mono ?_; rintro e w3 ⟨v3, rfl, g3, o3⟩; obtain ⟨a3, cap3, rfl⟩ := (Own.row o3).slice; have G3 : Hid (Old w2 w3) := Old.trans (((Old.refl _).drewN 1).alloc _) g3; have R3 : Hid (Row w3 (.slice a3 xs.length cap3) xs) := Own.row o3; have KA : Hid (StW w3 w2.heap.size (.bool false) (.slice none 0 0) 26) := StW.old (w := ((w2.drewN 1).alloc (.cells #[.bool false, .slice none 0 0] 26))) (StW.new (w2.drewN 1) _ _ _) g3; have k0_ := KA.out.c0; have k1_ := KA.out.c1; have l0_ := KA.out.f0; have l1_ := KA.out.f1; clear tok g3 o3)
          | (go_at_call 6; refine (toWhole_any m ys _ _ (HU.out.old (Old.trans HG_0.out G3.out)) hy2).mono ?_; rintro e w4 ⟨v4, rfl, g4, o4⟩; obtain ⟨a4, cap4, rfl⟩ := (Own.row o4).slice; have G4 : Hid (Old w2 w4) := Old.trans G3.out g4; have R4 : Hid (Row w4 (.slice a3 xs.length cap3) xs) := R3.out.old g4; have Q4 : Hid (Row w4 (.slice a4 ys.length cap4) ys) := Own.row o4; have KB : Hid (StW w4 w2.heap.size (.bool false) (.slice none 0 0) 26) := KA.out.old g4; have hlt_ : Hid (w2.heap.size < w4.heap.size) := KB.out.lt; have k0_ := KB.out.c0; have k1_ := KB.out.c1; have l0_ := KB.out.f0; have l1_ := KB.out.f1; clear g4 o4)
          | (go_at_call 6; refine (toWhole_any m ys _ _ (HU.out.old (Old.trans HG_0.out G3.out)) hy2).mono ?_; rintro e w4 ⟨v4, rfl, g4, o4⟩; obtain ⟨a4, cap4, rfl⟩ := (Own.row o4).slice; have G4 : Hid (Old w2 w4) := Old.trans G3.out g4; have R4 : Hid (Row w4 (.slice a3 xs.length cap3) xs) := R3.out.old g4; have Q4 : Hid (Row w4 (.slice a4 ys.length cap4) ys) := Own.row o4; clear g4 o4)
          | (go_at_call 6; refine (toWhole_any m ys _ _ (HU.out.old ((Old.trans HG_0.out G3.out).alloc (.cells #[.bool false, .slice none 0 0] 26))) hy2).mono ?_; rintro e w4 ⟨v4, rfl, g4, o4⟩; obtain ⟨a4, cap4, rfl⟩ := (Own.row o4).slice; have G4 : Hid (Old w2 w4) := Old.trans G3.out (Old.trans ((Old.refl _).alloc _) g4); have R4 : Hid (Row w4 (.slice a3 xs.length cap3) xs) := R3.out.old (Old.trans ((Old.refl _).alloc _) g4); have Q4 : Hid (Row w4 (.slice a4 ys.length cap4) ys) := Own.row o4; have KC_ : Hid (StW w4 w3.heap.size (.bool false) (.slice none 0 0) 26) := StW.old (w := (w3.alloc (.cells #[.bool false, .slice none 0 0] 26))) (StW.new w3 _ _ _) g4; have hlt_ : Hid (w3.heap.size < w4.heap.size) := KC_.out.lt; have k0_ := KC_.out.c0; have k1_ := KC_.out.c1; have l0_ := KC_.out.f0; have l1_ := KC_.out.f1; clear g4 o4)
          | (go_at_call 5; refine (SP.out _ _ _ R4.out Q4.out).mono ?_; rintro e w5 ⟨v5, rfl, g5, o5⟩; obtain ⟨a5, cap5, rfl⟩ := (Own.row o5).slice; have G5 : Hid (Old w2 w5) := Old.trans G4.out g5; have O5 : Hid (Own w5 w4.heap.size (.slice a5 (toI rl).length cap5) (toI rl)) := o5; have KD : Hid (StW w5 w2.heap.size (.bool false) (.slice none 0 0) 26) := KB.out.old g5; have k0_ := KD.out.c0; have k1_ := KD.out.c1; have l0_ := KD.out.f0; have l1_ := KD.out.f1; clear g5 o5)
          | (go_at_call 5; refine (SP.out _ _ _ R4.out Q4.out).mono ?_; rintro e w5 ⟨v5, rfl, g5, o5⟩; obtain ⟨a5, cap5, rfl⟩ := (Own.row o5).slice; have G5 : Hid (Old w2 w5) := Old.trans G4.out g5; have O5 : Hid (Own w5 w4.heap.size (.slice a5 (toI rl).length cap5) (toI rl)) := o5; have KE : Hid (StW w5 w3.heap.size (.bool false) (.slice none 0 0) 26) := KC_.out.old g5; have k0_ := KE.out.c0; have k1_ := KE.out.c1; have l0_ := KE.out.f0; have l1_ := KE.out.f1; clear g5 o5)
          | (go_at_call 5; refine (SP.out _ _ _ R4.out Q4.out).mono ?_; rintro e w5 ⟨v5, rfl, g5, o5⟩; obtain ⟨a5, cap5, rfl⟩ := (Own.row o5).slice; have G5 : Hid (Old w2 w5) := Old.trans G4.out g5; have O5 : Hid (Own w5 w4.heap.size (.slice a5 (toI rl).length cap5) (toI rl)) := o5; clear g5 o5)
          | (go_at_call 5; refine (SP.out _ _ _ (R4.out.old ((Old.refl _).alloc (.cells #[.bool false, .slice none 0 0] 26))) (Q4.out.old ((Old.refl _).alloc (.cells #[.bool false, .slice none 0 0] 26)))).mono ?_; rintro e w5 ⟨v5, rfl, g5, o5⟩; obtain ⟨a5, cap5, rfl⟩ := (Own.row o5).slice; have G5 : Hid (Old w2 w5) := Old.trans G4.out (Old.trans ((Old.refl _).alloc _) g5); have O5 : Hid (Own w5 (w4.heap.size + 1) (.slice a5 (toI rl).length cap5) (toI rl)) := Own.low o5 (by simp); have hlt_ : Hid (w4.heap.size < w4.heap.size + 1) := Nat.lt_succ_self _; have KF : Hid (StW w5 w4.heap.size (.bool false) (.slice none 0 0) 26) := StW.old (w := (w4.alloc (.cells #[.bool false, .slice none 0 0] 26))) (StW.new w4 _ _ _) g5; have k0_ := KF.out.c0; have k1_ := KF.out.c1; have l0_ := KF.out.f0; have l1_ := KF.out.f1; clear g5 o5))
        all_goals (go_wp2_with fail; go_meet; first | (exact ⟨w2.heap.size, a5, cap5, rfl, rfl, two_made G5.out O5.out KD.out (by have := G4.out.size; omega) (by have := G3.out.size; have := G4.out.size; omega) (by have := hlt_.out; omega)⟩) | (exact ⟨w3.heap.size, a5, cap5, rfl, rfl, two_made G5.out O5.out KE.out (by have := G4.out.size; omega) (by have := G3.out.size; have := G4.out.size; omega) (by have := hlt_.out; omega)⟩) | (exact ⟨w4.heap.size, a5, cap5, rfl, rfl, two_made G5.out O5.out KF.out (by have := G4.out.size; omega) (by have := G3.out.size; have := G4.out.size; omega) (by have := hlt_.out; omega)⟩) | (exact ⟨w5.heap.size, a5, cap5, rfl, rfl, two_last G5.out O5.out (by have := G4.out.size; omega)⟩))
      case rest =>
      obtain ⟨k6, a5, cap5, rfl, rfl, MD⟩ := hcut
      clear zA0 zA1 zB0 zB1
      have HG_1 : Hid (Old w wc) := Old.trans HG_0.out (MD.old)
      have A_1 : Hid (StW wc w.heap.size (.bool n) (.slice c0 xs.length cap0) 24) := A_0.out.old (MD.old)
      have B_1 : Hid (StW wc (w.heap.size + 1) (.bool m) (.slice c1 ys.length cap1) 24) := B_0.out.old (MD.old)
      clear HG_0 A_0 B_0
      have C_1 : Hid (StW wc k6 (.bool rb) (.slice a5 (toI rl).length cap5) 26) := MD.st
      have O_1 : Hid (Own wc w2.heap.size (.slice a5 (toI rl).length cap5) (toI rl)) := MD.own
      have hk6 : w2.heap.size ≤ k6 := MD.lo
      have hk6' : k6 < wc.heap.size := MD.st.lt
      have DC : Hid (∀ g, (Value.slice a5 (toI rl).length cap5).ownBlock = some g → w2.heap.size ≤ g ∧ g < wc.heap.size) := fun g hg => MD.own.lt g hg
      clear MD
      have zA0 := A_1.out.c0
      have zA1 := A_1.out.c1
      have zB0 := B_1.out.c0
      have zB1 := B_1.out.c1
      go_wp2_with fail
      refine (toWhole_any n xs _ _ (HV.out.old HG_1.out) hx2).mono ?_
      rintro e w7 ⟨v7, rfl, g7, o7⟩
      obtain ⟨a7, cap7, rfl⟩ := (Own.row o7).slice
      clear zA0 zA1 zB0 zB1
      have hs7 := g7.size
      have HG_2 : Hid (Old w (w7.alloc (.cells #[.bool n, .slice a7 xs.length cap7] 26))) := Old.trans HG_1.out (Old.trans g7 ((Old.refl w7).alloc _))
      have A_2 : Hid (StW (w7.alloc (.cells #[.bool n, .slice a7 xs.length cap7] 26)) w.heap.size (.bool n) (.slice c0 xs.length cap0) 24) := A_1.out.old (Old.trans g7 ((Old.refl w7).alloc _))
      have B_2 : Hid (StW (w7.alloc (.cells #[.bool n, .slice a7 xs.length cap7] 26)) (w.heap.size + 1) (.bool m) (.slice c1 ys.length cap1) 24) := B_1.out.old (Old.trans g7 ((Old.refl w7).alloc _))
      have C_2 : Hid (StW (w7.alloc (.cells #[.bool n, .slice a7 xs.length cap7] 26)) k6 (.bool rb) (.slice a5 (toI rl).length cap5) 26) := C_1.out.old (Old.trans g7 ((Old.refl w7).alloc _))
      have O_2 : Hid (Own (w7.alloc (.cells #[.bool n, .slice a7 xs.length cap7] 26)) w2.heap.size (.slice a5 (toI rl).length cap5) (toI rl)) := O_1.out.old (Old.trans g7 ((Old.refl w7).alloc _))
      clear HG_1 A_1 B_1 C_1 O_1
      have X_2 : Hid (StW (w7.alloc (.cells #[.bool n, .slice a7 xs.length cap7] 26)) w7.heap.size (.bool n) (.slice a7 xs.length cap7) 26) := StW.new w7 _ _ _
      have P_2 : Hid (Own (w7.alloc (.cells #[.bool n, .slice a7 xs.length cap7] 26)) wc.heap.size (.slice a7 xs.length cap7) xs) := o7.alloc _
      have D7 : Hid (∀ g, (Value.slice a7 xs.length cap7).ownBlock = some g → wc.heap.size ≤ g ∧ g < w7.heap.size) := fun g hg => o7.lt g hg
      clear g7 o7
      have zA0 := A_2.out.c0
      have zA1 := A_2.out.c1
      have zB0 := B_2.out.c0
      have zB1 := B_2.out.c1
      go_wp2_with fail
      refine (toWhole_any m ys _ _ (HU.out.old HG_2.out) hy2).mono ?_
      rintro e w8 ⟨v8, rfl, g8, o8⟩
      obtain ⟨a8, cap8, rfl⟩ := (Own.row o8).slice
      clear zA0 zA1 zB0 zB1
      have hs8 : w7.heap.size + 1 ≤ w8.heap.size := by have := g8.size; simp at this; omega
      have HG_3 : Hid (Old w (w8.alloc (.cells #[.bool m, .slice a8 ys.length cap8] 26))) := Old.trans HG_2.out (Old.trans g8 ((Old.refl w8).alloc _))
      have A_3 : Hid (StW (w8.alloc (.cells #[.bool m, .slice a8 ys.length cap8] 26)) w.heap.size (.bool n) (.slice c0 xs.length cap0) 24) := A_2.out.old (Old.trans g8 ((Old.refl w8).alloc _))
      have B_3 : Hid (StW (w8.alloc (.cells #[.bool m, .slice a8 ys.length cap8] 26)) (w.heap.size + 1) (.bool m) (.slice c1 ys.length cap1) 24) := B_2.out.old (Old.trans g8 ((Old.refl w8).alloc _))
      have C_3 : Hid (StW (w8.alloc (.cells #[.bool m, .slice a8 ys.length cap8] 26)) k6 (.bool rb) (.slice a5 (toI rl).length cap5) 26) := C_2.out.old (Old.trans g8 ((Old.refl w8).alloc _))
      have O_3 : Hid (Own (w8.alloc (.cells #[.bool m, .slice a8 ys.length cap8] 26)) w2.heap.size (.slice a5 (toI rl).length cap5) (toI rl)) := O_2.out.old (Old.trans g8 ((Old.refl w8).alloc _))
      have X_3 : Hid (StW (w8.alloc (.cells #[.bool m, .slice a8 ys.length cap8] 26)) w7.heap.size (.bool n) (.slice a7 xs.length cap7) 26) := X_2.out.old (Old.trans g8 ((Old.refl w8).alloc _))
      have P_3 : Hid (Own (w8.alloc (.cells #[.bool m, .slice a8 ys.length cap8] 26)) wc.heap.size (.slice a7 xs.length cap7) xs) := P_2.out.old (Old.trans g8 ((Old.refl w8).alloc _))
      clear HG_2 A_2 B_2 C_2 O_2 X_2 P_2
      have Y_3 : Hid (StW (w8.alloc (.cells #[.bool m, .slice a8 ys.length cap8] 26)) w8.heap.size (.bool m) (.slice a8 ys.length cap8) 26) := StW.new w8 _ _ _
      have Q_3 : Hid (Own (w8.alloc (.cells #[.bool m, .slice a8 ys.length cap8] 26)) (w7.heap.size + 1) (.slice a8 ys.length cap8) ys) := by have := Own.low o8 (base' := w7.heap.size + 1) (by simp); exact this.alloc _
      have D8 : Hid (∀ g, (Value.slice a8 ys.length cap8).ownBlock = some g → w7.heap.size + 1 ≤ g ∧ g < w8.heap.size) := fun g hg => by have := o8.lt g hg; simp at this; exact this
      clear g8 o8
      have zX0 := X_3.out.c0
      have zX1 := X_3.out.c1
      have zY0 := Y_3.out.c0
      have zY1 := Y_3.out.c1
      go_wp2_with fail
      refine (IM.out _ _ _ (Own.row P_3.out) (Own.row Q_3.out)).mono ?_
      rintro e w10 ⟨v10, rfl, g10, o10⟩
      obtain ⟨a10, cap10, rfl⟩ := (Own.row o10).slice
      clear zX0 zX1 zY0 zY1
      have hs10 : w8.heap.size + 1 ≤ w10.heap.size := by have := g10.size; simp at this; omega
      have HG_4 : Hid (Old w (w10.alloc (.cells #[.bool rb, .slice a10 (toI rl).length cap10] 26))) := Old.trans HG_3.out (Old.trans g10 ((Old.refl w10).alloc _))
      have A_4 : Hid (StW (w10.alloc (.cells #[.bool rb, .slice a10 (toI rl).length cap10] 26)) w.heap.size (.bool n) (.slice c0 xs.length cap0) 24) := A_3.out.old (Old.trans g10 ((Old.refl w10).alloc _))
      have B_4 : Hid (StW (w10.alloc (.cells #[.bool rb, .slice a10 (toI rl).length cap10] 26)) (w.heap.size + 1) (.bool m) (.slice c1 ys.length cap1) 24) := B_3.out.old (Old.trans g10 ((Old.refl w10).alloc _))
      have C_4 : Hid (StW (w10.alloc (.cells #[.bool rb, .slice a10 (toI rl).length cap10] 26)) k6 (.bool rb) (.slice a5 (toI rl).length cap5) 26) := C_3.out.old (Old.trans g10 ((Old.refl w10).alloc _))
      have O_4 : Hid (Own (w10.alloc (.cells #[.bool rb, .slice a10 (toI rl).length cap10] 26)) w2.heap.size (.slice a5 (toI rl).length cap5) (toI rl)) := O_3.out.old (Old.trans g10 ((Old.refl w10).alloc _))
      have X_4 : Hid (StW (w10.alloc (.cells #[.bool rb, .slice a10 (toI rl).length cap10] 26)) w7.heap.size (.bool n) (.slice a7 xs.length cap7) 26) := X_3.out.old (Old.trans g10 ((Old.refl w10).alloc _))
      have P_4 : Hid (Own (w10.alloc (.cells #[.bool rb, .slice a10 (toI rl).length cap10] 26)) wc.heap.size (.slice a7 xs.length cap7) xs) := P_3.out.old (Old.trans g10 ((Old.refl w10).alloc _))
      have Y_4 : Hid (StW (w10.alloc (.cells #[.bool rb, .slice a10 (toI rl).length cap10] 26)) w8.heap.size (.bool m) (.slice a8 ys.length cap8) 26) := Y_3.out.old (Old.trans g10 ((Old.refl w10).alloc _))
      have Q_4 : Hid (Own (w10.alloc (.cells #[.bool rb, .slice a10 (toI rl).length cap10] 26)) (w7.heap.size + 1) (.slice a8 ys.length cap8) ys) := Q_3.out.old (Old.trans g10 ((Old.refl w10).alloc _))
      clear HG_3 A_3 B_3 C_3 O_3 X_3 P_3 Y_3 Q_3
      have Z_4 : Hid (StW (w10.alloc (.cells #[.bool rb, .slice a10 (toI rl).length cap10] 26)) w10.heap.size (.bool rb) (.slice a10 (toI rl).length cap10) 26) := StW.new w10 _ _ _
      have N_4 : Hid (Own (w10.alloc (.cells #[.bool rb, .slice a10 (toI rl).length cap10] 26)) (w8.heap.size + 1) (.slice a10 (toI rl).length cap10) (toI rl)) := by have := Own.low o10 (base' := w8.heap.size + 1) (by simp); exact this.alloc _
      have D10 : Hid (∀ g, (Value.slice a10 (toI rl).length cap10).ownBlock = some g → w8.heap.size + 1 ≤ g ∧ g < w10.heap.size) := fun g hg => by have := o10.lt g hg; simp at this; exact this
      clear g10 o10
      have zZ0 := Z_4.out.c0
      have zZ1 := Z_4.out.c1
      have zC0 := C_4.out.c0
      have zC1 := C_4.out.c1
      go_wp2_with fail
      refine (eqWhole_yes rb (toI rl) _ _ _ (Own.row N_4.out) (Own.row O_4.out) (by omega)).mono ?_
      rintro e w11 ⟨rfl, g11⟩
      clear zZ0 zZ1 zC0 zC1
      have hs11 : w10.heap.size + 1 ≤ w11.heap.size := by have := g11.size; simp at this; omega
      have HG_5 : Hid (Old w w11) := Old.trans HG_4.out (g11)
      have A_5 : Hid (StW w11 w.heap.size (.bool n) (.slice c0 xs.length cap0) 24) := A_4.out.old (g11)
      have B_5 : Hid (StW w11 (w.heap.size + 1) (.bool m) (.slice c1 ys.length cap1) 24) := B_4.out.old (g11)
      have C_5 : Hid (StW w11 k6 (.bool rb) (.slice a5 (toI rl).length cap5) 26) := C_4.out.old (g11)
      have O_5 : Hid (Own w11 w2.heap.size (.slice a5 (toI rl).length cap5) (toI rl)) := O_4.out.old (g11)
      have X_5 : Hid (StW w11 w7.heap.size (.bool n) (.slice a7 xs.length cap7) 26) := X_4.out.old (g11)
      have P_5 : Hid (Own w11 wc.heap.size (.slice a7 xs.length cap7) xs) := P_4.out.old (g11)
      have Y_5 : Hid (StW w11 w8.heap.size (.bool m) (.slice a8 ys.length cap8) 26) := Y_4.out.old (g11)
      have Q_5 : Hid (Own w11 (w7.heap.size + 1) (.slice a8 ys.length cap8) ys) := Q_4.out.old (g11)
      have Z_5 : Hid (StW w11 w10.heap.size (.bool rb) (.slice a10 (toI rl).length cap10) 26) := Z_4.out.old (g11)
      have N_5 : Hid (Own w11 (w8.heap.size + 1) (.slice a10 (toI rl).length cap10) (toI rl)) := N_4.out.old (g11)
      clear HG_4 A_4 B_4 C_4 O_4 X_4 P_4 Y_4 Q_4 Z_4 N_4
      clear g11
      have zX0 := X_5.out.c0
      have zX1 := X_5.out.c1
      have zA0 := A_5.out.c0
      have zA1 := A_5.out.c1
      have HAS : Hid (∀ W', Old w11 W' → (W'.cell? ⟨w7.heap.size, 0, none⟩ = some (.bool n) ∧ W'.cell? ⟨w7.heap.size, 1, none⟩ = some (.slice a7 xs.length cap7) ∧ W'.cell? ⟨w.heap.size, 0, none⟩ = some (.bool n) ∧ W'.cell? ⟨w.heap.size, 1, none⟩ = some (.slice c0 xs.length cap0))) := fun W' g => ⟨(X_5.out.old g).c0, (X_5.out.old g).c1, (A_5.out.old g).c0, (A_5.out.old g).c1⟩
      go_wp2_with fail
      go_region_held3 (fun W' => W'.cell? ⟨w7.heap.size, 0, none⟩ = some (.bool n) ∧ W'.cell? ⟨w7.heap.size, 1, none⟩ = some (.slice a7 xs.length cap7) ∧ W'.cell? ⟨w.heap.size, 0, none⟩ = some (.bool n) ∧ W'.cell? ⟨w.heap.size, 1, none⟩ = some (.slice c0 xs.length cap0)) (first | exact HAS.out _ GE.out | exact HAS.out _ GT.out | exact HAS.out _ (Below.drew (Old.refl w11)) | exact HAS.out _ (Old.refl w11)) (first
        | (go_at_call 6; refine (toWhole_any n xs _ _ (HV.out.old (HG_5.out.drewN 1)) hx2).mono ?_; rintro e wt ⟨vt, rfl, gt, ot⟩; obtain ⟨at_, capt, rfl⟩ := (Own.row ot).slice; have GT : Hid (Old w11 wt) := Old.trans ((Old.refl _).drewN 1) gt; have RT : Hid (Row wt (.slice at_ xs.length capt) xs) := Own.row ot; clear gt ot)
        | (go_at_call 8; refine (eqWhole_yes n xs _ _ _ ((Own.row P_5.out).old GT.out) RT.out (by omega)).mono ?_; rintro e w12 ⟨rfl, ge⟩; have GE : Hid (Old w11 w12) := Old.trans GT.out ge; clear ge))
      clear zX0 zX1 zA0 zA1
      have hsw12 := GE.out.size
      have HG_6 : Hid (Old w w12) := Old.trans HG_5.out (GE.out)
      have A_6 : Hid (StW w12 w.heap.size (.bool n) (.slice c0 xs.length cap0) 24) := A_5.out.old (GE.out)
      have B_6 : Hid (StW w12 (w.heap.size + 1) (.bool m) (.slice c1 ys.length cap1) 24) := B_5.out.old (GE.out)
      have C_6 : Hid (StW w12 k6 (.bool rb) (.slice a5 (toI rl).length cap5) 26) := C_5.out.old (GE.out)
      have O_6 : Hid (Own w12 w2.heap.size (.slice a5 (toI rl).length cap5) (toI rl)) := O_5.out.old (GE.out)
      have X_6 : Hid (StW w12 w7.heap.size (.bool n) (.slice a7 xs.length cap7) 26) := X_5.out.old (GE.out)
      have P_6 : Hid (Own w12 wc.heap.size (.slice a7 xs.length cap7) xs) := P_5.out.old (GE.out)
      have Y_6 : Hid (StW w12 w8.heap.size (.bool m) (.slice a8 ys.length cap8) 26) := Y_5.out.old (GE.out)
      have Q_6 : Hid (Own w12 (w7.heap.size + 1) (.slice a8 ys.length cap8) ys) := Q_5.out.old (GE.out)
      have Z_6 : Hid (StW w12 w10.heap.size (.bool rb) (.slice a10 (toI rl).length cap10) 26) := Z_5.out.old (GE.out)
      have N_6 : Hid (Own w12 (w8.heap.size + 1) (.slice a10 (toI rl).length cap10) (toI rl)) := N_5.out.old (GE.out)
      clear HG_5 A_5 B_5 C_5 O_5 X_5 P_5 Y_5 Q_5 Z_5 N_5
      clear GE GT RT HAS
      have zY0 := Y_6.out.c0
      have zY1 := Y_6.out.c1
      have zB0 := B_6.out.c0
      have zB1 := B_6.out.c1
      have HAS : Hid (∀ W', Old w12 W' → (W'.cell? ⟨w8.heap.size, 0, none⟩ = some (.bool m) ∧ W'.cell? ⟨w8.heap.size, 1, none⟩ = some (.slice a8 ys.length cap8) ∧ W'.cell? ⟨w.heap.size + 1, 0, none⟩ = some (.bool m) ∧ W'.cell? ⟨w.heap.size + 1, 1, none⟩ = some (.slice c1 ys.length cap1))) := fun W' g => ⟨(Y_6.out.old g).c0, (Y_6.out.old g).c1, (B_6.out.old g).c0, (B_6.out.old g).c1⟩
      go_wp2_with fail
      go_region_held3 (fun W' => W'.cell? ⟨w8.heap.size, 0, none⟩ = some (.bool m) ∧ W'.cell? ⟨w8.heap.size, 1, none⟩ = some (.slice a8 ys.length cap8) ∧ W'.cell? ⟨w.heap.size + 1, 0, none⟩ = some (.bool m) ∧ W'.cell? ⟨w.heap.size + 1, 1, none⟩ = some (.slice c1 ys.length cap1)) (first | exact HAS.out _ GE.out | exact HAS.out _ GT.out | exact HAS.out _ (Below.drew (Old.refl w12)) | exact HAS.out _ (Old.refl w12)) (first
        | (go_at_call 6; refine (toWhole_any m ys _ _ (HU.out.old (HG_6.out.drewN 1)) hy2).mono ?_; rintro e wt ⟨vt, rfl, gt, ot⟩; obtain ⟨at_, capt, rfl⟩ := (Own.row ot).slice; have GT : Hid (Old w12 wt) := Old.trans ((Old.refl _).drewN 1) gt; have RT : Hid (Row wt (.slice at_ ys.length capt) ys) := Own.row ot; clear gt ot)
        | (go_at_call 8; refine (eqWhole_yes m ys _ _ _ ((Own.row Q_6.out).old GT.out) RT.out (by omega)).mono ?_; rintro e w13 ⟨rfl, ge⟩; have GE : Hid (Old w12 w13) := Old.trans GT.out ge; clear ge))
      clear zY0 zY1 zB0 zB1
      have hsw13 := GE.out.size
      have HG_7 : Hid (Old w w13) := Old.trans HG_6.out (GE.out)
      have A_7 : Hid (StW w13 w.heap.size (.bool n) (.slice c0 xs.length cap0) 24) := A_6.out.old (GE.out)
      have B_7 : Hid (StW w13 (w.heap.size + 1) (.bool m) (.slice c1 ys.length cap1) 24) := B_6.out.old (GE.out)
      have C_7 : Hid (StW w13 k6 (.bool rb) (.slice a5 (toI rl).length cap5) 26) := C_6.out.old (GE.out)
      have O_7 : Hid (Own w13 w2.heap.size (.slice a5 (toI rl).length cap5) (toI rl)) := O_6.out.old (GE.out)
      have X_7 : Hid (StW w13 w7.heap.size (.bool n) (.slice a7 xs.length cap7) 26) := X_6.out.old (GE.out)
      have P_7 : Hid (Own w13 wc.heap.size (.slice a7 xs.length cap7) xs) := P_6.out.old (GE.out)
      have Y_7 : Hid (StW w13 w8.heap.size (.bool m) (.slice a8 ys.length cap8) 26) := Y_6.out.old (GE.out)
      have Q_7 : Hid (Own w13 (w7.heap.size + 1) (.slice a8 ys.length cap8) ys) := Q_6.out.old (GE.out)
      have Z_7 : Hid (StW w13 w10.heap.size (.bool rb) (.slice a10 (toI rl).length cap10) 26) := Z_6.out.old (GE.out)
      have N_7 : Hid (Own w13 (w8.heap.size + 1) (.slice a10 (toI rl).length cap10) (toI rl)) := N_6.out.old (GE.out)
      clear HG_6 A_6 B_6 C_6 O_6 X_6 P_6 Y_6 Q_6 Z_6 N_6
      clear GE GT RT HAS
      have zX0 := X_7.out.c0
      have zX1 := X_7.out.c1
      go_wp2_with fail
      refine (markWhole_any n xs _ 1 wc.heap.size _ P_7.out (by omega) (by omega) (by omega)).mono ?_
      rintro e w14 ⟨rfl, gm, om⟩
      have hsw14 := gm.size
      have HG_8 : Hid (Old w w14) := Old.byW_ HG_7.out gm (fun b hb => by have := D7.out b hb; have := HG_7.out.size; omega)
      have A_8 : Hid (StW w14 w.heap.size (.bool n) (.slice c0 xs.length cap0) 24) := A_7.out.byW_ gm (fun b hb hbk => by have := D7.out b hb; omega)
      have B_8 : Hid (StW w14 (w.heap.size + 1) (.bool m) (.slice c1 ys.length cap1) 24) := B_7.out.byW_ gm (fun b hb hbk => by have := D7.out b hb; omega)
      have C_8 : Hid (StW w14 k6 (.bool rb) (.slice a5 (toI rl).length cap5) 26) := C_7.out.byW_ gm (fun b hb hbk => by have := D7.out b hb; omega)
      have O_8 : Hid (Own w14 w2.heap.size (.slice a5 (toI rl).length cap5) (toI rl)) := O_7.out.byW_ gm (fun a b h1 h2 h3 => by have := DC.out a h1; have := D7.out b h2; omega)
      have X_8 : Hid (StW w14 w7.heap.size (.bool n) (.slice a7 xs.length cap7) 26) := X_7.out.byW_ gm (fun b hb hbk => by have := D7.out b hb; omega)
      have Y_8 : Hid (StW w14 w8.heap.size (.bool m) (.slice a8 ys.length cap8) 26) := Y_7.out.byW_ gm (fun b hb hbk => by have := D7.out b hb; omega)
      have Q_8 : Hid (Own w14 (w7.heap.size + 1) (.slice a8 ys.length cap8) ys) := Q_7.out.byW_ gm (fun a b h1 h2 h3 => by have := D8.out a h1; have := D7.out b h2; omega)
      have Z_8 : Hid (StW w14 w10.heap.size (.bool rb) (.slice a10 (toI rl).length cap10) 26) := Z_7.out.byW_ gm (fun b hb hbk => by have := D7.out b hb; omega)
      have N_8 : Hid (Own w14 (w8.heap.size + 1) (.slice a10 (toI rl).length cap10) (toI rl)) := N_7.out.byW_ gm (fun a b h1 h2 h3 => by have := D10.out a h1; have := D7.out b h2; omega)
      have P_8 : Hid (Own w14 wc.heap.size (.slice a7 xs.length cap7) (marks 1 xs.length)) := om
      clear gm om HG_7 A_7 B_7 C_7 O_7 X_7 P_7 Y_7 Q_7 Z_7 N_7
      clear zX0 zX1
      have zY0 := Y_8.out.c0
      have zY1 := Y_8.out.c1
      go_wp2_with fail
      refine (markWhole_any m ys _ (1 + xs.length) (w7.heap.size + 1) _ Q_8.out (by omega) (by omega) (by omega)).mono ?_
      rintro e w15 ⟨rfl, gm, om⟩
      have hsw15 := gm.size
      have HG_9 : Hid (Old w w15) := Old.byW_ HG_8.out gm (fun b hb => by have := D8.out b hb; have := HG_8.out.size; omega)
      have A_9 : Hid (StW w15 w.heap.size (.bool n) (.slice c0 xs.length cap0) 24) := A_8.out.byW_ gm (fun b hb hbk => by have := D8.out b hb; omega)
      have B_9 : Hid (StW w15 (w.heap.size + 1) (.bool m) (.slice c1 ys.length cap1) 24) := B_8.out.byW_ gm (fun b hb hbk => by have := D8.out b hb; omega)
      have C_9 : Hid (StW w15 k6 (.bool rb) (.slice a5 (toI rl).length cap5) 26) := C_8.out.byW_ gm (fun b hb hbk => by have := D8.out b hb; omega)
      have O_9 : Hid (Own w15 w2.heap.size (.slice a5 (toI rl).length cap5) (toI rl)) := O_8.out.byW_ gm (fun a b h1 h2 h3 => by have := DC.out a h1; have := D8.out b h2; omega)
      have X_9 : Hid (StW w15 w7.heap.size (.bool n) (.slice a7 xs.length cap7) 26) := X_8.out.byW_ gm (fun b hb hbk => by have := D8.out b hb; omega)
      have P_9 : Hid (Own w15 wc.heap.size (.slice a7 xs.length cap7) (marks 1 xs.length)) := P_8.out.byW_ gm (fun a b h1 h2 h3 => by have := D7.out a h1; have := D8.out b h2; omega)
      have Y_9 : Hid (StW w15 w8.heap.size (.bool m) (.slice a8 ys.length cap8) 26) := Y_8.out.byW_ gm (fun b hb hbk => by have := D8.out b hb; omega)
      have Z_9 : Hid (StW w15 w10.heap.size (.bool rb) (.slice a10 (toI rl).length cap10) 26) := Z_8.out.byW_ gm (fun b hb hbk => by have := D8.out b hb; omega)
      have N_9 : Hid (Own w15 (w8.heap.size + 1) (.slice a10 (toI rl).length cap10) (toI rl)) := N_8.out.byW_ gm (fun a b h1 h2 h3 => by have := D10.out a h1; have := D8.out b h2; omega)
      have Q_9 : Hid (Own w15 (w7.heap.size + 1) (.slice a8 ys.length cap8) (marks (1 + xs.length) ys.length)) := om
      clear gm om HG_8 A_8 B_8 C_8 O_8 X_8 P_8 Y_8 Q_8 Z_8 N_8
      clear zY0 zY1
      have zZ0 := Z_9.out.c0
      have zZ1 := Z_9.out.c1
      have zC0 := C_9.out.c0
      have zC1 := C_9.out.c1
      have dk : decide ((1 : Int) + (xs.length : Int) + (ys.length : Int) < 0) = false := decide_eq_false (by omega)
      go_wp2_with fail
      refine (eqWhole_yes rb (toI rl) _ _ _ (Own.row N_9.out) (Own.row O_9.out) (by omega)).mono ?_
      rintro e w16 ⟨rfl, g16⟩
      clear zZ0 zZ1 zC0 zC1
      have hs16 := g16.size
      have HG_10 : Hid (Old w w16) := Old.trans HG_9.out (g16)
      have A_10 : Hid (StW w16 w.heap.size (.bool n) (.slice c0 xs.length cap0) 24) := A_9.out.old (g16)
      have B_10 : Hid (StW w16 (w.heap.size + 1) (.bool m) (.slice c1 ys.length cap1) 24) := B_9.out.old (g16)
      have C_10 : Hid (StW w16 k6 (.bool rb) (.slice a5 (toI rl).length cap5) 26) := C_9.out.old (g16)
      have O_10 : Hid (Own w16 w2.heap.size (.slice a5 (toI rl).length cap5) (toI rl)) := O_9.out.old (g16)
      have X_10 : Hid (StW w16 w7.heap.size (.bool n) (.slice a7 xs.length cap7) 26) := X_9.out.old (g16)
      have P_10 : Hid (Own w16 wc.heap.size (.slice a7 xs.length cap7) (marks 1 xs.length)) := P_9.out.old (g16)
      have Y_10 : Hid (StW w16 w8.heap.size (.bool m) (.slice a8 ys.length cap8) 26) := Y_9.out.old (g16)
      have Q_10 : Hid (Own w16 (w7.heap.size + 1) (.slice a8 ys.length cap8) (marks (1 + xs.length) ys.length)) := Q_9.out.old (g16)
      have Z_10 : Hid (StW w16 w10.heap.size (.bool rb) (.slice a10 (toI rl).length cap10) 26) := Z_9.out.old (g16)
      have N_10 : Hid (Own w16 (w8.heap.size + 1) (.slice a10 (toI rl).length cap10) (toI rl)) := N_9.out.old (g16)
      clear HG_9 A_9 B_9 C_9 O_9 X_9 P_9 Y_9 Q_9 Z_9 N_9
      clear g16
      have zZ0 := Z_10.out.c0
      have zZ1 := Z_10.out.c1
      go_wp2_with fail
      refine (markWhole_any rb (toI rl) _ 1 (w8.heap.size + 1) _ N_10.out (by omega) (by omega) (by omega)).mono ?_
      rintro e w17 ⟨rfl, gm, om⟩
      have hsw17 := gm.size
      have HG_11 : Hid (Old w w17) := Old.byW_ HG_10.out gm (fun b hb => by have := D10.out b hb; have := HG_10.out.size; omega)
      have A_11 : Hid (StW w17 w.heap.size (.bool n) (.slice c0 xs.length cap0) 24) := A_10.out.byW_ gm (fun b hb hbk => by have := D10.out b hb; omega)
      have B_11 : Hid (StW w17 (w.heap.size + 1) (.bool m) (.slice c1 ys.length cap1) 24) := B_10.out.byW_ gm (fun b hb hbk => by have := D10.out b hb; omega)
      have C_11 : Hid (StW w17 k6 (.bool rb) (.slice a5 (toI rl).length cap5) 26) := C_10.out.byW_ gm (fun b hb hbk => by have := D10.out b hb; omega)
      have O_11 : Hid (Own w17 w2.heap.size (.slice a5 (toI rl).length cap5) (toI rl)) := O_10.out.byW_ gm (fun a b h1 h2 h3 => by have := DC.out a h1; have := D10.out b h2; omega)
      have X_11 : Hid (StW w17 w7.heap.size (.bool n) (.slice a7 xs.length cap7) 26) := X_10.out.byW_ gm (fun b hb hbk => by have := D10.out b hb; omega)
      have P_11 : Hid (Own w17 wc.heap.size (.slice a7 xs.length cap7) (marks 1 xs.length)) := P_10.out.byW_ gm (fun a b h1 h2 h3 => by have := D7.out a h1; have := D10.out b h2; omega)
      have Y_11 : Hid (StW w17 w8.heap.size (.bool m) (.slice a8 ys.length cap8) 26) := Y_10.out.byW_ gm (fun b hb hbk => by have := D10.out b hb; omega)
      have Q_11 : Hid (Own w17 (w7.heap.size + 1) (.slice a8 ys.length cap8) (marks (1 + xs.length) ys.length)) := Q_10.out.byW_ gm (fun a b h1 h2 h3 => by have := D8.out a h1; have := D10.out b h2; omega)
      have Z_11 : Hid (StW w17 w10.heap.size (.bool rb) (.slice a10 (toI rl).length cap10) 26) := Z_10.out.byW_ gm (fun b hb hbk => by have := D10.out b hb; omega)
      have N_11 : Hid (Own w17 (w8.heap.size + 1) (.slice a10 (toI rl).length cap10) (marks 1 (toI rl).length)) := om
      clear gm om HG_10 A_10 B_10 C_10 O_10 X_10 P_10 Y_10 Q_10 Z_10 N_10
      clear zZ0 zZ1
      have zZ0 := Z_11.out.c0
      have zZ1 := Z_11.out.c1
      have dq : decide ((1 : Int) + ((toI rl).length : Int) < 0) = false := decide_eq_false (by omega)
      have dqm : ((1 : Int) + ((toI rl).length : Int) != 1 + ((toI rl).length : Int)) = false := by simp
      go_wp2_with fail
      refine (heldWhole_yes rb (toI rl).length _ 1 _ (by have := Own.row N_11.out; exact this) (by omega) (by omega) (by omega)).mono ?_
      rintro e w18 ⟨rfl, g18⟩
      clear zZ0 zZ1
      have hs18 := g18.size
      have HG_12 : Hid (Old w w18) := Old.trans HG_11.out (g18)
      have A_12 : Hid (StW w18 w.heap.size (.bool n) (.slice c0 xs.length cap0) 24) := A_11.out.old (g18)
      have B_12 : Hid (StW w18 (w.heap.size + 1) (.bool m) (.slice c1 ys.length cap1) 24) := B_11.out.old (g18)
      have C_12 : Hid (StW w18 k6 (.bool rb) (.slice a5 (toI rl).length cap5) 26) := C_11.out.old (g18)
      have O_12 : Hid (Own w18 w2.heap.size (.slice a5 (toI rl).length cap5) (toI rl)) := O_11.out.old (g18)
      have X_12 : Hid (StW w18 w7.heap.size (.bool n) (.slice a7 xs.length cap7) 26) := X_11.out.old (g18)
      have P_12 : Hid (Own w18 wc.heap.size (.slice a7 xs.length cap7) (marks 1 xs.length)) := P_11.out.old (g18)
      have Y_12 : Hid (StW w18 w8.heap.size (.bool m) (.slice a8 ys.length cap8) 26) := Y_11.out.old (g18)
      have Q_12 : Hid (Own w18 (w7.heap.size + 1) (.slice a8 ys.length cap8) (marks (1 + xs.length) ys.length)) := Q_11.out.old (g18)
      have Z_12 : Hid (StW w18 w10.heap.size (.bool rb) (.slice a10 (toI rl).length cap10) 26) := Z_11.out.old (g18)
      have N_12 : Hid (Own w18 (w8.heap.size + 1) (.slice a10 (toI rl).length cap10) (marks 1 (toI rl).length)) := N_11.out.old (g18)
      clear HG_11 A_11 B_11 C_11 O_11 X_11 P_11 Y_11 Q_11 Z_11 N_11
      clear g18
      go_upto_region 29 with fail
      go_cut [93] (fun s W => s = .bool false ∧ w18 = W)
      case first =>
        go_wp2_with fail
        go_meet
        exact ⟨by first | rfl | simp, rfl⟩
      case rest =>
      obtain ⟨rfl, hW18⟩ := hcut
      subst hW18
      have zA0 := A_12.out.c0
      have zA1 := A_12.out.c1
      have zB0 := B_12.out.c0
      have zB1 := B_12.out.c1
      go_upto_region 31 with fail
      go_cut [15, 16] (fun s15 s16 W => ∃ k a c, s15 = .pointer (some ⟨k, 0, none⟩) ∧ s16 = .bool ro ∧ Made w18 rb rl W k a c)
      case first =>
        refine reg_ab n m xs ys c0 c1 cap0 cap1 w w18 rb ro rl HV HU hx2 hy2 IM HG_12 A_12 B_12 _ _ _ _ _ _ _ _ _ _ _ _ _ _ _ _ _ _ _ _ _ _ _ _ _ _ _ _ _ _ _ _ _ _ _ _ _ _ _ _ _ _ _ _ _ _ _ _ _ _ _ _ _ _ _ _ _ _ _ _ _ _ _ _ _ _ _ _ _ _ _ _ _ _ _ _ _ _ _ _ _ _ _ _ _ _ _ _ _ _ _ _ _ _ _ _ _ _ _ _ _ _ _ _ _ _ _ _ _ _ _ _ _ _ _ _ _ _ _  ?_
        intro k a c W u94 u95 u96 u97 u98 u99 u100 u101 MD
        go_wp2_with fail
        go_meet
        exact ⟨k, a, c, rfl, rfl, MD⟩
      case rest =>
      obtain ⟨kh, ah, caph, rfl, rfl, MD⟩ := hcut
      obtain ⟨w20, hnm⟩ : ∃ W, W = wc := ⟨_, rfl⟩
      subst hnm
      clear zA0 zA1 zB0 zB1
      have HG_13 : Hid (Old w w20) := Old.trans HG_12.out (MD.old)
      have A_13 : Hid (StW w20 w.heap.size (.bool n) (.slice c0 xs.length cap0) 24) := A_12.out.old (MD.old)
      have B_13 : Hid (StW w20 (w.heap.size + 1) (.bool m) (.slice c1 ys.length cap1) 24) := B_12.out.old (MD.old)
      have C_13 : Hid (StW w20 k6 (.bool rb) (.slice a5 (toI rl).length cap5) 26) := C_12.out.old (MD.old)
      have O_13 : Hid (Own w20 w2.heap.size (.slice a5 (toI rl).length cap5) (toI rl)) := O_12.out.old (MD.old)
      have X_13 : Hid (StW w20 w7.heap.size (.bool n) (.slice a7 xs.length cap7) 26) := X_12.out.old (MD.old)
      have P_13 : Hid (Own w20 wc.heap.size (.slice a7 xs.length cap7) (marks 1 xs.length)) := P_12.out.old (MD.old)
      have Y_13 : Hid (StW w20 w8.heap.size (.bool m) (.slice a8 ys.length cap8) 26) := Y_12.out.old (MD.old)
      have Q_13 : Hid (Own w20 (w7.heap.size + 1) (.slice a8 ys.length cap8) (marks (1 + xs.length) ys.length)) := Q_12.out.old (MD.old)
      have Z_13 : Hid (StW w20 w10.heap.size (.bool rb) (.slice a10 (toI rl).length cap10) 26) := Z_12.out.old (MD.old)
      have N_13 : Hid (Own w20 (w8.heap.size + 1) (.slice a10 (toI rl).length cap10) (marks 1 (toI rl).length)) := N_12.out.old (MD.old)
      clear HG_12 A_12 B_12 C_12 O_12 X_12 P_12 Y_12 Q_12 Z_12 N_12
      have SH : Hid (StW w20 kh (.bool rb) (.slice ah (toI rl).length caph) 26) := MD.st
      have RH : Hid (Row w20 (.slice ah (toI rl).length caph) (toI rl)) := Own.row MD.own
      clear MD
      have zC0 := C_13.out.c0
      have zC1 := C_13.out.c1
      have zH0 := SH.out.c0
      have zH1 := SH.out.c1
      go_wp2_with fail
      refine (eqWhole_yes rb (toI rl) _ _ _ RH.out (Own.row O_13.out) (by omega)).mono ?_
      rintro e w21 ⟨rfl, g21⟩
      clear zC0 zC1 zH0 zH1 SH RH
      have HG_14 : Hid (Old w w21) := Old.trans HG_13.out (g21)
      have A_14 : Hid (StW w21 w.heap.size (.bool n) (.slice c0 xs.length cap0) 24) := A_13.out.old (g21)
      have B_14 : Hid (StW w21 (w.heap.size + 1) (.bool m) (.slice c1 ys.length cap1) 24) := B_13.out.old (g21)
      have C_14 : Hid (StW w21 k6 (.bool rb) (.slice a5 (toI rl).length cap5) 26) := C_13.out.old (g21)
      have O_14 : Hid (Own w21 w2.heap.size (.slice a5 (toI rl).length cap5) (toI rl)) := O_13.out.old (g21)
      have X_14 : Hid (StW w21 w7.heap.size (.bool n) (.slice a7 xs.length cap7) 26) := X_13.out.old (g21)
      have P_14 : Hid (Own w21 wc.heap.size (.slice a7 xs.length cap7) (marks 1 xs.length)) := P_13.out.old (g21)
      have Y_14 : Hid (StW w21 w8.heap.size (.bool m) (.slice a8 ys.length cap8) 26) := Y_13.out.old (g21)
      have Q_14 : Hid (Own w21 (w7.heap.size + 1) (.slice a8 ys.length cap8) (marks (1 + xs.length) ys.length)) := Q_13.out.old (g21)
      have Z_14 : Hid (StW w21 w10.heap.size (.bool rb) (.slice a10 (toI rl).length cap10) 26) := Z_13.out.old (g21)
      have N_14 : Hid (Own w21 (w8.heap.size + 1) (.slice a10 (toI rl).length cap10) (marks 1 (toI rl).length)) := N_13.out.old (g21)
      clear HG_13 A_13 B_13 C_13 O_13 X_13 P_13 Y_13 Q_13 Z_13 N_13
      clear g21
      have zZ0 := Z_14.out.c0
      have zZ1 := Z_14.out.c1
      go_wp2_with fail
      refine (heldWhole_yes rb (toI rl).length _ 1 _ (by have := Own.row N_14.out; exact this) (by omega) (by omega) (by omega)).mono ?_
      rintro e w22 ⟨rfl, g22⟩
      clear zZ0 zZ1
      have HG_15 : Hid (Old w w22) := Old.trans HG_14.out (g22)
      have A_15 : Hid (StW w22 w.heap.size (.bool n) (.slice c0 xs.length cap0) 24) := A_14.out.old (g22)
      have B_15 : Hid (StW w22 (w.heap.size + 1) (.bool m) (.slice c1 ys.length cap1) 24) := B_14.out.old (g22)
      have C_15 : Hid (StW w22 k6 (.bool rb) (.slice a5 (toI rl).length cap5) 26) := C_14.out.old (g22)
      have O_15 : Hid (Own w22 w2.heap.size (.slice a5 (toI rl).length cap5) (toI rl)) := O_14.out.old (g22)
      have X_15 : Hid (StW w22 w7.heap.size (.bool n) (.slice a7 xs.length cap7) 26) := X_14.out.old (g22)
      have P_15 : Hid (Own w22 wc.heap.size (.slice a7 xs.length cap7) (marks 1 xs.length)) := P_14.out.old (g22)
      have Y_15 : Hid (StW w22 w8.heap.size (.bool m) (.slice a8 ys.length cap8) 26) := Y_14.out.old (g22)
      have Q_15 : Hid (Own w22 (w7.heap.size + 1) (.slice a8 ys.length cap8) (marks (1 + xs.length) ys.length)) := Q_14.out.old (g22)
      have Z_15 : Hid (StW w22 w10.heap.size (.bool rb) (.slice a10 (toI rl).length cap10) 26) := Z_14.out.old (g22)
      have N_15 : Hid (Own w22 (w8.heap.size + 1) (.slice a10 (toI rl).length cap10) (marks 1 (toI rl).length)) := N_14.out.old (g22)
      clear HG_14 A_14 B_14 C_14 O_14 X_14 P_14 Y_14 Q_14 Z_14 N_14
      clear g22
      go_wp2_with fail
      go_ret
      exact ⟨rfl, HG_15.out⟩
end Go.Proofs.Ytpcpahgflkjnaaa
