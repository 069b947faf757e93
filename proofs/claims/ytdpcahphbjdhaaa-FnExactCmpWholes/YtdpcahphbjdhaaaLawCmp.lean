/- Proved: the walk of the statement FnExactCmpWholes, under the contracts of the model's and of the program's function. -/
import Derived.Test.YtdpcahphbjdhaaaHelpW
import Derived.Test.YtdpcahphbjdhaaaLimbs
import Derived.Test.YtdpcahphbjdhaaaLawB
import Derived.Deep.RegionWith
import Derived.Deep.RegionHeld3
import Derived.Deep.DeepCutAuto
namespace Go.Proofs.Ytdpcahphbjdhaaa
open Go.ChangeShapes Go.WideShapes Go.ChangeAt Go.RowKit
open M2
set_option linter.unusedVariables false
set_option linter.unusedSimpArgs false
set_option maxRecDepth 100000 in
set_option maxHeartbeats 16000000 in
theorem law_cmp (n m : Bool) (xs ys : List Int) (v u : Value) (w : World) (hv : Row w v xs) (hu : Row w u ys) (hlx : xs.length ≤ 9223372036854775807) (hly : ys.length ≤ 9223372036854775807) (z : Int)
    (hspec : xs.length ≤ 1048576 → ys.length ≤ 1048576 → ∀ v u W, Row W v xs → Row W u ys → Calls Try.prog 20 #[.agg #[.bool n, v], .agg #[.bool m, u]] W fun e w' => e = .returned (.int .i64 z) ∧ Old W w')
    (himpl : xs.length ≤ 1048576 → ys.length ≤ 1048576 → ∀ v u W, Row W v xs → Row W u ys → Calls Try.prog 32 #[.agg #[.bool n, v], .agg #[.bool m, u]] W fun e w' => e = .returned (.int .i64 z) ∧ Old W w') :
    Calls Try.prog 8 #[.agg #[.bool n, v], .agg #[.bool m, u]] w fun e w' => e = .returned (.bool true) ∧ Old w w' := by
  have HV : Hid (Row w v xs) := hv
  have HU : Hid (Row w u ys) := hu
  obtain ⟨c0, cap0, rfl⟩ := hv.slice
  obtain ⟨c1, cap1, rfl⟩ := hu.slice
  clear hv hu
  have HA : Hid (∀ t1 t2 xs1 xs2, Old w ((w.alloc (.cells xs1 t1)).alloc (.cells xs2 t2))) := fun t1 t2 xs1 xs2 => ((Old.refl w).alloc _).alloc _
  by_cases hbig : (1048576 : Int) < (xs.length : Int)
  · clear hspec himpl
    go_enter Try.func8, Try.ntmps8
    go_wp2_with fail
    refine (szWhole_no n c0 xs.length cap0 1048576 _ hlx (by omega) (by omega) hbig).mono ?_
    rintro e w1 ⟨rfl, g1⟩
    have HG1 : Hid (Old w w1) := Old.trans (HA.out _ _ _ _) g1
    clear g1
    go_wp2_with fail
    go_ret
    exact ⟨rfl, HG1.out⟩
  · have hx2 : xs.length ≤ 1048576 := by omega
    have dl : decide ((1048576 : Int) - (xs.length : Int) < 0) = false := decide_eq_false (by omega)
    by_cases hbig2 : (1048576 : Int) - (xs.length : Int) < (ys.length : Int)
    · clear hspec himpl
      go_enter Try.func8, Try.ntmps8
      go_wp2_with fail
      refine (szWhole_yes n c0 xs.length cap0 1048576 _ hlx (by omega) (by omega) (by omega)).mono ?_
      rintro e w1 ⟨rfl, g1⟩
      have s1 := (St.at1 w (.bool n) (.slice c0 xs.length cap0) (.bool m) (.slice c1 ys.length cap1) 33 33).old g1
      have s2 := (St.at2 w (.bool n) (.slice c0 xs.length cap0) (.bool m) (.slice c1 ys.length cap1) 33 33).old g1
      have b0 := s2.c0
      have b1 := s2.c1
      have HG1 : Hid (Old w w1) := Old.trans (HA.out _ _ _ _) g1
      have HS1 : Hid (St w1 w.heap.size (.bool n) (.slice c0 xs.length cap0) 33 ∧ St w1 (w.heap.size + 1) (.bool m) (.slice c1 ys.length cap1) 33) := ⟨s1, s2⟩
      clear g1 s1 s2 hbig
      go_wp2_with fail
      refine (szWhole_no m c1 ys.length cap1 (1048576 - (xs.length : Int)) _ hly (by omega) (by omega) hbig2).mono ?_
      rintro e w2 ⟨rfl, g2⟩
      have HG2 : Hid (Old w w2) := Old.trans HG1.out g2
      clear g2
      go_wp2_with fail
      go_ret
      exact ⟨rfl, HG2.out⟩
    · have hy2 : ys.length ≤ 1048576 := by omega
      have SP : Hid (∀ v u W, Row W v xs → Row W u ys → Calls Try.prog 20 #[.agg #[.bool n, v], .agg #[.bool m, u]] W fun e w' => e = .returned (.int .i64 z) ∧ Old W w') := hspec hx2 hy2
      have IM : Hid (∀ v u W, Row W v xs → Row W u ys → Calls Try.prog 32 #[.agg #[.bool n, v], .agg #[.bool m, u]] W fun e w' => e = .returned (.int .i64 z) ∧ Old W w') := himpl hx2 hy2
      have dl2 : decide ((1048576 : Int) - (xs.length : Int) - (ys.length : Int) < 0) = false := decide_eq_false (by omega)
      have dro : (z != z) = false := by simp
      clear hspec himpl
      go_enter Try.func8, Try.ntmps8
      go_wp2_with fail
      refine (szWhole_yes n c0 xs.length cap0 1048576 _ hlx (by omega) (by omega) (by omega)).mono ?_
      rintro e w1 ⟨rfl, g1⟩
      have s1 := (St.at1 w (.bool n) (.slice c0 xs.length cap0) (.bool m) (.slice c1 ys.length cap1) 33 33).old g1
      have s2 := (St.at2 w (.bool n) (.slice c0 xs.length cap0) (.bool m) (.slice c1 ys.length cap1) 33 33).old g1
      have b0 := s2.c0
      have b1 := s2.c1
      have HG1 : Hid (Old w w1) := Old.trans (HA.out _ _ _ _) g1
      have HS1 : Hid (St w1 w.heap.size (.bool n) (.slice c0 xs.length cap0) 33 ∧ St w1 (w.heap.size + 1) (.bool m) (.slice c1 ys.length cap1) 33) := ⟨s1, s2⟩
      clear g1 s1 s2 hbig
      go_wp2_with fail
      refine (szWhole_yes m c1 ys.length cap1 (1048576 - (xs.length : Int)) _ hly (by omega) (by omega) (by omega)).mono ?_
      rintro e w2 ⟨rfl, g2⟩
      clear b0 b1 hbig2
      have HG_0 : Hid (Old w w2) := Old.trans HG1.out g2
      have A_0 : Hid (St w2 w.heap.size (.bool n) (.slice c0 xs.length cap0) 33) := HS1.out.1.old g2
      have B_0 : Hid (St w2 (w.heap.size + 1) (.bool m) (.slice c1 ys.length cap1) 33) := HS1.out.2.old g2
      have hs2 : w.heap.size + 2 ≤ w2.heap.size := by have := B_0.out.lt; omega
      clear g2 HG1 HS1 HA
      have zA0 := A_0.out.c0
      have zA1 := A_0.out.c1
      have zB0 := B_0.out.c0
      have zB1 := B_0.out.c1
      have HAS : Hid (∀ W', Old w2 W' → (W'.cell? ⟨w.heap.size, 0, none⟩ = some (.bool n) ∧ W'.cell? ⟨w.heap.size, 1, none⟩ = some (.slice c0 xs.length cap0) ∧ W'.cell? ⟨w.heap.size + 1, 0, none⟩ = some (.bool m) ∧ W'.cell? ⟨w.heap.size + 1, 1, none⟩ = some (.slice c1 ys.length cap1))) := fun W' g => ⟨(A_0.out.old g).c0, (A_0.out.old g).c1, (B_0.out.old g).c0, (B_0.out.old g).c1⟩
      have tok : True := trivial
      go_wp2_with fail
      go_region_held3 (fun W' => W'.cell? ⟨w.heap.size, 0, none⟩ = some (.bool n) ∧ W'.cell? ⟨w.heap.size, 1, none⟩ = some (.slice c0 xs.length cap0) ∧ W'.cell? ⟨w.heap.size + 1, 0, none⟩ = some (.bool m) ∧ W'.cell? ⟨w.heap.size + 1, 1, none⟩ = some (.slice c1 ys.length cap1)) (first | exact HAS.out _ G5.out | exact HAS.out _ G4.out | exact HAS.out _ G3.out | exact HAS.out _ (Below.drew (Old.refl w2)) | exact HAS.out _ (Old.refl w2)) (first
        | (go_at_call 23; have _t := tok; refine (toWhole_any n xs _ _ (HV.out.old (HG_0.out.drewN 1)) hx2).mono ?_; rintro e w3 ⟨v3, rfl, g3, o3⟩; obtain ⟨a3, cap3, rfl⟩ := (Own.row o3).slice; have G3 : Hid (Old w2 w3) := Old.trans ((Old.refl _).drewN 1) g3; have R3 : Hid (Row w3 (.slice a3 xs.length cap3) xs) := Own.row o3; clear tok g3 o3)
        | (go_at_call 23; refine (toWhole_any m ys _ _ (HU.out.old (Old.trans HG_0.out G3.out)) hy2).mono ?_; rintro e w4 ⟨v4, rfl, g4, o4⟩; obtain ⟨a4, cap4, rfl⟩ := (Own.row o4).slice; have G4 : Hid (Old w2 w4) := Old.trans G3.out g4; have R4 : Hid (Row w4 (.slice a3 xs.length cap3) xs) := R3.out.old g4; have Q4 : Hid (Row w4 (.slice a4 ys.length cap4) ys) := Own.row o4; clear g4 o4)
        | (go_at_call 20; refine (SP.out _ _ _ R4.out Q4.out).mono ?_; rintro e w5 ⟨rfl, g5⟩; have G5 : Hid (Old w2 w5) := Old.trans G4.out g5; clear g5))
      clear zA0 zA1 zB0 zB1
      have HG_1 : Hid (Old w w5) := Old.trans HG_0.out (G5.out)
      have A_1 : Hid (St w5 w.heap.size (.bool n) (.slice c0 xs.length cap0) 33) := A_0.out.old (G5.out)
      have B_1 : Hid (St w5 (w.heap.size + 1) (.bool m) (.slice c1 ys.length cap1) 33) := B_0.out.old (G5.out)
      clear HG_0 A_0 B_0
      clear G3 G4 G5 R3 R4 Q4 HAS
      have zA0 := A_1.out.c0
      have zA1 := A_1.out.c1
      have zB0 := B_1.out.c0
      have zB1 := B_1.out.c1
      go_wp2_with fail
      refine (toWhole_any n xs _ _ (HV.out.old HG_1.out) hx2).mono ?_
      rintro e w7 ⟨v7, rfl, g7, o7⟩
      obtain ⟨a7, cap7, rfl⟩ := (Own.row o7).slice
      clear zA0 zA1 zB0 zB1
      have HG_2 : Hid (Old w (w7.alloc (.cells #[.bool n, .slice a7 xs.length cap7] 25))) := Old.trans HG_1.out (Old.trans g7 ((Old.refl w7).alloc _))
      have A_2 : Hid (St (w7.alloc (.cells #[.bool n, .slice a7 xs.length cap7] 25)) w.heap.size (.bool n) (.slice c0 xs.length cap0) 33) := A_1.out.old (Old.trans g7 ((Old.refl w7).alloc _))
      have B_2 : Hid (St (w7.alloc (.cells #[.bool n, .slice a7 xs.length cap7] 25)) (w.heap.size + 1) (.bool m) (.slice c1 ys.length cap1) 33) := B_1.out.old (Old.trans g7 ((Old.refl w7).alloc _))
      clear HG_1 A_1 B_1
      have X_2 : Hid (St (w7.alloc (.cells #[.bool n, .slice a7 xs.length cap7] 25)) w7.heap.size (.bool n) (.slice a7 xs.length cap7) 25) := St.new w7 _ _ _
      have P_2 : Hid (Row (w7.alloc (.cells #[.bool n, .slice a7 xs.length cap7] 25)) (.slice a7 xs.length cap7) xs) := (Own.row o7).old ((Old.refl _).alloc _)
      clear g7 o7
      have zA0 := A_2.out.c0
      have zA1 := A_2.out.c1
      have zB0 := B_2.out.c0
      have zB1 := B_2.out.c1
      go_wp2_with fail
      refine (toWhole_any m ys _ _ (HU.out.old HG_2.out) hy2).mono ?_
      rintro e w8 ⟨v8, rfl, g8, o8⟩
      obtain ⟨a8, cap8, rfl⟩ := (Own.row o8).slice
      clear zA0 zA1 zB0 zB1
      have HG_3 : Hid (Old w (w8.alloc (.cells #[.bool m, .slice a8 ys.length cap8] 25))) := Old.trans HG_2.out (Old.trans g8 ((Old.refl w8).alloc _))
      have A_3 : Hid (St (w8.alloc (.cells #[.bool m, .slice a8 ys.length cap8] 25)) w.heap.size (.bool n) (.slice c0 xs.length cap0) 33) := A_2.out.old (Old.trans g8 ((Old.refl w8).alloc _))
      have B_3 : Hid (St (w8.alloc (.cells #[.bool m, .slice a8 ys.length cap8] 25)) (w.heap.size + 1) (.bool m) (.slice c1 ys.length cap1) 33) := B_2.out.old (Old.trans g8 ((Old.refl w8).alloc _))
      have X_3 : Hid (St (w8.alloc (.cells #[.bool m, .slice a8 ys.length cap8] 25)) w7.heap.size (.bool n) (.slice a7 xs.length cap7) 25) := X_2.out.old (Old.trans g8 ((Old.refl w8).alloc _))
      have P_3 : Hid (Row (w8.alloc (.cells #[.bool m, .slice a8 ys.length cap8] 25)) (.slice a7 xs.length cap7) xs) := P_2.out.old (Old.trans g8 ((Old.refl w8).alloc _))
      clear HG_2 A_2 B_2 X_2 P_2
      have Y_3 : Hid (St (w8.alloc (.cells #[.bool m, .slice a8 ys.length cap8] 25)) w8.heap.size (.bool m) (.slice a8 ys.length cap8) 25) := St.new w8 _ _ _
      have Q_3 : Hid (Row (w8.alloc (.cells #[.bool m, .slice a8 ys.length cap8] 25)) (.slice a8 ys.length cap8) ys) := (Own.row o8).old ((Old.refl _).alloc _)
      clear g8 o8
      have zX0 := X_3.out.c0
      have zX1 := X_3.out.c1
      have zY0 := Y_3.out.c0
      have zY1 := Y_3.out.c1
      go_wp2_with fail
      refine (IM.out _ _ _ P_3.out Q_3.out).mono ?_
      rintro e w10 ⟨rfl, g10⟩
      clear zX0 zX1 zY0 zY1
      have HG_4 : Hid (Old w w10) := Old.trans HG_3.out (g10)
      have A_4 : Hid (St w10 w.heap.size (.bool n) (.slice c0 xs.length cap0) 33) := A_3.out.old (g10)
      have B_4 : Hid (St w10 (w.heap.size + 1) (.bool m) (.slice c1 ys.length cap1) 33) := B_3.out.old (g10)
      have X_4 : Hid (St w10 w7.heap.size (.bool n) (.slice a7 xs.length cap7) 25) := X_3.out.old (g10)
      have P_4 : Hid (Row w10 (.slice a7 xs.length cap7) xs) := P_3.out.old (g10)
      have Y_4 : Hid (St w10 w8.heap.size (.bool m) (.slice a8 ys.length cap8) 25) := Y_3.out.old (g10)
      have Q_4 : Hid (Row w10 (.slice a8 ys.length cap8) ys) := Q_3.out.old (g10)
      clear HG_3 A_3 B_3 X_3 P_3 Y_3 Q_3
      clear g10
      have zX0 := X_4.out.c0
      have zX1 := X_4.out.c1
      have zA0 := A_4.out.c0
      have zA1 := A_4.out.c1
      have HAS : Hid (∀ W', Old w10 W' → (W'.cell? ⟨w7.heap.size, 0, none⟩ = some (.bool n) ∧ W'.cell? ⟨w7.heap.size, 1, none⟩ = some (.slice a7 xs.length cap7) ∧ W'.cell? ⟨w.heap.size, 0, none⟩ = some (.bool n) ∧ W'.cell? ⟨w.heap.size, 1, none⟩ = some (.slice c0 xs.length cap0))) := fun W' g => ⟨(X_4.out.old g).c0, (X_4.out.old g).c1, (A_4.out.old g).c0, (A_4.out.old g).c1⟩
      go_wp2_with fail
      go_region_held3 (fun W' => W'.cell? ⟨w7.heap.size, 0, none⟩ = some (.bool n) ∧ W'.cell? ⟨w7.heap.size, 1, none⟩ = some (.slice a7 xs.length cap7) ∧ W'.cell? ⟨w.heap.size, 0, none⟩ = some (.bool n) ∧ W'.cell? ⟨w.heap.size, 1, none⟩ = some (.slice c0 xs.length cap0)) (first | exact HAS.out _ GE.out | exact HAS.out _ GT.out | exact HAS.out _ (Below.drew (Old.refl w10)) | exact HAS.out _ (Old.refl w10)) (first
        | (go_at_call 23; refine (toWhole_any n xs _ _ (HV.out.old (HG_4.out.drewN 1)) hx2).mono ?_; rintro e wt ⟨vt, rfl, gt, ot⟩; obtain ⟨at_, capt, rfl⟩ := (Own.row ot).slice; have GT : Hid (Old w10 wt) := Old.trans ((Old.refl _).drewN 1) gt; have RT : Hid (Row wt (.slice at_ xs.length capt) xs) := Own.row ot; clear gt ot)
        | (go_at_call 25; refine (eqWhole_yes n xs _ _ _ (P_4.out.old GT.out) RT.out (by omega)).mono ?_; rintro e w12 ⟨rfl, ge⟩; have GE : Hid (Old w10 w12) := Old.trans GT.out ge; clear ge))
      clear zX0 zX1 zA0 zA1
      have HG_5 : Hid (Old w w12) := Old.trans HG_4.out (GE.out)
      have A_5 : Hid (St w12 w.heap.size (.bool n) (.slice c0 xs.length cap0) 33) := A_4.out.old (GE.out)
      have B_5 : Hid (St w12 (w.heap.size + 1) (.bool m) (.slice c1 ys.length cap1) 33) := B_4.out.old (GE.out)
      have X_5 : Hid (St w12 w7.heap.size (.bool n) (.slice a7 xs.length cap7) 25) := X_4.out.old (GE.out)
      have P_5 : Hid (Row w12 (.slice a7 xs.length cap7) xs) := P_4.out.old (GE.out)
      have Y_5 : Hid (St w12 w8.heap.size (.bool m) (.slice a8 ys.length cap8) 25) := Y_4.out.old (GE.out)
      have Q_5 : Hid (Row w12 (.slice a8 ys.length cap8) ys) := Q_4.out.old (GE.out)
      clear HG_4 A_4 B_4 X_4 P_4 Y_4 Q_4
      clear GE GT RT HAS
      have zY0 := Y_5.out.c0
      have zY1 := Y_5.out.c1
      have zB0 := B_5.out.c0
      have zB1 := B_5.out.c1
      have HAS : Hid (∀ W', Old w12 W' → (W'.cell? ⟨w8.heap.size, 0, none⟩ = some (.bool m) ∧ W'.cell? ⟨w8.heap.size, 1, none⟩ = some (.slice a8 ys.length cap8) ∧ W'.cell? ⟨w.heap.size + 1, 0, none⟩ = some (.bool m) ∧ W'.cell? ⟨w.heap.size + 1, 1, none⟩ = some (.slice c1 ys.length cap1))) := fun W' g => ⟨(Y_5.out.old g).c0, (Y_5.out.old g).c1, (B_5.out.old g).c0, (B_5.out.old g).c1⟩
      go_wp2_with fail
      go_region_held3 (fun W' => W'.cell? ⟨w8.heap.size, 0, none⟩ = some (.bool m) ∧ W'.cell? ⟨w8.heap.size, 1, none⟩ = some (.slice a8 ys.length cap8) ∧ W'.cell? ⟨w.heap.size + 1, 0, none⟩ = some (.bool m) ∧ W'.cell? ⟨w.heap.size + 1, 1, none⟩ = some (.slice c1 ys.length cap1)) (first | exact HAS.out _ GE.out | exact HAS.out _ GT.out | exact HAS.out _ (Below.drew (Old.refl w12)) | exact HAS.out _ (Old.refl w12)) (first
        | (go_at_call 23; refine (toWhole_any m ys _ _ (HU.out.old (HG_5.out.drewN 1)) hy2).mono ?_; rintro e wt ⟨vt, rfl, gt, ot⟩; obtain ⟨at_, capt, rfl⟩ := (Own.row ot).slice; have GT : Hid (Old w12 wt) := Old.trans ((Old.refl _).drewN 1) gt; have RT : Hid (Row wt (.slice at_ ys.length capt) ys) := Own.row ot; clear gt ot)
        | (go_at_call 25; refine (eqWhole_yes m ys _ _ _ (Q_5.out.old GT.out) RT.out (by omega)).mono ?_; rintro e w13 ⟨rfl, ge⟩; have GE : Hid (Old w12 w13) := Old.trans GT.out ge; clear ge))
      clear zY0 zY1 zB0 zB1
      have HG_6 : Hid (Old w w13) := Old.trans HG_5.out (GE.out)
      have A_6 : Hid (St w13 w.heap.size (.bool n) (.slice c0 xs.length cap0) 33) := A_5.out.old (GE.out)
      have B_6 : Hid (St w13 (w.heap.size + 1) (.bool m) (.slice c1 ys.length cap1) 33) := B_5.out.old (GE.out)
      have X_6 : Hid (St w13 w7.heap.size (.bool n) (.slice a7 xs.length cap7) 25) := X_5.out.old (GE.out)
      have P_6 : Hid (Row w13 (.slice a7 xs.length cap7) xs) := P_5.out.old (GE.out)
      have Y_6 : Hid (St w13 w8.heap.size (.bool m) (.slice a8 ys.length cap8) 25) := Y_5.out.old (GE.out)
      have Q_6 : Hid (Row w13 (.slice a8 ys.length cap8) ys) := Q_5.out.old (GE.out)
      clear HG_5 A_5 B_5 X_5 P_5 Y_5 Q_5
      clear GE GT RT HAS
      go_wp2_with fail
      go_ret
      exact ⟨rfl, HG_6.out⟩
end Go.Proofs.Ytdpcahphbjdhaaa
