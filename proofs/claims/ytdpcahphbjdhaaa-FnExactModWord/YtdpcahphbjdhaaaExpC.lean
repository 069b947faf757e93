/- Proved: what the model answers, as functions of the numbers: comparing, what is left by a word, the whole number of a word. -/
import Derived.Test.YtdpcahphbjdhaaaExpA
import Derived.Test.YtdpcahphbjdhaaaLawB
import Derived.Deep.RegionHeld3
namespace Go.Proofs.Ytdpcahphbjdhaaa
open Go.ChangeShapes Go.WideShapes Go.ChangeAt Go.RowKit
open M2
set_option linter.unusedVariables false
set_option linter.unusedSimpArgs false
/-- what CmpWholes answers -/
def cmpW (n m : Bool) (xs ys : List Int) : Int := if Good n xs ∧ Good m ys then cmpI (sv n (nat xs)) (sv m (nat ys)) else 0
set_option maxHeartbeats 8000000 in
theorem spec_cmp (n m : Bool) (xs ys : List Int) (v u : Value) (w : World) (hv : Row w v xs) (hu : Row w u ys) (la : xs.length ≤ 1048576) (lb : ys.length ≤ 1048576) :
    Calls Try.prog 20 #[.agg #[.bool n, v], .agg #[.bool m, u]] w fun e w' => e = .returned (.int .i64 (cmpW n m xs ys)) ∧ Old w w' := by
  have HV : Hid (Row w v xs) := hv
  have HU : Hid (Row w u ys) := hu
  obtain ⟨c0, cap0, rfl⟩ := hv.slice
  obtain ⟨c1, cap1, rfl⟩ := hu.slice
  clear hv hu
  have HA : Hid (∀ t1 t2 xs1 xs2, Old w ((w.alloc (.cells xs1 t1)).alloc (.cells xs2 t2))) := fun t1 t2 xs1 xs2 => ((Old.refl w).alloc _).alloc _
  by_cases hga : Good n xs
  · have cga := fun W (h : Row W (.slice c0 xs.length cap0) xs) => good_any n xs _ W h la
    rw [decide_eq_true hga] at cga
    by_cases hgb : Good m ys
    · have cgb := fun W (h : Row W (.slice c1 ys.length cap1) ys) => good_any m ys _ W h lb
      rw [decide_eq_true hgb] at cgb
      have hR2 : cmpW n m xs ys = cmpI (sv n (nat xs)) (sv m (nat ys)) := by unfold cmpW; rw [if_pos ⟨hga, hgb⟩]
      rw [hR2]
      obtain ⟨ex, gx, lx⟩ := good_gw hga
      obtain ⟨ey, gy, ly⟩ := good_gw hgb
      have HV2 : Hid (Row w (.slice c0 xs.length cap0) (toI (nat xs))) := by rw [ex]; exact HV.out
      have HU2 : Hid (Row w (.slice c1 ys.length cap1) (toI (nat ys))) := by rw [ey]; exact HU.out
      have HGX : Hid (Gw n (nat xs) ∧ (nat xs).length ≤ 40) := ⟨gx, lx⟩
      have HGY : Hid (Gw m (nat ys) ∧ (nat ys).length ≤ 40) := ⟨gy, ly⟩
      clear hga hgb ex ey gx gy lx ly hR2
      go_enter Try.func20, Try.ntmps20
      go_wp2_with fail
      refine (cga _ (HV.out.old (HA.out _ _ _ _))).mono ?_
      rintro e w1 ⟨rfl, g1⟩
      have SA1 : Hid (St w1 w.heap.size (.bool n) (.slice c0 xs.length cap0) 25) := (St.at1 w _ _ _ _ _ _).old g1
      have SB1 : Hid (St w1 (w.heap.size + 1) (.bool m) (.slice c1 ys.length cap1) 25) := (St.at2 w _ _ _ _ _ _).old g1
      have HG1 : Hid (Old w w1) := Old.trans (HA.out _ _ _ _) g1
      have b0 := SB1.out.c0
      have b1 := SB1.out.c1
      clear g1 HA
      go_wp2_with fail
      refine (cgb _ (HU.out.old HG1.out)).mono ?_
      rintro e w2 ⟨rfl, g2⟩
      have SA2 : Hid (St w2 w.heap.size (.bool n) (.slice c0 xs.length cap0) 25) := SA1.out.old g2
      have SB2 : Hid (St w2 (w.heap.size + 1) (.bool m) (.slice c1 ys.length cap1) 25) := SB1.out.old g2
      have HG2 : Hid (Old w w2) := Old.trans HG1.out g2
      clear g2 b0 b1 SA1 SB1 HG1
      have a0 := SA2.out.c0
      have a1 := SA2.out.c1
      have b0 := SB2.out.c0
      have b1 := SB2.out.c1
      have HAS : Hid (∀ W', Old w2 W' → (W'.cell? ⟨w.heap.size, 0, none⟩ = some (.bool n) ∧ W'.cell? ⟨w.heap.size, 1, none⟩ = some (.slice c0 xs.length cap0) ∧ W'.cell? ⟨w.heap.size + 1, 0, none⟩ = some (.bool m) ∧ W'.cell? ⟨w.heap.size + 1, 1, none⟩ = some (.slice c1 ys.length cap1))) := fun W' g => ⟨(SA2.out.old g).c0, (SA2.out.old g).c1, (SB2.out.old g).c0, (SB2.out.old g).c1⟩
      have tok : True := trivial
      go_wp2_with fail
      go_region_held3 (fun W' => W'.cell? ⟨w.heap.size, 0, none⟩ = some (.bool n) ∧ W'.cell? ⟨w.heap.size, 1, none⟩ = some (.slice c0 xs.length cap0) ∧ W'.cell? ⟨w.heap.size + 1, 0, none⟩ = some (.bool m) ∧ W'.cell? ⟨w.heap.size + 1, 1, none⟩ = some (.slice c1 ys.length cap1)) (first | exact HAS.out _ G5.out | exact HAS.out _ G4.out | exact HAS.out _ G3.out | exact HAS.out _ (Below.drew (Old.refl w2)) | exact HAS.out _ (Old.refl w2)) (first
        | (go_at_call 49; have _t := tok; refine (in_any n c0 xs.length cap0 _).mono ?_; rintro e w3 ⟨rfl, g3⟩; have G3 : Hid (Old w2 w3) := Old.trans ((Old.refl _).drewN 1) g3; clear tok g3)
        | (go_at_call 49; refine (in_any m c1 ys.length cap1 _).mono ?_; rintro e w4 ⟨rfl, g4⟩; have G4 : Hid (Old w2 w4) := Old.trans G3.out g4; clear g4)
        | (go_at_call 53; refine (compare_any n m (nat xs) (nat ys) _ _ _ (HV2.out.old (Old.trans HG2.out G4.out)) (HU2.out.old (Old.trans HG2.out G4.out)) HGX.out.1 HGY.out.1 (by have := HGX.out.2; omega) (by have := HGY.out.2; omega)).mono ?_; rintro e w5 ⟨rfl, g5⟩; have G5 : Hid (Old w2 w5) := Old.trans G4.out g5; clear g5))
      all_goals
        go_wp2_with fail
        go_ret
        exact ⟨rfl, Old.trans HG2.out G5.out⟩
    · have hR2 : cmpW n m xs ys = 0 := by unfold cmpW; rw [if_neg (fun h => hgb h.2)]
      rw [hR2]
      have cgb := fun W (h : Row W (.slice c1 ys.length cap1) ys) => good_any m ys _ W h lb
      rw [decide_eq_false hgb] at cgb
      clear hga hgb hR2
      go_enter Try.func20, Try.ntmps20
      go_wp2_with fail
      refine (cga _ (HV.out.old (HA.out _ _ _ _))).mono ?_
      rintro e w1 ⟨rfl, g1⟩
      have SB1 : Hid (St w1 (w.heap.size + 1) (.bool m) (.slice c1 ys.length cap1) 25) := (St.at2 w _ _ _ _ _ _).old g1
      have HG1 : Hid (Old w w1) := Old.trans (HA.out _ _ _ _) g1
      have b0 := SB1.out.c0
      have b1 := SB1.out.c1
      clear g1 HA
      go_wp2_with fail
      refine (cgb _ (HU.out.old HG1.out)).mono ?_
      rintro e w2 ⟨rfl, g2⟩
      have HG2 : Hid (Old w w2) := Old.trans HG1.out g2
      clear g2
      go_wp2_with fail
      go_ret
      exact ⟨rfl, HG2.out⟩
  · have hR2 : cmpW n m xs ys = 0 := by unfold cmpW; rw [if_neg (fun h => hga h.1)]
    rw [hR2]
    have cga := fun W (h : Row W (.slice c0 xs.length cap0) xs) => good_any n xs _ W h la
    rw [decide_eq_false hga] at cga
    clear hga hR2
    go_enter Try.func20, Try.ntmps20
    go_wp2_with fail
    refine (cga _ (HV.out.old (HA.out _ _ _ _))).mono ?_
    rintro e w1 ⟨rfl, g1⟩
    have HG1 : Hid (Old w w1) := Old.trans (HA.out _ _ _ _) g1
    clear g1
    go_wp2_with fail
    go_ret
    exact ⟨rfl, HG1.out⟩
theorem spec_isMod (p : Int) (w : World) :
    Calls Try.prog 71 #[.int .i64 p] w fun e w' => e = .returned (.bool (decide (2 ≤ p ∧ p ≤ 268435456))) ∧ w' = w := by
  go_enter Try.func71, Try.ntmps71
  go_wp2_with fail
  refine (specIn p 2 268435456 _).mono ?_
  rintro e w' ⟨rfl, rfl⟩
  go_wp2_with fail
  go_ret
  exact ⟨by simp [Bool.decide_and], rfl⟩
/-- what ModWord answers -/
def modW (n : Bool) (xs : List Int) (k : Int) : Int := if Good n xs ∧ (2 ≤ k ∧ k ≤ 268435456) then sv n (nat xs) % k else 0
set_option maxHeartbeats 8000000 in
theorem spec_mod (n : Bool) (xs : List Int) (k : Int) (v : Value) (w : World) (hv : Row w v xs) (la : xs.length ≤ 1048576) :
    Calls Try.prog 37 #[.agg #[.bool n, v], .int .i64 k] w fun e w' => e = .returned (.int .i64 (modW n xs k)) ∧ Old w w' := by
  have HV : Hid (Row w v xs) := hv
  obtain ⟨c0, cap0, rfl⟩ := hv.slice
  clear hv
  have cm := fun W => spec_isMod k W
  by_cases hga : Good n xs
  · have cga := fun W (h : Row W (.slice c0 xs.length cap0) xs) => good_any n xs _ W h la
    rw [decide_eq_true hga] at cga
    by_cases hk : 2 ≤ k ∧ k ≤ 268435456
    · rw [decide_eq_true hk] at cm
      have hR2 : modW n xs k = sv n (nat xs) % k := by unfold modW; rw [if_pos ⟨hga, hk⟩]
      rw [hR2]
      obtain ⟨ex, gx, lx⟩ := good_gw hga
      have HV2 : Hid (Row w (.slice c0 xs.length cap0) (toI (nat xs))) := by rw [ex]; exact HV.out
      have HGX : Hid (Gw n (nat xs) ∧ (nat xs).length ≤ 40) := ⟨gx, lx⟩
      obtain ⟨j, rfl⟩ := Int.eq_ofNat_of_zero_le (show 0 ≤ k by omega)
      clear hga ex gx lx hR2
      go_enter Try.func37, Try.ntmps37
      go_wp2_with fail
      refine (cga _ (HV.out.old ((Old.refl w).alloc _))).mono ?_
      rintro e w1 ⟨rfl, g1⟩
      have SA1 : Hid (St w1 w.heap.size (.bool n) (.slice c0 xs.length cap0) 25) := (St.new w _ _ _).old g1
      have HG1 : Hid (Old w w1) := Old.trans ((Old.refl w).alloc _) g1
      have a0 := SA1.out.c0
      have a1 := SA1.out.c1
      clear g1
      go_wp2_with fail
      refine (cm _).mono ?_
      rintro e w' ⟨rfl, rfl⟩
      go_wp2_with fail
      refine (in_any n c0 xs.length cap0 _).mono ?_
      rintro e w3 ⟨rfl, g3⟩
      have HG3 : Hid (Old w w3) := Old.trans HG1.out g3
      clear g3
      go_wp2_with fail
      refine (modulo_any n (nat xs) j _ _ (HV2.out.old HG3.out) HGX.out.1.1.1 (by have := HGX.out.2; omega) (by omega) (by omega)).mono ?_
      rintro e w4 ⟨rfl, g4⟩
      have HG4 : Hid (Old w w4) := Old.trans HG3.out g4
      clear g4
      go_wp2_with fail
      go_ret
      exact ⟨rfl, HG4.out⟩
    · rw [decide_eq_false hk] at cm
      have hR2 : modW n xs k = 0 := by unfold modW; rw [if_neg (fun h => hk h.2)]
      rw [hR2]
      clear hga hk hR2
      go_enter Try.func37, Try.ntmps37
      go_wp2_with fail
      refine (cga _ (HV.out.old ((Old.refl w).alloc _))).mono ?_
      rintro e w1 ⟨rfl, g1⟩
      have HG1 : Hid (Old w w1) := Old.trans ((Old.refl w).alloc _) g1
      clear g1
      go_wp2_with fail
      refine (cm _).mono ?_
      rintro e w' ⟨rfl, rfl⟩
      go_wp2_with fail
      go_ret
      exact ⟨rfl, HG1.out⟩
  · have cga := fun W (h : Row W (.slice c0 xs.length cap0) xs) => good_any n xs _ W h la
    rw [decide_eq_false hga] at cga
    have hR2 : modW n xs k = 0 := by unfold modW; rw [if_neg (fun h => hga h.1)]
    rw [hR2]
    clear hga hR2
    go_enter Try.func37, Try.ntmps37
    go_wp2_with fail
    refine (cga _ (HV.out.old ((Old.refl w).alloc _))).mono ?_
    rintro e w1 ⟨rfl, g1⟩
    have HG1 : Hid (Old w w1) := Old.trans ((Old.refl w).alloc _) g1
    clear g1
    go_wp2_with fail
    go_ret
    exact ⟨rfl, HG1.out⟩
end Go.Proofs.Ytdpcahphbjdhaaa
