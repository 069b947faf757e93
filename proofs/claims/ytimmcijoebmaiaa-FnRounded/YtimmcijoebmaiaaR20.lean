/- Proved: several texts in one: what each proves is said ahead of it. -/
import Derived.Test.YtimmcijoebmaiaaR07
import Derived.Test.YtimmcijoebmaiaaR03
import Derived.Deep.RegionHeld3
/- Proved: what the model answers, as functions of the numbers: whether there is a quotient, and the nearest one. -/
namespace Go.Proofs.Ytimmcijoebmaiaa
open Go.ChangeShapes Go.WideShapes Go.ChangeAt Go.RowKit
open M2
set_option linter.unusedVariables false
set_option linter.unusedSimpArgs false
theorem StW.at31 (w : World) (x y x' y' x'' y'' : Value) (t t' t'' : TypeId) : StW (((w.alloc (.cells #[x, y] t)).alloc (.cells #[x', y'] t')).alloc (.cells #[x'', y''] t'')) w.heap.size x y t :=
  (heap_alloc_old _ _ (by simp; omega)).trans (StW.at1 w x y x' y' t t')
theorem StW.at32 (w : World) (x y x' y' x'' y'' : Value) (t t' t'' : TypeId) : StW (((w.alloc (.cells #[x, y] t)).alloc (.cells #[x', y'] t')).alloc (.cells #[x'', y''] t'')) (w.heap.size + 1) x' y' t' :=
  (heap_alloc_old _ _ (by simp)).trans (StW.at2 w x y x' y' t t')
theorem StW.at33 (w : World) (x y x' y' x'' y'' : Value) (t t' t'' : TypeId) : StW (((w.alloc (.cells #[x, y] t)).alloc (.cells #[x', y'] t')).alloc (.cells #[x'', y''] t'')) (w.heap.size + 1 + 1) x'' y'' t'' := by
  have h := heap_alloc_new ((w.alloc (.cells #[x, y] t)).alloc (.cells #[x', y'] t')) (.cells #[x'', y''] t'')
  have e : ((w.alloc (.cells #[x, y] t)).alloc (.cells #[x', y'] t')).heap.size = w.heap.size + 1 + 1 := by simp
  rw [e] at h
  exact h
abbrev Dv (n m : Bool) (xs ys : List Int) : Prop := (Good n xs ∧ Good m ys) ∧ m = false ∧ 0 < ys.length
set_option maxHeartbeats 8000000 in
theorem divides_any (n m : Bool) (xs ys : List Int) (v u : Value) (w : World) (hv : Row w v xs) (hu : Row w u ys) (la : xs.length ≤ 1048576) (lb : ys.length ≤ 1048576) :
    Calls Try.prog 25 #[.agg #[.bool n, v], .agg #[.bool m, u]] w fun e w' => e = .returned (.bool (decide (Dv n m xs ys))) ∧ Old w w' := by
  have HV : Hid (Row w v xs) := hv
  have HU : Hid (Row w u ys) := hu
  obtain ⟨c0, cap0, rfl⟩ := hv.slice
  obtain ⟨c1, cap1, rfl⟩ := hu.slice
  clear hv hu
  have HA : Hid (∀ t1 t2 xs1 xs2, Old w ((w.alloc (.cells xs1 t1)).alloc (.cells xs2 t2))) := fun t1 t2 xs1 xs2 => ((Old.refl w).alloc _).alloc _
  by_cases hga : Good n xs
  · have cga := fun W (h : Row W (.slice c0 xs.length cap0) xs) => good_any n xs _ W h la
    rw [decide_eq_true hga] at cga
    by_cases hgb : Good m ys
    · have cgb := fun W (h : Row W (.slice c1 ys.length cap1) ys) => good_any m ys _ W h lb
      rw [decide_eq_true hgb] at cgb
      obtain ⟨D, hD⟩ : ∃ D, decide (Dv n m xs ys) = D := ⟨_, rfl⟩
      have HD : Hid (D = (!m && decide (0 < ys.length))) := by
        have hiff : Dv n m xs ys ↔ (m = false ∧ 0 < ys.length) := ⟨fun h => h.2, fun h => ⟨⟨hga, hgb⟩, h⟩⟩
        rw [← hD]
        show decide (Dv n m xs ys) = _
        by_cases hdv : Dv n m xs ys
        · rw [decide_eq_true hdv]
          obtain ⟨h1, h2⟩ := hiff.1 hdv
          rw [h1, decide_eq_true h2]
          rfl
        · rw [decide_eq_false hdv]
          cases hm : m with
          | true => rfl
          | false =>
            have : ¬ 0 < ys.length := fun h => hdv (hiff.2 ⟨hm, h⟩)
            rw [decide_eq_false this]
            rfl
      rw [hD]
      clear hga hgb hD
      have key : ∀ w2, Old w w2 → StW w2 (w.heap.size + 1) (.bool m) (.slice c1 ys.length cap1) 25 → w2.cell? ⟨w.heap.size + 1, 0, none⟩ = some (.bool m) ∧ w2.cell? ⟨w.heap.size + 1, 1, none⟩ = some (.slice c1 ys.length cap1) := fun w2 _ s => ⟨s.c0, s.c1⟩
      clear key
      cases m with
      | true =>
        go_enter Try.func25, Try.ntmps25
        go_wp2_with fail
        refine (cga _ (HV.out.old (HA.out _ _ _ _))).mono ?_
        rintro e w1 ⟨rfl, g1⟩
        have SB1 : Hid (StW w1 (w.heap.size + 1) (.bool true) (.slice c1 ys.length cap1) 25) := (StW.at2 w _ _ _ _ _ _).old g1
        have HG1 : Hid (Old w w1) := Old.trans (HA.out _ _ _ _) g1
        have b0 := SB1.out.c0
        have b1 := SB1.out.c1
        clear g1 HA
        go_wp2_with fail
        refine (cgb _ (HU.out.old HG1.out)).mono ?_
        rintro e w2 ⟨rfl, g2⟩
        have SB2 : Hid (StW w2 (w.heap.size + 1) (.bool true) (.slice c1 ys.length cap1) 25) := SB1.out.old g2
        have HG2 : Hid (Old w w2) := Old.trans HG1.out g2
        clear g2 b0 b1
        have b0 := SB2.out.c0
        have b1 := SB2.out.c1
        go_wp2_with fail
        go_ret
        exact ⟨by rw [HD.out]; rfl, HG2.out⟩
      | false =>
        by_cases hy : 0 < ys.length
        · have dy : decide (0 < ys.length) = true := decide_eq_true hy
          go_enter Try.func25, Try.ntmps25
          go_wp2_with fail
          refine (cga _ (HV.out.old (HA.out _ _ _ _))).mono ?_
          rintro e w1 ⟨rfl, g1⟩
          have SB1 : Hid (StW w1 (w.heap.size + 1) (.bool false) (.slice c1 ys.length cap1) 25) := (StW.at2 w _ _ _ _ _ _).old g1
          have HG1 : Hid (Old w w1) := Old.trans (HA.out _ _ _ _) g1
          have b0 := SB1.out.c0
          have b1 := SB1.out.c1
          clear g1 HA
          go_wp2_with fail
          refine (cgb _ (HU.out.old HG1.out)).mono ?_
          rintro e w2 ⟨rfl, g2⟩
          have SB2 : Hid (StW w2 (w.heap.size + 1) (.bool false) (.slice c1 ys.length cap1) 25) := SB1.out.old g2
          have HG2 : Hid (Old w w2) := Old.trans HG1.out g2
          clear g2 b0 b1
          have b0 := SB2.out.c0
          have b1 := SB2.out.c1
          go_wp2_with fail
          go_ret
          exact ⟨by rw [HD.out, dy]; simp [hy], HG2.out⟩
        · have dy : decide (0 < ys.length) = false := decide_eq_false hy
          have dy2 : decide ((0 : Int) < (ys.length : Int)) = false := decide_eq_false (by omega)
          go_enter Try.func25, Try.ntmps25
          go_wp2_with fail
          refine (cga _ (HV.out.old (HA.out _ _ _ _))).mono ?_
          rintro e w1 ⟨rfl, g1⟩
          have SB1 : Hid (StW w1 (w.heap.size + 1) (.bool false) (.slice c1 ys.length cap1) 25) := (StW.at2 w _ _ _ _ _ _).old g1
          have HG1 : Hid (Old w w1) := Old.trans (HA.out _ _ _ _) g1
          have b0 := SB1.out.c0
          have b1 := SB1.out.c1
          clear g1 HA
          go_wp2_with fail
          refine (cgb _ (HU.out.old HG1.out)).mono ?_
          rintro e w2 ⟨rfl, g2⟩
          have SB2 : Hid (StW w2 (w.heap.size + 1) (.bool false) (.slice c1 ys.length cap1) 25) := SB1.out.old g2
          have HG2 : Hid (Old w w2) := Old.trans HG1.out g2
          clear g2 b0 b1
          have b0 := SB2.out.c0
          have b1 := SB2.out.c1
          go_wp2_with fail
          go_ret
          exact ⟨by rw [HD.out, dy]; simp [hy], HG2.out⟩
    · have hR2 : decide (Dv n m xs ys) = false := decide_eq_false (fun h => hgb h.1.2)
      rw [hR2]
      have cgb := fun W (h : Row W (.slice c1 ys.length cap1) ys) => good_any m ys _ W h lb
      rw [decide_eq_false hgb] at cgb
      clear hga hgb hR2
      go_enter Try.func25, Try.ntmps25
      go_wp2_with fail
      refine (cga _ (HV.out.old (HA.out _ _ _ _))).mono ?_
      rintro e w1 ⟨rfl, g1⟩
      have SB1 : Hid (StW w1 (w.heap.size + 1) (.bool m) (.slice c1 ys.length cap1) 25) := (StW.at2 w _ _ _ _ _ _).old g1
      have HG1 : Hid (Old w w1) := Old.trans (HA.out _ _ _ _) g1
      have b0 := SB1.out.c0
      have b1 := SB1.out.c1
      clear g1 HA
      go_wp2_with fail
      refine (cgb _ (HU.out.old HG1.out)).mono ?_
      rintro e w2 ⟨rfl, g2⟩
      have HG2 : Hid (Old w w2) := Old.trans HG1.out g2
      clear g2
      go_wp2_with fail
      go_ret
      exact ⟨rfl, HG2.out⟩
  · have hR2 : decide (Dv n m xs ys) = false := decide_eq_false (fun h => hga h.1.1)
    rw [hR2]
    have cga := fun W (h : Row W (.slice c0 xs.length cap0) xs) => good_any n xs _ W h la
    rw [decide_eq_false hga] at cga
    clear hga hR2
    go_enter Try.func25, Try.ntmps25
    go_wp2_with fail
    refine (cga _ (HV.out.old (HA.out _ _ _ _))).mono ?_
    rintro e w1 ⟨rfl, g1⟩
    have HG1 : Hid (Old w w1) := Old.trans (HA.out _ _ _ _) g1
    clear g1
    go_wp2_with fail
    go_ret
    exact ⟨rfl, HG1.out⟩
theorem near_len {n : Bool} {xs ys : List Nat} (lx : xs.length ≤ 40) (ly : ys.length ≤ 40) (hx : Lim xs) (hy : Lim ys) (hD : 0 < val ys) : (dg ((2 * sv n xs + (val ys : Int)) / (2 * (val ys : Int)))).length ≤ 1000 := by
  refine Nat.le_trans (dg_len (k := (xs.length + ys.length) + 1) ?_) (by omega)
  have h1 := val_lt hx
  have h2 := val_lt hy
  have h3 : LB ^ xs.length ≤ LB ^ (xs.length + ys.length) := Nat.pow_le_pow_right LB_pos (by omega)
  have h4 : LB ^ ys.length ≤ LB ^ (xs.length + ys.length) := Nat.pow_le_pow_right LB_pos (by omega)
  have h5 : LB ^ (xs.length + ys.length) * 8 ≤ LB ^ (xs.length + ys.length + 1) := by rw [Nat.pow_succ]; exact Nat.mul_le_mul (Nat.le_refl _) (by decide)
  have h6 := sv_abs n xs
  have h7 : 1 ≤ LB ^ (xs.length + ys.length) := Nat.one_le_pow _ _ LB_pos
  generalize hz2 : 2 * sv n xs + (val ys : Int) = z2
  have h8 : z2.natAbs ≤ 2 * val xs + val ys := by omega
  have hp : (0 : Int) < 2 * (val ys : Int) := by omega
  have a1 := Int.emod_nonneg z2 (show 2 * (val ys : Int) ≠ 0 by omega)
  have a2 := Int.emod_lt_of_pos z2 hp
  have a3 := Int.mul_ediv_add_emod z2 (2 * (val ys : Int))
  generalize z2 / (2 * (val ys : Int)) = q at *
  generalize z2 % (2 * (val ys : Int)) = r at *
  have : q.natAbs ≤ z2.natAbs + 1 := by
    rcases Int.lt_trichotomy q 0 with hq | hq | hq
    · have b1 : 2 * (val ys : Int) * (q + 1) ≤ 1 * (q + 1) := Int.mul_le_mul_of_nonpos_right (by omega) (by omega)
      rw [Int.mul_add] at b1
      omega
    · subst hq; omega
    · have b1 : 1 * q ≤ 2 * (val ys : Int) * q := Int.mul_le_mul_of_nonneg_right (by omega) (by omega)
      omega
  omega
def roundW (n m : Bool) (xs ys : List Int) : Bool × List Nat × Bool := if Dv n m xs ys then told ((2 * sv n (nat xs) + (val (nat ys) : Int)) / (2 * (val (nat ys) : Int))) else nought
set_option maxHeartbeats 8000000 in
theorem spec_round (n m : Bool) (xs ys : List Int) (v u : Value) (w : World) (hv : Row w v xs) (hu : Row w u ys) (la : xs.length ≤ 1048576) (lb : ys.length ≤ 1048576) (R : Bool × List Nat × Bool) (hR : roundW n m xs ys = R) :
    Calls Try.prog 7 #[.agg #[.bool n, v], .agg #[.bool m, u]] w fun e w' => ∃ v', e = .returned (.tuple #[.agg #[.bool R.1, v'], .bool R.2.2]) ∧ Old w w' ∧ Own w' w.heap.size v' (toI R.2.1) := by
  have HV : Hid (Row w v xs) := hv
  have HU : Hid (Row w u ys) := hu
  obtain ⟨c0, cap0, rfl⟩ := hv.slice
  obtain ⟨c1, cap1, rfl⟩ := hu.slice
  clear hv hu
  have HA : Hid (∀ t1 t2 t3 xs1 xs2 xs3, Old w (((w.alloc (.cells xs1 t1)).alloc (.cells xs2 t2)).alloc (.cells xs3 t3))) := fun t1 t2 t3 xs1 xs2 xs3 => (((Old.refl w).alloc _).alloc _).alloc _
  have cd := fun W (h : Row W (.slice c0 xs.length cap0) xs) (k : Row W (.slice c1 ys.length cap1) ys) => divides_any n m xs ys _ _ W h k la lb
  by_cases hd : Dv n m xs ys
  · rw [decide_eq_true hd] at cd
    obtain ⟨z, hz⟩ : ∃ z, (2 * sv n (nat xs) + (val (nat ys) : Int)) / (2 * (val (nat ys) : Int)) = z := ⟨_, rfl⟩
    have hR2 : told z = R := by rw [← hR]; unfold roundW; rw [if_pos hd, hz]
    obtain ⟨⟨hga, hgb⟩, hm, hy0⟩ := hd
    obtain ⟨ex, gx, lx⟩ := good_gw hga
    obtain ⟨ey, gy, ly⟩ := good_gw hgb
    have hne : nat ys ≠ [] := fun h => by rw [← nat_len, h] at hy0; simp at hy0
    have HV2 : Hid (Row w (.slice c0 xs.length cap0) (toI (nat xs))) := by rw [ex]; exact HV.out
    have HU2 : Hid (Row w (.slice c1 ys.length cap1) (toI (nat ys))) := by rw [ey]; exact HU.out
    have HGX : Hid (Gw n (nat xs) ∧ (nat xs).length ≤ 40) := ⟨gx, lx⟩
    have HGY : Hid (Gw m (nat ys) ∧ nat ys ≠ [] ∧ (nat ys).length ≤ 40) := ⟨gy, hne, ly⟩
    have HZ : Hid ((2 * sv n (nat xs) + (val (nat ys) : Int)) / (2 * (val (nat ys) : Int)) = z) := hz
    have hzl : (dg z).length ≤ 1000 := by rw [← hz]; exact near_len lx ly gx.1.1 gy.1.1 (nrm_pos gy.1 hne)
    clear hga hgb ex ey gx gy lx ly hR hz hm hne hy0
    go_enter Try.func7, Try.ntmps7
    go_wp2_with fail
    refine (cd _ (HV.out.old (HA.out _ _ _ _ _ _)) (HU.out.old (HA.out _ _ _ _ _ _))).mono ?_
    rintro e w1 ⟨rfl, g1⟩
    have SA1 : Hid (StW w1 w.heap.size (.bool n) (.slice c0 xs.length cap0) 25) := (StW.at31 w _ _ _ _ _ _ _ _ _).old g1
    have SB1 : Hid (StW w1 (w.heap.size + 1) (.bool m) (.slice c1 ys.length cap1) 25) := (StW.at32 w _ _ _ _ _ _ _ _ _).old g1
    have SC1 : Hid (StW w1 (w.heap.size + 1 + 1) (.bool false) (.slice none 0 0) 25) := (StW.at33 w _ _ _ _ _ _ _ _ _).old g1
    have HG1 : Hid (Old w w1) := Old.trans (HA.out _ _ _ _ _ _) g1
    have hs1 : w.heap.size + 3 ≤ w1.heap.size := by have := SC1.out.lt; omega
    clear g1 HA
    have a0 := SA1.out.c0
    have a1 := SA1.out.c1
    have b0 := SB1.out.c0
    have b1 := SB1.out.c1
    have HAS : Hid (∀ W', Old w1 W' → (W'.cell? ⟨w.heap.size, 0, none⟩ = some (.bool n) ∧ W'.cell? ⟨w.heap.size, 1, none⟩ = some (.slice c0 xs.length cap0) ∧ W'.cell? ⟨w.heap.size + 1, 0, none⟩ = some (.bool m) ∧ W'.cell? ⟨w.heap.size + 1, 1, none⟩ = some (.slice c1 ys.length cap1))) := fun W' g => ⟨(SA1.out.old g).c0, (SA1.out.old g).c1, (SB1.out.old g).c0, (SB1.out.old g).c1⟩
    have HKS : Hid (∀ (W' : World) x y, (W'.cell? ⟨w.heap.size, 0, none⟩ = some (.bool n) ∧ W'.cell? ⟨w.heap.size, 1, none⟩ = some (.slice c0 xs.length cap0) ∧ W'.cell? ⟨w.heap.size + 1, 0, none⟩ = some (.bool m) ∧ W'.cell? ⟨w.heap.size + 1, 1, none⟩ = some (.slice c1 ys.length cap1)) → (((W'.setCell ⟨w.heap.size + 1 + 1, 0, none⟩ x).setCell ⟨w.heap.size + 1 + 1, 1, none⟩ y).cell? ⟨w.heap.size, 0, none⟩ = some (.bool n) ∧ ((W'.setCell ⟨w.heap.size + 1 + 1, 0, none⟩ x).setCell ⟨w.heap.size + 1 + 1, 1, none⟩ y).cell? ⟨w.heap.size, 1, none⟩ = some (.slice c0 xs.length cap0) ∧ ((W'.setCell ⟨w.heap.size + 1 + 1, 0, none⟩ x).setCell ⟨w.heap.size + 1 + 1, 1, none⟩ y).cell? ⟨w.heap.size + 1, 0, none⟩ = some (.bool m) ∧ ((W'.setCell ⟨w.heap.size + 1 + 1, 0, none⟩ x).setCell ⟨w.heap.size + 1 + 1, 1, none⟩ y).cell? ⟨w.heap.size + 1, 1, none⟩ = some (.slice c1 ys.length cap1))) := fun W' x y h => by
      obtain ⟨h1, h2, h3, h4⟩ := h
      refine ⟨?_, ?_, ?_, ?_⟩
      · rw [World.cell?_setCell_other _ _ _ _ (by simp; try omega), World.cell?_setCell_other _ _ _ _ (by simp; try omega)]; exact h1
      · rw [World.cell?_setCell_other _ _ _ _ (by simp; try omega), World.cell?_setCell_other _ _ _ _ (by simp; try omega)]; exact h2
      · rw [World.cell?_setCell_other _ _ _ _ (by simp; try omega), World.cell?_setCell_other _ _ _ _ (by simp; try omega)]; exact h3
      · rw [World.cell?_setCell_other _ _ _ _ (by simp; try omega), World.cell?_setCell_other _ _ _ _ (by simp; try omega)]; exact h4
    by_cases h40 : (dg z).length ≤ 40
    · have HR : Hid (R = (ng z, dg z, true)) := by rw [← hR2]; unfold told; rw [if_pos h40]; rfl
      clear hR2
      have tok : True := trivial
      go_wp2_with fail
      go_region_held3 (fun W' => W'.cell? ⟨w.heap.size, 0, none⟩ = some (.bool n) ∧ W'.cell? ⟨w.heap.size, 1, none⟩ = some (.slice c0 xs.length cap0) ∧ W'.cell? ⟨w.heap.size + 1, 0, none⟩ = some (.bool m) ∧ W'.cell? ⟨w.heap.size + 1, 1, none⟩ = some (.slice c1 ys.length cap1)) (first | exact HAS.out _ K6.out | exact HAS.out _ K5.out | exact HAS.out _ K3.out | exact HAS.out _ (Below.drew (Old.refl w1)) | exact HAS.out _ (Old.refl w1) | exact HKS.out _ _ _ (HAS.out _ K6.out)) (first
        | (go_at_call 28; refine (in_anyW n c0 xs.length cap0 _).mono ?_; rintro e w3 ⟨rfl, g3⟩; have K3 : Hid (Old w1 w3) := Old.trans ((Old.refl _).drewN 1) g3; clear g3)
        | (go_at_call 27; refine (near_any n (nat xs) (nat ys) _ _ _ (HV2.out.old (Old.trans HG1.out K3.out)) (HU2.out.old (Old.trans HG1.out K3.out)) HGX.out.1 HGY.out.1.1 HGY.out.2.1 (by have := HGX.out.2; omega) (by have := HGY.out.2.2; omega)).mono ?_; rw [HZ.out]; rintro e w5 ⟨v5, rfl, g5, o5⟩; obtain ⟨c5, cap5, rfl⟩ := (Own.row o5).sliceN; have K5 : Hid (Old w1 w5) := Old.trans K3.out g5; have HR5 : Hid (Row w5 (.slice c5 (dg z).length cap5) (toI (dg z))) := Own.row o5; clear g5 o5)
        | (go_at_call 26; refine (out_any (ng z) (dg z) _ _ HR5.out h40).mono ?_; rintro e w6 ⟨v6, rfl, g6, o6⟩; obtain ⟨c6, cap6, rfl⟩ := (Own.row o6).sliceN; have K6 : Hid (Old w1 w6) := Old.trans K5.out g6; have HO6 : Hid (Own w6 (w.heap.size + 3) (.slice c6 (dg z).length cap6) (toI (dg z))) := Own.low o6 (by have := K5.out.size; omega); have S6 : Hid (StW w6 (w.heap.size + 1 + 1) (.bool false) (.slice none 0 0) 25) := SC1.out.old K6.out; have q0v := S6.out.c0; have q1v := S6.out.c1; have f0v := S6.out.f0; have f1v := S6.out.f1; clear g6 o6))
      all_goals
        go_wp2_with fail
        refine bodyPost_ret (v := .tuple #[.agg #[.bool (ng z), .slice c6 (dg z).length cap6], .bool true]) (by simp [results, Try.results7, go_sem, q0v, q1v]) rfl ⟨_, by rw [HR.out], ?_, ?_⟩
        · exact ((Old.trans HG1.out K6.out).own (p := ⟨w.heap.size + 1 + 1, 0, none⟩) (by simp; omega) _).own (p := ⟨w.heap.size + 1 + 1, 1, none⟩) (by simp; omega) _
        · rw [HR.out]
          refine Own.low (base := w.heap.size + 3) (ownsRow_setCell_other (ownsRow_setCell_other HO6.out (fun e => ?_) _) (fun e => ?_) _) (by omega)
          · have := (HO6.out.lt (w.heap.size + 1 + 1) e).1; omega
          · have := (HO6.out.lt (w.heap.size + 1 + 1) e).1; omega
    · have HR : Hid (R = (false, [], false)) := by rw [← hR2]; unfold told; rw [if_neg h40]; rfl
      clear hR2
      have tok : True := trivial
      go_wp2_with fail
      go_region_held3 (fun W' => W'.cell? ⟨w.heap.size, 0, none⟩ = some (.bool n) ∧ W'.cell? ⟨w.heap.size, 1, none⟩ = some (.slice c0 xs.length cap0) ∧ W'.cell? ⟨w.heap.size + 1, 0, none⟩ = some (.bool m) ∧ W'.cell? ⟨w.heap.size + 1, 1, none⟩ = some (.slice c1 ys.length cap1)) (first | exact HAS.out _ K6.out | exact HAS.out _ K5.out | exact HAS.out _ K3.out | exact HAS.out _ (Below.drew (Old.refl w1)) | exact HAS.out _ (Old.refl w1) | exact HKS.out _ _ _ (HAS.out _ K6.out)) (first
        | (go_at_call 28; refine (in_anyW n c0 xs.length cap0 _).mono ?_; rintro e w3 ⟨rfl, g3⟩; have K3 : Hid (Old w1 w3) := Old.trans ((Old.refl _).drewN 1) g3; clear g3)
        | (go_at_call 27; refine (near_any n (nat xs) (nat ys) _ _ _ (HV2.out.old (Old.trans HG1.out K3.out)) (HU2.out.old (Old.trans HG1.out K3.out)) HGX.out.1 HGY.out.1.1 HGY.out.2.1 (by have := HGX.out.2; omega) (by have := HGY.out.2.2; omega)).mono ?_; rw [HZ.out]; rintro e w5 ⟨v5, rfl, g5, o5⟩; obtain ⟨c5, cap5, rfl⟩ := (Own.row o5).sliceN; have K5 : Hid (Old w1 w5) := Old.trans K3.out g5; have HR5 : Hid (Row w5 (.slice c5 (dg z).length cap5) (toI (dg z))) := Own.row o5; clear g5 o5)
        | (go_at_call 26; refine (out_no (ng z) _ (dg z).length _ _ (by omega) (by omega)).mono ?_; rintro e w6 ⟨rfl, g6⟩; have K6 : Hid (Old w1 w6) := Old.trans K5.out g6; have S6 : Hid (StW w6 (w.heap.size + 1 + 1) (.bool false) (.slice none 0 0) 25) := SC1.out.old K6.out; have q0v := S6.out.c0; have q1v := S6.out.c1; have f0v := S6.out.f0; have f1v := S6.out.f1; clear g6))
      all_goals
        go_wp2_with fail
        refine bodyPost_ret (v := .tuple #[.agg #[.bool false, .slice none 0 0], .bool false]) (by simp [results, Try.results7, go_sem, q0v, q1v]) rfl ⟨_, by rw [HR.out], ?_, by rw [HR.out]; exact World.ownsRow_nil _ _ _ _⟩
        exact ((Old.trans HG1.out K6.out).own (p := ⟨w.heap.size + 1 + 1, 0, none⟩) (by simp; omega) _).own (p := ⟨w.heap.size + 1 + 1, 1, none⟩) (by simp; omega) _
  · rw [decide_eq_false hd] at cd
    have HR : Hid (R = (false, [], false)) := by rw [← hR]; unfold roundW; rw [if_neg hd]; rfl
    clear hd hR
    go_enter Try.func7, Try.ntmps7
    go_wp2_with fail
    refine (cd _ (HV.out.old (HA.out _ _ _ _ _ _)) (HU.out.old (HA.out _ _ _ _ _ _))).mono ?_
    rintro e w1 ⟨rfl, g1⟩
    have SC1 : Hid (StW w1 (w.heap.size + 1 + 1) (.bool false) (.slice none 0 0) 25) := (StW.at33 w _ _ _ _ _ _ _ _ _).old g1
    have HG1 : Hid (Old w w1) := Old.trans (HA.out _ _ _ _ _ _) g1
    have q0 := SC1.out.c0
    have q1 := SC1.out.c1
    have f0 := SC1.out.f0
    have f1 := SC1.out.f1
    clear g1 HA
    go_wp2_with fail
    refine bodyPost_ret (v := .tuple #[.agg #[.bool false, .slice none 0 0], .bool false]) (by simp [results, Try.results7, go_sem, q0, q1]) rfl ⟨_, by rw [HR.out], ?_, by rw [HR.out]; exact World.ownsRow_nil _ _ _ _⟩
    exact (HG1.out.own (p := ⟨w.heap.size + 1 + 1, 0, none⟩) (by simp; omega) _).own (p := ⟨w.heap.size + 1 + 1, 1, none⟩) (by simp; omega) _
end Go.Proofs.Ytimmcijoebmaiaa
/- Proved: what the model answers, as functions of the numbers: comparing, what is left by a word, the whole number of a word. -/
namespace Go.Proofs.Ytimmcijoebmaiaa
open Go.ChangeShapes Go.WideShapes Go.ChangeAt Go.RowKit
open M2
set_option linter.unusedVariables false
set_option linter.unusedSimpArgs false
def cmpW (n m : Bool) (xs ys : List Int) : Int := if Good n xs ∧ Good m ys then cmpI (sv n (nat xs)) (sv m (nat ys)) else 0
set_option maxHeartbeats 8000000 in
theorem spec_cmp (n m : Bool) (xs ys : List Int) (v u : Value) (w : World) (hv : Row w v xs) (hu : Row w u ys) (la : xs.length ≤ 1048576) (lb : ys.length ≤ 1048576) :
    Calls Try.prog 11 #[.agg #[.bool n, v], .agg #[.bool m, u]] w fun e w' => e = .returned (.int .i64 (cmpW n m xs ys)) ∧ Old w w' := by
  have HV : Hid (Row w v xs) := hv
  have HU : Hid (Row w u ys) := hu
  obtain ⟨c0, cap0, rfl⟩ := hv.slice
  obtain ⟨c1, cap1, rfl⟩ := hu.slice
  clear hv hu
  have HA : Hid (∀ t1 t2 xs1 xs2, Old w ((w.alloc (.cells xs1 t1)).alloc (.cells xs2 t2))) := fun t1 t2 xs1 xs2 => ((Old.refl w).alloc _).alloc _
  by_cases hga : Good n xs
  · have cga := fun W (h : Row W (.slice c0 xs.length cap0) xs) => good_any n xs _ W h la
    rw [decide_eq_true hga] at cga
    by_cases hgb : Good m ys
    · have cgb := fun W (h : Row W (.slice c1 ys.length cap1) ys) => good_any m ys _ W h lb
      rw [decide_eq_true hgb] at cgb
      have hR2 : cmpW n m xs ys = cmpI (sv n (nat xs)) (sv m (nat ys)) := by unfold cmpW; rw [if_pos ⟨hga, hgb⟩]
      rw [hR2]
      obtain ⟨ex, gx, lx⟩ := good_gw hga
      obtain ⟨ey, gy, ly⟩ := good_gw hgb
      have HV2 : Hid (Row w (.slice c0 xs.length cap0) (toI (nat xs))) := by rw [ex]; exact HV.out
      have HU2 : Hid (Row w (.slice c1 ys.length cap1) (toI (nat ys))) := by rw [ey]; exact HU.out
      have HGX : Hid (Gw n (nat xs) ∧ (nat xs).length ≤ 40) := ⟨gx, lx⟩
      have HGY : Hid (Gw m (nat ys) ∧ (nat ys).length ≤ 40) := ⟨gy, ly⟩
      clear hga hgb ex ey gx gy lx ly hR2
      go_enter Try.func11, Try.ntmps11
      go_wp2_with fail
      refine (cga _ (HV.out.old (HA.out _ _ _ _))).mono ?_
      rintro e w1 ⟨rfl, g1⟩
      have SA1 : Hid (StW w1 w.heap.size (.bool n) (.slice c0 xs.length cap0) 25) := (StW.at1 w _ _ _ _ _ _).old g1
      have SB1 : Hid (StW w1 (w.heap.size + 1) (.bool m) (.slice c1 ys.length cap1) 25) := (StW.at2 w _ _ _ _ _ _).old g1
      have HG1 : Hid (Old w w1) := Old.trans (HA.out _ _ _ _) g1
      have b0 := SB1.out.c0
      have b1 := SB1.out.c1
      clear g1 HA
      go_wp2_with fail
      refine (cgb _ (HU.out.old HG1.out)).mono ?_
      rintro e w2 ⟨rfl, g2⟩
      have SA2 : Hid (StW w2 w.heap.size (.bool n) (.slice c0 xs.length cap0) 25) := SA1.out.old g2
      have SB2 : Hid (StW w2 (w.heap.size + 1) (.bool m) (.slice c1 ys.length cap1) 25) := SB1.out.old g2
      have HG2 : Hid (Old w w2) := Old.trans HG1.out g2
      clear g2 b0 b1 SA1 SB1 HG1
      have a0 := SA2.out.c0
      have a1 := SA2.out.c1
      have b0 := SB2.out.c0
      have b1 := SB2.out.c1
      have HAS : Hid (∀ W', Old w2 W' → (W'.cell? ⟨w.heap.size, 0, none⟩ = some (.bool n) ∧ W'.cell? ⟨w.heap.size, 1, none⟩ = some (.slice c0 xs.length cap0) ∧ W'.cell? ⟨w.heap.size + 1, 0, none⟩ = some (.bool m) ∧ W'.cell? ⟨w.heap.size + 1, 1, none⟩ = some (.slice c1 ys.length cap1))) := fun W' g => ⟨(SA2.out.old g).c0, (SA2.out.old g).c1, (SB2.out.old g).c0, (SB2.out.old g).c1⟩
      have tok : True := trivial
      go_wp2_with fail
      go_region_held3 (fun W' => W'.cell? ⟨w.heap.size, 0, none⟩ = some (.bool n) ∧ W'.cell? ⟨w.heap.size, 1, none⟩ = some (.slice c0 xs.length cap0) ∧ W'.cell? ⟨w.heap.size + 1, 0, none⟩ = some (.bool m) ∧ W'.cell? ⟨w.heap.size + 1, 1, none⟩ = some (.slice c1 ys.length cap1)) (first | exact HAS.out _ G5.out | exact HAS.out _ G4.out | exact HAS.out _ G3.out | exact HAS.out _ (Below.drew (Old.refl w2)) | exact HAS.out _ (Old.refl w2)) (first
        | (go_at_call 28; have _t := tok; refine (in_anyW n c0 xs.length cap0 _).mono ?_; rintro e w3 ⟨rfl, g3⟩; have G3 : Hid (Old w2 w3) := Old.trans ((Old.refl _).drewN 1) g3; clear tok g3)
        | (go_at_call 28; refine (in_anyW m c1 ys.length cap1 _).mono ?_; rintro e w4 ⟨rfl, g4⟩; have G4 : Hid (Old w2 w4) := Old.trans G3.out g4; clear g4)
        | (go_at_call 33; refine (compare_any n m (nat xs) (nat ys) _ _ _ (HV2.out.old (Old.trans HG2.out G4.out)) (HU2.out.old (Old.trans HG2.out G4.out)) HGX.out.1 HGY.out.1 (by have := HGX.out.2; omega) (by have := HGY.out.2; omega)).mono ?_; rintro e w5 ⟨rfl, g5⟩; have G5 : Hid (Old w2 w5) := Old.trans G4.out g5; clear g5))
      all_goals
        go_wp2_with fail
        go_ret
        exact ⟨rfl, Old.trans HG2.out G5.out⟩
    · have hR2 : cmpW n m xs ys = 0 := by unfold cmpW; rw [if_neg (fun h => hgb h.2)]
      rw [hR2]
      have cgb := fun W (h : Row W (.slice c1 ys.length cap1) ys) => good_any m ys _ W h lb
      rw [decide_eq_false hgb] at cgb
      clear hga hgb hR2
      go_enter Try.func11, Try.ntmps11
      go_wp2_with fail
      refine (cga _ (HV.out.old (HA.out _ _ _ _))).mono ?_
      rintro e w1 ⟨rfl, g1⟩
      have SB1 : Hid (StW w1 (w.heap.size + 1) (.bool m) (.slice c1 ys.length cap1) 25) := (StW.at2 w _ _ _ _ _ _).old g1
      have HG1 : Hid (Old w w1) := Old.trans (HA.out _ _ _ _) g1
      have b0 := SB1.out.c0
      have b1 := SB1.out.c1
      clear g1 HA
      go_wp2_with fail
      refine (cgb _ (HU.out.old HG1.out)).mono ?_
      rintro e w2 ⟨rfl, g2⟩
      have HG2 : Hid (Old w w2) := Old.trans HG1.out g2
      clear g2
      go_wp2_with fail
      go_ret
      exact ⟨rfl, HG2.out⟩
  · have hR2 : cmpW n m xs ys = 0 := by unfold cmpW; rw [if_neg (fun h => hga h.1)]
    rw [hR2]
    have cga := fun W (h : Row W (.slice c0 xs.length cap0) xs) => good_any n xs _ W h la
    rw [decide_eq_false hga] at cga
    clear hga hR2
    go_enter Try.func11, Try.ntmps11
    go_wp2_with fail
    refine (cga _ (HV.out.old (HA.out _ _ _ _))).mono ?_
    rintro e w1 ⟨rfl, g1⟩
    have HG1 : Hid (Old w w1) := Old.trans (HA.out _ _ _ _) g1
    clear g1
    go_wp2_with fail
    go_ret
    exact ⟨rfl, HG1.out⟩
end Go.Proofs.Ytimmcijoebmaiaa
