/- Proved: several texts in one: what each proves is said ahead of it. -/
import Derived.Test.YtjedpceiimceoaaDoorV15
import Derived.Test.YtjedpceiimceoaaDoorV12
import Derived.Test.YtjedpceiimceoaaDoorSzIn
import Derived.Test.YtjedpceiimceoaaDoorV09
import Derived.Test.YtjedpceiimceoaaDoorV24
import Derived.Deep.RegionHeld3
import Derived.Test.YtjedpceiimceoaaDoorV33
/- Proved: the contract of the program's MulWholes: it answers what the model does, as a function of the numbers. -/
namespace Go.Proofs.YtjedpceiimceoaaDoor
open Go.ChangeShapes Go.WideShapes Go.ChangeAt Go.RowKit
open M2
set_option linter.unusedVariables false
set_option linter.unusedSimpArgs false
theorem cell_other (W : World) (p : Addr) (v : Value) (q : Addr) (h : q.block ≠ p.block) : (W.setCell p v).cell? q = W.cell? q := World.cell?_of_block (heap_setCell_other W p q.block v h)
theorem told_of (neg : Bool) (n : Nat) (z : Int) (h1 : z.natAbs = n) (h2 : n ≠ 0 → (neg = true ↔ z < 0)) : toldN neg n = told z := by
  have e1 : dg z = dig n := by unfold dg; rw [h1]
  have e2 : (neg && decide (n ≠ 0)) = ng z := by
    by_cases h0 : n = 0
    · have : z = 0 := by omega
      subst this
      simp [h0, ng]
    · have := h2 h0
      unfold ng
      by_cases hz : z < 0
      · simp [h0, hz, this.2 hz]
      · have hn : neg = false := by
          cases hneg : neg with
          | false => rfl
          | true => exact absurd (this.1 hneg) hz
        simp [hn, hz]
  unfold toldN told
  rw [e1, e2]
  rfl
theorem len_told (z : Int) : (told z).2.1.length ≤ 1000 := by
  unfold told
  split
  · rename_i h; exact Nat.le_trans h (by decide)
  · simp
theorem len_mul (n m : Bool) (xs ys : List Int) : (mulW n m xs ys).2.1.length ≤ 1000 := by
  unfold mulW
  split
  · exact len_told _
  · simp [nought]
theorem told_mul (n m : Bool) (xs ys : List Nat) : toldN (n != m) (val xs * val ys) = told (sv n xs * sv m ys) := by
  refine told_of _ _ _ ?_ (fun h0 => ?_)
  · rw [Int.natAbs_mul, sv_abs, sv_abs]
  · have hp : 0 < ((val xs * val ys : Nat) : Int) := by omega
    rw [Int.natCast_mul] at hp
    cases n <;> cases m <;> simp [sv, Int.neg_mul, Int.mul_neg] <;> omega
set_option maxHeartbeats 8000000 in
theorem impl_mul (n m : Bool) (xs ys : List Int) (v u : Value) (w : World) (hv : Row w v xs) (hu : Row w u ys) (la : xs.length ≤ 1048576) (lb : ys.length ≤ 1048576) :
    Calls Tryd.prog 8 #[.agg #[.bool n, v], .agg #[.bool m, u]] w fun e w' => ∃ v', e = .returned (.tuple #[.agg #[.bool (mulW n m xs ys).1, v'], .bool (mulW n m xs ys).2.2]) ∧ Old w w' ∧ Own w' w.heap.size v' (toI (mulW n m xs ys).2.1) := by
  have HV : Hid (Row w v xs) := hv
  have HU : Hid (Row w u ys) := hu
  obtain ⟨c0, cap0, rfl⟩ := hv.slice
  obtain ⟨c1, cap1, rfl⟩ := hu.slice
  clear hv hu
  have HA : Hid (Old w (((w.alloc (.cells #[.bool n, .slice c0 xs.length cap0] 25)).alloc (.cells #[.bool m, .slice c1 ys.length cap1] 25)).alloc (.cells #[.bool false, .slice none 0 0] 25))) := (((Old.refl w).alloc _).alloc _).alloc _
  have SA0 : Hid (StW (((w.alloc (.cells #[.bool n, .slice c0 xs.length cap0] 25)).alloc (.cells #[.bool m, .slice c1 ys.length cap1] 25)).alloc (.cells #[.bool false, .slice none 0 0] 25)) w.heap.size (.bool n) (.slice c0 xs.length cap0) 25) := (StW.at1 w _ _ _ _ _ _).old ((Old.refl _).alloc _)
  have SB0 : Hid (StW (((w.alloc (.cells #[.bool n, .slice c0 xs.length cap0] 25)).alloc (.cells #[.bool m, .slice c1 ys.length cap1] 25)).alloc (.cells #[.bool false, .slice none 0 0] 25)) (w.heap.size + 1) (.bool m) (.slice c1 ys.length cap1) 25) := (StW.at2 w _ _ _ _ _ _).old ((Old.refl _).alloc _)
  have ST0 : Hid (StW (((w.alloc (.cells #[.bool n, .slice c0 xs.length cap0] 25)).alloc (.cells #[.bool m, .slice c1 ys.length cap1] 25)).alloc (.cells #[.bool false, .slice none 0 0] 25)) (w.heap.size + 1 + 1) (.bool false) (.slice none 0 0) 25) := by
    have := StW.new ((w.alloc (.cells #[.bool n, .slice c0 xs.length cap0] 25)).alloc (.cells #[.bool m, .slice c1 ys.length cap1] 25)) (.bool false) (.slice none 0 0) 25
    rw [show ((w.alloc (.cells #[.bool n, .slice c0 xs.length cap0] 25)).alloc (.cells #[.bool m, .slice c1 ys.length cap1] 25)).heap.size = w.heap.size + 1 + 1 by simp] at this
    exact this
  by_cases hga : Good n xs
  · have cga := fun W (h : Row W (.slice c0 xs.length cap0) xs) => good_impl n xs _ W h la
    rw [decide_eq_true hga] at cga
    by_cases hgb : Good m ys
    · have cgb := fun W (h : Row W (.slice c1 ys.length cap1) ys) => good_impl m ys _ W h lb
      rw [decide_eq_true hgb] at cgb
      have hR2 : mulW n m xs ys = told (sv n (nat xs) * sv m (nat ys)) := by unfold mulW; rw [if_pos ⟨hga, hgb⟩]
      rw [hR2]
      obtain ⟨ex, gx, lx⟩ := good_gw hga
      obtain ⟨ey, gy, ly⟩ := good_gw hgb
      have HV2 : Hid (Row w (.slice c0 xs.length cap0) (toI (nat xs))) := by rw [ex]; exact HV.out
      have HU2 : Hid (Row w (.slice c1 ys.length cap1) (toI (nat ys))) := by rw [ey]; exact HU.out
      have HGX : Hid (Gw n (nat xs) ∧ (nat xs).length ≤ 40) := ⟨gx, lx⟩
      have HGY : Hid (Gw m (nat ys) ∧ (nat ys).length ≤ 40) := ⟨gy, ly⟩
      have exl : xs.length = (nat xs).length := (nat_len xs).symm
      have eyl : ys.length = (nat ys).length := (nat_len ys).symm
      have HXL : Hid (xs.length = (nat xs).length) := exl
      have HYL : Hid (ys.length = (nat ys).length) := eyl
      clear hga hgb ex ey gx gy lx ly hR2 exl eyl
      have HE : Hid (toldN (n != m) (val (nat xs) * val (nat ys)) = told (sv n (nat xs) * sv m (nat ys))) := told_mul n m (nat xs) (nat ys)
      have HCX : Hid (cnt (val (nat xs)) + cnt (val (nat ys)) ≤ 80) := by
        show cnt (val (nat xs)) + cnt (val (nat ys)) ≤ 80
        rw [cnt_nrm HGX.out.1.1, cnt_nrm HGY.out.1.1]
        have h1 := HGX.out.2
        have h2 := HGY.out.2
        omega
      generalize told (sv n (nat xs) * sv m (nat ys)) = R at *
      go_enter Tryd.func8, Tryd.ntmps8
      go_wp2_with fail
      refine (cga _ (HV.out.old HA.out)).mono ?_
      rintro e w1 ⟨rfl, g1⟩
      have SA1 : Hid (StW w1 w.heap.size (.bool n) (.slice c0 xs.length cap0) 25) := SA0.out.old g1
      have SB1 : Hid (StW w1 (w.heap.size + 1) (.bool m) (.slice c1 ys.length cap1) 25) := SB0.out.old g1
      have ST1 : Hid (StW w1 (w.heap.size + 1 + 1) (.bool false) (.slice none 0 0) 25) := ST0.out.old g1
      have HG1 : Hid (Old w w1) := Old.trans HA.out g1
      have b0 := SB1.out.c0
      have b1 := SB1.out.c1
      clear g1 HA
      go_wp2_with fail
      refine (cgb _ (HU.out.old HG1.out)).mono ?_
      rintro e w2 ⟨rfl, g2⟩
      clear b0 b1
      have SA2 : Hid (StW w2 w.heap.size (.bool n) (.slice c0 xs.length cap0) 25) := SA1.out.old g2
      have SB2 : Hid (StW w2 (w.heap.size + 1) (.bool m) (.slice c1 ys.length cap1) 25) := SB1.out.old g2
      have ST2 : Hid (StW w2 (w.heap.size + 1 + 1) (.bool false) (.slice none 0 0) 25) := ST1.out.old g2
      have HG2 : Hid (Old w w2) := Old.trans HG1.out g2
      clear g2 SA1 SB1 ST1 HG1 cga cgb
      have a0 := SA2.out.c0
      have a1 := SA2.out.c1
      have b0 := SB2.out.c0
      have b1 := SB2.out.c1
      have HAS : Hid (∀ W', Old w2 W' → (W'.cell? ⟨w.heap.size, 0, none⟩ = some (.bool n) ∧ W'.cell? ⟨w.heap.size, 1, none⟩ = some (.slice c0 xs.length cap0) ∧ W'.cell? ⟨w.heap.size + 1, 0, none⟩ = some (.bool m) ∧ W'.cell? ⟨w.heap.size + 1, 1, none⟩ = some (.slice c1 ys.length cap1))) := fun W' g => ⟨(SA2.out.old g).c0, (SA2.out.old g).c1, (SB2.out.old g).c0, (SB2.out.old g).c1⟩
      have HKS : Hid (∀ (W' : World) (v0 v1 : Value), (W'.cell? ⟨w.heap.size, 0, none⟩ = some (.bool n) ∧ W'.cell? ⟨w.heap.size, 1, none⟩ = some (.slice c0 xs.length cap0) ∧ W'.cell? ⟨w.heap.size + 1, 0, none⟩ = some (.bool m) ∧ W'.cell? ⟨w.heap.size + 1, 1, none⟩ = some (.slice c1 ys.length cap1)) → ((fun W' : World => W'.cell? ⟨w.heap.size, 0, none⟩ = some (.bool n) ∧ W'.cell? ⟨w.heap.size, 1, none⟩ = some (.slice c0 xs.length cap0) ∧ W'.cell? ⟨w.heap.size + 1, 0, none⟩ = some (.bool m) ∧ W'.cell? ⟨w.heap.size + 1, 1, none⟩ = some (.slice c1 ys.length cap1)) ((W'.setCell ⟨w.heap.size + 1 + 1, 0, none⟩ v0).setCell ⟨w.heap.size + 1 + 1, 1, none⟩ v1))) := fun W' v0 v1 h => by
        exact ⟨(cell_other _ _ _ _ (by first | (simp; done) | (simp; omega))).trans ((cell_other _ _ _ _ (by first | (simp; done) | (simp; omega))).trans h.1), (cell_other _ _ _ _ (by first | (simp; done) | (simp; omega))).trans ((cell_other _ _ _ _ (by first | (simp; done) | (simp; omega))).trans h.2.1), (cell_other _ _ _ _ (by first | (simp; done) | (simp; omega))).trans ((cell_other _ _ _ _ (by first | (simp; done) | (simp; omega))).trans h.2.2.1), (cell_other _ _ _ _ (by first | (simp; done) | (simp; omega))).trans ((cell_other _ _ _ _ (by first | (simp; done) | (simp; omega))).trans h.2.2.2)⟩
      have tok : True := trivial
      go_wp2_with fail
      go_region_held3 (fun W' => W'.cell? ⟨w.heap.size, 0, none⟩ = some (.bool n) ∧ W'.cell? ⟨w.heap.size, 1, none⟩ = some (.slice c0 xs.length cap0) ∧ W'.cell? ⟨w.heap.size + 1, 0, none⟩ = some (.bool m) ∧ W'.cell? ⟨w.heap.size + 1, 1, none⟩ = some (.slice c1 ys.length cap1)) (first | exact HKS.out _ _ _ (HAS.out _ G6.out) | exact HAS.out _ G6.out | exact HAS.out _ G5.out | exact HAS.out _ G4.out | exact HAS.out _ G3.out | exact HAS.out _ (Below.drew (Old.refl w2)) | exact HAS.out _ (Old.refl w2)) (first
        | (go_at_call 22; have _t := tok; refine (sizeOf_sz n (nat xs) _ _ (HV2.out.old (HG2.out.drewN 1)) HGX.out.1.1 (by have := HGX.out.2; omega)).mono ?_; rintro e w3 ⟨rfl, g3⟩; have G3 : Hid (Old w2 w3) := Old.trans ((Old.refl _).drewN 1) g3; clear tok g3)
        | (go_at_call 22; refine (sizeOf_sz m (nat ys) _ _ (HU2.out.old (Old.trans HG2.out G3.out)) HGY.out.1.1 (by have := HGY.out.2; omega)).mono ?_; rintro e w4 ⟨rfl, g4⟩; have G4 : Hid (Old w2 w4) := Old.trans G3.out g4; clear g4)
        | (go_at_call 33; refine (mul_sz (val (nat xs)) (val (nat ys)) _ HCX.out).mono ?_; rintro e w5 ⟨rfl, g5⟩; have G5 : Hid (Old w2 w5) := Old.trans G4.out g5; clear g5)
        | (go_at_call 32; refine (within_any (n != m) (val (nat xs) * val (nat ys)) _ (Nat.le_trans (cnt_mul _ _) HCX.out)).mono ?_; rw [HE.out]; rintro e w6 ⟨v6, rfl, g6, o6⟩; obtain ⟨a6, cap6, rfl⟩ := (Own.row o6).sliceN; have G6 : Hid (Old w2 w6) := Old.trans G5.out g6; have S6 : Hid (StW w6 (w.heap.size + 1 + 1) (.bool false) (.slice none 0 0) 25) := ST2.out.old G6.out; have HO6 : Hid (Own w6 (w.heap.size + 1 + 1 + 1) (.slice a6 R.2.1.length cap6) (toI R.2.1)) := Own.low o6 (by have := (ST2.out.old G5.out).lt; omega); have s0 := S6.out.c0; have s1 := S6.out.c1; have f0 := S6.out.f0; have f1 := S6.out.f1; clear g6 o6))
      all_goals
        go_wp2_with fail
        refine bodyPost_ret (v := .tuple #[.agg #[.bool R.1, .slice a6 R.2.1.length cap6], .bool R.2.2]) (by simp [results, Tryd.results8, go_sem, s0, s1]) rfl ⟨_, rfl, ?_, ?_⟩
        · exact ((Old.trans HG2.out G6.out).own (p := ⟨w.heap.size + 1 + 1, 0, none⟩) (by simp; omega) _).own (p := ⟨w.heap.size + 1 + 1, 1, none⟩) (by simp; omega) _
        · refine Own.low (base := w.heap.size + 1 + 1 + 1) (ownsRow_setCell_other (ownsRow_setCell_other HO6.out (fun e => ?_) _) (fun e => ?_) _) (by omega)
          · have := (HO6.out.lt (w.heap.size + 1 + 1) e).1; omega
          · have := (HO6.out.lt (w.heap.size + 1 + 1) e).1; omega
    · have hR2 : mulW n m xs ys = nought := by unfold mulW; rw [if_neg (fun h => hgb h.2)]
      rw [hR2]
      unfold nought
      have cgb := fun W (h : Row W (.slice c1 ys.length cap1) ys) => good_impl m ys _ W h lb
      rw [decide_eq_false hgb] at cgb
      clear hga hgb hR2
      go_enter Tryd.func8, Tryd.ntmps8
      go_wp2_with fail
      refine (cga _ (HV.out.old (HA.out))).mono ?_
      rintro e w1 ⟨rfl, g1⟩
      have SB1 : Hid (StW w1 (w.heap.size + 1) (.bool m) (.slice c1 ys.length cap1) 25) := SB0.out.old g1
      have HG1 : Hid (Old w w1) := Old.trans HA.out g1
      have b0 := SB1.out.c0
      have b1 := SB1.out.c1
      have ST1 : Hid (StW w1 (w.heap.size + 1 + 1) (.bool false) (.slice none 0 0) 25) := ST0.out.old g1
      skip
      clear g1 HA
      go_wp2_with fail
      refine (cgb _ (HU.out.old HG1.out)).mono ?_
      rintro e w2 ⟨rfl, g2⟩
      have HG2 : Hid (Old w w2) := Old.trans HG1.out g2
      have ST2 : Hid (StW w2 (w.heap.size + 1 + 1) (.bool false) (.slice none 0 0) 25) := ST1.out.old g2
      have t0 := ST2.out.c0
      have t1 := ST2.out.c1
      have tf0 := ST2.out.f0
      have tf1 := ST2.out.f1
      clear g2
      go_wp2_with fail
      refine bodyPost_ret (v := .tuple #[.agg #[.bool false, .slice none 0 0], .bool false]) (by simp [results, Tryd.results8, go_sem, t0, t1]) rfl ⟨_, rfl, ?_, rfl, Or.inl ⟨rfl, rfl⟩⟩
      exact (HG2.out.own (p := ⟨w.heap.size + 1 + 1, 0, none⟩) (by simp; omega) _).own (p := ⟨w.heap.size + 1 + 1, 1, none⟩) (by simp; omega) _
  · have hR2 : mulW n m xs ys = nought := by unfold mulW; rw [if_neg (fun h => hga h.1)]
    rw [hR2]
    unfold nought
    have cga := fun W (h : Row W (.slice c0 xs.length cap0) xs) => good_impl n xs _ W h la
    rw [decide_eq_false hga] at cga
    clear hga hR2
    go_enter Tryd.func8, Tryd.ntmps8
    go_wp2_with fail
    refine (cga _ (HV.out.old HA.out)).mono ?_
    rintro e w1 ⟨rfl, g1⟩
    have HG1 : Hid (Old w w1) := Old.trans HA.out g1
    have ST1 : Hid (StW w1 (w.heap.size + 1 + 1) (.bool false) (.slice none 0 0) 25) := ST0.out.old g1
    have t0 := ST1.out.c0
    have t1 := ST1.out.c1
    have tf0 := ST1.out.f0
    have tf1 := ST1.out.f1
    clear g1
    go_wp2_with fail
    refine bodyPost_ret (v := .tuple #[.agg #[.bool false, .slice none 0 0], .bool false]) (by simp [results, Tryd.results8, go_sem, t0, t1]) rfl ⟨_, rfl, ?_, rfl, Or.inl ⟨rfl, rfl⟩⟩
    exact (HG1.out.own (p := ⟨w.heap.size + 1 + 1, 0, none⟩) (by simp; omega) _).own (p := ⟨w.heap.size + 1 + 1, 1, none⟩) (by simp; omega) _
end Go.Proofs.YtjedpceiimceoaaDoor
/- Proved: the contract of the program's CmpWholes: it answers what the model does, as a function of the numbers. -/
namespace Go.Proofs.YtjedpceiimceoaaDoor
open Go.ChangeShapes Go.WideShapes Go.ChangeAt Go.RowKit
open M2
set_option linter.unusedVariables false
set_option linter.unusedSimpArgs false

theorem cmp_negs (x y : Nat) : cmpN y x = cmpI (-(x : Int)) (-(y : Int)) := by
  unfold cmpN cmpI
  (repeat' split) <;> omega
theorem cmp_nats (x y : Nat) : cmpN x y = cmpI (x : Int) (y : Int) := by
  unfold cmpN cmpI
  (repeat' split) <;> omega
set_option maxHeartbeats 8000000 in
theorem impl_cmp (n m : Bool) (xs ys : List Int) (v u : Value) (w : World) (hv : Row w v xs) (hu : Row w u ys) (la : xs.length ≤ 1048576) (lb : ys.length ≤ 1048576) :
    Calls Tryd.prog 11 #[.agg #[.bool n, v], .agg #[.bool m, u]] w fun e w' => e = .returned (.int .i64 (cmpW n m xs ys)) ∧ Old w w' := by
  have HV : Hid (Row w v xs) := hv
  have HU : Hid (Row w u ys) := hu
  obtain ⟨c0, cap0, rfl⟩ := hv.slice
  obtain ⟨c1, cap1, rfl⟩ := hu.slice
  clear hv hu
  have HA : Hid (Old w ((w.alloc (.cells #[.bool n, .slice c0 xs.length cap0] 25)).alloc (.cells #[.bool m, .slice c1 ys.length cap1] 25))) := ((Old.refl w).alloc _).alloc _
  have SA0 : Hid (StW ((w.alloc (.cells #[.bool n, .slice c0 xs.length cap0] 25)).alloc (.cells #[.bool m, .slice c1 ys.length cap1] 25)) w.heap.size (.bool n) (.slice c0 xs.length cap0) 25) := StW.at1 w _ _ _ _ _ _
  have SB0 : Hid (StW ((w.alloc (.cells #[.bool n, .slice c0 xs.length cap0] 25)).alloc (.cells #[.bool m, .slice c1 ys.length cap1] 25)) (w.heap.size + 1) (.bool m) (.slice c1 ys.length cap1) 25) := StW.at2 w _ _ _ _ _ _
  by_cases hga : Good n xs
  · have cga := fun W (h : Row W (.slice c0 xs.length cap0) xs) => good_impl n xs _ W h la
    rw [decide_eq_true hga] at cga
    by_cases hgb : Good m ys
    · have cgb := fun W (h : Row W (.slice c1 ys.length cap1) ys) => good_impl m ys _ W h lb
      rw [decide_eq_true hgb] at cgb
      have hR2 : cmpW n m xs ys = cmpI (sv n (nat xs)) (sv m (nat ys)) := by unfold cmpW; rw [if_pos ⟨hga, hgb⟩]
      rw [hR2]
      obtain ⟨ex, gx, lx⟩ := good_gw hga
      obtain ⟨ey, gy, ly⟩ := good_gw hgb
      have HV2 : Hid (Row w (.slice c0 xs.length cap0) (toI (nat xs))) := by rw [ex]; exact HV.out
      have HU2 : Hid (Row w (.slice c1 ys.length cap1) (toI (nat ys))) := by rw [ey]; exact HU.out
      have HGX : Hid (Gw n (nat xs) ∧ (nat xs).length ≤ 40) := ⟨gx, lx⟩
      have HGY : Hid (Gw m (nat ys) ∧ (nat ys).length ≤ 40) := ⟨gy, ly⟩
      have exl : xs.length = (nat xs).length := (nat_len xs).symm
      have eyl : ys.length = (nat ys).length := (nat_len ys).symm
      have HXL : Hid (xs.length = (nat xs).length) := exl
      have HYL : Hid (ys.length = (nat ys).length) := eyl
      clear hga hgb ex ey gx gy lx ly hR2 exl eyl
      cases n with
      | true =>
        cases m with
        | true =>
          have HE : Hid (cmpN (val (nat ys)) (val (nat xs)) = cmpI (sv true (nat xs)) (sv true (nat ys))) := by
            show cmpN (val (nat ys)) (val (nat xs)) = cmpI (sv true (nat xs)) (sv true (nat ys))
            exact cmp_negs _ _
          go_enter Tryd.func11, Tryd.ntmps11
          go_wp2_with fail
          refine (cga _ (HV.out.old HA.out)).mono ?_
          rintro e w1 ⟨rfl, g1⟩
          have SA1 : Hid (StW w1 w.heap.size (.bool true) (.slice c0 xs.length cap0) 25) := SA0.out.old g1
          have SB1 : Hid (StW w1 (w.heap.size + 1) (.bool true) (.slice c1 ys.length cap1) 25) := SB0.out.old g1
          have HG1 : Hid (Old w w1) := Old.trans HA.out g1
          have b0 := SB1.out.c0
          have b1 := SB1.out.c1
          clear g1 HA
          go_wp2_with fail
          refine (cgb _ (HU.out.old HG1.out)).mono ?_
          rintro e w2 ⟨rfl, g2⟩
          clear b0 b1
          have SA2 : Hid (StW w2 w.heap.size (.bool true) (.slice c0 xs.length cap0) 25) := SA1.out.old g2
          have SB2 : Hid (StW w2 (w.heap.size + 1) (.bool true) (.slice c1 ys.length cap1) 25) := SB1.out.old g2
          have HG2 : Hid (Old w w2) := Old.trans HG1.out g2
          clear g2 SA1 SB1 HG1 cga cgb
          have a0 := SA2.out.c0
          have a1 := SA2.out.c1
          have b0 := SB2.out.c0
          have b1 := SB2.out.c1
          have HAS : Hid (∀ W', Old w2 W' → (W'.cell? ⟨w.heap.size, 0, none⟩ = some (.bool true) ∧ W'.cell? ⟨w.heap.size, 1, none⟩ = some (.slice c0 xs.length cap0) ∧ W'.cell? ⟨w.heap.size + 1, 0, none⟩ = some (.bool true) ∧ W'.cell? ⟨w.heap.size + 1, 1, none⟩ = some (.slice c1 ys.length cap1))) := fun W' g => ⟨(SA2.out.old g).c0, (SA2.out.old g).c1, (SB2.out.old g).c0, (SB2.out.old g).c1⟩
          have tok : True := trivial
          go_wp2_with fail
          go_region_held3 (fun W' => W'.cell? ⟨w.heap.size, 0, none⟩ = some (.bool true) ∧ W'.cell? ⟨w.heap.size, 1, none⟩ = some (.slice c0 xs.length cap0) ∧ W'.cell? ⟨w.heap.size + 1, 0, none⟩ = some (.bool true) ∧ W'.cell? ⟨w.heap.size + 1, 1, none⟩ = some (.slice c1 ys.length cap1)) (first | exact HAS.out _ G5.out | exact HAS.out _ G4.out | exact HAS.out _ G3.out | exact HAS.out _ (Below.drew (Old.refl w2)) | exact HAS.out _ (Old.refl w2)) (first
            | (go_at_call 22; have _t := tok; refine (sizeOf_sz true (nat ys) _ _ (HU2.out.old (HG2.out.drewN 1)) HGY.out.1.1 (by have := HGY.out.2; omega)).mono ?_; rintro e w3 ⟨rfl, g3⟩; have G3 : Hid (Old w2 w3) := Old.trans ((Old.refl _).drewN 1) g3; clear tok g3)
            | (go_at_call 22; refine (sizeOf_sz true (nat xs) _ _ (HV2.out.old (Old.trans HG2.out G3.out)) HGX.out.1.1 (by have := HGX.out.2; omega)).mono ?_; rintro e w4 ⟨rfl, g4⟩; have G4 : Hid (Old w2 w4) := Old.trans G3.out g4; clear g4)
            | (go_at_call 34; refine (cmp_sz (val (nat ys)) (val (nat xs)) _ (by rw [cnt_nrm HGY.out.1.1]; have := HGY.out.2; omega) (by rw [cnt_nrm HGX.out.1.1]; have := HGX.out.2; omega)).mono ?_; rintro e w5 ⟨rfl, g5⟩; have G5 : Hid (Old w2 w5) := Old.trans G4.out g5; clear g5))
          all_goals
            go_wp2_with fail
            go_ret
            exact ⟨congrArg (fun z => Ending.returned (.int .i64 z)) HE.out, Old.trans HG2.out G5.out⟩
        | false =>
          have HE : Hid (-1 = cmpI (sv true (nat xs)) (sv false (nat ys))) := by
            have hp := HGX.out.1.pos rfl
            show -1 = cmpI (sv true (nat xs)) (sv false (nat ys))
            simp only [sv, cmpI, if_true, Bool.false_eq_true, if_false]
            rw [if_pos (by omega)]
          go_enter Tryd.func11, Tryd.ntmps11
          go_wp2_with fail
          refine (cga _ (HV.out.old HA.out)).mono ?_
          rintro e w1 ⟨rfl, g1⟩
          have SA1 : Hid (StW w1 w.heap.size (.bool true) (.slice c0 xs.length cap0) 25) := SA0.out.old g1
          have SB1 : Hid (StW w1 (w.heap.size + 1) (.bool false) (.slice c1 ys.length cap1) 25) := SB0.out.old g1
          have HG1 : Hid (Old w w1) := Old.trans HA.out g1
          have b0 := SB1.out.c0
          have b1 := SB1.out.c1
          clear g1 HA
          go_wp2_with fail
          refine (cgb _ (HU.out.old HG1.out)).mono ?_
          rintro e w2 ⟨rfl, g2⟩
          clear b0 b1
          have SA2 : Hid (StW w2 w.heap.size (.bool true) (.slice c0 xs.length cap0) 25) := SA1.out.old g2
          have SB2 : Hid (StW w2 (w.heap.size + 1) (.bool false) (.slice c1 ys.length cap1) 25) := SB1.out.old g2
          have HG2 : Hid (Old w w2) := Old.trans HG1.out g2
          clear g2 SA1 SB1 HG1 cga cgb
          have a0 := SA2.out.c0
          have a1 := SA2.out.c1
          have b0 := SB2.out.c0
          have b1 := SB2.out.c1
          go_wp2_with fail
          go_ret
          exact ⟨congrArg (fun z => Ending.returned (.int .i64 z)) HE.out, HG2.out⟩
      | false =>
        cases m with
        | true =>
          have HE : Hid (1 = cmpI (sv false (nat xs)) (sv true (nat ys))) := by
            have hp := HGY.out.1.pos rfl
            show 1 = cmpI (sv false (nat xs)) (sv true (nat ys))
            simp only [sv, cmpI, if_true, Bool.false_eq_true, if_false]
            rw [if_neg (by omega), if_pos (by omega)]
          go_enter Tryd.func11, Tryd.ntmps11
          go_wp2_with fail
          refine (cga _ (HV.out.old HA.out)).mono ?_
          rintro e w1 ⟨rfl, g1⟩
          have SA1 : Hid (StW w1 w.heap.size (.bool false) (.slice c0 xs.length cap0) 25) := SA0.out.old g1
          have SB1 : Hid (StW w1 (w.heap.size + 1) (.bool true) (.slice c1 ys.length cap1) 25) := SB0.out.old g1
          have HG1 : Hid (Old w w1) := Old.trans HA.out g1
          have b0 := SB1.out.c0
          have b1 := SB1.out.c1
          clear g1 HA
          go_wp2_with fail
          refine (cgb _ (HU.out.old HG1.out)).mono ?_
          rintro e w2 ⟨rfl, g2⟩
          clear b0 b1
          have SA2 : Hid (StW w2 w.heap.size (.bool false) (.slice c0 xs.length cap0) 25) := SA1.out.old g2
          have SB2 : Hid (StW w2 (w.heap.size + 1) (.bool true) (.slice c1 ys.length cap1) 25) := SB1.out.old g2
          have HG2 : Hid (Old w w2) := Old.trans HG1.out g2
          clear g2 SA1 SB1 HG1 cga cgb
          have a0 := SA2.out.c0
          have a1 := SA2.out.c1
          have b0 := SB2.out.c0
          have b1 := SB2.out.c1
          go_wp2_with fail
          go_ret
          exact ⟨congrArg (fun z => Ending.returned (.int .i64 z)) HE.out, HG2.out⟩
        | false =>
          have HE : Hid (cmpN (val (nat xs)) (val (nat ys)) = cmpI (sv false (nat xs)) (sv false (nat ys))) := by
            show cmpN (val (nat xs)) (val (nat ys)) = cmpI (sv false (nat xs)) (sv false (nat ys))
            exact cmp_nats _ _
          go_enter Tryd.func11, Tryd.ntmps11
          go_wp2_with fail
          refine (cga _ (HV.out.old HA.out)).mono ?_
          rintro e w1 ⟨rfl, g1⟩
          have SA1 : Hid (StW w1 w.heap.size (.bool false) (.slice c0 xs.length cap0) 25) := SA0.out.old g1
          have SB1 : Hid (StW w1 (w.heap.size + 1) (.bool false) (.slice c1 ys.length cap1) 25) := SB0.out.old g1
          have HG1 : Hid (Old w w1) := Old.trans HA.out g1
          have b0 := SB1.out.c0
          have b1 := SB1.out.c1
          clear g1 HA
          go_wp2_with fail
          refine (cgb _ (HU.out.old HG1.out)).mono ?_
          rintro e w2 ⟨rfl, g2⟩
          clear b0 b1
          have SA2 : Hid (StW w2 w.heap.size (.bool false) (.slice c0 xs.length cap0) 25) := SA1.out.old g2
          have SB2 : Hid (StW w2 (w.heap.size + 1) (.bool false) (.slice c1 ys.length cap1) 25) := SB1.out.old g2
          have HG2 : Hid (Old w w2) := Old.trans HG1.out g2
          clear g2 SA1 SB1 HG1 cga cgb
          have a0 := SA2.out.c0
          have a1 := SA2.out.c1
          have b0 := SB2.out.c0
          have b1 := SB2.out.c1
          have HAS : Hid (∀ W', Old w2 W' → (W'.cell? ⟨w.heap.size, 0, none⟩ = some (.bool false) ∧ W'.cell? ⟨w.heap.size, 1, none⟩ = some (.slice c0 xs.length cap0) ∧ W'.cell? ⟨w.heap.size + 1, 0, none⟩ = some (.bool false) ∧ W'.cell? ⟨w.heap.size + 1, 1, none⟩ = some (.slice c1 ys.length cap1))) := fun W' g => ⟨(SA2.out.old g).c0, (SA2.out.old g).c1, (SB2.out.old g).c0, (SB2.out.old g).c1⟩
          have tok : True := trivial
          go_wp2_with fail
          go_region_held3 (fun W' => W'.cell? ⟨w.heap.size, 0, none⟩ = some (.bool false) ∧ W'.cell? ⟨w.heap.size, 1, none⟩ = some (.slice c0 xs.length cap0) ∧ W'.cell? ⟨w.heap.size + 1, 0, none⟩ = some (.bool false) ∧ W'.cell? ⟨w.heap.size + 1, 1, none⟩ = some (.slice c1 ys.length cap1)) (first | exact HAS.out _ G5.out | exact HAS.out _ G4.out | exact HAS.out _ G3.out | exact HAS.out _ (Below.drew (Old.refl w2)) | exact HAS.out _ (Old.refl w2)) (first
            | (go_at_call 22; have _t := tok; refine (sizeOf_sz false (nat xs) _ _ (HV2.out.old (HG2.out.drewN 1)) HGX.out.1.1 (by have := HGX.out.2; omega)).mono ?_; rintro e w3 ⟨rfl, g3⟩; have G3 : Hid (Old w2 w3) := Old.trans ((Old.refl _).drewN 1) g3; clear tok g3)
            | (go_at_call 22; refine (sizeOf_sz false (nat ys) _ _ (HU2.out.old (Old.trans HG2.out G3.out)) HGY.out.1.1 (by have := HGY.out.2; omega)).mono ?_; rintro e w4 ⟨rfl, g4⟩; have G4 : Hid (Old w2 w4) := Old.trans G3.out g4; clear g4)
            | (go_at_call 34; refine (cmp_sz (val (nat xs)) (val (nat ys)) _ (by rw [cnt_nrm HGX.out.1.1]; have := HGX.out.2; omega) (by rw [cnt_nrm HGY.out.1.1]; have := HGY.out.2; omega)).mono ?_; rintro e w5 ⟨rfl, g5⟩; have G5 : Hid (Old w2 w5) := Old.trans G4.out g5; clear g5))
          all_goals
            go_wp2_with fail
            go_ret
            exact ⟨congrArg (fun z => Ending.returned (.int .i64 z)) HE.out, Old.trans HG2.out G5.out⟩
    · have hR2 : cmpW n m xs ys = 0 := by unfold cmpW; rw [if_neg (fun h => hgb h.2)]
      rw [hR2]
      have cgb := fun W (h : Row W (.slice c1 ys.length cap1) ys) => good_impl m ys _ W h lb
      rw [decide_eq_false hgb] at cgb
      clear hga hgb hR2
      go_enter Tryd.func11, Tryd.ntmps11
      go_wp2_with fail
      refine (cga _ (HV.out.old (HA.out))).mono ?_
      rintro e w1 ⟨rfl, g1⟩
      have SB1 : Hid (StW w1 (w.heap.size + 1) (.bool m) (.slice c1 ys.length cap1) 25) := SB0.out.old g1
      have HG1 : Hid (Old w w1) := Old.trans HA.out g1
      have b0 := SB1.out.c0
      have b1 := SB1.out.c1
      clear g1 HA
      go_wp2_with fail
      refine (cgb _ (HU.out.old HG1.out)).mono ?_
      rintro e w2 ⟨rfl, g2⟩
      have HG2 : Hid (Old w w2) := Old.trans HG1.out g2
      clear g2
      go_wp2_with fail
      go_ret
      exact ⟨rfl, HG2.out⟩
  · have hR2 : cmpW n m xs ys = 0 := by unfold cmpW; rw [if_neg (fun h => hga h.1)]
    rw [hR2]
    have cga := fun W (h : Row W (.slice c0 xs.length cap0) xs) => good_impl n xs _ W h la
    rw [decide_eq_false hga] at cga
    clear hga hR2
    go_enter Tryd.func11, Tryd.ntmps11
    go_wp2_with fail
    refine (cga _ (HV.out.old HA.out)).mono ?_
    rintro e w1 ⟨rfl, g1⟩
    have HG1 : Hid (Old w w1) := Old.trans HA.out g1
    clear g1
    go_wp2_with fail
    go_ret
    exact ⟨rfl, HG1.out⟩
end Go.Proofs.YtjedpceiimceoaaDoor
