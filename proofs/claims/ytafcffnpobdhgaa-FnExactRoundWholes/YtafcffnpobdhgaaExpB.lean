/- Proved: what the model's product answers. -/
import Derived.Test.YtafcffnpobdhgaaExpA
namespace Go.Proofs.Ytafcffnpobdhgaa
open Go.ChangeShapes Go.WideShapes Go.ChangeAt Go.RowKit
open M2
set_option linter.unusedVariables false
set_option linter.unusedSimpArgs false
/-- what MulWholes answers -/
def mulW (n m : Bool) (xs ys : List Int) : Bool × List Nat × Bool := if Good n xs ∧ Good m ys then told (sv n (nat xs) * sv m (nat ys)) else nought
set_option maxHeartbeats 8000000 in
theorem spec_mul (n m : Bool) (xs ys : List Int) (v u : Value) (w : World) (hv : Row w v xs) (hu : Row w u ys) (la : xs.length ≤ 1048576) (lb : ys.length ≤ 1048576) (R : Bool × List Nat × Bool) (hR : mulW n m xs ys = R) :
    Calls Try.prog 11 #[.agg #[.bool n, v], .agg #[.bool m, u]] w fun e w' => ∃ v', e = .returned (.tuple #[.agg #[.bool R.1, v'], .bool R.2.2]) ∧ Old w w' ∧ Own w' w.heap.size v' (toI R.2.1) := by
  have HV : Hid (Row w v xs) := hv
  have HU : Hid (Row w u ys) := hu
  obtain ⟨c0, cap0, rfl⟩ := hv.slice
  obtain ⟨c1, cap1, rfl⟩ := hu.slice
  clear hv hu
  have HA : Hid (∀ t1 t2 t3 xs1 xs2 xs3, Old w (((w.alloc (.cells xs1 t1)).alloc (.cells xs2 t2)).alloc (.cells xs3 t3))) := fun t1 t2 t3 xs1 xs2 xs3 => (((Old.refl w).alloc _).alloc _).alloc _
  by_cases hga : Good n xs
  · have cga := fun W (h : Row W (.slice c0 xs.length cap0) xs) => good_any n xs _ W h la
    rw [decide_eq_true hga] at cga
    by_cases hgb : Good m ys
    · have cgb := fun W (h : Row W (.slice c1 ys.length cap1) ys) => good_any m ys _ W h lb
      rw [decide_eq_true hgb] at cgb
      have hR2 : told (sv n (nat xs) * sv m (nat ys)) = R := by rw [← hR]; unfold mulW; rw [if_pos ⟨hga, hgb⟩]
      obtain ⟨ex, gx, lx⟩ := good_gw hga
      obtain ⟨ey, gy, ly⟩ := good_gw hgb
      have HV2 : Hid (Row w (.slice c0 xs.length cap0) (toI (nat xs))) := by rw [ex]; exact HV.out
      have HU2 : Hid (Row w (.slice c1 ys.length cap1) (toI (nat ys))) := by rw [ey]; exact HU.out
      obtain ⟨z, hz⟩ : ∃ z, sv n (nat xs) * sv m (nat ys) = z := ⟨_, rfl⟩
      rw [hz] at hR2
      have HZ : Hid (sv n (nat xs) * sv m (nat ys) = z) := hz
      have HGX : Hid (Gw n (nat xs) ∧ (nat xs).length ≤ 40) := ⟨gx, lx⟩
      have HGY : Hid (Gw m (nat ys) ∧ (nat ys).length ≤ 40) := ⟨gy, ly⟩
      have hzl : (dg z).length ≤ 1000 := by rw [← hz]; exact len_prod lx ly gx.1.1 gy.1.1
      clear hga hgb ex ey gx gy lx ly hz hR
      go_enter Try.func11, Try.ntmps11
      go_wp2_with fail
      refine (cga _ (HV.out.old (HA.out _ _ _ _ _ _))).mono ?_
      rintro e w1 ⟨rfl, g1⟩
      have a0p : w1.cell? ⟨w.heap.size, 0, none⟩ = some (Value.bool n) := (g1.cell (p := ⟨w.heap.size, 0, none⟩) (by simp; try omega)).trans (c3_0 _ _ _ _ _ _ _ _ )
      have a1p : w1.cell? ⟨w.heap.size, 1, none⟩ = some (Value.slice c0 xs.length cap0) := (g1.cell (p := ⟨w.heap.size, 1, none⟩) (by simp; try omega)).trans (c3_0 _ _ _ _ _ _ _ _ )
      have b0p : w1.cell? ⟨w.heap.size + 1, 0, none⟩ = some (Value.bool m) := (g1.cell (p := ⟨w.heap.size + 1, 0, none⟩) (by simp; try omega)).trans (c3_1 _ _ _ _ _ _ _ _ )
      have b1p : w1.cell? ⟨w.heap.size + 1, 1, none⟩ = some (Value.slice c1 ys.length cap1) := (g1.cell (p := ⟨w.heap.size + 1, 1, none⟩) (by simp; try omega)).trans (c3_1 _ _ _ _ _ _ _ _ )
      have q0p : w1.cell? ⟨w.heap.size + 1 + 1, 0, none⟩ = some (Value.bool false) := (g1.cell (p := ⟨w.heap.size + 1 + 1, 0, none⟩) (by simp; try omega)).trans (c3_2 _ _ _ _ _ _ _ _ )
      have q1p : w1.cell? ⟨w.heap.size + 1 + 1, 1, none⟩ = some (Value.slice none 0 0) := (g1.cell (p := ⟨w.heap.size + 1 + 1, 1, none⟩) (by simp; try omega)).trans (c3_2 _ _ _ _ _ _ _ _ )
      have f0p : w1.frozen? ⟨w.heap.size + 1 + 1, 0, none⟩ = false := (g1.frozen (p := ⟨w.heap.size + 1 + 1, 0, none⟩) (by simp; try omega)).trans (f3_2 _ _ _ _ _ _ _ _ )
      have f1p : w1.frozen? ⟨w.heap.size + 1 + 1, 1, none⟩ = false := (g1.frozen (p := ⟨w.heap.size + 1 + 1, 1, none⟩) (by simp; try omega)).trans (f3_2 _ _ _ _ _ _ _ _ )
      have HG1 : Hid (Old w w1) := Old.trans (HA.out _ _ _ _ _ _) g1
      have hs1 : w.heap.size + 3 ≤ w1.heap.size := by have := g1.size; simp at this; omega
      clear g1 HA
      go_wp2_with fail
      refine (cgb _ (HU.out.old HG1.out)).mono ?_
      rintro e w2 ⟨rfl, g2⟩
      have a0r := (g2.cell (p := ⟨w.heap.size, 0, none⟩) (by show w.heap.size < w1.heap.size; omega)).trans a0p
      have a1r := (g2.cell (p := ⟨w.heap.size, 1, none⟩) (by show w.heap.size < w1.heap.size; omega)).trans a1p
      have b0r := (g2.cell (p := ⟨w.heap.size + 1, 0, none⟩) (by show w.heap.size + 1 < w1.heap.size; omega)).trans b0p
      have b1r := (g2.cell (p := ⟨w.heap.size + 1, 1, none⟩) (by show w.heap.size + 1 < w1.heap.size; omega)).trans b1p
      have q0r := (g2.cell (p := ⟨w.heap.size + 1 + 1, 0, none⟩) (by show w.heap.size + 1 + 1 < w1.heap.size; omega)).trans q0p
      have q1r := (g2.cell (p := ⟨w.heap.size + 1 + 1, 1, none⟩) (by show w.heap.size + 1 + 1 < w1.heap.size; omega)).trans q1p
      have f0r := (g2.frozen (p := ⟨w.heap.size + 1 + 1, 0, none⟩) (by show w.heap.size + 1 + 1 < w1.heap.size; omega)).trans f0p
      have f1r := (g2.frozen (p := ⟨w.heap.size + 1 + 1, 1, none⟩) (by show w.heap.size + 1 + 1 < w1.heap.size; omega)).trans f1p
      have HG2 : Hid (Old w w2) := Old.trans HG1.out g2
      have hs2 : w.heap.size + 3 ≤ w2.heap.size := by have := g2.size; omega
      clear g2 HG1 a0p a1p b0p b1p q0p q1p f0p f1p
      by_cases h40 : (dg z).length ≤ 40
      · have HR : Hid (R = (ng z, dg z, true)) := by rw [← hR2]; unfold told; rw [if_pos h40]; rfl
        clear hR2
        have tok : True := trivial
        go_wp2_with fail
        go_region_with (first
          | (go_at_call 33; have _t := tok; refine (in_any n c0 xs.length cap0 _).mono ?_; rintro e w3 ⟨rfl, g3⟩; have a0s := (g3.cell (p := ⟨w.heap.size, 0, none⟩) (by show w.heap.size < w2.heap.size; omega)).trans a0r; have a1s := (g3.cell (p := ⟨w.heap.size, 1, none⟩) (by show w.heap.size < w2.heap.size; omega)).trans a1r; have b0s := (g3.cell (p := ⟨w.heap.size + 1, 0, none⟩) (by show w.heap.size + 1 < w2.heap.size; omega)).trans b0r; have b1s := (g3.cell (p := ⟨w.heap.size + 1, 1, none⟩) (by show w.heap.size + 1 < w2.heap.size; omega)).trans b1r; have q0s := (g3.cell (p := ⟨w.heap.size + 1 + 1, 0, none⟩) (by show w.heap.size + 1 + 1 < w2.heap.size; omega)).trans q0r; have q1s := (g3.cell (p := ⟨w.heap.size + 1 + 1, 1, none⟩) (by show w.heap.size + 1 + 1 < w2.heap.size; omega)).trans q1r; have f0s := (g3.frozen (p := ⟨w.heap.size + 1 + 1, 0, none⟩) (by show w.heap.size + 1 + 1 < w2.heap.size; omega)).trans f0r; have f1s := (g3.frozen (p := ⟨w.heap.size + 1 + 1, 1, none⟩) (by show w.heap.size + 1 + 1 < w2.heap.size; omega)).trans f1r; have HG3 : Hid (Old w w3) := Old.trans (HG2.out.drewN 1) g3; have hs3 : w.heap.size + 3 ≤ w3.heap.size := by { have := g3.size; exact Nat.le_trans hs2 this }; clear tok g3)
          | (go_at_call 33; refine (in_any m c1 ys.length cap1 _).mono ?_; rintro e w4 ⟨rfl, g4⟩; have a0t := (g4.cell (p := ⟨w.heap.size, 0, none⟩) (by show w.heap.size < w3.heap.size; omega)).trans a0s; have a1t := (g4.cell (p := ⟨w.heap.size, 1, none⟩) (by show w.heap.size < w3.heap.size; omega)).trans a1s; have b0t := (g4.cell (p := ⟨w.heap.size + 1, 0, none⟩) (by show w.heap.size + 1 < w3.heap.size; omega)).trans b0s; have b1t := (g4.cell (p := ⟨w.heap.size + 1, 1, none⟩) (by show w.heap.size + 1 < w3.heap.size; omega)).trans b1s; have q0t := (g4.cell (p := ⟨w.heap.size + 1 + 1, 0, none⟩) (by show w.heap.size + 1 + 1 < w3.heap.size; omega)).trans q0s; have q1t := (g4.cell (p := ⟨w.heap.size + 1 + 1, 1, none⟩) (by show w.heap.size + 1 + 1 < w3.heap.size; omega)).trans q1s; have f0t := (g4.frozen (p := ⟨w.heap.size + 1 + 1, 0, none⟩) (by show w.heap.size + 1 + 1 < w3.heap.size; omega)).trans f0s; have f1t := (g4.frozen (p := ⟨w.heap.size + 1 + 1, 1, none⟩) (by show w.heap.size + 1 + 1 < w3.heap.size; omega)).trans f1s; have HG4 : Hid (Old w w4) := Old.trans HG3.out g4; have hs4 : w.heap.size + 3 ≤ w4.heap.size := by { have := g4.size; omega }; clear g4)
          | (go_at_call 36; refine (times_any n m (nat xs) (nat ys) _ _ _ (HV2.out.old HG4.out) (HU2.out.old HG4.out) HGX.out.1.1.1 HGY.out.1.1.1 (by have := HGX.out.2; omega) (by have := HGY.out.2; omega)).mono ?_; rw [HZ.out]; rintro e w5 ⟨v5, rfl, g5, o5⟩; obtain ⟨c5, cap5, rfl⟩ := (Own.row o5).sliceN; have a0u := (g5.cell (p := ⟨w.heap.size, 0, none⟩) (by show w.heap.size < w4.heap.size; omega)).trans a0t; have a1u := (g5.cell (p := ⟨w.heap.size, 1, none⟩) (by show w.heap.size < w4.heap.size; omega)).trans a1t; have b0u := (g5.cell (p := ⟨w.heap.size + 1, 0, none⟩) (by show w.heap.size + 1 < w4.heap.size; omega)).trans b0t; have b1u := (g5.cell (p := ⟨w.heap.size + 1, 1, none⟩) (by show w.heap.size + 1 < w4.heap.size; omega)).trans b1t; have q0u := (g5.cell (p := ⟨w.heap.size + 1 + 1, 0, none⟩) (by show w.heap.size + 1 + 1 < w4.heap.size; omega)).trans q0t; have q1u := (g5.cell (p := ⟨w.heap.size + 1 + 1, 1, none⟩) (by show w.heap.size + 1 + 1 < w4.heap.size; omega)).trans q1t; have f0u := (g5.frozen (p := ⟨w.heap.size + 1 + 1, 0, none⟩) (by show w.heap.size + 1 + 1 < w4.heap.size; omega)).trans f0t; have f1u := (g5.frozen (p := ⟨w.heap.size + 1 + 1, 1, none⟩) (by show w.heap.size + 1 + 1 < w4.heap.size; omega)).trans f1t; have HG5 : Hid (Old w w5) := Old.trans HG4.out g5; have hs5 : w.heap.size + 3 ≤ w5.heap.size := by { have := g5.size; omega }; have HR5 : Hid (Row w5 (.slice c5 (dg z).length cap5) (toI (dg z))) := Own.row o5; clear g5 o5)
          | (go_at_call 31; refine (out_any (ng z) (dg z) _ _ HR5.out h40).mono ?_; rintro e w6 ⟨v6, rfl, g6, o6⟩; obtain ⟨c6, cap6, rfl⟩ := (Own.row o6).sliceN; have a0v := (g6.cell (p := ⟨w.heap.size, 0, none⟩) (by show w.heap.size < w5.heap.size; omega)).trans a0u; have a1v := (g6.cell (p := ⟨w.heap.size, 1, none⟩) (by show w.heap.size < w5.heap.size; omega)).trans a1u; have b0v := (g6.cell (p := ⟨w.heap.size + 1, 0, none⟩) (by show w.heap.size + 1 < w5.heap.size; omega)).trans b0u; have b1v := (g6.cell (p := ⟨w.heap.size + 1, 1, none⟩) (by show w.heap.size + 1 < w5.heap.size; omega)).trans b1u; have q0v := (g6.cell (p := ⟨w.heap.size + 1 + 1, 0, none⟩) (by show w.heap.size + 1 + 1 < w5.heap.size; omega)).trans q0u; have q1v := (g6.cell (p := ⟨w.heap.size + 1 + 1, 1, none⟩) (by show w.heap.size + 1 + 1 < w5.heap.size; omega)).trans q1u; have f0v := (g6.frozen (p := ⟨w.heap.size + 1 + 1, 0, none⟩) (by show w.heap.size + 1 + 1 < w5.heap.size; omega)).trans f0u; have f1v := (g6.frozen (p := ⟨w.heap.size + 1 + 1, 1, none⟩) (by show w.heap.size + 1 + 1 < w5.heap.size; omega)).trans f1u; have HG6 : Hid (Old w w6) := Old.trans HG5.out g6; have HO6 : Hid (Own w6 (w.heap.size + 3) (.slice c6 (dg z).length cap6) (toI (dg z))) := Own.low o6 hs5; clear g6 o6))
        all_goals
          go_wp2_with fail
          refine bodyPost_ret (v := .tuple #[.agg #[.bool (ng z), .slice c6 (dg z).length cap6], .bool true]) (by simp [results, Try.results11, go_sem, q0v, q1v]) rfl ⟨_, by rw [HR.out], ?_, ?_⟩
          · exact (HG6.out.own (p := ⟨w.heap.size + 1 + 1, 0, none⟩) (by simp; omega) _).own (p := ⟨w.heap.size + 1 + 1, 1, none⟩) (by simp; omega) _
          · rw [HR.out]
            refine Own.low (base := w.heap.size + 3) (ownsRow_setCell_other (ownsRow_setCell_other HO6.out (fun e => ?_) _) (fun e => ?_) _) (by omega)
            · have := (HO6.out.lt (w.heap.size + 1 + 1) e).1; omega
            · have := (HO6.out.lt (w.heap.size + 1 + 1) e).1; omega
      · have HR : Hid (R = (false, [], false)) := by rw [← hR2]; unfold told; rw [if_neg h40]; rfl
        clear hR2
        have tok : True := trivial
        go_wp2_with fail
        go_region_with (first
          | (go_at_call 33; have _t := tok; refine (in_any n c0 xs.length cap0 _).mono ?_; rintro e w3 ⟨rfl, g3⟩; have a0s := (g3.cell (p := ⟨w.heap.size, 0, none⟩) (by show w.heap.size < w2.heap.size; omega)).trans a0r; have a1s := (g3.cell (p := ⟨w.heap.size, 1, none⟩) (by show w.heap.size < w2.heap.size; omega)).trans a1r; have b0s := (g3.cell (p := ⟨w.heap.size + 1, 0, none⟩) (by show w.heap.size + 1 < w2.heap.size; omega)).trans b0r; have b1s := (g3.cell (p := ⟨w.heap.size + 1, 1, none⟩) (by show w.heap.size + 1 < w2.heap.size; omega)).trans b1r; have q0s := (g3.cell (p := ⟨w.heap.size + 1 + 1, 0, none⟩) (by show w.heap.size + 1 + 1 < w2.heap.size; omega)).trans q0r; have q1s := (g3.cell (p := ⟨w.heap.size + 1 + 1, 1, none⟩) (by show w.heap.size + 1 + 1 < w2.heap.size; omega)).trans q1r; have f0s := (g3.frozen (p := ⟨w.heap.size + 1 + 1, 0, none⟩) (by show w.heap.size + 1 + 1 < w2.heap.size; omega)).trans f0r; have f1s := (g3.frozen (p := ⟨w.heap.size + 1 + 1, 1, none⟩) (by show w.heap.size + 1 + 1 < w2.heap.size; omega)).trans f1r; have HG3 : Hid (Old w w3) := Old.trans (HG2.out.drewN 1) g3; have hs3 : w.heap.size + 3 ≤ w3.heap.size := by { have := g3.size; exact Nat.le_trans hs2 this }; clear tok g3)
          | (go_at_call 33; refine (in_any m c1 ys.length cap1 _).mono ?_; rintro e w4 ⟨rfl, g4⟩; have a0t := (g4.cell (p := ⟨w.heap.size, 0, none⟩) (by show w.heap.size < w3.heap.size; omega)).trans a0s; have a1t := (g4.cell (p := ⟨w.heap.size, 1, none⟩) (by show w.heap.size < w3.heap.size; omega)).trans a1s; have b0t := (g4.cell (p := ⟨w.heap.size + 1, 0, none⟩) (by show w.heap.size + 1 < w3.heap.size; omega)).trans b0s; have b1t := (g4.cell (p := ⟨w.heap.size + 1, 1, none⟩) (by show w.heap.size + 1 < w3.heap.size; omega)).trans b1s; have q0t := (g4.cell (p := ⟨w.heap.size + 1 + 1, 0, none⟩) (by show w.heap.size + 1 + 1 < w3.heap.size; omega)).trans q0s; have q1t := (g4.cell (p := ⟨w.heap.size + 1 + 1, 1, none⟩) (by show w.heap.size + 1 + 1 < w3.heap.size; omega)).trans q1s; have f0t := (g4.frozen (p := ⟨w.heap.size + 1 + 1, 0, none⟩) (by show w.heap.size + 1 + 1 < w3.heap.size; omega)).trans f0s; have f1t := (g4.frozen (p := ⟨w.heap.size + 1 + 1, 1, none⟩) (by show w.heap.size + 1 + 1 < w3.heap.size; omega)).trans f1s; have HG4 : Hid (Old w w4) := Old.trans HG3.out g4; have hs4 : w.heap.size + 3 ≤ w4.heap.size := by { have := g4.size; omega }; clear g4)
          | (go_at_call 36; refine (times_any n m (nat xs) (nat ys) _ _ _ (HV2.out.old HG4.out) (HU2.out.old HG4.out) HGX.out.1.1.1 HGY.out.1.1.1 (by have := HGX.out.2; omega) (by have := HGY.out.2; omega)).mono ?_; rw [HZ.out]; rintro e w5 ⟨v5, rfl, g5, o5⟩; obtain ⟨c5, cap5, rfl⟩ := (Own.row o5).sliceN; have a0u := (g5.cell (p := ⟨w.heap.size, 0, none⟩) (by show w.heap.size < w4.heap.size; omega)).trans a0t; have a1u := (g5.cell (p := ⟨w.heap.size, 1, none⟩) (by show w.heap.size < w4.heap.size; omega)).trans a1t; have b0u := (g5.cell (p := ⟨w.heap.size + 1, 0, none⟩) (by show w.heap.size + 1 < w4.heap.size; omega)).trans b0t; have b1u := (g5.cell (p := ⟨w.heap.size + 1, 1, none⟩) (by show w.heap.size + 1 < w4.heap.size; omega)).trans b1t; have q0u := (g5.cell (p := ⟨w.heap.size + 1 + 1, 0, none⟩) (by show w.heap.size + 1 + 1 < w4.heap.size; omega)).trans q0t; have q1u := (g5.cell (p := ⟨w.heap.size + 1 + 1, 1, none⟩) (by show w.heap.size + 1 + 1 < w4.heap.size; omega)).trans q1t; have f0u := (g5.frozen (p := ⟨w.heap.size + 1 + 1, 0, none⟩) (by show w.heap.size + 1 + 1 < w4.heap.size; omega)).trans f0t; have f1u := (g5.frozen (p := ⟨w.heap.size + 1 + 1, 1, none⟩) (by show w.heap.size + 1 + 1 < w4.heap.size; omega)).trans f1t; have HG5 : Hid (Old w w5) := Old.trans HG4.out g5; have hs5 : w.heap.size + 3 ≤ w5.heap.size := by { have := g5.size; omega }; clear g5 o5)
          | (go_at_call 31; refine (out_no (ng z) _ (dg z).length _ _ (by omega) (by omega)).mono ?_; rintro e w6 ⟨rfl, g6⟩; have a0v := (g6.cell (p := ⟨w.heap.size, 0, none⟩) (by show w.heap.size < w5.heap.size; omega)).trans a0u; have a1v := (g6.cell (p := ⟨w.heap.size, 1, none⟩) (by show w.heap.size < w5.heap.size; omega)).trans a1u; have b0v := (g6.cell (p := ⟨w.heap.size + 1, 0, none⟩) (by show w.heap.size + 1 < w5.heap.size; omega)).trans b0u; have b1v := (g6.cell (p := ⟨w.heap.size + 1, 1, none⟩) (by show w.heap.size + 1 < w5.heap.size; omega)).trans b1u; have q0v := (g6.cell (p := ⟨w.heap.size + 1 + 1, 0, none⟩) (by show w.heap.size + 1 + 1 < w5.heap.size; omega)).trans q0u; have q1v := (g6.cell (p := ⟨w.heap.size + 1 + 1, 1, none⟩) (by show w.heap.size + 1 + 1 < w5.heap.size; omega)).trans q1u; have f0v := (g6.frozen (p := ⟨w.heap.size + 1 + 1, 0, none⟩) (by show w.heap.size + 1 + 1 < w5.heap.size; omega)).trans f0u; have f1v := (g6.frozen (p := ⟨w.heap.size + 1 + 1, 1, none⟩) (by show w.heap.size + 1 + 1 < w5.heap.size; omega)).trans f1u; have HG6 : Hid (Old w w6) := Old.trans HG5.out g6; clear g6))
        all_goals
          go_wp2_with fail
          refine bodyPost_ret (v := .tuple #[.agg #[.bool false, .slice none 0 0], .bool false]) (by simp [results, Try.results11, go_sem, q0v, q1v]) rfl ⟨_, by rw [HR.out], ?_, by rw [HR.out]; exact World.ownsRow_nil _ _ _ _⟩
          exact (HG6.out.own (p := ⟨w.heap.size + 1 + 1, 0, none⟩) (by simp; omega) _).own (p := ⟨w.heap.size + 1 + 1, 1, none⟩) (by simp; omega) _
    · have HR : Hid (R = (false, [], false)) := by rw [← hR]; unfold mulW; rw [if_neg (fun h => hgb h.2)]; rfl
      have cgb := fun W (h : Row W (.slice c1 ys.length cap1) ys) => good_any m ys _ W h lb
      rw [decide_eq_false hgb] at cgb
      clear hga hgb hR
      go_enter Try.func11, Try.ntmps11
      go_wp2_with fail
      refine (cga _ (HV.out.old (HA.out _ _ _ _ _ _))).mono ?_
      rintro e w1 ⟨rfl, g1⟩
      have a0p : w1.cell? ⟨w.heap.size, 0, none⟩ = some (Value.bool n) := (g1.cell (p := ⟨w.heap.size, 0, none⟩) (by simp; try omega)).trans (c3_0 _ _ _ _ _ _ _ _ )
      have a1p : w1.cell? ⟨w.heap.size, 1, none⟩ = some (Value.slice c0 xs.length cap0) := (g1.cell (p := ⟨w.heap.size, 1, none⟩) (by simp; try omega)).trans (c3_0 _ _ _ _ _ _ _ _ )
      have b0p : w1.cell? ⟨w.heap.size + 1, 0, none⟩ = some (Value.bool m) := (g1.cell (p := ⟨w.heap.size + 1, 0, none⟩) (by simp; try omega)).trans (c3_1 _ _ _ _ _ _ _ _ )
      have b1p : w1.cell? ⟨w.heap.size + 1, 1, none⟩ = some (Value.slice c1 ys.length cap1) := (g1.cell (p := ⟨w.heap.size + 1, 1, none⟩) (by simp; try omega)).trans (c3_1 _ _ _ _ _ _ _ _ )
      have q0p : w1.cell? ⟨w.heap.size + 1 + 1, 0, none⟩ = some (Value.bool false) := (g1.cell (p := ⟨w.heap.size + 1 + 1, 0, none⟩) (by simp; try omega)).trans (c3_2 _ _ _ _ _ _ _ _ )
      have q1p : w1.cell? ⟨w.heap.size + 1 + 1, 1, none⟩ = some (Value.slice none 0 0) := (g1.cell (p := ⟨w.heap.size + 1 + 1, 1, none⟩) (by simp; try omega)).trans (c3_2 _ _ _ _ _ _ _ _ )
      have f0p : w1.frozen? ⟨w.heap.size + 1 + 1, 0, none⟩ = false := (g1.frozen (p := ⟨w.heap.size + 1 + 1, 0, none⟩) (by simp; try omega)).trans (f3_2 _ _ _ _ _ _ _ _ )
      have f1p : w1.frozen? ⟨w.heap.size + 1 + 1, 1, none⟩ = false := (g1.frozen (p := ⟨w.heap.size + 1 + 1, 1, none⟩) (by simp; try omega)).trans (f3_2 _ _ _ _ _ _ _ _ )
      have HG1 : Hid (Old w w1) := Old.trans (HA.out _ _ _ _ _ _) g1
      have hs1 : w.heap.size + 3 ≤ w1.heap.size := by have := g1.size; simp at this; omega
      clear g1 HA
      go_wp2_with fail
      refine (cgb _ (HU.out.old HG1.out)).mono ?_
      rintro e w2 ⟨rfl, g2⟩
      have a0r := (g2.cell (p := ⟨w.heap.size, 0, none⟩) (by show w.heap.size < w1.heap.size; omega)).trans a0p
      have a1r := (g2.cell (p := ⟨w.heap.size, 1, none⟩) (by show w.heap.size < w1.heap.size; omega)).trans a1p
      have b0r := (g2.cell (p := ⟨w.heap.size + 1, 0, none⟩) (by show w.heap.size + 1 < w1.heap.size; omega)).trans b0p
      have b1r := (g2.cell (p := ⟨w.heap.size + 1, 1, none⟩) (by show w.heap.size + 1 < w1.heap.size; omega)).trans b1p
      have q0r := (g2.cell (p := ⟨w.heap.size + 1 + 1, 0, none⟩) (by show w.heap.size + 1 + 1 < w1.heap.size; omega)).trans q0p
      have q1r := (g2.cell (p := ⟨w.heap.size + 1 + 1, 1, none⟩) (by show w.heap.size + 1 + 1 < w1.heap.size; omega)).trans q1p
      have f0r := (g2.frozen (p := ⟨w.heap.size + 1 + 1, 0, none⟩) (by show w.heap.size + 1 + 1 < w1.heap.size; omega)).trans f0p
      have f1r := (g2.frozen (p := ⟨w.heap.size + 1 + 1, 1, none⟩) (by show w.heap.size + 1 + 1 < w1.heap.size; omega)).trans f1p
      have HG2 : Hid (Old w w2) := Old.trans HG1.out g2
      clear g2 HG1
      go_wp2_with fail
      refine bodyPost_ret (v := .tuple #[.agg #[.bool false, .slice none 0 0], .bool false]) (by simp [results, Try.results11, go_sem, q0r, q1r]) rfl ⟨_, by rw [HR.out], ?_, by rw [HR.out]; exact World.ownsRow_nil _ _ _ _⟩
      exact (HG2.out.own (p := ⟨w.heap.size + 1 + 1, 0, none⟩) (by simp; omega) _).own (p := ⟨w.heap.size + 1 + 1, 1, none⟩) (by simp; omega) _
  · have HR : Hid (R = (false, [], false)) := by rw [← hR]; unfold mulW; rw [if_neg (fun h => hga h.1)]; rfl
    have cga := fun W (h : Row W (.slice c0 xs.length cap0) xs) => good_any n xs _ W h la
    rw [decide_eq_false hga] at cga
    clear hga hR
    go_enter Try.func11, Try.ntmps11
    go_wp2_with fail
    refine (cga _ (HV.out.old (HA.out _ _ _ _ _ _))).mono ?_
    rintro e w1 ⟨rfl, g1⟩
    have a0p : w1.cell? ⟨w.heap.size, 0, none⟩ = some (Value.bool n) := (g1.cell (p := ⟨w.heap.size, 0, none⟩) (by simp; try omega)).trans (c3_0 _ _ _ _ _ _ _ _ )
    have a1p : w1.cell? ⟨w.heap.size, 1, none⟩ = some (Value.slice c0 xs.length cap0) := (g1.cell (p := ⟨w.heap.size, 1, none⟩) (by simp; try omega)).trans (c3_0 _ _ _ _ _ _ _ _ )
    have b0p : w1.cell? ⟨w.heap.size + 1, 0, none⟩ = some (Value.bool m) := (g1.cell (p := ⟨w.heap.size + 1, 0, none⟩) (by simp; try omega)).trans (c3_1 _ _ _ _ _ _ _ _ )
    have b1p : w1.cell? ⟨w.heap.size + 1, 1, none⟩ = some (Value.slice c1 ys.length cap1) := (g1.cell (p := ⟨w.heap.size + 1, 1, none⟩) (by simp; try omega)).trans (c3_1 _ _ _ _ _ _ _ _ )
    have q0p : w1.cell? ⟨w.heap.size + 1 + 1, 0, none⟩ = some (Value.bool false) := (g1.cell (p := ⟨w.heap.size + 1 + 1, 0, none⟩) (by simp; try omega)).trans (c3_2 _ _ _ _ _ _ _ _ )
    have q1p : w1.cell? ⟨w.heap.size + 1 + 1, 1, none⟩ = some (Value.slice none 0 0) := (g1.cell (p := ⟨w.heap.size + 1 + 1, 1, none⟩) (by simp; try omega)).trans (c3_2 _ _ _ _ _ _ _ _ )
    have f0p : w1.frozen? ⟨w.heap.size + 1 + 1, 0, none⟩ = false := (g1.frozen (p := ⟨w.heap.size + 1 + 1, 0, none⟩) (by simp; try omega)).trans (f3_2 _ _ _ _ _ _ _ _ )
    have f1p : w1.frozen? ⟨w.heap.size + 1 + 1, 1, none⟩ = false := (g1.frozen (p := ⟨w.heap.size + 1 + 1, 1, none⟩) (by simp; try omega)).trans (f3_2 _ _ _ _ _ _ _ _ )
    have HG1 : Hid (Old w w1) := Old.trans (HA.out _ _ _ _ _ _) g1
    clear g1 HA
    go_wp2_with fail
    refine bodyPost_ret (v := .tuple #[.agg #[.bool false, .slice none 0 0], .bool false]) (by simp [results, Try.results11, go_sem, q0p, q1p]) rfl ⟨_, by rw [HR.out], ?_, by rw [HR.out]; exact World.ownsRow_nil _ _ _ _⟩
    exact (HG1.out.own (p := ⟨w.heap.size + 1 + 1, 0, none⟩) (by simp; omega) _).own (p := ⟨w.heap.size + 1 + 1, 1, none⟩) (by simp; omega) _
end Go.Proofs.Ytafcffnpobdhgaa
