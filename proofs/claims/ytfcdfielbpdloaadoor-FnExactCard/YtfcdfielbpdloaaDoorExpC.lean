/- Proved: what the model answers, as functions of the numbers: comparing, what is left by a word, the whole number of a word. -/
import Derived.Test.YtfcdfielbpdloaaDoorX18
import Derived.Test.YtfcdfielbpdloaaDoorX03
import Derived.Deep.RegionHeld3
namespace Go.Proofs.YtfcdfielbpdloaaDoor
open Go.ChangeShapes Go.WideShapes Go.ChangeAt Go.RowKit
open M2
set_option linter.unusedVariables false
set_option linter.unusedSimpArgs false
theorem spec_isMod (p : Int) (w : World) :
    Calls Tryd.prog 25 #[.int .i64 p] w fun e w' => e = .returned (.bool (decide (2 ≤ p ∧ p ≤ 268435456))) ∧ w' = w := by
  go_enter Tryd.func25, Tryd.ntmps25
  go_wp2_with fail
  refine (specIn p 2 268435456 _).mono ?_
  rintro e w' ⟨rfl, rfl⟩
  go_wp2_with fail
  go_ret
  exact ⟨by simp [Bool.decide_and], rfl⟩
def modW (n : Bool) (xs : List Int) (k : Int) : Int := if Good n xs ∧ (2 ≤ k ∧ k ≤ 268435456) then sv n (nat xs) % k else 0
set_option maxHeartbeats 8000000 in
theorem spec_modW (n : Bool) (xs : List Int) (k : Int) (v : Value) (w : World) (hv : Row w v xs) (la : xs.length ≤ 1048576) :
    Calls Tryd.prog 6 #[.agg #[.bool n, v], .int .i64 k] w fun e w' => e = .returned (.int .i64 (modW n xs k)) ∧ Old w w' := by
  have HV : Hid (Row w v xs) := hv
  obtain ⟨c0, cap0, rfl⟩ := hv.slice
  clear hv
  have cm := fun W => spec_isMod k W
  by_cases hga : Good n xs
  · have cga := fun W (h : Row W (.slice c0 xs.length cap0) xs) => good_any n xs _ W h la
    rw [decide_eq_true hga] at cga
    by_cases hk : 2 ≤ k ∧ k ≤ 268435456
    · rw [decide_eq_true hk] at cm
      have hR2 : modW n xs k = sv n (nat xs) % k := by unfold modW; rw [if_pos ⟨hga, hk⟩]
      rw [hR2]
      obtain ⟨ex, gx, lx⟩ := good_gw hga
      have HV2 : Hid (Row w (.slice c0 xs.length cap0) (toI (nat xs))) := by rw [ex]; exact HV.out
      have HGX : Hid (Gw n (nat xs) ∧ (nat xs).length ≤ 40) := ⟨gx, lx⟩
      obtain ⟨j, rfl⟩ := Int.eq_ofNat_of_zero_le (show 0 ≤ k by omega)
      clear hga ex gx lx hR2
      go_enter Tryd.func6, Tryd.ntmps6
      go_wp2_with fail
      refine (cga _ (HV.out.old ((Old.refl w).alloc _))).mono ?_
      rintro e w1 ⟨rfl, g1⟩
      have SA1 : Hid (StW w1 w.heap.size (.bool n) (.slice c0 xs.length cap0) 27) := (StW.new w _ _ _).old g1
      have HG1 : Hid (Old w w1) := Old.trans ((Old.refl w).alloc _) g1
      have a0 := SA1.out.c0
      have a1 := SA1.out.c1
      clear g1
      go_wp2_with fail
      refine (cm _).mono ?_
      rintro e w' ⟨rfl, rfl⟩
      go_wp2_with fail
      refine (in_anyW n c0 xs.length cap0 _).mono ?_
      rintro e w3 ⟨rfl, g3⟩
      have HG3 : Hid (Old w w3) := Old.trans HG1.out g3
      clear g3
      go_wp2_with fail
      refine (modulo_any n (nat xs) j _ _ (HV2.out.old HG3.out) HGX.out.1.1.1 (by have := HGX.out.2; omega) (by omega) (by omega)).mono ?_
      rintro e w4 ⟨rfl, g4⟩
      have HG4 : Hid (Old w w4) := Old.trans HG3.out g4
      clear g4
      go_wp2_with fail
      go_ret
      exact ⟨rfl, HG4.out⟩
    · rw [decide_eq_false hk] at cm
      have hR2 : modW n xs k = 0 := by unfold modW; rw [if_neg (fun h => hk h.2)]
      rw [hR2]
      clear hga hk hR2
      go_enter Tryd.func6, Tryd.ntmps6
      go_wp2_with fail
      refine (cga _ (HV.out.old ((Old.refl w).alloc _))).mono ?_
      rintro e w1 ⟨rfl, g1⟩
      have HG1 : Hid (Old w w1) := Old.trans ((Old.refl w).alloc _) g1
      clear g1
      go_wp2_with fail
      refine (cm _).mono ?_
      rintro e w' ⟨rfl, rfl⟩
      go_wp2_with fail
      go_ret
      exact ⟨rfl, HG1.out⟩
  · have cga := fun W (h : Row W (.slice c0 xs.length cap0) xs) => good_any n xs _ W h la
    rw [decide_eq_false hga] at cga
    have hR2 : modW n xs k = 0 := by unfold modW; rw [if_neg (fun h => hga h.1)]
    rw [hR2]
    clear hga hR2
    go_enter Tryd.func6, Tryd.ntmps6
    go_wp2_with fail
    refine (cga _ (HV.out.old ((Old.refl w).alloc _))).mono ?_
    rintro e w1 ⟨rfl, g1⟩
    have HG1 : Hid (Old w w1) := Old.trans ((Old.refl w).alloc _) g1
    clear g1
    go_wp2_with fail
    go_ret
    exact ⟨rfl, HG1.out⟩
end Go.Proofs.YtfcdfielbpdloaaDoor
