/- Proved: the contract of the program's BitsOf (and of the library's bits.Len below 2 to the 32). -/
import Derived.Test.YtfcdfielbpdloaaGreatDoorC231
import Derived.Test.YtfcdfielbpdloaaGreatDoorC221
import Derived.Test.YtfcdfielbpdloaaGreatDoorC219
import Derived.Test.YtfcdfielbpdloaaGreatDoorLenW
namespace Go.Proofs.YtfcdfielbpdloaaGreatDoor
open Go.ChangeShapes Go.WideShapes Go.ChangeAt Go.RowKit
open M2
set_option linter.unusedVariables false
set_option linter.unusedSimpArgs false
theorem bits_Len_small (x : Nat) (w : World) (h1 : x < 268435456) :
    Calls Tryz.prog 39 #[.int .u64 (x : Int)] w fun e w' => e = .returned (.int .i64 (Lib.bitLen x)) ∧ w' = w := by
  have c := bits_Len64_small (x : Int) w (by omega) (by omega)
  rw [Int.toNat_natCast] at c
  have HC : Hid (Calls Tryz.prog 76 #[.int .u64 (x : Int)] w fun e w' => e = .returned (.int .i64 (Lib.bitLen x)) ∧ w' = w) := c
  clear c
  go_enter Tryz.func39, Tryz.ntmps39
  go_wp2_with (go_at_call 76; refine HC.out.mono ?_; rintro e w' ⟨rfl, rfl⟩)
  go_ret
  exact ⟨rfl, rfl⟩
set_option maxHeartbeats 4000000 in
theorem impl_bitsOf (n : Bool) (xs : List Int) (v : Value) (w : World) (hv : Row w v xs) (la : xs.length ≤ 1048576) :
    Calls Tryz.prog 14 #[.agg #[.bool n, v]] w fun e w' => e = .returned (.int .i64 (bitsW n xs)) ∧ Old w w' := by
  have HV : Hid (Row w v xs) := hv
  obtain ⟨a0, cap0, rfl⟩ := hv.slice
  clear hv
  have HA : Hid (Old w (w.alloc (.cells #[.bool n, .slice a0 xs.length cap0] 27))) := (Old.refl w).alloc _
  have SA0 : Hid (StW (w.alloc (.cells #[.bool n, .slice a0 xs.length cap0] 27)) w.heap.size (.bool n) (.slice a0 xs.length cap0) 27) := StW.new w _ _ _
  by_cases hga : Good n xs
  · have cga := fun W (h : Row W (.slice a0 xs.length cap0) xs) => good_impl n xs _ W h la
    rw [decide_eq_true hga] at cga
    have hR : bitsW n xs = ((lenB (nat xs) : Nat) : Int) := by unfold bitsW; rw [if_pos hga]
    rw [hR]
    obtain ⟨ex, gx, lx⟩ := good_gw hga
    rcases Nat.eq_zero_or_pos xs.length with hx0 | hx0
    · have HE : Hid (((lenB (nat xs) : Nat) : Int) = 0) := by
        have h1 : (nat xs).length = 0 := by rw [nat_len]; exact hx0
        show ((lenB (nat xs) : Nat) : Int) = 0
        unfold lenB
        rw [if_pos h1]; rfl
      have hx0' : (xs.length : Int) = 0 := by omega
      have d0 : ((xs.length : Int) == 0) = true := by rw [hx0']; rfl
      clear hga ex gx lx hR hx0'
      obtain rfl := List.length_eq_zero_iff.1 hx0
      clear hx0
      go_enter Tryz.func14, Tryz.ntmps14
      go_wp2_with fail
      refine (cga _ (HV.out.old HA.out)).mono ?_
      rintro e w1 ⟨rfl, g1⟩
      have HG1 : Hid (Old w w1) := Old.trans HA.out g1
      clear g1
      go_wp2_with fail
      go_ret
      exact ⟨congrArg (fun z => Ending.returned (.int .i64 z)) HE.out.symm, HG1.out⟩
    · have HV2 : Hid (Row w (.slice a0 xs.length cap0) (toI (nat xs))) := by rw [ex]; exact HV.out
      obtain ⟨b, o, rfl, hb, hc⟩ := Row.at HV2.out (by rw [nat_len]; exact hx0)
      obtain ⟨k, hk⟩ : ∃ k, xs.length = k + 1 := ⟨xs.length - 1, by omega⟩
      have HL : Hid ((nat xs).length = k + 1) := by show (nat xs).length = k + 1; rw [nat_len]; exact hk
      have cl := hc k (by rw [HL.out]; omega)
      have l1 := gx.1.1.getD k
      have HE : Hid (((lenB (nat xs) : Nat) : Int) = (k : Int) * 28 + (Lib.bitLen ((nat xs).getD k 0) : Int)) := by
        show ((lenB (nat xs) : Nat) : Int) = _
        unfold lenB
        rw [if_neg (by rw [HL.out]; omega), HL.out, Nat.add_sub_cancel]
        omega
      have lb := bitLen_p ((nat xs).getD k 0) l1
      generalize (nat xs).getD k 0 = x at *
      have hx : x < 268435456 := l1
      have hb28 : Lib.bitLen x ≤ 28 := lb.1
      have CL := fun W => bits_Len_small x W hx
      clear hc lb l1 hga ex gx lx hR
      have hk40 : k ≤ 1048576 := by omega
      have d0 : ((xs.length : Int) == 0) = false := beq_eq_false_iff_ne.2 (by omega)
      have i1 : (xs.length : Int) - 1 = (k : Int) := by omega
      have i2 : (k : Int) < (xs.length : Int) := by omega
      have i3 : k < xs.length := by omega
      clear hk
      have HB : Hid (b < w.heap.size) := hb
      clear hx0 hb
      generalize Lib.bitLen x = l at *
      go_enter Tryz.func14, Tryz.ntmps14
      go_wp2_with fail
      refine (cga _ (HV.out.old HA.out)).mono ?_
      rintro e w1 ⟨rfl, g1⟩
      have HG1 : Hid (Old w w1) := Old.trans HA.out g1
      have S1 := SA0.out.old g1
      have s0 := S1.c0
      have s1 := S1.c1
      have c1 : w1.cell? ⟨b, o + k, none⟩ = some (.int .i64 (x : Int)) := (HG1.out.cell (p := ⟨b, o + k, none⟩) HB.out).trans cl
      clear g1 S1 cl
      go_wp2_with (go_at_call 39; refine (CL _).mono ?_; rintro e w' ⟨rfl, rfl⟩)
      go_ret
      exact ⟨congrArg (fun z => Ending.returned (.int .i64 z)) HE.out.symm, HG1.out⟩
  · have cga := fun W (h : Row W (.slice a0 xs.length cap0) xs) => good_impl n xs _ W h la
    rw [decide_eq_false hga] at cga
    have hR : bitsW n xs = 0 := by unfold bitsW; rw [if_neg hga]
    rw [hR]
    clear hga hR
    go_enter Tryz.func14, Tryz.ntmps14
    go_wp2_with fail
    refine (cga _ (HV.out.old HA.out)).mono ?_
    rintro e w1 ⟨rfl, g1⟩
    have HG1 : Hid (Old w w1) := Old.trans HA.out g1
    clear g1
    go_wp2_with fail
    go_ret
    exact ⟨rfl, HG1.out⟩
end Go.Proofs.YtfcdfielbpdloaaGreatDoor
