/- Proved: what the model answers: how many bits a whole number has. -/
import Derived.Test.YtdpcahphbjdhaaaExpA
import Derived.Test.YtdpcahphbjdhaaaLawB
import Derived.Lib.BitFns
namespace Go.Proofs.Ytdpcahphbjdhaaa
open Go.ChangeShapes Go.WideShapes Go.ChangeAt Go.RowKit
open M2
set_option linter.unusedVariables false
set_option linter.unusedSimpArgs false
theorem bitLen_lt : ∀ (k x : Nat), x < 2 ^ k → k ≤ 64 → Lib.bitLen x ≤ k ∧ x < 2 ^ Lib.bitLen x
  | 0, x, h, _ => by
    have : x = 0 := by simpa using h
    subst this; decide
  | k + 1, x, h, hk => by
    by_cases h0 : x = 0
    · subst h0; exact ⟨by have : Lib.bitLen 0 = 0 := by decide
                          omega, by decide⟩
    · have hp : 2 ^ (k + 1) ≤ 2 ^ 64 := Nat.pow_le_pow_right (by omega) hk
      rw [Lib.bitLen_half x h0 (by omega)]
      rw [Nat.pow_succ] at h
      obtain ⟨i1, i2⟩ := bitLen_lt k (x / 2) (by omega) (by omega)
      refine ⟨by omega, ?_⟩
      rw [Nat.pow_add]
      omega
theorem bitLen_p (p : Nat) (h : p < 268435456) : Lib.bitLen p ≤ 28 ∧ p < 2 ^ Lib.bitLen p := bitLen_lt 28 p (by omega) (by omega)
set_option maxHeartbeats 1000000 in
theorem spec_Bits (p : Nat) (w : World) (h : p ≤ 268435456) :
    Calls Try.prog 89 #[.int .i64 p] w fun e w' => e = .returned (.int .i64 (Lib.bitLen p)) ∧ w' = w := by
  obtain ⟨b1, b2⟩ := bitLen_lt 29 p (by omega) (by omega)
  clear b2
  generalize hL : Lib.bitLen p = L at *
  have H0 : Hid (0 + Lib.bitLen p = L) := by show _ = _; omega
  clear hL
  go_enter Try.func89, Try.ntmps89
  go_wp2_with fail
  go_loop [0, 3] (fun n k => ∃ n' k' : Nat, n' ≤ 268435456 ∧ k' ≤ L ∧ Hid (k' + Lib.bitLen n' = L) ∧ n = .int .i64 n' ∧ k = .int .i64 k') (fun n _ => (intOf n).toNat)
  case atStart => exact ⟨p, 0, h, by omega, H0, rfl, rfl⟩
  case round =>
    obtain ⟨n, k, hn, hk, H1, rfl, rfl⟩ := hrel
    clear H0
    by_cases hz : n = 0
    · subst hz
      have e0 : Lib.bitLen 0 = 0 := by decide
      have H2 : Hid (k = L) := by
        have := H1.out
        rw [e0] at this
        exact this
      clear e0
      go_wp2_with fail
      go_ret
      exact ⟨by rw [← H2.out]; rfl, rfl⟩
    · have H3 : Hid (k + 1 + Lib.bitLen (n / 2) = L) := by
        have := H1.out
        rw [Lib.bitLen_half n hz (by omega)] at this
        show _ = _
        omega
      have hk2 : k + 1 ≤ L := by have := H3.out; omega
      go_wp2_with fail
      exact ⟨⟨n / 2, k + 1, by omega, hk2, H3, by go_num, by go_num⟩, by simp [intOf]; omega⟩
/-- how many bits limbs have -/
def lenB (xs : List Nat) : Nat := if xs.length = 0 then 0 else 28 * (xs.length - 1) + Lib.bitLen (xs.getD (xs.length - 1) 0)
set_option maxHeartbeats 2000000 in
theorem length_any (xs : List Nat) (v : Value) (w : World) (hv : Row w v (toI xs)) (hx : Lim xs) (la : xs.length ≤ 1048576) :
    Calls Try.prog 69 #[v] w fun e w' => e = .returned (.int .i64 ((lenB xs : Nat) : Int)) ∧ w' = w := by
  have HV : Hid (Row w v (toI xs)) := hv
  obtain ⟨a0, cap0, rfl⟩ := hv.sliceN
  clear hv
  rcases Nat.eq_zero_or_pos xs.length with h0 | h0
  · have e : lenB xs = 0 := by unfold lenB; rw [if_pos h0]
    rw [e]
    have d0 : ((xs.length : Int) == 0) = true := by simp [h0]
    have d0 : xs = [] := List.length_eq_zero_iff.1 h0
    subst d0
    clear e h0
    go_enter Try.func69, Try.ntmps69
    go_wp2_with fail
    go_ret
    exact ⟨rfl, rfl⟩
  · obtain ⟨k, hk⟩ : ∃ k, xs.length = k + 1 := ⟨xs.length - 1, by omega⟩
    have e : lenB xs = 28 * k + Lib.bitLen (xs.getD k 0) := by unfold lenB; rw [if_neg (by omega), show xs.length - 1 = k by omega]
    obtain ⟨b, o, rfl, hb, hc⟩ := Row.at HV.out h0
    have c1 := hc k (by omega)
    have hxk := hx.getD k
    have cb := fun W => spec_Bits (xs.getD k 0) W (by unfold LB at hxk; omega)
    have hbl := (bitLen_p (xs.getD k 0) hxk).1
    obtain ⟨z, hz⟩ : ∃ z, lenB xs = z := ⟨_, rfl⟩
    rw [hz]
    have HZ : Hid (28 * k + Lib.bitLen (xs.getD k 0) = z) := by rw [← e, hz]; rfl
    rw [hk]
    have hk2 : k ≤ 1048576 := by omega
    clear hc e hz hxk HV
    generalize xs.getD k 0 = x at *
    generalize Lib.bitLen x = L at *
    have ez : 28 * (k : Int) + (L : Int) = (z : Int) := by have := HZ.out; omega
    clear h0 hk HZ
    go_enter Try.func69, Try.ntmps69
    go_wp2_with fail
    refine (cb _).mono ?_
    rintro e w' ⟨rfl, rfl⟩
    go_wp2_with fail
    go_ret
    exact ⟨rfl, rfl⟩
/-- what BitsOf answers -/
def bitsW (n : Bool) (xs : List Int) : Int := if Good n xs then ((lenB (nat xs) : Nat) : Int) else 0
set_option maxHeartbeats 2000000 in
theorem spec_bitsOf (n : Bool) (xs : List Int) (v : Value) (w : World) (hv : Row w v xs) (la : xs.length ≤ 1048576) :
    Calls Try.prog 35 #[.agg #[.bool n, v]] w fun e w' => e = .returned (.int .i64 (bitsW n xs)) ∧ Old w w' := by
  have HV : Hid (Row w v xs) := hv
  obtain ⟨c0, cap0, rfl⟩ := hv.slice
  clear hv
  have cga := fun W (h : Row W (.slice c0 xs.length cap0) xs) => good_any n xs _ W h la
  by_cases hga : Good n xs
  · rw [decide_eq_true hga] at cga
    have hR2 : bitsW n xs = ((lenB (nat xs) : Nat) : Int) := by unfold bitsW; rw [if_pos hga]
    rw [hR2]
    obtain ⟨ex, gx, lx⟩ := good_gw hga
    have HV2 : Hid (Row w (.slice c0 xs.length cap0) (toI (nat xs))) := by rw [ex]; exact HV.out
    have HGX : Hid (Gw n (nat xs) ∧ (nat xs).length ≤ 40) := ⟨gx, lx⟩
    clear hga ex gx lx hR2
    go_enter Try.func35, Try.ntmps35
    go_wp2_with fail
    refine (cga _ (HV.out.old ((Old.refl w).alloc _))).mono ?_
    rintro e w1 ⟨rfl, g1⟩
    have SA1 : Hid (St w1 w.heap.size (.bool n) (.slice c0 xs.length cap0) 25) := (St.new w _ _ _).old g1
    have HG1 : Hid (Old w w1) := Old.trans ((Old.refl w).alloc _) g1
    have a0 := SA1.out.c0
    have a1 := SA1.out.c1
    clear g1
    go_wp2_with fail
    refine (length_any (nat xs) _ _ (HV2.out.old HG1.out) HGX.out.1.1.1 (by have := HGX.out.2; omega)).mono ?_
    rintro e w' ⟨rfl, rfl⟩
    go_wp2_with fail
    go_ret
    exact ⟨rfl, HG1.out⟩
  · rw [decide_eq_false hga] at cga
    have hR2 : bitsW n xs = 0 := by unfold bitsW; rw [if_neg hga]
    rw [hR2]
    clear hga hR2
    go_enter Try.func35, Try.ntmps35
    go_wp2_with fail
    refine (cga _ (HV.out.old ((Old.refl w).alloc _))).mono ?_
    rintro e w1 ⟨rfl, g1⟩
    have HG1 : Hid (Old w w1) := Old.trans ((Old.refl w).alloc _) g1
    clear g1
    go_wp2_with fail
    go_ret
    exact ⟨rfl, HG1.out⟩
end Go.Proofs.Ytdpcahphbjdhaaa
