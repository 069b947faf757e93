/- Proved: contracts of the products and powers of the model for moduli of 64 bits. -/
import Derived.Test.YtglbegbhekcddaaDoorRows
import Derived.WalkKit
import Derived.ProofKit
import Derived.OpenShut
import Derived.Handy
import Derived.WalkSmall
import Derived.Test.YtglbegbhekcddaaDoorRw07
namespace Go.Proofs.YtglbegbhekcddaaDoor
open Go.ChangeShapes Go.WideShapes Go.ChangeAt Go.RowKit
open M1
theorem dbl_odd (r a b n : Nat) (h : b % 2 = 1) : ((r + a) % n + (a + a) % n * (b / 2)) % n = (r + a * b) % n := by
  have e : r + a * b = r + a + (a + a) * (b / 2) := by
    have : b = 2 * (b / 2) + 1 := by omega
    conv => lhs; rw [this]
    grind
  rw [e, Nat.add_mod, Nat.mod_mod, ml, ← Nat.add_mod]
theorem dbl_even (r a b n : Nat) (h : b % 2 = 0) : (r + (a + a) % n * (b / 2)) % n = (r + a * b) % n := by
  have e : r + a * b = r + (a + a) * (b / 2) := by
    have : b = 2 * (b / 2) := by omega
    conv => lhs; rw [this]
    grind
  rw [e, Nat.add_mod, ml, ← Nat.add_mod]
theorem add_mod_of (r a n : Nat) (hr : r < n) (ha : a < n) : (r + a) % n = if n - a ≤ r then r - (n - a) else r + a := by
  split
  · rw [Nat.mod_eq_sub_mod (by omega), Nat.mod_eq_of_lt (by omega)]; omega
  · rw [Nat.mod_eq_of_lt (by omega)]
theorem val_eq {k : IntKind} {a b : Int} (h : a = b) : Value.int k a = Value.int k b := by rw [h]
set_option maxHeartbeats 2000000 in
theorem spec_MulBig (a b n : Nat) (w : World) (ha : a < n) (hb : b < 18446744073709551616) (hn : n < 18446744073709551616) :
    Calls Tryd.prog 81 #[.int .u64 a, .int .u64 b, .int .u64 n] w fun e w' => e = .returned (.int .u64 ((a * b % n : Nat) : Int)) ∧ w' = w := by
  have H0 : Hid ((0 + a * b) % n = a * b % n) := by show _ = _; rw [Nat.zero_add]
  generalize a * b % n = R at *
  go_enter Tryd.func81, Tryd.ntmps81
  go_wp2_with fail
  go_loop [0, 1, 7] (fun a b r => ∃ a' b' r' : Nat, a' < n ∧ b' < 18446744073709551616 ∧ r' < n ∧ Hid ((r' + a' * b') % n = R) ∧ a = .int .u64 a' ∧ b = .int .u64 b' ∧ r = .int .u64 r') (fun _ b _ => (intOf b).toNat)
  case atStart => exact ⟨a, b, 0, ha, hb, by omega, H0, rfl, rfl, rfl⟩
  case round =>
    obtain ⟨a1, b1, r1, ha1, hb1, hr1, H1, rfl, rfl, rfl⟩ := hrel
    clear H0
    by_cases hz : b1 = 0
    · subst hz
      have H2 : Hid (r1 = R) := by
        have := H1.out
        rw [Nat.mul_zero, Nat.add_zero, Nat.mod_eq_of_lt hr1] at this
        exact this
      have hd : decide ((0 : Int) < ((0 : Nat) : Int)) = false := by simp
      go_wp2_with fail
      go_ret
      exact ⟨by rw [← H2.out]; rfl, rfl⟩
    · have hpos : decide (0 < (b1 : Int)) = true := by simp; omega
      have A2 := add_mod_of a1 a1 n ha1 ha1
      have A1 := add_mod_of r1 a1 n hr1 ha1
      have m2 : (a1 + a1) % n < n := Nat.mod_lt _ (by omega)
      have m1 : (r1 + a1) % n < n := Nat.mod_lt _ (by omega)
      have An := and_one_u64 (b1 : Int) (by omega) (by omega)
      by_cases hodd : b1 % 2 = 1
      · have H3 : Hid (((r1 + a1) % n + (a1 + a1) % n * (b1 / 2)) % n = R) := by show _ = _; rw [← H1.out]; exact dbl_odd r1 a1 b1 n hodd
        generalize (a1 + a1) % n = aa at *
        generalize (r1 + a1) % n = ra at *
        have hbit : (bits BinOp.and IntKind.u64 (b1 : Int) 1 == 1) = true := by rw [An]; simp; omega
        clear An
        by_cases c1 : n - a1 ≤ r1
        · rw [if_pos c1] at A1
          by_cases c2 : n - a1 ≤ a1
          · rw [if_pos c2] at A2
            have d1 : decide ((n : Int) - (a1 : Int) ≤ (r1 : Int)) = true := by simp; omega
            have d2 : decide ((n : Int) - (a1 : Int) ≤ (a1 : Int)) = true := by simp; omega
            have B1 : Hid (ra = r1 - (n - a1)) := A1
            have B2 : Hid (aa = a1 - (n - a1)) := A2
            clear A1 A2
            go_wp2_with fail
            exact ⟨⟨aa, b1 / 2, ra, m2, by omega, m1, H3, val_eq (by have := B2.out; omega), by go_num, val_eq (by have := B1.out; omega)⟩, by simp [intOf]; omega⟩
          · rw [if_neg c2] at A2
            have d1 : decide ((n : Int) - (a1 : Int) ≤ (r1 : Int)) = true := by simp; omega
            have d2 : decide ((n : Int) - (a1 : Int) ≤ (a1 : Int)) = false := by simp; omega
            have B1 : Hid (ra = r1 - (n - a1)) := A1
            have B2 : Hid (aa = a1 + a1) := A2
            clear A1 A2
            go_wp2_with fail
            exact ⟨⟨aa, b1 / 2, ra, m2, by omega, m1, H3, val_eq (by have := B2.out; omega), by go_num, val_eq (by have := B1.out; omega)⟩, by simp [intOf]; omega⟩
        · rw [if_neg c1] at A1
          by_cases c2 : n - a1 ≤ a1
          · rw [if_pos c2] at A2
            have d1 : decide ((n : Int) - (a1 : Int) ≤ (r1 : Int)) = false := by simp; omega
            have d2 : decide ((n : Int) - (a1 : Int) ≤ (a1 : Int)) = true := by simp; omega
            have B1 : Hid (ra = r1 + a1) := A1
            have B2 : Hid (aa = a1 - (n - a1)) := A2
            clear A1 A2
            go_wp2_with fail
            exact ⟨⟨aa, b1 / 2, ra, m2, by omega, m1, H3, val_eq (by have := B2.out; omega), by go_num, val_eq (by have := B1.out; omega)⟩, by simp [intOf]; omega⟩
          · rw [if_neg c2] at A2
            have d1 : decide ((n : Int) - (a1 : Int) ≤ (r1 : Int)) = false := by simp; omega
            have d2 : decide ((n : Int) - (a1 : Int) ≤ (a1 : Int)) = false := by simp; omega
            have B1 : Hid (ra = r1 + a1) := A1
            have B2 : Hid (aa = a1 + a1) := A2
            clear A1 A2
            go_wp2_with fail
            exact ⟨⟨aa, b1 / 2, ra, m2, by omega, m1, H3, val_eq (by have := B2.out; omega), by go_num, val_eq (by have := B1.out; omega)⟩, by simp [intOf]; omega⟩
      · have H3 : Hid ((r1 + (a1 + a1) % n * (b1 / 2)) % n = R) := by show _ = _; rw [← H1.out]; exact dbl_even r1 a1 b1 n (by omega)
        generalize (a1 + a1) % n = aa at *
        clear A1 m1
        have hbit : (bits BinOp.and IntKind.u64 (b1 : Int) 1 == 1) = false := by rw [An]; simp; omega
        clear An
        by_cases c2 : n - a1 ≤ a1
        · rw [if_pos c2] at A2
          have d2 : decide ((n : Int) - (a1 : Int) ≤ (a1 : Int)) = true := by simp; omega
          have B2 : Hid (aa = a1 - (n - a1)) := A2
          clear A2
          go_wp2_with fail
          exact ⟨⟨aa, b1 / 2, r1, m2, by omega, hr1, H3, val_eq (by have := B2.out; omega), by go_num, rfl⟩, by simp [intOf]; omega⟩
        · rw [if_neg c2] at A2
          have d2 : decide ((n : Int) - (a1 : Int) ≤ (a1 : Int)) = false := by simp; omega
          have B2 : Hid (aa = a1 + a1) := A2
          clear A2
          go_wp2_with fail
          exact ⟨⟨aa, b1 / 2, r1, m2, by omega, hr1, H3, val_eq (by have := B2.out; omega), by go_num, rfl⟩, by simp [intOf]; omega⟩
set_option maxHeartbeats 2000000 in
theorem spec_PowBig (a e n : Nat) (w : World) (ha : a < n) (hn2 : 2 ≤ n) (he : e < 18446744073709551616) (hn : n < 18446744073709551616) :
    Calls Tryd.prog 80 #[.int .u64 a, .int .u64 e, .int .u64 n] w fun en w' => en = .returned (.int .u64 (powM a e n : Nat)) ∧ w' = w := by
  have H0 : Hid (1 * a ^ e % n = powM a e n) := by show _ = _; rw [Nat.one_mul]; rfl
  generalize hR : powM a e n = R at *
  clear hR
  have one : Hid ((1 : Int) % (n : Int) = 1) := Int.emod_eq_of_lt (by omega) (by omega)
  go_enter Tryd.func80, Tryd.ntmps80
  go_wp2_with fail
  go_loopw [0, 1, 7] (fun a e r W => ∃ a' e' r' : Nat, a' < n ∧ e' < 18446744073709551616 ∧ r' < n ∧ Hid (r' * a' ^ e' % n = R) ∧ a = .int .u64 a' ∧ e = .int .u64 e' ∧ r = .int .u64 r' ∧ W = w) (fun _ e _ _ => (intOf e).toNat)
  case atStart => exact ⟨a, e, 1, ha, he, by omega, H0, rfl, rfl, val_eq one.out, rfl⟩
  case round =>
    obtain ⟨a1, e1, r1, ha1, he1, hr1, H1, rfl, rfl, rfl, rfl⟩ := hrel
    clear H0
    by_cases hz : e1 = 0
    · subst hz
      have H2 : Hid (r1 = R) := by
        have := H1.out
        rw [Nat.pow_zero, Nat.mul_one, Nat.mod_eq_of_lt hr1] at this
        exact this
      have hd : decide ((0 : Int) < ((0 : Nat) : Int)) = false := by simp
      go_wp2_with fail
      go_ret
      exact ⟨by rw [← H2.out]; rfl, rfl⟩
    · have csq := fun W => spec_MulBig a1 a1 n W ha1 (by omega) hn
      have cra := fun W => spec_MulBig r1 a1 n W hr1 (by omega) hn
      have hpos : decide (0 < (e1 : Int)) = true := by simp; omega
      have An := and_one_u64 (e1 : Int) (by omega) (by omega)
      have m1 : r1 * a1 % n < n := Nat.mod_lt _ (by omega)
      have m2 : a1 * a1 % n < n := Nat.mod_lt _ (by omega)
      generalize hg1 : r1 * a1 % n = ra at *
      generalize hg2 : a1 * a1 % n = aa at *
      by_cases ho : e1 % 2 = 1
      · have H3 : Hid (ra * aa ^ (e1 / 2) % n = R) := by show _ = _; rw [← H1.out, ← hg1, ← hg2]; exact step_odd r1 a1 e1 n ho
        clear hg1 hg2
        have hb : (bits BinOp.and IntKind.u64 (e1 : Int) 1 == 1) = true := by rw [An]; simp; omega
        clear ho An
        go_wp2_with fail
        refine (cra _).mono ?_
        rintro en w' ⟨rfl, rfl⟩
        go_wp2_with fail
        refine (csq _).mono ?_
        rintro en w' ⟨rfl, rfl⟩
        go_wp2_with fail
        go_roundw
        case rel => exact ⟨aa, e1 / 2, ra, m2, by omega, m1, H3, rfl, by go_num, rfl, True.intro⟩
        case measure => simp [intOf]; omega
      · have H3 : Hid (r1 * aa ^ (e1 / 2) % n = R) := by show _ = _; rw [← H1.out, ← hg2]; exact step_even r1 a1 e1 n (by omega)
        clear hg1 hg2
        have hb : (bits BinOp.and IntKind.u64 (e1 : Int) 1 == 1) = false := by rw [An]; simp; omega
        clear ho An
        go_wp2_with fail
        refine (csq _).mono ?_
        rintro en w' ⟨rfl, rfl⟩
        go_wp2_with fail
        go_roundw
        case rel => exact ⟨aa, e1 / 2, r1, m2, by omega, hr1, H3, rfl, by go_num, rfl, True.intro⟩
        case measure => simp [intOf]; omega
end Go.Proofs.YtglbegbhekcddaaDoor
