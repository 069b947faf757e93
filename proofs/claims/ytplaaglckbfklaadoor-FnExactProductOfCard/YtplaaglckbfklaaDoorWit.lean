/- Proved: contracts of the power, of the trailing zeros and of one witness of Miller and Rabin, under the table of the library and products modulo n. -/
import Derived.Test.YtplaaglckbfklaaDoorRows
import Derived.WalkKit
import Derived.ProofKit
import Derived.OpenShut
import Derived.Handy
import Derived.WalkSmall
import Derived.Lib.TrailingZeros
import Derived.Test.YtplaaglckbfklaaDoorBig
namespace Go.Proofs.YtplaaglckbfklaaDoor
open Go.ChangeShapes Go.WideShapes Go.ChangeAt Go.RowKit
open M1
set_option linter.unusedVariables false
/-- the multiplier of remainders at n gives products modulo n -/
def PR (n : Nat) : Prop := ∀ (x y : Nat) (W : World), x < n → y < n → Calls Tryd.prog 215 #[.int .u64 n, .int .u64 x, .int .u64 y] W fun e w' => e = .returned (.int .u64 ((x * y % n : Nat) : Int)) ∧ ∃ k, w' = W.drewN k
theorem PR_small (n : Nat) (h0 : 0 < n) (h : n ≤ 4294967296) : PR n := by
  intro x y W hx hy
  have h1 : x * y ≤ 4294967295 * 4294967295 := Nat.mul_le_mul (by omega) (by omega)
  exact product_small n x y h0 (by omega) (by omega) (by omega) (by omega) W
set_option maxHeartbeats 1000000 in
theorem impl_powerBy_of (p a e : Nat) (pr : PR p) (hp : 2 ≤ p) (ha : a < p) (he : e < 18446744073709551616) (w : World) :
    Calls Tryd.prog 214 #[.iface 182 (.int .u64 p), .int .u64 a, .int .u64 e] w fun en w' => en = .returned (.int .u64 (powM a e p : Nat)) ∧ ∃ n, w' = w.drewN n := by
  have H0 : Hid (1 * a ^ e % p = powM a e p) := by show _ = _; rw [Nat.one_mul]; rfl
  generalize hR : powM a e p = R at *
  clear hR
  have PH : Hid (PR p) := pr
  clear pr
  go_enter Tryd.func214, Tryd.ntmps214
  go_wp2_with fail
  go_loopw [1, 2, 7] (fun a e r W => ∃ a' e' r' n : Nat, a' < p ∧ e' < 18446744073709551616 ∧ r' < p ∧ Hid (r' * a' ^ e' % p = R) ∧ a = .int .u64 a' ∧ e = .int .u64 e' ∧ r = .int .u64 r' ∧ W = w.drewN n) (fun _ e _ _ => (intOf e).toNat)
  case atStart => exact ⟨a, e, 1, 0, ha, he, by omega, H0, rfl, rfl, rfl, rfl⟩
  case round =>
    obtain ⟨a1, e1, r1, n1, ha1, he1, hr1, H1, rfl, rfl, rfl, rfl⟩ := hrel
    clear H0
    by_cases hz : e1 = 0
    · subst hz
      have H2 : Hid (r1 = R) := by
        have := H1.out
        rw [Nat.pow_zero, Nat.mul_one, Nat.mod_eq_of_lt hr1] at this
        exact this
      go_wp2_with fail
      go_ret
      exact ⟨by rw [← H2.out]; rfl, n1, rfl⟩
    · have csq := fun W => PH.out a1 a1 W ha1 ha1
      have cra := fun W => PH.out r1 a1 W hr1 ha1
      have hpos : decide (0 < (e1 : Int)) = true := by simp; omega
      have m1 : r1 * a1 % p < p := Nat.mod_lt _ (by omega)
      have m2 : a1 * a1 % p < p := Nat.mod_lt _ (by omega)
      generalize hg1 : r1 * a1 % p = ra at *
      generalize hg2 : a1 * a1 % p = aa at *
      by_cases ho : e1 % 2 = 1
      · have H3 : Hid (ra * aa ^ (e1 / 2) % p = R) := by show _ = _; rw [← H1.out, ← hg1, ← hg2]; exact step_odd r1 a1 e1 p ho
        clear hg1 hg2
        have hb : ((e1 : Int) % 2 == 1) = true := by simp; omega
        clear ho
        go_wp2_with fail
        refine (cra _).mono ?_
        rintro en w' ⟨rfl, n2, rfl⟩
        go_wp2_with fail
        refine (csq _).mono ?_
        rintro en w' ⟨rfl, n3, rfl⟩
        go_wp2_with fail
        go_roundw
        case rel => exact ⟨aa, e1 / 2, ra, _, m2, by omega, m1, H3, rfl, by go_num, rfl, rfl⟩
        case measure => simp [intOf]; omega
      · have H3 : Hid (r1 * aa ^ (e1 / 2) % p = R) := by show _ = _; rw [← H1.out, ← hg2]; exact step_even r1 a1 e1 p (by omega)
        clear hg1 hg2
        have hb : ((e1 : Int) % 2 == 1) = false := by simp; omega
        clear ho
        go_wp2_with fail
        refine (csq _).mono ?_
        rintro en w' ⟨rfl, n3, rfl⟩
        go_wp2_with fail
        go_roundw
        case rel => exact ⟨aa, e1 / 2, r1, _, m2, by omega, hr1, H3, rfl, by go_num, rfl, rfl⟩
        case measure => simp [intOf]; omega
/-- the table of the library's function, as it is laid -/
def TabW (w : World) : Prop := ∀ j, j < 64 → w.cell? ⟨1, j, none⟩ = some (.int .u8 (Lib.deBruijn64tab.getD j 0))
theorem TabW.drewN {w : World} (h : TabW w) (n : Nat) : TabW (w.drewN n) := h
set_option maxHeartbeats 1000000 in
theorem tz_core (x k idx : Nat) (w : World) (hx0 : ((x : Int) == 0) = false)
    (key : IntKind.u64.wrap (bits BinOp.and IntKind.u64 (x : Int) (IntKind.u64.wrap (-(x : Int))) * 285870213051353865) / 288230376151711744 = (idx : Int))
    (hi : idx < 64) (hk : k < 64) (hcell : w.cell? ⟨1, idx, none⟩ = some (.int .u8 k)) :
    Calls Tryd.prog 197 #[.int .u64 x] w fun e w' => e = .returned (.int .i64 k) ∧ w' = w := by
  go_enter Tryd.func197, Tryd.ntmps197
  go_wp2_with (simp only [key])
  go_ret
  exact ⟨rfl, rfl⟩
theorem tz_key (x a : Nat) (hx : x < 18446744073709551616) (hx0 : x ≠ 0) (hlow : x &&& (18446744073709551616 - x) = a) :
    IntKind.u64.wrap (bits BinOp.and IntKind.u64 (x : Int) (IntKind.u64.wrap (-(x : Int))) * 285870213051353865) / 288230376151711744 = ((a * 285870213051353865 % 18446744073709551616 / 288230376151711744 : Nat) : Int) := by
  have e1 : IntKind.u64.wrap (-(x : Int)) = ((18446744073709551616 - x : Nat) : Int) := by rw [IntKind.wrap_u64]; omega
  rw [e1, bits_and_u64_nat x _ hx (by omega), hlow, IntKind.wrap_u64]
  omega
theorem bits_tz (x : Nat) (hx : x < 18446744073709551616) (hx0 : x ≠ 0) (w : World) (hT : TabW w) :
    Calls Tryd.prog 197 #[.int .u64 x] w fun e w' => e = .returned (.int .i64 (Lib.ctz 64 x)) ∧ w' = w := by
  obtain ⟨hlow, hk⟩ := Lib.lowest_bit 64 x hx0 hx
  obtain ⟨hi, htab⟩ := Lib.deBruijn64_at _ hk
  have hcell := hT _ hi
  rw [htab] at hcell
  exact tz_core x _ _ w (by simp; omega) (tz_key x _ hx hx0 hlow) hi hk hcell
/-- is one of the next k squares n - 1? -/
def sqs (n : Nat) : Nat → Nat → Bool
  | 0, _ => false
  | k + 1, x => x == n - 1 || sqs n k (x * x % n)
/-- does the witness leave it open that n is a prime? -/
def passB (n a : Nat) : Bool := powM a ((n - 1) / 2 ^ Lib.ctz 64 (n - 1)) n == 1 || sqs n (Lib.ctz 64 (n - 1)) (powM a ((n - 1) / 2 ^ Lib.ctz 64 (n - 1)) n)
set_option maxHeartbeats 2000000 in
theorem passes_core (n a s d x0 : Nat) (w : World) (hn : 3 ≤ n) (hn' : n < 18446744073709551616) (ha : a < n) (hs : s < 64) (hx0 : x0 < n) (hd : (n - 1) / 2 ^ s = d)
    (ct : ∀ W, Hid (TabW W) → Calls Tryd.prog 197 #[.int .u64 (n - 1 : Nat)] W fun e w' => e = .returned (.int .i64 s) ∧ w' = W) (hT : TabW w)
    (cp : ∀ W, Calls Tryd.prog 214 #[.iface 182 (.int .u64 n), .int .u64 a, .int .u64 d] W fun en w' => en = .returned (.int .u64 x0) ∧ ∃ k, w' = W.drewN k) (pr : PR n) :
    Calls Tryd.prog 200 #[.int .u64 n, .int .u64 a] w fun e w' => e = .returned (.bool (x0 == 1 || sqs n s x0)) ∧ ∃ k, w' = w.drewN k := by
  have PH : Hid (PR n) := pr
  have HT : Hid (TabW w) := hT
  clear pr hT
  have e1 : ((n - 1 : Nat) : Int) = (n : Int) - 1 := by omega
  rw [e1] at ct
  have HD : Hid (((n : Int) - 1) / 2 ^ s = (d : Int)) := by show _ = _; rw [← hd, ← e1]; simp
  clear hd e1
  by_cases h1 : x0 = 1
  · subst h1
    have HB : Hid ((1 == 1 || sqs n s 1) = true) := by show _ = _; simp
    generalize (1 == 1 || sqs n s 1) = B at *
    go_enter Tryd.func200, Tryd.ntmps200
    go_wp2_with fail
    refine (ct _ HT).mono ?_
    rintro e w' ⟨rfl, rfl⟩
    go_wp2_with fail
    rw [HD.out]
    refine (cp _).mono ?_
    rintro e w' ⟨rfl, k0, rfl⟩
    go_wp2_with fail
    go_ret
    exact ⟨by rw [HB.out]; rfl, k0, rfl⟩
  · have hb1 : ((x0 : Int) == 1) = false := by simp; omega
    have HB : Hid ((x0 == 1 || sqs n s x0) = sqs n s x0) := by show _ = _; simp [h1]
    generalize (x0 == 1 || sqs n s x0) = B at *
    have H0 : Hid (sqs n (s - 0) x0 = B) := by show _ = _; rw [HB.out]; rfl
    clear HB
    go_enter Tryd.func200, Tryd.ntmps200
    go_wp2_with fail
    refine (ct _ HT).mono ?_
    rintro e w' ⟨rfl, rfl⟩
    go_wp2_with fail
    rw [HD.out]
    refine (cp _).mono ?_
    rintro e w2 ⟨rfl, k0, rfl⟩
    go_wp2_with fail
    go_loopw [7, 24] (fun x k W => ∃ x' k' m : Nat, x' < n ∧ k' ≤ s ∧ Hid (sqs n (s - k') x' = B) ∧ x = .int .u64 x' ∧ k = .int .i64 k' ∧ W = w'.drewN m) (fun _ k _ => s - (intOf k).toNat)
    case atStart => exact ⟨x0, 0, k0, hx0, by omega, H0, rfl, rfl, rfl⟩
    case round =>
      obtain ⟨x, k, m, hx, hk, H1, rfl, rfl, rfl⟩ := hrel
      clear H0 cp ct
      by_cases hlt : k < s
      · have hdk : decide ((k : Int) < (s : Int)) = true := by simp; omega
        have hstep : sqs n (s - k) x = (x == n - 1 || sqs n (s - (k + 1)) (x * x % n)) := by
          rw [show s - k = (s - (k + 1)) + 1 by omega]; rfl
        have H1' := H1.out
        rw [hstep] at H1'
        by_cases he : x = n - 1
        · have HB : Hid (true = B) := by show _ = _; rw [← H1']; simp [he]
          clear H1' hstep H1
          have hbe : ((x : Int) == (n : Int) - 1) = true := by simp; omega
          go_wp2_with fail
          go_ret
          exact ⟨by rw [← HB.out]; rfl, m, rfl⟩
        · have hne : (x == n - 1) = false := by simpa using he
          rw [hne, Bool.false_or] at H1'
          have cs := fun W => PH.out x x W hx hx
          have mx : x * x % n < n := Nat.mod_lt _ (by omega)
          generalize x * x % n = xx at *
          have H2 : Hid (sqs n (s - (k + 1)) xx = B) := H1'
          clear H1' hstep hne H1
          have hbe : ((x : Int) == (n : Int) - 1) = false := by simp; omega
          go_wp2_with fail
          refine (cs _).mono ?_
          rintro e w3 ⟨rfl, k3, rfl⟩
          go_wp2_with fail
          go_roundw
          case rel => exact ⟨xx, k + 1, _, mx, by omega, H2, rfl, by go_num, rfl⟩
          case measure => simp [intOf]; omega
      · have hdk : decide ((k : Int) < (s : Int)) = false := by simp; omega
        obtain rfl : k = s := by omega
        have HB : Hid (false = B) := by
          have := H1.out
          rw [Nat.sub_self] at this
          exact this
        clear H1
        go_wp2_with fail
        go_ret
        exact ⟨by rw [← HB.out]; rfl, m, rfl⟩
theorem passes_any (n a : Nat) (w : World) (pr : PR n) (hT : TabW w) (hn : 3 ≤ n) (hn' : n < 18446744073709551616) (ha : a < n) :
    Calls Tryd.prog 200 #[.int .u64 n, .int .u64 a] w fun e w' => e = .returned (.bool (passB n a)) ∧ ∃ k, w' = w.drewN k := by
  have hk := (Lib.lowest_bit 64 (n - 1) (by omega) (by omega)).2
  have hle : (n - 1) / 2 ^ Lib.ctz 64 (n - 1) ≤ n - 1 := Nat.div_le_self _ _
  exact passes_core n a _ _ _ w hn hn' ha hk (powM_lt _ _ _ (by omega)) rfl (fun W h => bits_tz (n - 1) (by omega) (by omega) W h.out) hT (fun W => impl_powerBy_of n a _ pr (by omega) ha (by omega) W) pr
end Go.Proofs.YtplaaglckbfklaaDoor
