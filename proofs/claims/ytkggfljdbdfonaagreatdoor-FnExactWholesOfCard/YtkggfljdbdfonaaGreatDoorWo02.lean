/- Proved: several texts in one: what each proves is said ahead of it. -/
import Derived.Test.YtkggfljdbdfonaaGreatDoorRows
import Derived.WalkKit
import Derived.ProofKit
import Derived.OpenShut
import Derived.Handy
import Derived.WalkSmall
import Derived.WalkLawsBesides
import Derived.Test.YtkggfljdbdfonaaGreatDoorBoth
import Derived.Test.YtkggfljdbdfonaaGreatDoorWo00
/- Proved: a number whose smaller ones all are roots of 1 has no power that is 0, and two ways of finding the least of some powers agree; no program in sight. -/
namespace Go.Proofs.YtkggfljdbdfonaaGreatDoor.M1
/-- (A - 1) to the m-th power, modulo the square of A -/
theorem pow_pred (A : Int) : ∀ m : Nat, ∃ k : Int, (A - 1) ^ (2 * m) = 1 - 2 * m * A + k * (A * A)
  | 0 => ⟨0, by simp⟩
  | m + 1 => by
    obtain ⟨k, hk⟩ := pow_pred A m
    refine ⟨k * ((A - 1) * (A - 1)) + (1 - 2 * m * (A - 2)), ?_⟩
    have e : (A - 1) ^ (2 * (m + 1)) = (A - 1) ^ (2 * m) * ((A - 1) * (A - 1)) := by
      rw [show 2 * (m + 1) = 2 * m + 1 + 1 by omega, Int.pow_succ, Int.pow_succ, Int.mul_assoc]
    rw [e, hk]
    push_cast
    grind
theorem gcd_pow_dvd (A p : Nat) (hd : Nat.gcd p (A * A) ∣ A) : ∀ k : Nat, Nat.gcd p (A ^ k) ∣ A
  | 0 => by simp
  | k + 1 => by
    have ih := gcd_pow_dvd A p hd k
    have h1 : Nat.gcd p (A ^ (k + 1)) ∣ A * A := by
      rw [Nat.pow_succ]
      exact Nat.dvd_trans (Nat.gcd_mul_right_dvd_mul_gcd p (A ^ k) A) (Nat.mul_dvd_mul ih (Nat.gcd_dvd_right p A))
    exact Nat.dvd_trans (Nat.dvd_gcd (Nat.gcd_dvd_left _ _) h1) hd
theorem no_zero (A p m e : Nat) (hp : p = 2 * m + 1) (hA : 2 ≤ A) (hAp : A < p) (h1 : (A - 1) ^ m % p = 1) (h0 : A ^ e % p = 0) : False := by
  have hd : Nat.gcd p (A * A) ∣ A := by
    refine Int.natCast_dvd_natCast.1 ?_
    have dp : ((Nat.gcd p (A * A) : Nat) : Int) ∣ (p : Int) := Int.natCast_dvd_natCast.2 (Nat.gcd_dvd_left _ _)
    have da : ((Nat.gcd p (A * A) : Nat) : Int) ∣ (A : Int) * (A : Int) := by
      have := Int.natCast_dvd_natCast.2 (Nat.gcd_dvd_right p (A * A))
      simpa using this
    generalize ((Nat.gcd p (A * A) : Nat) : Int) = d at *
    obtain ⟨k, hk⟩ := pow_pred (A : Int) m
    have hpow : (p : Int) ∣ ((A : Int) - 1) ^ (2 * m) - 1 := by
      have e1 : ((A : Int) - 1) ^ (2 * m) = ((((A - 1) ^ m) * ((A - 1) ^ m) : Nat) : Int) := by
        rw [show 2 * m = m + m by omega, Int.pow_add]
        have : ((A : Int) - 1) = ((A - 1 : Nat) : Int) := by omega
        rw [this]
        simp
      rw [e1]
      have e2 := Nat.div_add_mod ((A - 1) ^ m) p
      rw [h1] at e2
      generalize (A - 1) ^ m / p = q at *
      rw [← e2]
      refine ⟨(q : Int) * (p * q + 2), ?_⟩
      push_cast
      grind
    have h2 : d ∣ ((A : Int) - 1) ^ (2 * m) - 1 := Int.dvd_trans dp hpow
    rw [hk] at h2
    obtain ⟨a, ha⟩ := da
    obtain ⟨b, hb⟩ := dp
    obtain ⟨c, hc⟩ := h2
    refine ⟨b * A + c - k * a, ?_⟩
    have hpm : (p : Int) = 2 * m + 1 := by omega
    have e1 : (A : Int) = p * A - 2 * m * A := by rw [hpm]; grind
    have e2 : 2 * m * (A : Int) = k * ((A : Int) * A) - d * c := by omega
    have e3 : d * (b * A + c - k * a) = d * b * A + d * c - k * (d * a) := by grind
    rw [e3, ← hb, ← ha, ← Int.sub_eq_zero]
    grind
  have hg := gcd_pow_dvd A p hd e
  have hpd : p ∣ A ^ e := Nat.dvd_of_mod_eq_zero h0
  rw [Nat.gcd_eq_left hpd] at hg
  have := Nat.le_of_dvd (by omega) hg
  omega
/-- the least of some powers, a step a square -/
def lr (p sq : Nat) : Nat → Nat → Nat → Nat
  | 0, _, b => b
  | k + 1, x, b => lr p sq k (x * sq % p) (min b (x * sq % p))
/-- what is told of j rounds to come: the comparison first, then the step -/
def lrS (p sq : Nat) : Nat → Nat → Nat → Nat
  | 0, _, b => b
  | j + 1, x, b => lrS p sq j (x * sq % p) (min b x)
theorem lrS_lr (p sq : Nat) : ∀ (j x b : Nat), lrS p sq (j + 1) x b = lr p sq j x (min b x)
  | 0, x, b => rfl
  | j + 1, x, b => by
    show lrS p sq (j + 1) (x * sq % p) (min b x) = lr p sq j (x * sq % p) (min (min b x) (x * sq % p))
    exact lrS_lr p sq j _ _
end Go.Proofs.YtkggfljdbdfonaaGreatDoor.M1
/- Proved: contracts of the search for a root and of the least root, of the program and of the model: both tell the least of the odd powers of one root. -/
namespace Go.Proofs.YtkggfljdbdfonaaGreatDoor
open Go.ChangeShapes Go.WideShapes Go.ChangeAt Go.RowKit
open M1
set_option linter.unusedVariables false
theorem powM_mod (a e p : Nat) : powM (a % p) e p = a ^ e % p := by unfold powM; rw [← Nat.pow_mod]
theorem powM_two (a e h p : Nat) (hp : 0 < p) : powM (powM (a % p) e p % p) h p = powM (a % p) (e * h) p := by
  rw [powM_mod, powM_mod, powM_mod, ← Nat.pow_mod, Nat.pow_mul]
/-- the first a from 2 on whose power is not 1 -/
theorem first_ex (p m : Nat) (hp : 2 ≤ p) (hm : 1 ≤ m) : ∃ A, 2 ≤ A ∧ A ≤ p ∧ (∀ b, 2 ≤ b → b < A → powM (b % p) m p = 1) ∧ powM (A % p) m p ≠ 1 := by
  have key : ∀ k, (∃ A, 2 ≤ A ∧ A ≤ p ∧ (∀ b, 2 ≤ b → b < A → powM (b % p) m p = 1) ∧ powM (A % p) m p ≠ 1) ∨ (∀ b, 2 ≤ b → b < 2 + k → b ≤ p → powM (b % p) m p = 1) := by
    intro k
    induction k with
    | zero => right; intro b h1 h2; omega
    | succ k ih =>
      rcases ih with h | h
      · exact Or.inl h
      · by_cases hk : 2 + k ≤ p
        · by_cases h1 : powM ((2 + k) % p) m p = 1
          · right
            intro b hb1 hb2 hb3
            by_cases e : b = 2 + k
            · rw [e]; exact h1
            · exact h b hb1 (by omega) hb3
          · left
            exact ⟨2 + k, by omega, hk, fun b hb1 hb2 => h b hb1 hb2 (by omega), h1⟩
        · right
          intro b hb1 hb2 hb3
          exact h b hb1 (by omega) hb3
  rcases key p with h | h
  · exact h
  · exfalso
    have := h p hp (by omega) (Nat.le_refl p)
    rw [powM_mod] at this
    have e : p ^ m % p = 0 := Nat.mod_eq_zero_of_dvd (Nat.dvd_trans (by rw [Nat.pow_one]; exact Nat.dvd_refl p : p ∣ p ^ 1) (Nat.pow_dvd_pow p hm))
    omega
set_option maxHeartbeats 1000000 in
theorem impl_someRoot (p n m e A : Nat) (w : World) (hp3 : 3 ≤ p) (hp : p ≤ 268435456) (hm : (p - 1) / 2 = m) (he : (p - 1) / n = e) (hn : 1 ≤ n) (hn' : n ≤ 64) (hA2 : 2 ≤ A) (hAp : A ≤ p)
    (hmin : ∀ b, 2 ≤ b → b < A → powM (b % p) m p = 1) (hA : powM (A % p) m p ≠ 1) :
    Calls Tryz.prog 202 #[.int .i64 p, .int .i64 n] w fun en w' => en = .returned (.int .i64 (powM (A % p) e p)) ∧ ∃ k, w' = w.drewN k := by
  have HM : Hid (∀ b, 2 ≤ b → b < A → powM (b % p) m p = 1) := hmin
  clear hmin
  have hmb : m ≤ p := by omega
  have heb : e ≤ p := by have := Nat.div_le_self (p - 1) n; omega
  have c : ∀ (a x : Nat) (W : World), a ≤ p → x ≤ p → Calls Tryz.prog 211 #[.int .i64 a, .int .i64 x, .int .i64 p] W fun en w' => en = .returned (.int .i64 (powM (a % p) x p : Nat)) ∧ ∃ k, w' = W.drewN k := by
    intro a x W ha hx
    have h := impl_PowMod_yes (a : Int) (x : Int) (p : Int) W ⟨by omega, by omega⟩ ⟨by omega, by omega⟩ (by simp [powB]; omega)
    rw [← Int.natCast_emod, Int.toNat_natCast, Int.toNat_natCast, Int.toNat_natCast] at h
    exact h
  have r1 : ((p : Int) - 1) / 2 = (m : Int) := by omega
  have r2 : ((p : Int) - 1) / (n : Int) = (e : Int) := by
    rw [← he]
    have : ((p - 1 : Nat) : Int) = (p : Int) - 1 := by omega
    rw [← this]
    simp
  clear hm he
  have hnn : ¬ n = 0 := by omega
  have cA := fun W => c A m W (by omega) hmb
  have cE := fun W => c A e W (by omega) heb
  have HA : ((powM (A % p) m p : Int) == 1) = false := by simp; omega
  generalize powM (A % p) m p = x1 at *
  generalize powM (A % p) e p = x2 at *
  have cH : Hid (∀ (a x : Nat) (W : World), a ≤ p → x ≤ p → Calls Tryz.prog 211 #[.int .i64 a, .int .i64 x, .int .i64 p] W fun en w' => en = .returned (.int .i64 (powM (a % p) x p : Nat)) ∧ ∃ k, w' = W.drewN k) := c
  clear c hA
  go_enter Tryz.func202, Tryz.ntmps202
  go_wp2_with fail
  go_loopw [5] (fun a W => ∃ a' k : Nat, 2 ≤ a' ∧ a' ≤ A ∧ a = .int .i64 a' ∧ W = w.drewN k) (fun a _ => A - (intOf a).toNat)
  case atStart => exact ⟨2, 0, by omega, hA2, rfl, rfl⟩
  case round =>
    obtain ⟨a, k, ha2, haA, rfl, rfl⟩ := hrel
    by_cases hlt : a < A
    · have c1 := fun W => cH.out a m W (by omega) hmb
      rw [HM.out a ha2 hlt] at c1
      clear cA cE
      go_wp2_with fail
      refine (c1 _).mono ?_
      rintro en w1 ⟨rfl, k1, rfl⟩
      go_wp2_with fail
      go_roundw
      case rel => exact ⟨a + 1, _, by omega, by omega, by go_num, rfl⟩
      case measure => simp [intOf]; omega
    · obtain rfl : a = A := by omega
      go_wp2_with fail
      refine (cA _).mono ?_
      rintro en w1 ⟨rfl, k1, rfl⟩
      go_wp2_with fail
      refine (cE _).mono ?_
      rintro en w1 ⟨rfl, k2, rfl⟩
      go_wp2_with fail
      go_ret
      exact ⟨rfl, _, rfl⟩
theorem prod_bd (p x y : Nat) (hp : p ≤ 268435456) (hx : x < p) (hy : y < p) : (x : Int) * (y : Int) = ((x * y : Nat) : Int) ∧ x * y ≤ 72057594037927936 := by
  refine ⟨by simp, ?_⟩
  have := Nat.mul_le_mul (show x ≤ 268435456 by omega) (show y ≤ 268435456 by omega)
  omega
set_option maxHeartbeats 1000000 in
theorem impl_leastRoot (r p n : Nat) (w : World) (hp2 : 2 ≤ p) (hp : p ≤ 268435456) (hr : r < p) (hn : 2 ≤ n) (hn' : n ≤ 64) :
    Calls Tryz.prog 201 #[.int .i64 r, .int .i64 p, .int .i64 n] w fun en w' => en = .returned (.int .i64 (lr p (r * r % p) (n / 2 - 1) r r)) ∧ w' = w := by
  obtain ⟨s1, s2⟩ := prod_bd p r r hp hr hr
  have hsq : r * r % p < p := Nat.mod_lt _ (by omega)
  have z1 : 0 ≤ (r : Int) * (r : Int) := by omega
  have z2 : (r : Int) * (r : Int) ≤ 72057594037927936 := by omega
  have q1 : (r : Int) * (r : Int) % (p : Int) = ((r * r % p : Nat) : Int) := by rw [s1]; simp
  clear s1 s2
  generalize r * r % p = sq at *
  obtain ⟨R, hR⟩ : ∃ R, lr p sq (n / 2 - 1) r r = R := ⟨_, rfl⟩
  rw [hR]
  have H0 : Hid (lr p sq (n / 2 - 1 - 0) r r = R) := hR
  clear hR
  have hpn : ¬ p = 0 := by omega
  go_enter Tryz.func201, Tryz.ntmps201
  go_wp2_with fail
  rw [q1]
  go_loop [0, 8, 18] (fun x b i => ∃ x' b' i' : Nat, x' < p ∧ b' < p ∧ i' ≤ n / 2 - 1 ∧ Hid (lr p sq (n / 2 - 1 - i') x' b' = R) ∧ x = .int .i64 x' ∧ b = .int .i64 b' ∧ i = .int .i64 i') (fun _ _ i => n / 2 - 1 - (intOf i).toNat)
  case atStart => exact ⟨r, r, 0, hr, hr, by omega, H0, rfl, rfl, rfl⟩
  case round =>
    obtain ⟨x, b, i, hx, hb, hi, H1, rfl, rfl, rfl⟩ := hrel
    clear H0 z1 z2 q1
    by_cases hlt : i < n / 2 - 1
    · have hd : decide ((i : Int) < (n : Int) / 2 - 1) = true := by simp; omega
      obtain ⟨t1, t2⟩ := prod_bd p x sq hp hx hsq
      have y1 : 0 ≤ (x : Int) * (sq : Int) := by omega
      have y2 : (x : Int) * (sq : Int) ≤ 72057594037927936 := by omega
      have q2 : (x : Int) * (sq : Int) % (p : Int) = ((x * sq % p : Nat) : Int) := by rw [t1]; simp
      have hxs : x * sq % p < p := Nat.mod_lt _ (by omega)
      have H2 : Hid (lr p sq (n / 2 - 1 - (i + 1)) (x * sq % p) (min b (x * sq % p)) = R) := by
        have := H1.out
        rw [show n / 2 - 1 - i = (n / 2 - 1 - (i + 1)) + 1 by omega] at this
        exact this
      clear t1 t2 H1
      generalize x * sq % p = xs at *
      have hmin : min b xs < p := by omega
      go_wp2_with fail
      exact ⟨⟨xs, min b xs, i + 1, hxs, hmin, by omega, H2, val_eq q2, val_eq (by omega), by go_num⟩, by simp [intOf]; omega⟩
    · have hd : decide ((i : Int) < (n : Int) / 2 - 1) = false := by simp; omega
      obtain rfl : i = n / 2 - 1 := by omega
      have HB : Hid (b = R) := by
        have := H1.out
        rw [Nat.sub_self] at this
        exact this
      clear H1
      go_wp2_with fail
      go_ret
      exact ⟨by rw [← HB.out]; rfl, rfl⟩
set_option maxHeartbeats 2000000 in
theorem spec_leastRoot (p n m e h A : Nat) (w : World) (hp3 : 3 ≤ p) (hp : p ≤ 268435456) (hpm : p = 2 * m + 1) (hn : n = 2 * h) (hh : 1 ≤ h) (hn' : n ≤ 64) (he : (p - 1) / n = e) (hem : e * h = m) (hA2 : 2 ≤ A) (hAp : A ≤ p)
    (hmin : ∀ b, 2 ≤ b → b < A → powM (b % p) m p = 1) (hA : powM (A % p) m p ≠ 1) :
    Calls Tryz.prog 172 #[.int .i64 p, .int .i64 n] w fun en w' => en = .returned (.int .i64 (lr p (powM (A % p) e p * powM (A % p) e p % p) (n / 2 - 1) (powM (A % p) e p) (powM (A % p) e p))) ∧ w' = w := by
  have hr := powM_lt (A % p) e p (by omega)
  have hz : powM (A % p) e p = 0 → A = p := by
    intro h0
    rcases Nat.lt_or_ge A p with hlt | hge
    · exfalso
      rw [powM_mod] at h0
      refine no_zero A p m e hpm hA2 hlt ?_ h0
      by_cases h3 : A = 2
      · rw [h3, show 2 - 1 = 1 from rfl, Nat.one_pow]; exact Nat.mod_eq_of_lt (by omega)
      · have := hmin (A - 1) (by omega) (by omega)
        rw [powM_mod] at this
        exact this
    · omega
  have heb : e ≤ p := by have := Nat.div_le_self (p - 1) n; omega
  have cl : ∀ (a x : Nat) (W : World), a ≤ p → x ≤ p → Calls Tryz.prog 144 #[.int .i64 a, .int .i64 x, .int .i64 p] W fun en w' => en = .returned (.int .i64 (powM (a % p) x p : Nat)) ∧ w' = W := by
    intro a x W ha hx
    have h := spec_pow (a : Int) (x : Int) (p : Int) W ⟨by omega, by omega⟩ ⟨by omega, by omega⟩ ⟨by omega, by omega⟩
    rw [← Int.natCast_emod, Int.toNat_natCast, Int.toNat_natCast, Int.toNat_natCast] at h
    exact h
  have hcomp : ∀ g : Nat, powM (powM (g % p) e p % p) h p = powM (g % p) m p := by
    intro g; rw [powM_two g e h p (by omega), hem]
  have r2 : ((p : Int) - 1) / (n : Int) = (e : Int) := by
    rw [← he]
    have : ((p - 1 : Nat) : Int) = (p : Int) - 1 := by omega
    rw [← this]
    simp
  have r3 : (n : Int) / 2 = (h : Int) := by omega
  have hnn : ¬ n = 0 := by omega
  have HL : Hid (∀ (a x : Nat) (W : World), a ≤ p → x ≤ p → Calls Tryz.prog 144 #[.int .i64 a, .int .i64 x, .int .i64 p] W fun en w' => en = .returned (.int .i64 (powM (a % p) x p : Nat)) ∧ w' = W) := cl
  have HC : Hid (∀ g : Nat, powM (powM (g % p) e p % p) h p = powM (g % p) m p) := hcomp
  have HM : Hid (∀ b, 2 ≤ b → b < A → powM (b % p) m p = 1) := hmin
  have HA : Hid (powM (A % p) m p ≠ 1) := hA
  have HE : Hid (powM (A % p) e p = powM (A % p) e p) := rfl
  clear cl hcomp hmin hA
  have hhb : h ≤ p ∨ p < h := by omega
  obtain ⟨r, hrr⟩ : ∃ r, powM (A % p) e p = r := ⟨_, rfl⟩
  rw [hrr] at hr hz
  rw [hrr]
  have HRR : Hid (powM (A % p) e p = r) := hrr
  clear hrr HE
  have hpn : ¬ p = 0 := by omega
  have hhp : h ≤ p := by
    have h1 : e * n ≤ p - 1 := by rw [← he]; exact Nat.div_mul_le_self _ _
    have h2 : 1 ≤ e := by
      rcases Nat.eq_zero_or_pos e with h0 | h0
      · exfalso; rw [h0] at hem; omega
      · exact h0
    have h3 : 1 * n ≤ e * n := Nat.mul_le_mul_right _ h2
    omega
  have hn1 : n ≤ 2 * h := by omega
  have hn2 : 2 * h ≤ n := by omega
  obtain ⟨sq, hsq⟩ : ∃ sq, r * r % p = sq := ⟨_, rfl⟩
  rw [hsq]
  have HSQ : Hid (sq = r * r % p) := hsq.symm
  obtain ⟨R, hR⟩ : ∃ R, lr p sq (n / 2 - 1) r r = R := ⟨_, rfl⟩
  rw [hR]
  have HR0 : Hid (lrS p sq (h - 0) r r = R) := by
    show _ = _
    rw [Nat.sub_zero, show h = (h - 1) + 1 by omega, lrS_lr, Nat.min_self, ← hR, show n / 2 - 1 = h - 1 by omega]
  clear hem he hn hpm hhb hsq hR
  go_enter Tryz.func172, Tryz.ntmps172
  go_wp2_with fail
  go_loopw [5, 6] (fun o g W => ∃ o' g' : Nat, 2 ≤ g' ∧ ((g' ≤ A ∧ o' = 0) ∨ (g' = A + 1 ∧ r = o')) ∧ o = .int .i64 o' ∧ g = .int .i64 g' ∧ W = w) (fun _ g _ => A + 1 - (intOf g).toNat)
  case atStart => exact ⟨0, 2, by omega, Or.inl ⟨hA2, rfl⟩, rfl, rfl, rfl⟩
  case round =>
    obtain ⟨o, g, hg2, hph, rfl, rfl, rfl⟩ := hrel
    rcases hph with ⟨hgA, rfl⟩ | ⟨rfl, rfl⟩
    · have hd : decide ((g : Int) ≤ (p : Int)) = true := by simp; omega
      have c1 := fun W => HL.out g e W (by omega) heb
      have hx := powM_lt (g % p) e p (by omega)
      have c2 := fun W => HL.out (powM (g % p) e p) h W (by omega) hhp
      have hcg := HC.out g
      rw [hcg] at c2
      by_cases hlt : g < A
      · rw [HM.out g hg2 hlt] at c2
        generalize powM (g % p) e p = x at *
        clear hcg
        go_wp2_with fail
        refine (c1 _).mono ?_
        rintro en w1 ⟨rfl, rfl⟩
        go_wp2_with fail
        refine (c2 _).mono ?_
        rintro en w1 ⟨rfl, rfl⟩
        go_wp2_with fail
        go_roundw
        case rel => exact ⟨0, g + 1, by omega, Or.inl ⟨by omega, rfl⟩, rfl, by go_num, True.intro⟩
        case measure => simp [intOf]; omega
      · obtain rfl : g = A := by omega
        have hne : ((powM (g % p) m p : Int) != 1) = true := by have := HA.out; simp; omega
        rw [HRR.out] at c1 c2
        generalize powM (g % p) m p = y at *
        clear hcg hx
        go_wp2_with fail
        refine (c1 _).mono ?_
        rintro en w1 ⟨rfl, rfl⟩
        go_wp2_with fail
        refine (c2 _).mono ?_
        rintro en w1 ⟨rfl, rfl⟩
        go_wp2_with fail
        go_roundw
        case rel => exact ⟨r, g + 1, by omega, Or.inr ⟨rfl, rfl⟩, rfl, by go_num, True.intro⟩
        case measure => simp [intOf]
    · by_cases hAlt : A < p
      · have hd : decide (((A + 1 : Nat) : Int) ≤ (p : Int)) = true := by simp; omega
        have hrne : ¬ r = 0 := fun h0 => by have := hz h0; omega
        have hr0 : ((r : Int) == 0) = false := by simp; omega
        clear hz
        go_wp2_with fail
        go_loop [8, 9, 10] (fun b x k => ∃ b' x' i' : Nat, b' < p ∧ x' < p ∧ i' ≤ h ∧ Hid (lrS p sq (h - i') x' b' = R) ∧ b = .int .i64 b' ∧ x = .int .i64 x' ∧ k = .int .i64 (1 + 2 * i' : Nat)) (fun _ _ k => 200 - (intOf k).toNat)
        case atStart => exact ⟨r, r, 0, hr, hr, by omega, HR0, rfl, rfl, rfl⟩
        case round =>
          obtain ⟨b, x, i, hb, hx, hi, H1, rfl, rfl, rfl⟩ := hrel
          clear HR0
          by_cases hlt : i < h
          · have hk : decide (((1 + 2 * i : Nat) : Int) < (n : Int)) = true := by simp; omega
            obtain ⟨t1, t2⟩ := prod_bd p x r hp hx hr
            have y1 : 0 ≤ (x : Int) * (r : Int) := by omega
            have y2 : (x : Int) * (r : Int) ≤ 72057594037927936 := by omega
            have q2 : (x : Int) * (r : Int) % (p : Int) = ((x * r % p : Nat) : Int) := by rw [t1]; simp
            have hxr : x * r % p < p := Nat.mod_lt _ (by omega)
            have hsame : x * r % p * r % p = x * sq % p := by rw [HSQ.out, ml, mrr, Nat.mul_assoc]
            have H2 : Hid (lrS p sq (h - (i + 1)) (x * sq % p) (min b x) = R) := by
              have := H1.out
              rw [show h - i = (h - (i + 1)) + 1 by omega] at this
              exact this
            rw [← hsame] at H2
            clear t1 t2 H1 hsame
            generalize x * r % p = xr at *
            obtain ⟨t1, t2⟩ := prod_bd p xr r hp hxr hr
            have y3 : 0 ≤ (xr : Int) * (r : Int) := by omega
            have y4 : (xr : Int) * (r : Int) ≤ 72057594037927936 := by omega
            have q3 : (xr : Int) * (r : Int) % (p : Int) = ((xr * r % p : Nat) : Int) := by rw [t1]; simp
            have hxx : xr * r % p < p := Nat.mod_lt _ (by omega)
            clear t1 t2
            generalize xr * r % p = xx at *
            have Q2 : Hid ((x : Int) * (r : Int) % (p : Int) = (xr : Int)) := q2
            have Q3 : Hid ((xr : Int) * (r : Int) % (p : Int) = (xx : Int)) := q3
            by_cases hc : x < b
            · have hd2 : decide ((x : Int) < (b : Int)) = true := by simp; omega
              have hmn : min b x = x := by omega
              rw [hmn] at H2
              clear hmn
              go_wp2_with fail
              exact ⟨⟨x, xx, i + 1, hx, hxx, by omega, H2, rfl, val_eq (by first | exact Q3.out | (rw [Q2.out]; exact Q3.out)), val_eq (by omega)⟩, by simp [intOf]; omega⟩
            · have hd2 : decide ((x : Int) < (b : Int)) = false := by simp; omega
              have hmn : min b x = b := by omega
              rw [hmn] at H2
              clear hmn
              go_wp2_with fail
              exact ⟨⟨b, xx, i + 1, hb, hxx, by omega, H2, rfl, val_eq (by first | exact Q3.out | (rw [Q2.out]; exact Q3.out)), val_eq (by omega)⟩, by simp [intOf]; omega⟩
          · have hk : decide (((1 + 2 * i : Nat) : Int) < (n : Int)) = false := by simp; omega
            obtain rfl : i = h := by omega
            have HB : Hid (b = R) := by
              have := H1.out
              rw [Nat.sub_self] at this
              exact this
            clear H1
            go_wp2_with fail
            go_ret
            exact ⟨by rw [← HB.out]; rfl, rfl⟩
      · have hd : decide (((A + 1 : Nat) : Int) ≤ (p : Int)) = false := by simp; omega
        clear hz
        go_wp2_with fail
        go_loop [8, 9, 10] (fun b x k => ∃ b' x' i' : Nat, b' < p ∧ x' < p ∧ i' ≤ h ∧ Hid (lrS p sq (h - i') x' b' = R) ∧ b = .int .i64 b' ∧ x = .int .i64 x' ∧ k = .int .i64 (1 + 2 * i' : Nat)) (fun _ _ k => 200 - (intOf k).toNat)
        case atStart => exact ⟨r, r, 0, hr, hr, by omega, HR0, rfl, rfl, rfl⟩
        case round =>
          obtain ⟨b, x, i, hb, hx, hi, H1, rfl, rfl, rfl⟩ := hrel
          clear HR0
          by_cases hlt : i < h
          · have hk : decide (((1 + 2 * i : Nat) : Int) < (n : Int)) = true := by simp; omega
            obtain ⟨t1, t2⟩ := prod_bd p x r hp hx hr
            have y1 : 0 ≤ (x : Int) * (r : Int) := by omega
            have y2 : (x : Int) * (r : Int) ≤ 72057594037927936 := by omega
            have q2 : (x : Int) * (r : Int) % (p : Int) = ((x * r % p : Nat) : Int) := by rw [t1]; simp
            have hxr : x * r % p < p := Nat.mod_lt _ (by omega)
            have hsame : x * r % p * r % p = x * sq % p := by rw [HSQ.out, ml, mrr, Nat.mul_assoc]
            have H2 : Hid (lrS p sq (h - (i + 1)) (x * sq % p) (min b x) = R) := by
              have := H1.out
              rw [show h - i = (h - (i + 1)) + 1 by omega] at this
              exact this
            rw [← hsame] at H2
            clear t1 t2 H1 hsame
            generalize x * r % p = xr at *
            obtain ⟨t1, t2⟩ := prod_bd p xr r hp hxr hr
            have y3 : 0 ≤ (xr : Int) * (r : Int) := by omega
            have y4 : (xr : Int) * (r : Int) ≤ 72057594037927936 := by omega
            have q3 : (xr : Int) * (r : Int) % (p : Int) = ((xr * r % p : Nat) : Int) := by rw [t1]; simp
            have hxx : xr * r % p < p := Nat.mod_lt _ (by omega)
            clear t1 t2
            generalize xr * r % p = xx at *
            have Q2 : Hid ((x : Int) * (r : Int) % (p : Int) = (xr : Int)) := q2
            have Q3 : Hid ((xr : Int) * (r : Int) % (p : Int) = (xx : Int)) := q3
            by_cases hc : x < b
            · have hd2 : decide ((x : Int) < (b : Int)) = true := by simp; omega
              have hmn : min b x = x := by omega
              rw [hmn] at H2
              clear hmn
              go_wp2_with fail
              exact ⟨⟨x, xx, i + 1, hx, hxx, by omega, H2, rfl, val_eq (by first | exact Q3.out | (rw [Q2.out]; exact Q3.out)), val_eq (by omega)⟩, by simp [intOf]; omega⟩
            · have hd2 : decide ((x : Int) < (b : Int)) = false := by simp; omega
              have hmn : min b x = b := by omega
              rw [hmn] at H2
              clear hmn
              go_wp2_with fail
              exact ⟨⟨b, xx, i + 1, hb, hxx, by omega, H2, rfl, val_eq (by first | exact Q3.out | (rw [Q2.out]; exact Q3.out)), val_eq (by omega)⟩, by simp [intOf]; omega⟩
          · have hk : decide (((1 + 2 * i : Nat) : Int) < (n : Int)) = false := by simp; omega
            obtain rfl : i = h := by omega
            have HB : Hid (b = R) := by
              have := H1.out
              rw [Nat.sub_self] at this
              exact this
            clear H1
            go_wp2_with fail
            go_ret
            exact ⟨by rw [← HB.out]; rfl, rfl⟩
end Go.Proofs.YtkggfljdbdfonaaGreatDoor
/- Proved: contracts of RootOf, of the program and of the model: both answer one and the same least root, 0 and no where there is none. -/
namespace Go.Proofs.YtkggfljdbdfonaaGreatDoor
open Go.ChangeShapes Go.WideShapes Go.ChangeAt Go.RowKit
open M1
set_option linter.unusedVariables false
/-- at least lo and at most hi -/
def inB (x lo hi : Int) : Bool := decide (lo ≤ x ∧ x ≤ hi)
theorem inB_out {x lo hi : Int} (h : inB x lo hi = true) : lo ≤ x ∧ x ≤ hi := by simpa [inB] using h
theorem inB_not {x lo hi : Int} (h : inB x lo hi = false) : x < lo ∨ (lo ≤ x ∧ hi < x) := by simp [inB] at h; omega
theorem spec_in (x lo hi : Int) (w : World) :
    Calls Tryz.prog 101 #[.int .i64 x, .int .i64 lo, .int .i64 hi] w fun e w' => e = .returned (.bool (inB x lo hi)) ∧ w' = w := by
  cases h : inB x lo hi
  · rcases inB_not h with h1 | ⟨h1, h2⟩
    · clear h
      have d : decide (lo ≤ x) = false := by simp; omega
      go_enter Tryz.func101, Tryz.ntmps101
      go_wp2
      go_ret
      exact ⟨rfl, rfl⟩
    · clear h
      have d : decide (x ≤ hi) = false := by simp; omega
      go_enter Tryz.func101, Tryz.ntmps101
      go_wp2
      go_ret
      exact ⟨rfl, rfl⟩
  · obtain ⟨h1, h2⟩ := inB_out h
    clear h
    have d : decide (x ≤ hi) = true := by simp; omega
    go_enter Tryz.func101, Tryz.ntmps101
    go_wp2
    go_ret
    exact ⟨rfl, rfl⟩
/-- the orders of roots: powers of 2 from 2 to 64 -/
def ordB (n : Int) : Bool := inB n 2 64 && (bits BinOp.and IntKind.i64 n (n - 1) == 0)
theorem ord_even : ∀ n : Nat, n < 65 → 2 ≤ n → n &&& (n - 1) = 0 → n % 2 = 0 := by decide
theorem and_nat (a b : Nat) (ha : a ≤ 9223372036854775807) (hb : b ≤ 9223372036854775807) : bits .and .i64 (a : Int) (b : Int) = ((a &&& b : Nat) : Int) := and_i64_nat a b ha hb
theorem ordB_yes (n : Nat) (h : ordB (n : Int) = true) : 2 ≤ n ∧ n ≤ 64 ∧ n % 2 = 0 := by
  simp only [ordB, Bool.and_eq_true] at h
  obtain ⟨h1, h2⟩ := h
  obtain ⟨h3, h4⟩ := inB_out h1
  refine ⟨by omega, by omega, ord_even n (by omega) (by omega) ?_⟩
  have e : (n : Int) - 1 = ((n - 1 : Nat) : Int) := by omega
  rw [e, and_nat n (n - 1) (by omega) (by omega)] at h2
  have := beq_iff_eq.1 h2
  omega
theorem impl_isOrder (n : Int) (w : World) :
    Calls Tryz.prog 200 #[.int .i64 n] w fun e w' => e = .returned (.bool (ordB n)) ∧ w' = w := by
  cases h : inB n 2 64
  · have ho : ordB n = false := by simp [ordB, h]
    rw [ho]
    rcases inB_not h with h1 | ⟨h1, h2⟩
    · clear h ho
      have d : decide (2 ≤ n) = false := by simp; omega
      go_enter Tryz.func200, Tryz.ntmps200
      go_wp2
      go_ret
      exact ⟨rfl, rfl⟩
    · clear h ho
      have d : decide (n ≤ 64) = false := by simp; omega
      go_enter Tryz.func200, Tryz.ntmps200
      go_wp2
      go_ret
      exact ⟨rfl, rfl⟩
  · have ho : ordB n = (bits BinOp.and IntKind.i64 n (n - 1) == 0) := by simp [ordB, h]
    rw [ho]
    obtain ⟨h1, h2⟩ := inB_out h
    clear h ho
    have d : decide (n ≤ 64) = true := by simp; omega
    have d2 : decide (2 ≤ n) = true := by simp; omega
    go_enter Tryz.func200, Tryz.ntmps200
    go_wp2
    go_ret
    exact ⟨rfl, rfl⟩
theorem impl_isPM (p : Int) (w : World) (hP : PrsW w) (hT : TabW w) :
    Calls Tryz.prog 183 #[.int .i64 p] w fun e w' => e = .returned (.bool (modB p && isP p.toNat)) ∧ ∃ k, w' = w.drewN k := by
  cases h : modB p
  · have HB : Hid ((false && isP p.toNat) = false) := rfl
    generalize (false && isP p.toNat) = B at *
    clear hP hT
    go_enter Tryz.func183, Tryz.ntmps183
    go_wp2_with (go_at_call 167; refine (impl_isModulus _ _).mono ?_; rintro en w' ⟨rfl, rfl⟩)
    go_ret
    exact ⟨ret_bool HB.out.symm, 0, rfl⟩
  · obtain ⟨h1, h2⟩ := modB_yes h
    have c := fun W (h1 : PrsW W) (h2 : TabW W) => impl_IsPrime p.toNat W (by omega) h1 h2
    rw [Int.toNat_of_nonneg (by omega)] at c
    rw [Bool.true_and]
    generalize isP p.toNat = B at *
    have HP : Hid (PrsW w) := hP
    have HT : Hid (TabW w) := hT
    clear hP hT
    go_enter Tryz.func183, Tryz.ntmps183
    go_wp2_with (go_at_call 167; refine (impl_isModulus _ _).mono ?_; rintro en w' ⟨rfl, rfl⟩)
    refine (c _ HP.out HT.out).mono ?_
    rintro e w2 ⟨rfl, k, rfl⟩
    go_wp2_with fail
    go_ret
    exact ⟨rfl, k, rfl⟩
theorem lr_lt (p sq : Nat) (hp : 0 < p) : ∀ (k x b : Nat), b < p → lr p sq k x b < p
  | 0, _, _, h => h
  | k + 1, x, b, h => lr_lt p sq hp k _ _ (by have := Nat.mod_lt (x * sq) hp; omega)
/-- where RootOf answers -/
structure RootOk (p n : Int) : Prop where
  ord : ordB n = true
  md : modB p = true
  pr : isP p.toNat = true
  dv : (p - 1) % n = 0
theorem ordB_bd {n : Int} (h : ordB n = true) : 2 ≤ n ∧ n ≤ 64 := by
  simp only [ordB, Bool.and_eq_true] at h
  exact inB_out h.1
set_option maxHeartbeats 1000000 in
theorem impl_RootOf_no (p n : Int) (w : World) (hP : PrsW w) (hT : TabW w) (h : ¬ RootOk p n) :
    Calls Tryz.prog 186 #[.int .i64 p, .int .i64 n] w fun e w' => e = .returned (.tuple #[.int .i64 0, .bool false]) ∧ ∃ k, w' = w.drewN k := by
  have c0 := fun W => impl_isOrder n W
  have c1 := fun W (h1 : PrsW W) (h2 : TabW W) => impl_isPM p W h1 h2
  have HP : Hid (PrsW w) := hP
  have HT : Hid (TabW w) := hT
  clear hP hT
  cases ho : ordB n
  · rw [ho] at c0
    clear h
    go_enter Tryz.func186, Tryz.ntmps186
    go_wp2_with fail
    refine (c0 _).mono ?_
    rintro e w1 ⟨rfl, rfl⟩
    go_wp2_with fail
    go_ret2
    exact ⟨rfl, 0, rfl⟩
  · rw [ho] at c0
    obtain ⟨b1, b2⟩ := ordB_bd ho
    cases hm : (modB p && isP p.toNat)
    · rw [hm] at c1
      clear h
      go_enter Tryz.func186, Tryz.ntmps186
      go_wp2_with fail
      refine (c0 _).mono ?_
      rintro e w1 ⟨rfl, rfl⟩
      go_wp2_with fail
      refine (c1 _ HP.out HT.out).mono ?_
      rintro e w2 ⟨rfl, k, rfl⟩
      go_wp2_with fail
      go_ret2
      exact ⟨rfl, k, rfl⟩
    · rw [hm] at c1
      simp only [Bool.and_eq_true] at hm
      obtain ⟨m1, m2⟩ := modB_yes hm.1
      have hd : ((p - 1) % n != 0) = true := by
        simp only [bne_iff_ne]
        exact fun h4 => h ⟨ho, hm.1, hm.2, h4⟩
      have hnn : ¬ n = 0 := by omega
      clear h hm ho
      go_enter Tryz.func186, Tryz.ntmps186
      go_wp2_with fail
      refine (c0 _).mono ?_
      rintro e w1 ⟨rfl, rfl⟩
      go_wp2_with fail
      refine (c1 _ HP.out HT.out).mono ?_
      rintro e w2 ⟨rfl, k, rfl⟩
      go_wp2_with fail
      go_ret2
      exact ⟨rfl, k, rfl⟩
set_option maxHeartbeats 1000000 in
theorem impl_RootOf_yes (p n r R : Nat) (w : World) (hP : PrsW w) (hT : TabW w) (h : RootOk p n) (hrp : r < p)
    (cs : ∀ W, Calls Tryz.prog 202 #[.int .i64 p, .int .i64 n] W fun en w' => en = .returned (.int .i64 r) ∧ ∃ k, w' = W.drewN k)
    (cl : ∀ W, Calls Tryz.prog 201 #[.int .i64 r, .int .i64 p, .int .i64 n] W fun en w' => en = .returned (.int .i64 R) ∧ w' = W) :
    Calls Tryz.prog 186 #[.int .i64 p, .int .i64 n] w fun e w' => e = .returned (.tuple #[.int .i64 R, .bool true]) ∧ ∃ k, w' = w.drewN k := by
  obtain ⟨ho, hm, hi, hd⟩ := h
  have c0 := fun W => impl_isOrder n W
  have c1 := fun W (h1 : PrsW W) (h2 : TabW W) => impl_isPM p W h1 h2
  rw [ho] at c0
  rw [hm, hi, Bool.true_and] at c1
  obtain ⟨b1, b2⟩ := ordB_bd ho
  obtain ⟨m1, m2⟩ := modB_yes hm
  have hd' : (((p : Int) - 1) % (n : Int) != 0) = false := by simp [hd]
  have hnn : ¬ n = 0 := by omega
  have HP : Hid (PrsW w) := hP
  have HT : Hid (TabW w) := hT
  clear hP hT ho hm hi hd
  go_enter Tryz.func186, Tryz.ntmps186
  go_wp2_with fail
  refine (c0 _).mono ?_
  rintro e w1 ⟨rfl, rfl⟩
  go_wp2_with fail
  refine (c1 _ HP.out HT.out).mono ?_
  rintro e w2 ⟨rfl, k, rfl⟩
  go_wp2_with fail
  refine (cs _).mono ?_
  rintro e w3 ⟨rfl, k3, rfl⟩
  go_wp2_with fail
  refine (cl _).mono ?_
  rintro e w4 ⟨rfl, rfl⟩
  go_wp2_with fail
  go_ret2
  exact ⟨rfl, _, rfl⟩
end Go.Proofs.YtkggfljdbdfonaaGreatDoor
/- Proved: contracts of RingOf, of the program and of the model: both answer one and the same ring at a prime modulus for whose size a root is there, and none otherwise. -/
namespace Go.Proofs.YtkggfljdbdfonaaGreatDoor
open Go.ChangeShapes Go.WideShapes Go.ChangeAt Go.RowKit
open M1
set_option linter.unusedVariables false
def rgB (n : Int) : Bool := inB n 2 16 && (bits BinOp.and IntKind.i64 n (n - 1) == 0)
theorem rg_four : ∀ n : Nat, n < 17 → 2 ≤ n → n &&& (n - 1) = 0 → n = 2 ∨ n = 4 ∨ n = 8 ∨ n = 16 := by decide
theorem rgB_yes {n : Int} (h : rgB n = true) : n = 2 ∨ n = 4 ∨ n = 8 ∨ n = 16 := by
  simp only [rgB, Bool.and_eq_true] at h
  obtain ⟨h1, h2⟩ := h
  obtain ⟨h3, h4⟩ := inB_out h1
  obtain ⟨m, rfl⟩ := Int.eq_ofNat_of_zero_le (show 0 ≤ n by omega)
  have e : (m : Int) - 1 = ((m - 1 : Nat) : Int) := by omega
  rw [e, and_nat m (m - 1) (by omega) (by omega)] at h2
  have h5 := beq_iff_eq.1 h2
  rcases rg_four m (by omega) (by omega) (by omega) with h | h | h | h <;> omega
theorem rgB_mk {n : Int} (h : n = 2 ∨ n = 4 ∨ n = 8 ∨ n = 16) : rgB n = true := by
  rcases h with rfl | rfl | rfl | rfl <;> decide +kernel
theorem ord2 {n : Int} (h : n = 2 ∨ n = 4 ∨ n = 8 ∨ n = 16) : ordB (2 * n) = true := by
  rcases h with rfl | rfl | rfl | rfl <;> decide +kernel
theorem impl_isSize (n : Int) (w : World) :
    Calls Tryz.prog 185 #[.int .i64 n] w fun e w' => e = .returned (.bool (rgB n)) ∧ w' = w := by
  cases h : inB n 2 16
  · have ho : rgB n = false := by simp [rgB, h]
    rw [ho]
    rcases inB_not h with h1 | ⟨h1, h2⟩
    · clear h ho
      have d : decide (2 ≤ n) = false := by simp; omega
      go_enter Tryz.func185, Tryz.ntmps185
      go_wp2
      go_ret
      exact ⟨rfl, rfl⟩
    · clear h ho
      have d : decide (n ≤ 16) = false := by simp; omega
      go_enter Tryz.func185, Tryz.ntmps185
      go_wp2
      go_ret
      exact ⟨rfl, rfl⟩
  · have ho : rgB n = (bits BinOp.and IntKind.i64 n (n - 1) == 0) := by simp [rgB, h]
    rw [ho]
    obtain ⟨h1, h2⟩ := inB_out h
    clear h ho
    have d : decide (n ≤ 16) = true := by simp; omega
    have d2 : decide (2 ≤ n) = true := by simp; omega
    go_enter Tryz.func185, Tryz.ntmps185
    go_wp2
    go_ret
    exact ⟨rfl, rfl⟩
theorem spec_isSize (n : Int) (w : World) :
    Calls Tryz.prog 134 #[.int .i64 n] w fun e w' => e = .returned (.bool (rgB n)) ∧ w' = w := by
  have c : ∀ W, Calls Tryz.prog 169 #[.int .i64 n, .int .i64 2, .int .i64 16] W fun e w' => e = .returned (.bool (rgB n)) ∧ w' = W := by
    intro w
    cases h : inB n 2 16
    · have ho : rgB n = false := by simp [rgB, h]
      rw [ho]
      clear ho
      go_enter Tryz.func169, Tryz.ntmps169
      go_wp2_with (go_at_call 101; refine (spec_in _ _ _ _).mono ?_; rintro e w' ⟨rfl, rfl⟩)
      go_ret
      exact ⟨rfl, rfl⟩
    · have ho : rgB n = (bits BinOp.and IntKind.i64 n (n - 1) == 0) := by simp [rgB, h]
      rw [ho]
      obtain ⟨h1, h2⟩ := inB_out h
      clear ho
      go_enter Tryz.func169, Tryz.ntmps169
      go_wp2_with (go_at_call 101; refine (spec_in _ _ _ _).mono ?_; rintro e w' ⟨rfl, rfl⟩)
      go_ret
      exact ⟨rfl, rfl⟩
  generalize rgB n = B at *
  go_enter Tryz.func134, Tryz.ntmps134
  go_wp2_with fail
  refine (c _).mono ?_
  rintro e w' ⟨rfl, rfl⟩
  go_wp2_with fail
  go_ret
  exact ⟨rfl, rfl⟩
/-- where RingOf answers -/
structure RingOk (p n : Int) : Prop where
  sz : n = 2 ∨ n = 4 ∨ n = 8 ∨ n = 16
  md : modB p = true
  pr : isP p.toNat = true
  dv : (p - 1) % (2 * n) = 0
theorem RingOk.root {p n : Int} (h : RingOk p n) : RootOk p (2 * n) := ⟨ord2 h.sz, h.md, h.pr, h.dv⟩
theorem RingOk.of_root {p n : Int} (hs : n = 2 ∨ n = 4 ∨ n = 8 ∨ n = 16) (h : RootOk p (2 * n)) : RingOk p n := ⟨hs, h.md, h.pr, h.dv⟩
abbrev ring0 : Array Value := #[.int .i64 0, .int .i64 0, .int .i64 0]
theorem impl_RingOf_no (p n : Int) (w : World) (hP : PrsW w) (hT : TabW w) (h : ¬ RingOk p n) :
    Calls Tryz.prog 153 #[.int .i64 p, .int .i64 n] w fun e w' => e = .returned (.tuple #[.agg ring0, .bool false]) ∧ Old w w' := by
  have c0 := fun W => impl_isSize n W
  cases hs : rgB n
  · rw [hs] at c0
    clear h hP hT hs
    go_enter Tryz.func153, Tryz.ntmps153
    go_wp2_with fail
    refine (c0 _).mono ?_
    rintro e w1 ⟨rfl, rfl⟩
    go_wp2_with fail
    exact bodyPost_ret (v := .tuple #[.agg ring0, .bool false]) (by simp [results, Tryz.results153, go_sem]) rfl ⟨rfl, by repeat (first | exact Old.refl _ | apply Old.alloc)⟩
  · rw [hs] at c0
    have hz := rgB_yes hs
    have hb : 2 ≤ n ∧ n ≤ 16 := by omega
    have c1 := fun W (h1 : PrsW W) (h2 : TabW W) => impl_RootOf_no p (2 * n) W h1 h2 (fun h3 => h (RingOk.of_root hz h3))
    have HP : Hid (PrsW w) := hP
    have HT : Hid (TabW w) := hT
    clear h hP hT hs hz
    go_enter Tryz.func153, Tryz.ntmps153
    go_wp2_with fail
    refine (c0 _).mono ?_
    rintro e w1 ⟨rfl, rfl⟩
    go_wp2_with fail
    refine (c1 _ (HP.out.old (Old.alloc (Old.refl _) _)) (HT.out.old (Old.alloc (Old.refl _) _))).mono ?_
    rintro e w1 ⟨rfl, k, rfl⟩
    go_wp2_with fail
    exact bodyPost_ret (v := .tuple #[.agg ring0, .bool false]) (by simp [results, Tryz.results153, go_sem]) rfl ⟨rfl, by repeat (first | exact Old.refl _ | apply Old.alloc | apply Old.drewN | (refine Old.own ?_ (Nat.le_refl _) _))⟩
theorem impl_RingOf_yes (p n R : Nat) (w : World) (hP : PrsW w) (hT : TabW w) (hz : (n : Int) = 2 ∨ (n : Int) = 4 ∨ (n : Int) = 8 ∨ (n : Int) = 16)
    (c1 : ∀ W, PrsW W → TabW W → Calls Tryz.prog 186 #[.int .i64 p, .int .i64 (2 * n)] W fun e w' => e = .returned (.tuple #[.int .i64 R, .bool true]) ∧ ∃ k, w' = W.drewN k) :
    Calls Tryz.prog 153 #[.int .i64 p, .int .i64 n] w fun e w' => e = .returned (.tuple #[.agg #[.int .i64 p, .int .i64 n, .int .i64 R], .bool true]) ∧ Old w w' := by
  have c0 := fun W => impl_isSize n W
  rw [rgB_mk hz] at c0
  have hb : 2 ≤ n ∧ n ≤ 16 := by omega
  have HP : Hid (PrsW w) := hP
  have HT : Hid (TabW w) := hT
  clear hP hT hz
  go_enter Tryz.func153, Tryz.ntmps153
  go_wp2_with fail
  refine (c0 _).mono ?_
  rintro e w1 ⟨rfl, rfl⟩
  go_wp2_with fail
  refine (c1 _ (HP.out.old (Old.alloc (Old.refl _) _)) (HT.out.old (Old.alloc (Old.refl _) _))).mono ?_
  rintro e w1 ⟨rfl, k, rfl⟩
  go_wp2_with fail
  exact bodyPost_ret (v := .tuple #[.agg #[.int .i64 p, .int .i64 n, .int .i64 R], .bool true]) (by simp [results, Tryz.results153, go_sem]) rfl ⟨rfl, by repeat (first | exact Old.refl _ | apply Old.alloc | apply Old.drewN | (refine Old.own ?_ (Nat.le_refl _) _))⟩
set_option maxHeartbeats 1000000 in
theorem spec_RingOf_yes (p n R : Nat) (w : World) (h : RingOk p n)
    (cl : ∀ W, Calls Tryz.prog 172 #[.int .i64 p, .int .i64 (2 * n)] W fun en w' => en = .returned (.int .i64 R) ∧ w' = W) :
    Calls Tryz.prog 141 #[.int .i64 p, .int .i64 n] w fun e w' => e = .returned (.tuple #[.agg #[.int .i64 p, .int .i64 n, .int .i64 R], .bool true]) ∧ Old w w' := by
  obtain ⟨hz, hm, hi, hd⟩ := h
  have c0 := fun W => spec_isSize n W
  rw [rgB_mk hz] at c0
  obtain ⟨m1, m2⟩ := modB_yes hm
  rw [Int.toNat_natCast] at hi
  have c := fun W => spec_IsPrime p W (by omega)
  rw [hi] at c
  have hd' : (((p : Int) - 1) % (2 * (n : Int)) != 0) = false := by simp [hd]
  have hb : 2 ≤ n ∧ n ≤ 16 := by omega
  have hnn : ¬ n = 0 := by omega
  have hnn2 : ¬ 2 * (n : Int) = 0 := by omega
  clear hi hd hz
  go_enter Tryz.func141, Tryz.ntmps141
  go_wp2_with (first | (go_at_call 170; refine (spec_modulus _ _).mono ?_; rintro en w' ⟨rfl, rfl⟩) | (go_at_call 134; refine (c0 _).mono ?_; rintro en w' ⟨rfl, rfl⟩))
  refine (c _).mono ?_
  rintro e w2 ⟨rfl, g2⟩
  have q0 : w2.cell? ⟨w.heap.size, 0, none⟩ = some (.int .i64 0) := (g2.cell (p := ⟨w.heap.size, 0, none⟩) (by simp)).trans (cell_at _ _ _ _ _ rfl)
  have f0 : w2.frozen? ⟨w.heap.size, 0, none⟩ = false := (g2.frozen (p := ⟨w.heap.size, 0, none⟩) (by simp)).trans (fro_at _ _ _ _ _ rfl)
  have q1 : w2.cell? ⟨w.heap.size, 1, none⟩ = some (.int .i64 0) := (g2.cell (p := ⟨w.heap.size, 1, none⟩) (by simp)).trans (cell_at _ _ _ _ _ rfl)
  have f1 : w2.frozen? ⟨w.heap.size, 1, none⟩ = false := (g2.frozen (p := ⟨w.heap.size, 1, none⟩) (by simp)).trans (fro_at _ _ _ _ _ rfl)
  have q2 : w2.cell? ⟨w.heap.size, 2, none⟩ = some (.int .i64 0) := (g2.cell (p := ⟨w.heap.size, 2, none⟩) (by simp)).trans (cell_at _ _ _ _ _ rfl)
  have f2 : w2.frozen? ⟨w.heap.size, 2, none⟩ = false := (g2.frozen (p := ⟨w.heap.size, 2, none⟩) (by simp)).trans (fro_at _ _ _ _ _ rfl)
  go_wp2_with fail
  refine (cl _).mono ?_
  rintro e w3 ⟨rfl, rfl⟩
  go_wp2_with fail
  exact bodyPost_ret (v := .tuple #[.agg #[.int .i64 p, .int .i64 n, .int .i64 R], .bool true]) (by simp [results, Tryz.results141, go_sem, q0, q1, q2]) rfl ⟨rfl, by repeat (first | exact Old.trans (Old.alloc (Old.refl _) _) g2 | apply Old.drewN | (refine Old.own ?_ (Nat.le_refl _) _))⟩
end Go.Proofs.YtkggfljdbdfonaaGreatDoor
/- Proved: primes: the least factor, Euclid's lemma, Fermat's little theorem, square roots of 1, and the roots of 1 of an order that is a power of 2; no program in sight. -/
namespace Go.Proofs.YtkggfljdbdfonaaGreatDoor.F1
set_option linter.unusedVariables false
/-- n is a prime -/
def Pr (n : Nat) : Prop := 2 ≤ n ∧ ∀ d, d ∣ n → d = 1 ∨ d = n
theorem least_factor (n : Nat) (hn : 2 ≤ n) : ∃ q, 2 ≤ q ∧ q ∣ n ∧ ∀ d, 2 ≤ d → d ∣ n → q ≤ d := by
  have key : ∀ k m, m ≤ k → 2 ≤ m → m ∣ n → ∃ q, 2 ≤ q ∧ q ∣ n ∧ ∀ d, 2 ≤ d → d ∣ n → q ≤ d := by
    intro k
    induction k with
    | zero => intro m h1 h2 _; omega
    | succ k ih =>
      intro m h1 h2 h3
      by_cases h : ∃ d, 2 ≤ d ∧ d ∣ n ∧ d < m
      · obtain ⟨d, hd1, hd2, hd3⟩ := h
        exact ih d (by omega) hd1 hd2
      · refine ⟨m, h2, h3, fun d hd1 hd2 => ?_⟩
        by_cases hlt : d < m
        · exact absurd ⟨d, hd1, hd2, hlt⟩ h
        · omega
  exact key n n (Nat.le_refl _) hn (Nat.dvd_refl _)
theorem pr_of_least {n q : Nat} (hn : 2 ≤ n) (h2 : 2 ≤ q) (hq : q ∣ n) (hl : ∀ d, 2 ≤ d → d ∣ n → q ≤ d) : Pr q := by
  refine ⟨h2, fun d hd => ?_⟩
  by_cases h1 : d = 1
  · exact Or.inl h1
  · have h0 : d ≠ 0 := by rintro rfl; have := Nat.eq_zero_of_zero_dvd hd; omega
    have := hl d (by omega) (Nat.dvd_trans hd hq)
    have := Nat.le_of_dvd (by omega) hd
    exact Or.inr (by omega)
/-- a number that is no prime has a prime q whose square is at most it -/
theorem not_pr {n : Nat} (hn : 2 ≤ n) (h : ¬ Pr n) : ∃ q m, Pr q ∧ n = q * m ∧ 2 ≤ m ∧ q * q ≤ n := by
  obtain ⟨q, h2, hq, hl⟩ := least_factor n hn
  obtain ⟨m, hm⟩ := hq
  have hp := pr_of_least hn h2 ⟨m, hm⟩ hl
  have hm0 : m ≠ 0 := by rintro rfl; omega
  have hm1 : m ≠ 1 := by
    rintro rfl
    rw [Nat.mul_one] at hm
    subst hm
    exact h hp
  have hqm : q ≤ m := hl m (by omega) ⟨q, by rw [hm, Nat.mul_comm]⟩
  exact ⟨q, m, hp, hm, by omega, by rw [hm]; exact Nat.mul_le_mul (Nat.le_refl _) hqm⟩
theorem Pr.cop {p a : Nat} (h : Pr p) (ha : ¬ p ∣ a) : Nat.Coprime p a := by
  rcases h.2 _ (Nat.gcd_dvd_left p a) with h1 | h1
  · exact h1
  · exact absurd (h1 ▸ Nat.gcd_dvd_right p a) ha
theorem Pr.euclid {p a b : Nat} (h : Pr p) (hd : p ∣ a * b) : p ∣ a ∨ p ∣ b := by
  by_cases ha : p ∣ a
  · exact Or.inl ha
  · exact Or.inr ((h.cop ha).dvd_of_dvd_mul_left hd)
theorem not_dvd_of_lt {p a : Nat} (h0 : 0 < a) (h1 : a < p) : ¬ p ∣ a := fun h => by have := Nat.le_of_dvd h0 h; omega
/-- a shorter list without doubles within a list, and not shorter: the same list in another order -/
theorem perm_of : ∀ (l1 l2 : List Nat), l1.Nodup → l1 ⊆ l2 → l2.length ≤ l1.length → l1.Perm l2
  | [], l2, _, _, h => by
    have : l2 = [] := List.length_eq_zero_iff.1 (by simpa using h)
    rw [this]
  | a :: l, l2, hn, hs, h => by
    have ha : a ∈ l2 := hs (List.mem_cons_self ..)
    have hp := List.perm_cons_erase ha
    have hn' := List.nodup_cons.1 hn
    have hsub : l ⊆ l2.erase a := by
      intro x hx
      have hne : x ≠ a := by rintro rfl; exact hn'.1 hx
      exact (List.mem_erase_of_ne hne).2 (hs (List.mem_cons_of_mem _ hx))
    have hlen : (l2.erase a).length ≤ l.length := by
      have e := hp.length_eq
      simp at e h ⊢
      omega
    exact (List.Perm.cons a (perm_of l (l2.erase a) hn'.2 hsub hlen)).trans hp.symm
theorem sub_dvd_of_mod {p a b : Nat} (h : a % p = b % p) (hab : a ≤ b) : p ∣ b - a := by
  have h1 := Nat.div_add_mod a p
  have h2 := Nat.div_add_mod b p
  rw [h] at h1
  refine ⟨b / p - a / p, ?_⟩
  rw [Nat.mul_sub]
  omega
theorem prod_map (a p : Nat) : ∀ l : List Nat, (l.map (fun i => a * i % p)).prod % p = a ^ l.length * l.prod % p
  | [] => by simp
  | x :: l => by
    have ih := prod_map a p l
    simp only [List.map_cons, List.prod_cons, List.length_cons]
    rw [Nat.mul_mod, ih, Nat.mod_mod, ← Nat.mul_mod, Nat.pow_succ]
    congr 1
    grind
theorem prod_not {p : Nat} (hp : Pr p) : ∀ l : List Nat, (∀ x ∈ l, ¬ p ∣ x) → ¬ p ∣ l.prod
  | [], _, h => by
    have := Nat.le_of_dvd (by simp) h
    have := hp.1
    simp at *
    omega
  | x :: l, hl, h => by
    rw [List.prod_cons] at h
    rcases hp.euclid h with h1 | h1
    · exact hl x (List.mem_cons_self ..) h1
    · exact prod_not hp l (fun y hy => hl y (List.mem_cons_of_mem _ hy)) h1
/-- Fermat -/
theorem Pr.fermat {p a : Nat} (hp : Pr p) (ha : ¬ p ∣ a) : a ^ (p - 1) % p = 1 := by
  have h2 := hp.1
  have hr : ∀ x ∈ List.range' 1 (p - 1), 0 < x ∧ x < p := by
    intro x hx
    simp [List.mem_range'_1] at hx
    omega
  have hnd : ((List.range' 1 (p - 1)).map (fun i => a * i % p)).Nodup := by
    unfold List.Nodup
    rw [List.pairwise_map]
    refine List.Pairwise.imp_of_mem ?_ (List.pairwise_lt_range' (s := 1) (n := p - 1))
    intro x y hx hy hxy he
    have h1 := sub_dvd_of_mod he (Nat.mul_le_mul (Nat.le_refl a) (Nat.le_of_lt hxy))
    rw [← Nat.mul_sub] at h1
    rcases hp.euclid h1 with h3 | h3
    · exact ha h3
    · exact not_dvd_of_lt (by omega) (by have := (hr y hy).2; omega) h3
  have hsub : (List.range' 1 (p - 1)).map (fun i => a * i % p) ⊆ List.range' 1 (p - 1) := by
    intro y hy
    obtain ⟨x, hx, rfl⟩ := List.mem_map.1 hy
    have hlt : a * x % p < p := Nat.mod_lt _ (by omega)
    have h0 : a * x % p ≠ 0 := by
      intro e
      rcases hp.euclid (Nat.dvd_of_mod_eq_zero e) with h3 | h3
      · exact ha h3
      · exact not_dvd_of_lt (hr x hx).1 (hr x hx).2 h3
    show a * x % p ∈ List.range' 1 (p - 1)
    rw [List.mem_range'_1]
    omega
  have hperm := perm_of _ _ hnd hsub (by simp)
  have e := prod_map a p (List.range' 1 (p - 1))
  rw [hperm.prod_nat, List.length_range'] at e
  have hno := prod_not hp (List.range' 1 (p - 1)) (fun x hx => not_dvd_of_lt (hr x hx).1 (hr x hx).2)
  generalize (List.range' 1 (p - 1)).prod = X at *
  have hapos : 0 < a := by
    rcases Nat.eq_zero_or_pos a with h | h
    · exact absurd (h ▸ Nat.dvd_zero p) ha
    · exact h
  have hpos : 1 ≤ a ^ (p - 1) := Nat.one_le_pow _ _ hapos
  have hle : X ≤ a ^ (p - 1) * X := by have := Nat.mul_le_mul hpos (Nat.le_refl X); omega
  have h1 := sub_dvd_of_mod e hle
  have h3 : a ^ (p - 1) * X - X = (a ^ (p - 1) - 1) * X := by rw [Nat.sub_mul, Nat.one_mul]
  rw [h3] at h1
  rcases hp.euclid h1 with h4 | h4
  · obtain ⟨c, hc⟩ := h4
    have : a ^ (p - 1) = 1 + p * c := by omega
    rw [this, Nat.add_mul_mod_self_left, Nat.mod_eq_of_lt (by omega)]
  · exact absurd h4 hno
/-- square roots of a square -/
theorem Pr.sq {p x y : Nat} (hp : Pr p) (h : x * x % p = y * y % p) : x % p = y % p ∨ (x + y) % p = 0 := by
  rcases Nat.le_total x y with hxy | hxy
  · have h1 := sub_dvd_of_mod h (Nat.mul_le_mul hxy hxy)
    have e : y * y - x * x = (y - x) * (x + y) := by
      rw [Nat.sub_mul, Nat.mul_add, Nat.mul_add, Nat.mul_comm y x]
      omega
    rw [e] at h1
    rcases hp.euclid h1 with h2 | h2
    · obtain ⟨c, hc⟩ := h2
      left
      have : y = x + p * c := by omega
      rw [this, Nat.add_mul_mod_self_left]
    · exact Or.inr (Nat.mod_eq_zero_of_dvd h2)
  · have h1 := sub_dvd_of_mod h.symm (Nat.mul_le_mul hxy hxy)
    have e : x * x - y * y = (x - y) * (x + y) := by
      rw [Nat.sub_mul, Nat.mul_add, Nat.mul_add, Nat.mul_comm x y]
      omega
    rw [e] at h1
    rcases hp.euclid h1 with h2 | h2
    · obtain ⟨c, hc⟩ := h2
      left
      have : x = y + p * c := by omega
      rw [this, Nat.add_mul_mod_self_left]
    · exact Or.inr (Nat.mod_eq_zero_of_dvd h2)
/-- of a number whose 2^j-th power is -1 the powers are all the 2^(j+1)-th roots of 1 -/
theorem Pr.roots {p : Nat} (hp : Pr p) : ∀ (j r h : Nat), (r ^ 2 ^ j + 1) % p = 0 → h ^ 2 ^ (j + 1) % p = 1 → ∃ k, h % p = r ^ k % p
  | 0, r, h, hr, hh => by
    have hh' : h * h % p = 1 * 1 % p := by
      have h2 := hp.1
      rw [Nat.one_mul, Nat.mod_eq_of_lt (show 1 < p by omega)]
      simpa [Nat.pow_succ] using hh
    rcases hp.sq hh' with h1 | h1
    · exact ⟨0, by simpa using h1⟩
    · refine ⟨1, ?_⟩
      simp at hr ⊢
      have e : (h + (r + 1)) % p = (r + (h + 1)) % p := by congr 1; omega
      have e1 : (h + (r + 1)) % p = h % p := by rw [Nat.add_mod, hr, Nat.add_zero, Nat.mod_mod]
      have e2 : (r + (h + 1)) % p = r % p := by rw [Nat.add_mod, h1, Nat.add_zero, Nat.mod_mod]
      rw [← e1, e, e2]
  | j + 1, r, h, hr, hh => by
    have hr2 : ((r * r) ^ 2 ^ j + 1) % p = 0 := by
      rw [← hr, Nat.pow_succ 2 j, Nat.mul_comm (2 ^ j) 2, Nat.pow_mul, Nat.pow_two]
    have hh2 : (h * h) ^ 2 ^ (j + 1) % p = 1 := by
      have e : h ^ 2 ^ (j + 1 + 1) = (h * h) ^ 2 ^ (j + 1) := by rw [Nat.pow_succ 2 (j + 1), Nat.mul_comm (2 ^ (j + 1)) 2, Nat.pow_mul, Nat.pow_two]
      rw [← e]; exact hh
    obtain ⟨k, hk⟩ := Pr.roots hp j (r * r) (h * h) hr2 hh2
    have hk' : h * h % p = r ^ k * r ^ k % p := by rw [hk, Nat.mul_pow]
    rcases hp.sq hk' with h1 | h1
    · exact ⟨k, h1⟩
    · refine ⟨k + 2 ^ (j + 1), ?_⟩
      have h3 : (r ^ k * (r ^ 2 ^ (j + 1) + 1)) % p = 0 := by rw [Nat.mul_mod, hr, Nat.mul_zero, Nat.zero_mod]
      rw [Nat.mul_add, Nat.mul_one, ← Nat.pow_add] at h3
      generalize r ^ (k + 2 ^ (j + 1)) = U at *
      generalize r ^ k = V at *
      have e1 : (h + (U + V)) % p = h % p := by rw [Nat.add_mod, h3, Nat.add_zero, Nat.mod_mod]
      have e2 : (U + (h + V)) % p = U % p := by rw [Nat.add_mod, h1, Nat.add_zero, Nat.mod_mod]
      rw [← e1, ← e2]
      congr 1
      omega
end Go.Proofs.YtkggfljdbdfonaaGreatDoor.F1
/- Proved: modulo a prime the least of the odd powers of a power of the first number that is no square is the least root of 1 of its order, a power of 2; no program in sight. -/
namespace Go.Proofs.YtkggfljdbdfonaaGreatDoor.F1
open Go.Proofs.YtkggfljdbdfonaaGreatDoor.M1
set_option linter.unusedVariables false
/-- f is a polynomial of degree m, led by c -/
def Poly : Nat → Int → (Int → Int) → Prop
  | 0, c, f => ∀ x, f x = c
  | m + 1, c, f => ∃ g d, Poly m c g ∧ ∀ x, f x = x * g x + d
theorem Poly.div : ∀ (m : Nat) (c : Int) (f : Int → Int), Poly (m + 1) c f → ∀ r, ∃ g, Poly m c g ∧ ∀ x, f x = (x - r) * g x + f r
  | 0, c, f, ⟨g, d, hg, hf⟩, r => by
    have hg' : ∀ x, g x = c := hg
    refine ⟨fun _ => c, fun _ => rfl, fun x => ?_⟩
    rw [hf x, hf r, hg' x, hg' r]
    grind
  | m + 1, c, f, ⟨g, d, hg, hf⟩, r => by
    obtain ⟨g1, h1, h2⟩ := Poly.div m c g hg r
    refine ⟨fun x => x * g1 x + g r, ⟨g1, g r, h1, fun x => rfl⟩, fun x => ?_⟩
    rw [hf x, hf r, h2 x]
    grind
theorem Pr.euclidI {p : Nat} (hp : Pr p) {a b : Int} (h : (p : Int) ∣ a * b) : (p : Int) ∣ a ∨ (p : Int) ∣ b := by
  rw [Int.ofNat_dvd_left, Int.natAbs_mul] at h
  rw [Int.ofNat_dvd_left, Int.ofNat_dvd_left]
  exact hp.euclid h
/-- a polynomial has no more roots than its degree -/
theorem Poly.roots {p : Nat} (hp : Pr p) : ∀ (m : Nat) (c : Int) (f : Int → Int), Poly m c f → ¬ (p : Int) ∣ c → ∀ l : List Nat, l.Nodup → (∀ x ∈ l, x < p ∧ (p : Int) ∣ f x) → l.length ≤ m
  | 0, c, f, hf, hc, l, hn, hl => by
    cases l with
    | nil => simp
    | cons r l =>
      have h1 := (hl r (List.mem_cons_self ..)).2
      have h2 : f r = c := hf r
      rw [h2] at h1
      exact absurd h1 hc
  | m + 1, c, f, hf, hc, l, hn, hl => by
    cases l with
    | nil => simp
    | cons r l =>
      obtain ⟨g, hg, hd⟩ := Poly.div m c f hf (r : Int)
      have hn' := List.nodup_cons.1 hn
      obtain ⟨hr1, hr2⟩ := hl r (List.mem_cons_self ..)
      have := Poly.roots hp m c g hg hc l hn'.2 (fun x hx => by
        obtain ⟨hx1, hx2⟩ := hl x (List.mem_cons_of_mem _ hx)
        refine ⟨hx1, ?_⟩
        have h3 : (p : Int) ∣ ((x : Int) - r) * g x := by
          have e : ((x : Int) - r) * g x = f x - f r := by rw [hd x]; omega
          rw [e]
          exact Int.dvd_sub hx2 hr2
        rcases hp.euclidI h3 with h4 | h4
        · exfalso
          have hne : x ≠ r := by rintro rfl; exact hn'.1 hx
          rw [Int.ofNat_dvd_left] at h4
          exact not_dvd_of_lt (a := ((x : Int) - r).natAbs) (by omega) (by omega) h4
        · exact h4)
      simp
      omega
theorem Poly.pow : ∀ m : Nat, Poly m 1 (fun x => x ^ m)
  | 0 => fun x => by simp
  | m + 1 => ⟨fun x => x ^ m, 0, Poly.pow m, fun x => by show x ^ (m + 1) = x * x ^ m + 0; rw [Int.pow_succ]; grind⟩
/-- not all numbers from 1 on have 1 for their m-th power -/
theorem Pr.non {p m : Nat} (hp : Pr p) (hm : 1 ≤ m) (hmp : m < p - 1) : ∃ b, 2 ≤ b ∧ b < p ∧ b ^ m % p ≠ 1 := by
  apply Classical.byContradiction
  intro hno
  have h2 := hp.1
  obtain ⟨k, rfl⟩ : ∃ k, m = k + 1 := ⟨m - 1, by omega⟩
  have hpoly : Poly (k + 1) 1 (fun x => x ^ (k + 1) - 1) := ⟨fun x => x ^ k, -1, Poly.pow k, fun x => by show x ^ (k + 1) - 1 = x * x ^ k + -1; rw [Int.pow_succ]; grind⟩
  have hc : ¬ (p : Int) ∣ 1 := by
    rw [Int.ofNat_dvd_left]
    exact not_dvd_of_lt (by omega) (by show 1 < p; omega)
  have := Poly.roots hp (k + 1) 1 _ hpoly hc (List.range' 1 (p - 1)) List.nodup_range' (fun x hx => by
    simp [List.mem_range'_1] at hx
    refine ⟨by omega, ?_⟩
    have h1 : x ^ (k + 1) % p = 1 := by
      by_cases hx1 : x = 1
      · subst hx1
        rw [Nat.one_pow, Nat.mod_eq_of_lt (by omega)]
      · apply Classical.byContradiction
        intro hne
        exact hno ⟨x, by omega, by omega, hne⟩
    have e := Nat.div_add_mod (x ^ (k + 1)) p
    rw [h1] at e
    refine ⟨((x ^ (k + 1) / p : Nat) : Int), ?_⟩
    have e2 : ((x : Int)) ^ (k + 1) = ((x ^ (k + 1) : Nat) : Int) := by simp
    show (x : Int) ^ (k + 1) - 1 = _
    rw [e2, ← Int.natCast_mul]
    omega)
  rw [List.length_range'] at this
  omega
theorem pow_one_mod {p : Nat} (hp : 2 ≤ p) (x k : Nat) (h : x % p = 1) : x ^ k % p = 1 := by
  rw [Nat.pow_mod, h, Nat.one_pow, Nat.mod_eq_of_lt (by omega)]
theorem mlx (a b p : Nat) : (a % p * b) % p = a * b % p := by rw [Nat.mul_mod, Nat.mod_mod, ← Nat.mul_mod]
theorem lr_le (p sq : Nat) : ∀ (k x b : Nat), lr p sq k x b ≤ b ∧ ∀ i, 1 ≤ i → i ≤ k → lr p sq k x b ≤ x * sq ^ i % p
  | 0, x, b => ⟨Nat.le_refl _, fun i h1 h2 => by omega⟩
  | k + 1, x, b => by
    obtain ⟨h1, h2⟩ := lr_le p sq k (x * sq % p) (min b (x * sq % p))
    have e : lr p sq (k + 1) x b = lr p sq k (x * sq % p) (min b (x * sq % p)) := rfl
    rw [e]
    refine ⟨by omega, fun i hi1 hi2 => ?_⟩
    by_cases h : i = 1
    · subst h
      rw [Nat.pow_one]
      omega
    · have h3 := h2 (i - 1) (by omega) (by omega)
      rw [mlx, Nat.mul_assoc, ← Nat.pow_succ', show (i - 1).succ = i by omega] at h3
      exact h3
theorem lr_mem (p sq : Nat) : ∀ (k x b : Nat), lr p sq k x b = b ∨ ∃ i, i ≤ k ∧ lr p sq k x b = x * sq ^ i % p
  | 0, x, b => Or.inl rfl
  | k + 1, x, b => by
    have e : lr p sq (k + 1) x b = lr p sq k (x * sq % p) (min b (x * sq % p)) := rfl
    rw [e]
    rcases lr_mem p sq k (x * sq % p) (min b (x * sq % p)) with h | ⟨i, hi, h⟩
    · rw [h]
      rcases Nat.le_total b (x * sq % p) with hb | hb
      · exact Or.inl (Nat.min_eq_left hb)
      · exact Or.inr ⟨1, by omega, by rw [Nat.pow_one]; exact Nat.min_eq_right hb⟩
    · refine Or.inr ⟨i + 1, by omega, ?_⟩
      rw [h, mlx, Nat.mul_assoc, ← Nat.pow_succ']
/-- the least root of 1 of the order n -/
theorem least_root {p n j A e : Nat} (hp : Pr p) (hp3 : 3 ≤ p) (hn : n = 2 ^ (j + 1)) (he : e * (n / 2) = (p - 1) / 2) (hpm : p = 2 * ((p - 1) / 2) + 1) (hA2 : 2 ≤ A) (hmin : ∀ b, 2 ≤ b → b < A → b ^ ((p - 1) / 2) % p = 1) (hA : A ^ ((p - 1) / 2) % p ≠ 1)
    (r R : Nat) (hr : r = A ^ e % p) (hR : R = lr p (r * r % p) (n / 2 - 1) r r) :
    R ^ n % p = 1 ∧ R ^ (n / 2) % p ≠ 1 ∧ 1 ≤ R ∧ ∀ h, h < R → ¬ (h ^ n % p = 1 ∧ h ^ (n / 2) % p ≠ 1) := by
  have hn2 : n / 2 = 2 ^ j := by rw [hn, Nat.pow_succ, Nat.mul_div_cancel _ (by omega)]
  have hnn : n = 2 ^ j * 2 := by rw [hn, Nat.pow_succ]
  have hj : 1 ≤ 2 ^ j := Nat.one_le_two_pow
  have hAp : A < p := by
    obtain ⟨b, hb1, hb2, hb3⟩ := hp.non (m := (p - 1) / 2) (by omega) (by omega)
    by_cases h : A ≤ b
    · omega
    · exact absurd (hmin b hb1 (by omega)) hb3
  have hfer := hp.fermat (not_dvd_of_lt (show 0 < A by omega) hAp)
  have hsq : A ^ ((p - 1) / 2) * A ^ ((p - 1) / 2) % p = 1 * 1 % p := by
    rw [← Nat.pow_add, show (p - 1) / 2 + (p - 1) / 2 = p - 1 by omega, hfer, Nat.one_mul, Nat.mod_eq_of_lt (by omega)]
  have hneg : (A ^ ((p - 1) / 2) + 1) % p = 0 := by
    rcases hp.sq hsq with h | h
    · rw [Nat.mod_eq_of_lt (show 1 < p by omega)] at h
      exact absurd h hA
    · exact h
  have hrp : r < p := by rw [hr]; exact Nat.mod_lt _ (by omega)
  have hrj : r ^ 2 ^ j % p = A ^ ((p - 1) / 2) % p := by rw [hr, ← Nat.pow_mod, ← Nat.pow_mul, ← hn2, he]
  have hr1 : (r ^ 2 ^ j + 1) % p = 0 := by rw [Nat.add_mod, hrj, ← Nat.add_mod]; exact hneg
  have hrn : r ^ n % p = 1 := by
    rw [hnn, Nat.pow_mul, Nat.pow_two, Nat.mul_mod, hrj, ← Nat.mul_mod, hsq, Nat.one_mul, Nat.mod_eq_of_lt (by omega)]
  have hodd : ∀ i, r * (r * r % p) ^ i % p = r ^ (2 * i + 1) % p := by
    intro i
    rw [Nat.mul_mod, ← Nat.pow_mod, ← Nat.mul_mod, ← Nat.pow_two, ← Nat.pow_mul, ← Nat.pow_succ']
  have hmem : ∃ i, R = r ^ (2 * i + 1) % p := by
    rcases lr_mem p (r * r % p) (n / 2 - 1) r r with h | ⟨i, _, h⟩
    · exact ⟨0, by rw [hR, h]; simp [Nat.mod_eq_of_lt hrp]⟩
    · exact ⟨i, by rw [hR, h, hodd]⟩
  have hle : ∀ i, i < 2 ^ j → R ≤ r ^ (2 * i + 1) % p := by
    intro i hi
    obtain ⟨h1, h2⟩ := lr_le p (r * r % p) (n / 2 - 1) r r
    rw [hR]
    by_cases h0 : i = 0
    · subst h0
      simp [Nat.mod_eq_of_lt hrp]
      exact h1
    · have := h2 i (by omega) (by omega)
      rw [hodd] at this
      exact this
  obtain ⟨i, hi⟩ := hmem
  have hRh : R ^ (n / 2) % p ≠ 1 := by
    rw [hi, ← Nat.pow_mod, ← Nat.pow_mul, hn2]
    have e1 : r ^ ((2 * i + 1) * 2 ^ j) = (r ^ n) ^ i * r ^ 2 ^ j := by
      rw [← Nat.pow_mul, ← Nat.pow_add, hnn]
      congr 1
      grind
    rw [e1, Nat.mul_mod, pow_one_mod (by omega) _ i hrn, Nat.one_mul, Nat.mod_mod, hrj]
    exact hA
  refine ⟨?_, hRh, ?_, ?_⟩
  · rw [hi, ← Nat.pow_mod, ← Nat.pow_mul, Nat.mul_comm, Nat.pow_mul]
    exact pow_one_mod (by omega) _ _ hrn
  · rcases Nat.eq_zero_or_pos R with h0 | h0
    · exfalso
      have h1 : r ^ (2 * i + 1) % p = 0 := by rw [← hi]; exact h0
      have h2 : (r ^ (2 * i + 1)) ^ n % p = 0 := by
        rw [Nat.pow_mod, h1, Nat.zero_pow (by omega), Nat.zero_mod]
      rw [← Nat.pow_mul, Nat.mul_comm, Nat.pow_mul, pow_one_mod (by omega) _ _ hrn] at h2
      omega
    · exact h0
  · rintro h hlt ⟨h1, h2⟩
    obtain ⟨k, hk⟩ := hp.roots j r h hr1 (by rw [← hn]; exact h1)
    rcases Nat.mod_two_eq_zero_or_one k with hk2 | hk2
    · refine h2 ?_
      obtain ⟨s, rfl⟩ : ∃ s, k = 2 * s := ⟨k / 2, by omega⟩
      rw [Nat.pow_mod, hk, ← Nat.pow_mod, ← Nat.pow_mul, show 2 * s * (n / 2) = n * s by rw [hn2, hnn]; grind, Nat.pow_mul]
      exact pow_one_mod (by omega) _ _ hrn
    · obtain ⟨s, rfl⟩ : ∃ s, k = 2 * s + 1 := ⟨k / 2, by omega⟩
      have e1 : r ^ (2 * s + 1) % p = r ^ (2 * (s % 2 ^ j) + 1) % p := by
        have e2 := Nat.div_add_mod s (2 ^ j)
        have e3 : r ^ (2 * s + 1) = (r ^ n) ^ (s / 2 ^ j) * r ^ (2 * (s % 2 ^ j) + 1) := by
          rw [← Nat.pow_mul, ← Nat.pow_add, hnn]
          congr 1
          generalize s / 2 ^ j = a at *
          generalize s % 2 ^ j = b at *
          rw [← e2]
          grind
        rw [e3, Nat.mul_mod, pow_one_mod (by omega) _ _ hrn, Nat.one_mul, Nat.mod_mod]
      have h4 := hle (s % 2 ^ j) (Nat.mod_lt _ hj)
      rw [← e1, ← hk] at h4
      have := Nat.mod_le h p
      omega
end Go.Proofs.YtkggfljdbdfonaaGreatDoor.F1
/- Proved: both RingOf answer one and the same ring, whose root is of the full order where the modulus is a prime; and whether a ring is good is told alike. -/
namespace Go.Proofs.YtkggfljdbdfonaaGreatDoor
open Go.ChangeShapes Go.WideShapes Go.ChangeAt Go.RowKit
open M1
set_option linter.unusedVariables false
theorem ord_pow : ∀ n : Nat, n < 65 → 2 ≤ n → n &&& (n - 1) = 0 → ∃ j, j < 6 ∧ n = 2 ^ (j + 1) := by decide
theorem ordB_pow (n : Nat) (h : ordB (n : Int) = true) : ∃ j, n = 2 ^ (j + 1) := by
  obtain ⟨b1, b2, b3⟩ := ordB_yes n h
  simp only [ordB, Bool.and_eq_true, beq_iff_eq] at h
  have e : (n : Int) - 1 = ((n - 1 : Nat) : Int) := by omega
  rw [e, and_nat n (n - 1) (by omega) (by omega)] at h
  obtain ⟨j, _, hj⟩ := ord_pow n (by omega) b1 (by omega)
  exact ⟨j, hj⟩
/-- the n-th power is 1, the half power the opposite of 1 -/
structure Rt (p n R : Nat) : Prop where
  pos : 1 ≤ R
  one : R ^ n % p = 1
  neg : R ^ (n / 2) % p = p - 1
theorem neg_of {p n R : Nat} (hp : F1.Pr p) (hp3 : 3 ≤ p) (hn : n = 2 * (n / 2)) (h1 : R ^ n % p = 1) (h2 : R ^ (n / 2) % p ≠ 1) : R ^ (n / 2) % p = p - 1 := by
  have e : R ^ (n / 2) * R ^ (n / 2) % p = 1 * 1 % p := by
    rw [← Nat.pow_add, show n / 2 + n / 2 = n by omega, h1, Nat.mod_eq_of_lt (by omega)]
  rcases F1.Pr.sq hp e with h | h
  · rw [Nat.mod_eq_of_lt (show 1 < p by omega)] at h
    exact absurd h h2
  · have h3 := Nat.mod_lt (R ^ (n / 2)) (show 0 < p by omega)
    rw [Nat.add_mod, Nat.mod_eq_of_lt (show 1 < p by omega)] at h
    generalize R ^ (n / 2) % p = x at *
    by_cases hx : x + 1 < p
    · rw [Nat.mod_eq_of_lt hx] at h
      omega
    · omega
theorem Root_both (p n : Nat) (h : RootOk p n) : ∃ R : Nat, R < p ∧ (F1.Pr p → Rt p n R)
    ∧ (∀ W, PrsW W → TabW W → Calls Tryz.prog 186 #[.int .i64 p, .int .i64 n] W fun e w' => e = .returned (.tuple #[.int .i64 R, .bool true]) ∧ ∃ k, w' = W.drewN k)
    ∧ (∀ W, Calls Tryz.prog 172 #[.int .i64 p, .int .i64 n] W fun en w' => en = .returned (.int .i64 R) ∧ w' = W) := by
  obtain ⟨j, hj⟩ := ordB_pow n h.ord
  obtain ⟨b1, b2, b3⟩ := ordB_yes n h.ord
  obtain ⟨m1, m2⟩ := modB_yes h.md
  have hdv : (p - 1) % n = 0 := by
    have h1 := h.dv
    have e : (p : Int) - 1 = ((p - 1 : Nat) : Int) := by omega
    rw [e] at h1
    have h2 : (((p - 1) % n : Nat) : Int) = 0 := by rw [← h1]; simp
    omega
  have en := Nat.div_add_mod (p - 1) n
  rw [hdv, Nat.add_zero] at en
  have hp3 : 3 ≤ p := by
    rcases Nat.lt_or_ge p 3 with hlt | hge
    · exfalso
      have h2 : p = 2 := by omega
      rw [h2, Nat.mod_eq_of_lt (by omega)] at hdv
      omega
    · exact hge
  obtain ⟨hh, ehh⟩ : ∃ hh, hh = n / 2 := ⟨_, rfl⟩
  have hn2 : n = 2 * hh := by omega
  have em : (p - 1) / n * hh = (p - 1) / 2 := by
    have h1 : 2 * ((p - 1) / n * hh) = p - 1 := by
      rw [← en, hn2]
      have := en
      rw [hn2] at this
      rw [this, ← this]
      grind
    omega
  have hpm : p = 2 * ((p - 1) / 2) + 1 := by
    have h1 : 2 * ((p - 1) / n * hh) = p - 1 := by
      have := en
      rw [hn2] at this
      rw [hn2, ← this]
      have e3 : (2 * hh * ((p - 1) / (2 * hh))) / (2 * hh) = (p - 1) / (2 * hh) := Nat.mul_div_cancel_left _ (by omega)
      rw [e3]
      grind
    omega
  obtain ⟨A, hA2, hAp, hmin, hA⟩ := first_ex p ((p - 1) / 2) (by omega) (by omega)
  have hr := powM_lt (A % p) ((p - 1) / n) p (by omega)
  refine ⟨_, ?_, ?_, fun W h1 h2 => impl_RootOf_yes p n _ _ W h1 h2 h hr (fun W => impl_someRoot p n _ _ A W hp3 (by omega) rfl rfl (by omega) b2 hA2 hAp hmin hA) (fun W => impl_leastRoot _ p n W (by omega) (by omega) hr b1 b2),
    fun W => spec_leastRoot p n _ _ hh A W hp3 (by omega) hpm hn2 (by omega) b2 rfl em hA2 hAp hmin hA⟩
  · exact lr_lt p _ (by omega) _ _ _ hr
  · intro hPr
    have facts := F1.least_root (p := p) (n := n) (j := j) (A := A) (e := (p - 1) / n) hPr hp3 hj (by rw [← ehh]; exact em) hpm hA2 (fun b hb1 hb2 => by have := hmin b hb1 hb2; rwa [powM_mod] at this) (by rwa [powM_mod] at hA) (powM (A % p) ((p - 1) / n) p) _ (powM_mod _ _ _) rfl
    exact ⟨facts.2.2.1, facts.1, neg_of hPr hp3 (by omega) facts.1 facts.2.1⟩
theorem Ring_both (p n : Nat) (h : RingOk p n) : ∃ R : Nat, R < p ∧ (F1.Pr p → Rt p (2 * n) R)
    ∧ (∀ W, PrsW W → TabW W → Calls Tryz.prog 153 #[.int .i64 p, .int .i64 n] W fun e w' => e = .returned (.tuple #[.agg #[.int .i64 p, .int .i64 n, .int .i64 R], .bool true]) ∧ Old W w')
    ∧ (∀ W, Calls Tryz.prog 141 #[.int .i64 p, .int .i64 n] W fun e w' => e = .returned (.tuple #[.agg #[.int .i64 p, .int .i64 n, .int .i64 R], .bool true]) ∧ Old W w') := by
  obtain ⟨R, h1, h2, h3, h4⟩ := Root_both p (2 * n) (by have := h.root; exact_mod_cast this)
  have e : ((2 * n : Nat) : Int) = 2 * (n : Int) := by omega
  rw [e] at h3 h4
  exact ⟨R, h1, h2, fun W a b => impl_RingOf_yes p n R W a b h.sz h3, fun W => spec_RingOf_yes p n R W h h4⟩
end Go.Proofs.YtkggfljdbdfonaaGreatDoor
/- Proved: what is carried through a statement on lists: a ring's cells, rows of the call's own; and a ring's copy. -/
namespace Go.Proofs.YtkggfljdbdfonaaGreatDoor
open Go.ChangeShapes Go.WideShapes Go.ChangeAt Go.RowKit
set_option linter.unusedVariables false
theorem Own.by_ {w w' : World} {base : Nat} {v : Value} {xs : List Int} {ob : Option Nat} (h : Own w base v xs) (g : w.grownBy w' ob) (hne : ∀ a b, v.ownBlock = some a → ob = some b → a ≠ b) : Own w' base v xs := by
  refine World.ownsRow.kept h g ?_
  cases hv : v.ownBlock with
  | none => exact Or.inl rfl
  | some a =>
    refine Or.inr (fun e => ?_)
    exact hne a a hv e.symm rfl
theorem Old.by_ {a w w' : World} {ob : Option Nat} (h : Old a w) (g : w.grownBy w' ob) (hb : ∀ b, ob = some b → a.heap.size ≤ b) : Old a w' := Below.grown h g h.size hb
/-- a ring's three cells in a block -/
structure Rc (w : World) (b : Nat) (p n r : Int) : Prop where
  lt : b < w.heap.size
  c0 : w.cell? ⟨b, 0, none⟩ = some (.int .i64 p)
  c1 : w.cell? ⟨b, 1, none⟩ = some (.int .i64 n)
  c2 : w.cell? ⟨b, 2, none⟩ = some (.int .i64 r)
theorem Rc.new (w : World) (p n r : Int) {t : TypeId} : Rc (w.alloc (.cells #[.int .i64 p, .int .i64 n, .int .i64 r] t)) w.heap.size p n r :=
  ⟨by simp, cell_at _ _ _ _ _ rfl, cell_at _ _ _ _ _ rfl, cell_at _ _ _ _ _ rfl⟩
theorem Rc.old {w w' : World} {b : Nat} {p n r : Int} (h : Rc w b p n r) (g : Old w w') : Rc w' b p n r :=
  ⟨Nat.lt_of_lt_of_le h.lt g.size, (g.cell (p := ⟨b, 0, none⟩) h.lt).trans h.c0, (g.cell (p := ⟨b, 1, none⟩) h.lt).trans h.c1, (g.cell (p := ⟨b, 2, none⟩) h.lt).trans h.c2⟩
theorem Rc.by_ {w w' : World} {b : Nat} {p n r : Int} {ob : Option Nat} (h : Rc w b p n r) (g : w.grownBy w' ob) (hne : ∀ k, ob = some k → k ≠ b) : Rc w' b p n r := by
  have hb := g.block b h.lt (fun e => hne b e.symm rfl)
  exact ⟨Nat.lt_of_lt_of_le h.lt g.size, (World.cell?_of_block (w := w) (a := ⟨b, 0, none⟩) hb).trans h.c0, (World.cell?_of_block (w := w) (a := ⟨b, 1, none⟩) hb).trans h.c1, (World.cell?_of_block (w := w) (a := ⟨b, 2, none⟩) hb).trans h.c2⟩
end Go.Proofs.YtkggfljdbdfonaaGreatDoor
/- Proved: contracts of BitBack and of the model's l3Back: a number's bits from the last to the first; 0 where an argument is out of its bounds. -/
namespace Go.Proofs.YtkggfljdbdfonaaGreatDoor
open Go.ChangeShapes Go.WideShapes Go.ChangeAt Go.RowKit
set_option linter.unusedVariables false
theorem vEq {a b : Int} (h : a = b) : Value.int .i64 a = Value.int .i64 b := by rw [h]
def backN : Nat → Nat → Nat → Nat
  | 0, _, o => o
  | s + 1, k, o => backN s (k / 2) (2 * o + k % 2)
theorem pow_le10 {i : Nat} (h : i ≤ 10) : 2 ^ i ≤ 1024 := Nat.pow_le_pow_right (n := 2) (by omega) h
theorem back_spec (k b : Nat) (w : World) (hb : b ≤ 10) (hk : k < 1024) :
    Calls Tryz.prog 174 #[.int .i64 k, .int .i64 b] w fun e w' => e = .returned (.int .i64 (backN b k 0)) ∧ w' = w := by
  obtain ⟨R, hR⟩ : ∃ R, backN b k 0 = R := ⟨_, rfl⟩
  rw [hR]
  have H0 : Hid (backN b k 0 = R) := hR
  clear hR
  have HO : Hid (0 < 2 ^ (b - b)) := Nat.pow_pos (by omega)
  go_enter Tryz.func174, Tryz.ntmps174
  go_wp2_with fail
  go_loop [0, 1, 5] (fun x y o => ∃ k' b' o' : Nat, b' ≤ b ∧ k' < 1024 ∧ Hid (o' < 2 ^ (b - b')) ∧ Hid (backN b' k' o' = R) ∧ x = .int .i64 k' ∧ y = .int .i64 b' ∧ o = .int .i64 o') (fun _ y _ => (intOf y).toNat)
  case atStart => exact ⟨k, b, 0, Nat.le_refl _, hk, HO, H0, rfl, rfl, rfl⟩
  case round =>
    obtain ⟨k', b', o', hb', hk', HO', H1, rfl, rfl, rfl⟩ := hrel
    clear H0 HO
    have ho : o' ≤ 1024 := Nat.le_trans (Nat.le_of_lt HO'.out) (pow_le10 (by omega))
    by_cases hz : b' = 0
    · have hd : decide ((0 : Int) < (b' : Int)) = false := by simp; omega
      have H2 : Hid (o' = R) := by
        have := H1.out
        rw [hz] at this
        exact this
      have hz' : ¬ 0 < b' := by omega
      clear hz
      go_wp2_with fail
      go_ret
      exact ⟨by rw [← H2.out]; rfl, rfl⟩
    · have hd : decide ((0 : Int) < (b' : Int)) = true := by simp; omega
      have H2 : Hid (backN (b' - 1) (k' / 2) (2 * o' + k' % 2) = R) := by
        have := H1.out
        rw [show b' = (b' - 1) + 1 by omega] at this
        exact this
      have H3 : Hid (2 * o' + k' % 2 < 2 ^ (b - (b' - 1))) := by
        have := HO'.out
        rw [show b - (b' - 1) = (b - b') + 1 by omega, Nat.pow_succ]
        show _ < _
        omega
      clear H1 HO'
      go_wp2_with fail
      exact ⟨⟨k' / 2, b' - 1, 2 * o' + k' % 2, by omega, by omega, H3, H2, vEq (by omega), vEq (by omega), vEq (by omega)⟩, by simp [intOf]; omega⟩
def resB (x p : Int) : Bool := decide (0 ≤ x) && decide (x < p)
theorem residue_any (x p : Int) (w : World) : Calls Tryz.prog 187 #[.int .i64 x, .int .i64 p] w fun e w' => e = .returned (.bool (resB x p)) ∧ w' = w := by
  by_cases h : 0 ≤ x
  · have hd : decide (x ≥ 0) = true := by simp; omega
    have hd2 : decide (0 ≤ x) = true := by simp; omega
    go_enter Tryz.func187, Tryz.ntmps187
    go_wp2_with fail
    go_ret
    exact ⟨by simp [resB, hd2], rfl⟩
  · have hd : decide (x ≥ 0) = false := by simp; omega
    have hd2 : decide (0 ≤ x) = false := by simp; omega
    go_enter Tryz.func187, Tryz.ntmps187
    go_wp2_with fail
    go_ret
    exact ⟨by simp [resB, hd2], rfl⟩
theorem wrap_pow (b : Nat) (hb : b ≤ 10) : wrap64 (2 ^ b) = ((2 ^ b : Nat) : Int) := by
  have h := pow_le10 hb
  have e : (2 : Int) ^ b = ((2 ^ b : Nat) : Int) := by simp
  rw [e]
  generalize 2 ^ b = M at *
  simp only [wrap64]
  omega
theorem back_impl_yes (k b : Nat) (w : World) (hb : b ≤ 10) (hk : k < 2 ^ b) :
    Calls Tryz.prog 179 #[.int .i64 k, .int .i64 b] w fun e w' => e = .returned (.int .i64 (backN b k 0)) ∧ w' = w := by
  obtain ⟨R, hR⟩ : ∃ R, backN b k 0 = R := ⟨_, rfl⟩
  rw [hR]
  have H0 : Hid (backN (b - 0) k 0 = R) := hR
  clear hR
  have HO : Hid (0 < 2 ^ 0) := Nat.pow_pos (by omega)
  have hk1 : k < 1024 := Nat.lt_of_lt_of_le hk (pow_le10 hb)
  have hw : wrap64 (2 ^ b) = ((2 ^ b : Nat) : Int) := wrap_pow b hb
  have c := fun W => residue_any k (wrap64 (2 ^ b)) W
  have e : resB k (wrap64 (2 ^ b)) = true := by
    rw [hw]
    simp only [resB, Bool.and_eq_true, decide_eq_true_eq]
    exact ⟨by omega, by exact_mod_cast hk⟩
  rw [e] at c
  clear e hw hk
  go_enter Tryz.func179, Tryz.ntmps179
  go_wp2_with fail
  refine (c _).mono ?_
  rintro e w' ⟨rfl, rfl⟩
  go_wp2_with fail
  go_loop [0, 5, 21] (fun x o i => ∃ k' o' i' : Nat, i' ≤ b ∧ k' < 1024 ∧ Hid (o' < 2 ^ i') ∧ Hid (backN (b - i') k' o' = R) ∧ x = .int .i64 k' ∧ o = .int .i64 o' ∧ i = .int .i64 i') (fun _ _ i => b - (intOf i).toNat)
  case atStart => exact ⟨k, 0, 0, by omega, hk1, HO, H0, rfl, rfl, rfl⟩
  case round =>
    obtain ⟨k', o', i', hi', hk', HO', H1, rfl, rfl, rfl⟩ := hrel
    clear H0 HO
    have ho : o' ≤ 1024 := Nat.le_trans (Nat.le_of_lt HO'.out) (pow_le10 (by omega))
    by_cases hz : i' < b
    · have hd : decide ((i' : Int) < (b : Int)) = true := by simp; omega
      have H2 : Hid (backN (b - (i' + 1)) (k' / 2) (2 * o' + k' % 2) = R) := by
        have := H1.out
        rw [show b - i' = (b - (i' + 1)) + 1 by omega] at this
        exact this
      have H3 : Hid (2 * o' + k' % 2 < 2 ^ (i' + 1)) := by
        have := HO'.out
        rw [Nat.pow_succ]
        show _ < _
        omega
      clear H1 HO'
      go_wp2_with fail
      exact ⟨⟨k' / 2, 2 * o' + k' % 2, i' + 1, by omega, by omega, H3, H2, vEq (by omega), vEq (by omega), by go_num⟩, by simp [intOf]; omega⟩
    · have hd : decide ((i' : Int) < (b : Int)) = false := by simp; omega
      have H2 : Hid (o' = R) := by
        have := H1.out
        rw [show b - i' = 0 by omega] at this
        exact this
      go_wp2_with fail
      go_ret
      exact ⟨by rw [← H2.out]; rfl, rfl⟩
end Go.Proofs.YtkggfljdbdfonaaGreatDoor
