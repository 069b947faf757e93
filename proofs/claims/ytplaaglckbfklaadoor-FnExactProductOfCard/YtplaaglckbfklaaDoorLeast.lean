/- Proved: contracts of the search for a root and of the least root, of the program and of the model: both tell the least of the odd powers of one root. -/
import Derived.Test.YtplaaglckbfklaaDoorRows
import Derived.WalkKit
import Derived.ProofKit
import Derived.OpenShut
import Derived.Handy
import Derived.WalkSmall
import Derived.WalkLawsBesides
import Derived.Test.YtplaaglckbfklaaDoorRoots
import Derived.Test.YtplaaglckbfklaaDoorBoth
namespace Go.Proofs.YtplaaglckbfklaaDoor
open Go.ChangeShapes Go.WideShapes Go.ChangeAt Go.RowKit
open M1
set_option linter.unusedVariables false
theorem powM_mod (a e p : Nat) : powM (a % p) e p = a ^ e % p := by unfold powM; rw [← Nat.pow_mod]
theorem powM_two (a e h p : Nat) (hp : 0 < p) : powM (powM (a % p) e p % p) h p = powM (a % p) (e * h) p := by
  rw [powM_mod, powM_mod, powM_mod, ← Nat.pow_mod, Nat.pow_mul]
/-- the first a from 2 on whose power is not 1 -/
theorem first_ex (p m : Nat) (hp : 2 ≤ p) (hm : 1 ≤ m) : ∃ A, 2 ≤ A ∧ A ≤ p ∧ (∀ b, 2 ≤ b → b < A → powM (b % p) m p = 1) ∧ powM (A % p) m p ≠ 1 := by
  have key : ∀ k, (∃ A, 2 ≤ A ∧ A ≤ p ∧ (∀ b, 2 ≤ b → b < A → powM (b % p) m p = 1) ∧ powM (A % p) m p ≠ 1) ∨ (∀ b, 2 ≤ b → b < 2 + k → b ≤ p → powM (b % p) m p = 1) := by
    intro k
    induction k with
    | zero => right; intro b h1 h2; omega
    | succ k ih =>
      rcases ih with h | h
      · exact Or.inl h
      · by_cases hk : 2 + k ≤ p
        · by_cases h1 : powM ((2 + k) % p) m p = 1
          · right
            intro b hb1 hb2 hb3
            by_cases e : b = 2 + k
            · rw [e]; exact h1
            · exact h b hb1 (by omega) hb3
          · left
            exact ⟨2 + k, by omega, hk, fun b hb1 hb2 => h b hb1 hb2 (by omega), h1⟩
        · right
          intro b hb1 hb2 hb3
          exact h b hb1 (by omega) hb3
  rcases key p with h | h
  · exact h
  · exfalso
    have := h p hp (by omega) (Nat.le_refl p)
    rw [powM_mod] at this
    have e : p ^ m % p = 0 := Nat.mod_eq_zero_of_dvd (Nat.dvd_trans (by rw [Nat.pow_one]; exact Nat.dvd_refl p : p ∣ p ^ 1) (Nat.pow_dvd_pow p hm))
    omega
set_option maxHeartbeats 1000000 in
theorem impl_someRoot (p n m e A : Nat) (w : World) (hp3 : 3 ≤ p) (hp : p ≤ 268435456) (hm : (p - 1) / 2 = m) (he : (p - 1) / n = e) (hn : 1 ≤ n) (hn' : n ≤ 64) (hA2 : 2 ≤ A) (hAp : A ≤ p)
    (hmin : ∀ b, 2 ≤ b → b < A → powM (b % p) m p = 1) (hA : powM (A % p) m p ≠ 1) :
    Calls Tryd.prog 213 #[.int .i64 p, .int .i64 n] w fun en w' => en = .returned (.int .i64 (powM (A % p) e p)) ∧ ∃ k, w' = w.drewN k := by
  have HM : Hid (∀ b, 2 ≤ b → b < A → powM (b % p) m p = 1) := hmin
  clear hmin
  have hmb : m ≤ p := by omega
  have heb : e ≤ p := by have := Nat.div_le_self (p - 1) n; omega
  have c : ∀ (a x : Nat) (W : World), a ≤ p → x ≤ p → Calls Tryd.prog 222 #[.int .i64 a, .int .i64 x, .int .i64 p] W fun en w' => en = .returned (.int .i64 (powM (a % p) x p : Nat)) ∧ ∃ k, w' = W.drewN k := by
    intro a x W ha hx
    have h := impl_PowMod_yes (a : Int) (x : Int) (p : Int) W ⟨by omega, by omega⟩ ⟨by omega, by omega⟩ (by simp [powB]; omega)
    rw [← Int.natCast_emod, Int.toNat_natCast, Int.toNat_natCast, Int.toNat_natCast] at h
    exact h
  have r1 : ((p : Int) - 1) / 2 = (m : Int) := by omega
  have r2 : ((p : Int) - 1) / (n : Int) = (e : Int) := by
    rw [← he]
    have : ((p - 1 : Nat) : Int) = (p : Int) - 1 := by omega
    rw [← this]
    simp
  clear hm he
  have hnn : ¬ n = 0 := by omega
  have cA := fun W => c A m W (by omega) hmb
  have cE := fun W => c A e W (by omega) heb
  have HA : ((powM (A % p) m p : Int) == 1) = false := by simp; omega
  generalize powM (A % p) m p = x1 at *
  generalize powM (A % p) e p = x2 at *
  have cH : Hid (∀ (a x : Nat) (W : World), a ≤ p → x ≤ p → Calls Tryd.prog 222 #[.int .i64 a, .int .i64 x, .int .i64 p] W fun en w' => en = .returned (.int .i64 (powM (a % p) x p : Nat)) ∧ ∃ k, w' = W.drewN k) := c
  clear c hA
  go_enter Tryd.func213, Tryd.ntmps213
  go_wp2_with fail
  go_loopw [5] (fun a W => ∃ a' k : Nat, 2 ≤ a' ∧ a' ≤ A ∧ a = .int .i64 a' ∧ W = w.drewN k) (fun a _ => A - (intOf a).toNat)
  case atStart => exact ⟨2, 0, by omega, hA2, rfl, rfl⟩
  case round =>
    obtain ⟨a, k, ha2, haA, rfl, rfl⟩ := hrel
    by_cases hlt : a < A
    · have c1 := fun W => cH.out a m W (by omega) hmb
      rw [HM.out a ha2 hlt] at c1
      clear cA cE
      go_wp2_with fail
      refine (c1 _).mono ?_
      rintro en w1 ⟨rfl, k1, rfl⟩
      go_wp2_with fail
      go_roundw
      case rel => exact ⟨a + 1, _, by omega, by omega, by go_num, rfl⟩
      case measure => simp [intOf]; omega
    · obtain rfl : a = A := by omega
      go_wp2_with fail
      refine (cA _).mono ?_
      rintro en w1 ⟨rfl, k1, rfl⟩
      go_wp2_with fail
      refine (cE _).mono ?_
      rintro en w1 ⟨rfl, k2, rfl⟩
      go_wp2_with fail
      go_ret
      exact ⟨rfl, _, rfl⟩
theorem prod_bd (p x y : Nat) (hp : p ≤ 268435456) (hx : x < p) (hy : y < p) : (x : Int) * (y : Int) = ((x * y : Nat) : Int) ∧ x * y ≤ 72057594037927936 := by
  refine ⟨by simp, ?_⟩
  have := Nat.mul_le_mul (show x ≤ 268435456 by omega) (show y ≤ 268435456 by omega)
  omega
set_option maxHeartbeats 1000000 in
theorem impl_leastRoot (r p n : Nat) (w : World) (hp2 : 2 ≤ p) (hp : p ≤ 268435456) (hr : r < p) (hn : 2 ≤ n) (hn' : n ≤ 64) :
    Calls Tryd.prog 212 #[.int .i64 r, .int .i64 p, .int .i64 n] w fun en w' => en = .returned (.int .i64 (lr p (r * r % p) (n / 2 - 1) r r)) ∧ w' = w := by
  obtain ⟨s1, s2⟩ := prod_bd p r r hp hr hr
  have hsq : r * r % p < p := Nat.mod_lt _ (by omega)
  have z1 : 0 ≤ (r : Int) * (r : Int) := by omega
  have z2 : (r : Int) * (r : Int) ≤ 72057594037927936 := by omega
  have q1 : (r : Int) * (r : Int) % (p : Int) = ((r * r % p : Nat) : Int) := by rw [s1]; simp
  clear s1 s2
  generalize r * r % p = sq at *
  obtain ⟨R, hR⟩ : ∃ R, lr p sq (n / 2 - 1) r r = R := ⟨_, rfl⟩
  rw [hR]
  have H0 : Hid (lr p sq (n / 2 - 1 - 0) r r = R) := hR
  clear hR
  have hpn : ¬ p = 0 := by omega
  go_enter Tryd.func212, Tryd.ntmps212
  go_wp2_with fail
  rw [q1]
  go_loop [0, 8, 18] (fun x b i => ∃ x' b' i' : Nat, x' < p ∧ b' < p ∧ i' ≤ n / 2 - 1 ∧ Hid (lr p sq (n / 2 - 1 - i') x' b' = R) ∧ x = .int .i64 x' ∧ b = .int .i64 b' ∧ i = .int .i64 i') (fun _ _ i => n / 2 - 1 - (intOf i).toNat)
  case atStart => exact ⟨r, r, 0, hr, hr, by omega, H0, rfl, rfl, rfl⟩
  case round =>
    obtain ⟨x, b, i, hx, hb, hi, H1, rfl, rfl, rfl⟩ := hrel
    clear H0 z1 z2 q1
    by_cases hlt : i < n / 2 - 1
    · have hd : decide ((i : Int) < (n : Int) / 2 - 1) = true := by simp; omega
      obtain ⟨t1, t2⟩ := prod_bd p x sq hp hx hsq
      have y1 : 0 ≤ (x : Int) * (sq : Int) := by omega
      have y2 : (x : Int) * (sq : Int) ≤ 72057594037927936 := by omega
      have q2 : (x : Int) * (sq : Int) % (p : Int) = ((x * sq % p : Nat) : Int) := by rw [t1]; simp
      have hxs : x * sq % p < p := Nat.mod_lt _ (by omega)
      have H2 : Hid (lr p sq (n / 2 - 1 - (i + 1)) (x * sq % p) (min b (x * sq % p)) = R) := by
        have := H1.out
        rw [show n / 2 - 1 - i = (n / 2 - 1 - (i + 1)) + 1 by omega] at this
        exact this
      clear t1 t2 H1
      generalize x * sq % p = xs at *
      have hmin : min b xs < p := by omega
      go_wp2_with fail
      exact ⟨⟨xs, min b xs, i + 1, hxs, hmin, by omega, H2, val_eq q2, val_eq (by omega), by go_num⟩, by simp [intOf]; omega⟩
    · have hd : decide ((i : Int) < (n : Int) / 2 - 1) = false := by simp; omega
      obtain rfl : i = n / 2 - 1 := by omega
      have HB : Hid (b = R) := by
        have := H1.out
        rw [Nat.sub_self] at this
        exact this
      clear H1
      go_wp2_with fail
      go_ret
      exact ⟨by rw [← HB.out]; rfl, rfl⟩
set_option maxHeartbeats 2000000 in
theorem spec_leastRoot (p n m e h A : Nat) (w : World) (hp3 : 3 ≤ p) (hp : p ≤ 268435456) (hpm : p = 2 * m + 1) (hn : n = 2 * h) (hh : 1 ≤ h) (hn' : n ≤ 64) (he : (p - 1) / n = e) (hem : e * h = m) (hA2 : 2 ≤ A) (hAp : A ≤ p)
    (hmin : ∀ b, 2 ≤ b → b < A → powM (b % p) m p = 1) (hA : powM (A % p) m p ≠ 1) :
    Calls Tryd.prog 195 #[.int .i64 p, .int .i64 n] w fun en w' => en = .returned (.int .i64 (lr p (powM (A % p) e p * powM (A % p) e p % p) (n / 2 - 1) (powM (A % p) e p) (powM (A % p) e p))) ∧ w' = w := by
  have hr := powM_lt (A % p) e p (by omega)
  have hz : powM (A % p) e p = 0 → A = p := by
    intro h0
    rcases Nat.lt_or_ge A p with hlt | hge
    · exfalso
      rw [powM_mod] at h0
      refine no_zero A p m e hpm hA2 hlt ?_ h0
      by_cases h3 : A = 2
      · rw [h3, show 2 - 1 = 1 from rfl, Nat.one_pow]; exact Nat.mod_eq_of_lt (by omega)
      · have := hmin (A - 1) (by omega) (by omega)
        rw [powM_mod] at this
        exact this
    · omega
  have heb : e ≤ p := by have := Nat.div_le_self (p - 1) n; omega
  have cl : ∀ (a x : Nat) (W : World), a ≤ p → x ≤ p → Calls Tryd.prog 165 #[.int .i64 a, .int .i64 x, .int .i64 p] W fun en w' => en = .returned (.int .i64 (powM (a % p) x p : Nat)) ∧ w' = W := by
    intro a x W ha hx
    have h := spec_pow (a : Int) (x : Int) (p : Int) W ⟨by omega, by omega⟩ ⟨by omega, by omega⟩ ⟨by omega, by omega⟩
    rw [← Int.natCast_emod, Int.toNat_natCast, Int.toNat_natCast, Int.toNat_natCast] at h
    exact h
  have hcomp : ∀ g : Nat, powM (powM (g % p) e p % p) h p = powM (g % p) m p := by
    intro g; rw [powM_two g e h p (by omega), hem]
  have r2 : ((p : Int) - 1) / (n : Int) = (e : Int) := by
    rw [← he]
    have : ((p - 1 : Nat) : Int) = (p : Int) - 1 := by omega
    rw [← this]
    simp
  have r3 : (n : Int) / 2 = (h : Int) := by omega
  have hnn : ¬ n = 0 := by omega
  have HL : Hid (∀ (a x : Nat) (W : World), a ≤ p → x ≤ p → Calls Tryd.prog 165 #[.int .i64 a, .int .i64 x, .int .i64 p] W fun en w' => en = .returned (.int .i64 (powM (a % p) x p : Nat)) ∧ w' = W) := cl
  have HC : Hid (∀ g : Nat, powM (powM (g % p) e p % p) h p = powM (g % p) m p) := hcomp
  have HM : Hid (∀ b, 2 ≤ b → b < A → powM (b % p) m p = 1) := hmin
  have HA : Hid (powM (A % p) m p ≠ 1) := hA
  have HE : Hid (powM (A % p) e p = powM (A % p) e p) := rfl
  clear cl hcomp hmin hA
  have hhb : h ≤ p ∨ p < h := by omega
  obtain ⟨r, hrr⟩ : ∃ r, powM (A % p) e p = r := ⟨_, rfl⟩
  rw [hrr] at hr hz
  rw [hrr]
  have HRR : Hid (powM (A % p) e p = r) := hrr
  clear hrr HE
  have hpn : ¬ p = 0 := by omega
  have hhp : h ≤ p := by
    have h1 : e * n ≤ p - 1 := by rw [← he]; exact Nat.div_mul_le_self _ _
    have h2 : 1 ≤ e := by
      rcases Nat.eq_zero_or_pos e with h0 | h0
      · exfalso; rw [h0] at hem; omega
      · exact h0
    have h3 : 1 * n ≤ e * n := Nat.mul_le_mul_right _ h2
    omega
  have hn1 : n ≤ 2 * h := by omega
  have hn2 : 2 * h ≤ n := by omega
  obtain ⟨sq, hsq⟩ : ∃ sq, r * r % p = sq := ⟨_, rfl⟩
  rw [hsq]
  have HSQ : Hid (sq = r * r % p) := hsq.symm
  obtain ⟨R, hR⟩ : ∃ R, lr p sq (n / 2 - 1) r r = R := ⟨_, rfl⟩
  rw [hR]
  have HR0 : Hid (lrS p sq (h - 0) r r = R) := by
    show _ = _
    rw [Nat.sub_zero, show h = (h - 1) + 1 by omega, lrS_lr, Nat.min_self, ← hR, show n / 2 - 1 = h - 1 by omega]
  clear hem he hn hpm hhb hsq hR
  go_enter Tryd.func195, Tryd.ntmps195
  go_wp2_with fail
  go_loopw [5, 6] (fun o g W => ∃ o' g' : Nat, 2 ≤ g' ∧ ((g' ≤ A ∧ o' = 0) ∨ (g' = A + 1 ∧ r = o')) ∧ o = .int .i64 o' ∧ g = .int .i64 g' ∧ W = w) (fun _ g _ => A + 1 - (intOf g).toNat)
  case atStart => exact ⟨0, 2, by omega, Or.inl ⟨hA2, rfl⟩, rfl, rfl, rfl⟩
  case round =>
    obtain ⟨o, g, hg2, hph, rfl, rfl, rfl⟩ := hrel
    rcases hph with ⟨hgA, rfl⟩ | ⟨rfl, rfl⟩
    · have hd : decide ((g : Int) ≤ (p : Int)) = true := by simp; omega
      have c1 := fun W => HL.out g e W (by omega) heb
      have hx := powM_lt (g % p) e p (by omega)
      have c2 := fun W => HL.out (powM (g % p) e p) h W (by omega) hhp
      have hcg := HC.out g
      rw [hcg] at c2
      by_cases hlt : g < A
      · rw [HM.out g hg2 hlt] at c2
        generalize powM (g % p) e p = x at *
        clear hcg
        go_wp2_with fail
        refine (c1 _).mono ?_
        rintro en w1 ⟨rfl, rfl⟩
        go_wp2_with fail
        refine (c2 _).mono ?_
        rintro en w1 ⟨rfl, rfl⟩
        go_wp2_with fail
        go_roundw
        case rel => exact ⟨0, g + 1, by omega, Or.inl ⟨by omega, rfl⟩, rfl, by go_num, True.intro⟩
        case measure => simp [intOf]; omega
      · obtain rfl : g = A := by omega
        have hne : ((powM (g % p) m p : Int) != 1) = true := by have := HA.out; simp; omega
        rw [HRR.out] at c1 c2
        generalize powM (g % p) m p = y at *
        clear hcg hx
        go_wp2_with fail
        refine (c1 _).mono ?_
        rintro en w1 ⟨rfl, rfl⟩
        go_wp2_with fail
        refine (c2 _).mono ?_
        rintro en w1 ⟨rfl, rfl⟩
        go_wp2_with fail
        go_roundw
        case rel => exact ⟨r, g + 1, by omega, Or.inr ⟨rfl, rfl⟩, rfl, by go_num, True.intro⟩
        case measure => simp [intOf]
    · by_cases hAlt : A < p
      · have hd : decide (((A + 1 : Nat) : Int) ≤ (p : Int)) = true := by simp; omega
        have hrne : ¬ r = 0 := fun h0 => by have := hz h0; omega
        have hr0 : ((r : Int) == 0) = false := by simp; omega
        clear hz
        go_wp2_with fail
        go_loop [8, 9, 10] (fun b x k => ∃ b' x' i' : Nat, b' < p ∧ x' < p ∧ i' ≤ h ∧ Hid (lrS p sq (h - i') x' b' = R) ∧ b = .int .i64 b' ∧ x = .int .i64 x' ∧ k = .int .i64 (1 + 2 * i' : Nat)) (fun _ _ k => 200 - (intOf k).toNat)
        case atStart => exact ⟨r, r, 0, hr, hr, by omega, HR0, rfl, rfl, rfl⟩
        case round =>
          obtain ⟨b, x, i, hb, hx, hi, H1, rfl, rfl, rfl⟩ := hrel
          clear HR0
          by_cases hlt : i < h
          · have hk : decide (((1 + 2 * i : Nat) : Int) < (n : Int)) = true := by simp; omega
            obtain ⟨t1, t2⟩ := prod_bd p x r hp hx hr
            have y1 : 0 ≤ (x : Int) * (r : Int) := by omega
            have y2 : (x : Int) * (r : Int) ≤ 72057594037927936 := by omega
            have q2 : (x : Int) * (r : Int) % (p : Int) = ((x * r % p : Nat) : Int) := by rw [t1]; simp
            have hxr : x * r % p < p := Nat.mod_lt _ (by omega)
            have hsame : x * r % p * r % p = x * sq % p := by rw [HSQ.out, ml, mrr, Nat.mul_assoc]
            have H2 : Hid (lrS p sq (h - (i + 1)) (x * sq % p) (min b x) = R) := by
              have := H1.out
              rw [show h - i = (h - (i + 1)) + 1 by omega] at this
              exact this
            rw [← hsame] at H2
            clear t1 t2 H1 hsame
            generalize x * r % p = xr at *
            obtain ⟨t1, t2⟩ := prod_bd p xr r hp hxr hr
            have y3 : 0 ≤ (xr : Int) * (r : Int) := by omega
            have y4 : (xr : Int) * (r : Int) ≤ 72057594037927936 := by omega
            have q3 : (xr : Int) * (r : Int) % (p : Int) = ((xr * r % p : Nat) : Int) := by rw [t1]; simp
            have hxx : xr * r % p < p := Nat.mod_lt _ (by omega)
            clear t1 t2
            generalize xr * r % p = xx at *
            have Q2 : Hid ((x : Int) * (r : Int) % (p : Int) = (xr : Int)) := q2
            have Q3 : Hid ((xr : Int) * (r : Int) % (p : Int) = (xx : Int)) := q3
            by_cases hc : x < b
            · have hd2 : decide ((x : Int) < (b : Int)) = true := by simp; omega
              have hmn : min b x = x := by omega
              rw [hmn] at H2
              clear hmn
              go_wp2_with fail
              exact ⟨⟨x, xx, i + 1, hx, hxx, by omega, H2, rfl, val_eq (by first | exact Q3.out | (rw [Q2.out]; exact Q3.out)), val_eq (by omega)⟩, by simp [intOf]; omega⟩
            · have hd2 : decide ((x : Int) < (b : Int)) = false := by simp; omega
              have hmn : min b x = b := by omega
              rw [hmn] at H2
              clear hmn
              go_wp2_with fail
              exact ⟨⟨b, xx, i + 1, hb, hxx, by omega, H2, rfl, val_eq (by first | exact Q3.out | (rw [Q2.out]; exact Q3.out)), val_eq (by omega)⟩, by simp [intOf]; omega⟩
          · have hk : decide (((1 + 2 * i : Nat) : Int) < (n : Int)) = false := by simp; omega
            obtain rfl : i = h := by omega
            have HB : Hid (b = R) := by
              have := H1.out
              rw [Nat.sub_self] at this
              exact this
            clear H1
            go_wp2_with fail
            go_ret
            exact ⟨by rw [← HB.out]; rfl, rfl⟩
      · have hd : decide (((A + 1 : Nat) : Int) ≤ (p : Int)) = false := by simp; omega
        clear hz
        go_wp2_with fail
        go_loop [8, 9, 10] (fun b x k => ∃ b' x' i' : Nat, b' < p ∧ x' < p ∧ i' ≤ h ∧ Hid (lrS p sq (h - i') x' b' = R) ∧ b = .int .i64 b' ∧ x = .int .i64 x' ∧ k = .int .i64 (1 + 2 * i' : Nat)) (fun _ _ k => 200 - (intOf k).toNat)
        case atStart => exact ⟨r, r, 0, hr, hr, by omega, HR0, rfl, rfl, rfl⟩
        case round =>
          obtain ⟨b, x, i, hb, hx, hi, H1, rfl, rfl, rfl⟩ := hrel
          clear HR0
          by_cases hlt : i < h
          · have hk : decide (((1 + 2 * i : Nat) : Int) < (n : Int)) = true := by simp; omega
            obtain ⟨t1, t2⟩ := prod_bd p x r hp hx hr
            have y1 : 0 ≤ (x : Int) * (r : Int) := by omega
            have y2 : (x : Int) * (r : Int) ≤ 72057594037927936 := by omega
            have q2 : (x : Int) * (r : Int) % (p : Int) = ((x * r % p : Nat) : Int) := by rw [t1]; simp
            have hxr : x * r % p < p := Nat.mod_lt _ (by omega)
            have hsame : x * r % p * r % p = x * sq % p := by rw [HSQ.out, ml, mrr, Nat.mul_assoc]
            have H2 : Hid (lrS p sq (h - (i + 1)) (x * sq % p) (min b x) = R) := by
              have := H1.out
              rw [show h - i = (h - (i + 1)) + 1 by omega] at this
              exact this
            rw [← hsame] at H2
            clear t1 t2 H1 hsame
            generalize x * r % p = xr at *
            obtain ⟨t1, t2⟩ := prod_bd p xr r hp hxr hr
            have y3 : 0 ≤ (xr : Int) * (r : Int) := by omega
            have y4 : (xr : Int) * (r : Int) ≤ 72057594037927936 := by omega
            have q3 : (xr : Int) * (r : Int) % (p : Int) = ((xr * r % p : Nat) : Int) := by rw [t1]; simp
            have hxx : xr * r % p < p := Nat.mod_lt _ (by omega)
            clear t1 t2
            generalize xr * r % p = xx at *
            have Q2 : Hid ((x : Int) * (r : Int) % (p : Int) = (xr : Int)) := q2
            have Q3 : Hid ((xr : Int) * (r : Int) % (p : Int) = (xx : Int)) := q3
            by_cases hc : x < b
            · have hd2 : decide ((x : Int) < (b : Int)) = true := by simp; omega
              have hmn : min b x = x := by omega
              rw [hmn] at H2
              clear hmn
              go_wp2_with fail
              exact ⟨⟨x, xx, i + 1, hx, hxx, by omega, H2, rfl, val_eq (by first | exact Q3.out | (rw [Q2.out]; exact Q3.out)), val_eq (by omega)⟩, by simp [intOf]; omega⟩
            · have hd2 : decide ((x : Int) < (b : Int)) = false := by simp; omega
              have hmn : min b x = b := by omega
              rw [hmn] at H2
              clear hmn
              go_wp2_with fail
              exact ⟨⟨b, xx, i + 1, hb, hxx, by omega, H2, rfl, val_eq (by first | exact Q3.out | (rw [Q2.out]; exact Q3.out)), val_eq (by omega)⟩, by simp [intOf]; omega⟩
          · have hk : decide (((1 + 2 * i : Nat) : Int) < (n : Int)) = false := by simp; omega
            obtain rfl : i = h := by omega
            have HB : Hid (b = R) := by
              have := H1.out
              rw [Nat.sub_self] at this
              exact this
            clear H1
            go_wp2_with fail
            go_ret
            exact ⟨by rw [← HB.out]; rfl, rfl⟩
end Go.Proofs.YtplaaglckbfklaaDoor
