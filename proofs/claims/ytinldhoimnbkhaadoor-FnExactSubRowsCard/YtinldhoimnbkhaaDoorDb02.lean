/- Proved: several texts in one: what each proves is said ahead of it. -/
import Derived.Test.YtinldhoimnbkhaaDoorRows
import Derived.WalkKit
import Derived.ProofKit
import Derived.OpenShut
import Derived.Handy
import Derived.WalkSmall
import Derived.WalkLawsBesides
import Derived.Test.YtinldhoimnbkhaaDoorBoth
import Derived.Test.YtinldhoimnbkhaaDoorDb00
/- Proved: a number whose smaller ones all are roots of 1 has no power that is 0, and two ways of finding the least of some powers agree; no program in sight. -/
namespace Go.Proofs.YtinldhoimnbkhaaDoor.M1
/-- the least of some powers, a step a square -/
def lr (p sq : Nat) : Nat → Nat → Nat → Nat
  | 0, _, b => b
  | k + 1, x, b => lr p sq k (x * sq % p) (min b (x * sq % p))
end Go.Proofs.YtinldhoimnbkhaaDoor.M1
/- Proved: contracts of the search for a root and of the least root, of the program and of the model: both tell the least of the odd powers of one root. -/
namespace Go.Proofs.YtinldhoimnbkhaaDoor
open Go.ChangeShapes Go.WideShapes Go.ChangeAt Go.RowKit
open M1
set_option linter.unusedVariables false
theorem powM_mod (a e p : Nat) : powM (a % p) e p = a ^ e % p := by unfold powM; rw [← Nat.pow_mod]
/-- the first a from 2 on whose power is not 1 -/
theorem first_ex (p m : Nat) (hp : 2 ≤ p) (hm : 1 ≤ m) : ∃ A, 2 ≤ A ∧ A ≤ p ∧ (∀ b, 2 ≤ b → b < A → powM (b % p) m p = 1) ∧ powM (A % p) m p ≠ 1 := by
  have key : ∀ k, (∃ A, 2 ≤ A ∧ A ≤ p ∧ (∀ b, 2 ≤ b → b < A → powM (b % p) m p = 1) ∧ powM (A % p) m p ≠ 1) ∨ (∀ b, 2 ≤ b → b < 2 + k → b ≤ p → powM (b % p) m p = 1) := by
    intro k
    induction k with
    | zero => right; intro b h1 h2; omega
    | succ k ih =>
      rcases ih with h | h
      · exact Or.inl h
      · by_cases hk : 2 + k ≤ p
        · by_cases h1 : powM ((2 + k) % p) m p = 1
          · right
            intro b hb1 hb2 hb3
            by_cases e : b = 2 + k
            · rw [e]; exact h1
            · exact h b hb1 (by omega) hb3
          · left
            exact ⟨2 + k, by omega, hk, fun b hb1 hb2 => h b hb1 hb2 (by omega), h1⟩
        · right
          intro b hb1 hb2 hb3
          exact h b hb1 (by omega) hb3
  rcases key p with h | h
  · exact h
  · exfalso
    have := h p hp (by omega) (Nat.le_refl p)
    rw [powM_mod] at this
    have e : p ^ m % p = 0 := Nat.mod_eq_zero_of_dvd (Nat.dvd_trans (by rw [Nat.pow_one]; exact Nat.dvd_refl p : p ∣ p ^ 1) (Nat.pow_dvd_pow p hm))
    omega
set_option maxHeartbeats 1000000 in
theorem impl_someRoot (p n m e A : Nat) (w : World) (hp3 : 3 ≤ p) (hp : p ≤ 268435456) (hm : (p - 1) / 2 = m) (he : (p - 1) / n = e) (hn : 1 ≤ n) (hn' : n ≤ 64) (hA2 : 2 ≤ A) (hAp : A ≤ p)
    (hmin : ∀ b, 2 ≤ b → b < A → powM (b % p) m p = 1) (hA : powM (A % p) m p ≠ 1) :
    Calls Tryd.prog 148 #[.int .i64 p, .int .i64 n] w fun en w' => en = .returned (.int .i64 (powM (A % p) e p)) ∧ ∃ k, w' = w.drewN k := by
  have HM : Hid (∀ b, 2 ≤ b → b < A → powM (b % p) m p = 1) := hmin
  clear hmin
  have hmb : m ≤ p := by omega
  have heb : e ≤ p := by have := Nat.div_le_self (p - 1) n; omega
  have c : ∀ (a x : Nat) (W : World), a ≤ p → x ≤ p → Calls Tryd.prog 151 #[.int .i64 a, .int .i64 x, .int .i64 p] W fun en w' => en = .returned (.int .i64 (powM (a % p) x p : Nat)) ∧ ∃ k, w' = W.drewN k := by
    intro a x W ha hx
    have h := impl_PowMod_yes (a : Int) (x : Int) (p : Int) W ⟨by omega, by omega⟩ ⟨by omega, by omega⟩ (by simp [powB]; omega)
    rw [← Int.natCast_emod, Int.toNat_natCast, Int.toNat_natCast, Int.toNat_natCast] at h
    exact h
  have r1 : ((p : Int) - 1) / 2 = (m : Int) := by omega
  have r2 : ((p : Int) - 1) / (n : Int) = (e : Int) := by
    rw [← he]
    have : ((p - 1 : Nat) : Int) = (p : Int) - 1 := by omega
    rw [← this]
    simp
  clear hm he
  have hnn : ¬ n = 0 := by omega
  have cA := fun W => c A m W (by omega) hmb
  have cE := fun W => c A e W (by omega) heb
  have HA : ((powM (A % p) m p : Int) == 1) = false := by simp; omega
  generalize powM (A % p) m p = x1 at *
  generalize powM (A % p) e p = x2 at *
  have cH : Hid (∀ (a x : Nat) (W : World), a ≤ p → x ≤ p → Calls Tryd.prog 151 #[.int .i64 a, .int .i64 x, .int .i64 p] W fun en w' => en = .returned (.int .i64 (powM (a % p) x p : Nat)) ∧ ∃ k, w' = W.drewN k) := c
  clear c hA
  go_enter Tryd.func148, Tryd.ntmps148
  go_wp2_with fail
  go_loopw [5] (fun a W => ∃ a' k : Nat, 2 ≤ a' ∧ a' ≤ A ∧ a = .int .i64 a' ∧ W = w.drewN k) (fun a _ => A - (intOf a).toNat)
  case atStart => exact ⟨2, 0, by omega, hA2, rfl, rfl⟩
  case round =>
    obtain ⟨a, k, ha2, haA, rfl, rfl⟩ := hrel
    by_cases hlt : a < A
    · have c1 := fun W => cH.out a m W (by omega) hmb
      rw [HM.out a ha2 hlt] at c1
      clear cA cE
      go_wp2_with fail
      refine (c1 _).mono ?_
      rintro en w1 ⟨rfl, k1, rfl⟩
      go_wp2_with fail
      go_roundw
      case rel => exact ⟨a + 1, _, by omega, by omega, by go_num, rfl⟩
      case measure => simp [intOf]; omega
    · obtain rfl : a = A := by omega
      go_wp2_with fail
      refine (cA _).mono ?_
      rintro en w1 ⟨rfl, k1, rfl⟩
      go_wp2_with fail
      refine (cE _).mono ?_
      rintro en w1 ⟨rfl, k2, rfl⟩
      go_wp2_with fail
      go_ret
      exact ⟨rfl, _, rfl⟩
theorem prod_bd (p x y : Nat) (hp : p ≤ 268435456) (hx : x < p) (hy : y < p) : (x : Int) * (y : Int) = ((x * y : Nat) : Int) ∧ x * y ≤ 72057594037927936 := by
  refine ⟨by simp, ?_⟩
  have := Nat.mul_le_mul (show x ≤ 268435456 by omega) (show y ≤ 268435456 by omega)
  omega
set_option maxHeartbeats 1000000 in
theorem impl_leastRoot (r p n : Nat) (w : World) (hp2 : 2 ≤ p) (hp : p ≤ 268435456) (hr : r < p) (hn : 2 ≤ n) (hn' : n ≤ 64) :
    Calls Tryd.prog 147 #[.int .i64 r, .int .i64 p, .int .i64 n] w fun en w' => en = .returned (.int .i64 (lr p (r * r % p) (n / 2 - 1) r r)) ∧ w' = w := by
  obtain ⟨s1, s2⟩ := prod_bd p r r hp hr hr
  have hsq : r * r % p < p := Nat.mod_lt _ (by omega)
  have z1 : 0 ≤ (r : Int) * (r : Int) := by omega
  have z2 : (r : Int) * (r : Int) ≤ 72057594037927936 := by omega
  have q1 : (r : Int) * (r : Int) % (p : Int) = ((r * r % p : Nat) : Int) := by rw [s1]; simp
  clear s1 s2
  generalize r * r % p = sq at *
  obtain ⟨R, hR⟩ : ∃ R, lr p sq (n / 2 - 1) r r = R := ⟨_, rfl⟩
  rw [hR]
  have H0 : Hid (lr p sq (n / 2 - 1 - 0) r r = R) := hR
  clear hR
  have hpn : ¬ p = 0 := by omega
  go_enter Tryd.func147, Tryd.ntmps147
  go_wp2_with fail
  rw [q1]
  go_loop [0, 8, 18] (fun x b i => ∃ x' b' i' : Nat, x' < p ∧ b' < p ∧ i' ≤ n / 2 - 1 ∧ Hid (lr p sq (n / 2 - 1 - i') x' b' = R) ∧ x = .int .i64 x' ∧ b = .int .i64 b' ∧ i = .int .i64 i') (fun _ _ i => n / 2 - 1 - (intOf i).toNat)
  case atStart => exact ⟨r, r, 0, hr, hr, by omega, H0, rfl, rfl, rfl⟩
  case round =>
    obtain ⟨x, b, i, hx, hb, hi, H1, rfl, rfl, rfl⟩ := hrel
    clear H0 z1 z2 q1
    by_cases hlt : i < n / 2 - 1
    · have hd : decide ((i : Int) < (n : Int) / 2 - 1) = true := by simp; omega
      obtain ⟨t1, t2⟩ := prod_bd p x sq hp hx hsq
      have y1 : 0 ≤ (x : Int) * (sq : Int) := by omega
      have y2 : (x : Int) * (sq : Int) ≤ 72057594037927936 := by omega
      have q2 : (x : Int) * (sq : Int) % (p : Int) = ((x * sq % p : Nat) : Int) := by rw [t1]; simp
      have hxs : x * sq % p < p := Nat.mod_lt _ (by omega)
      have H2 : Hid (lr p sq (n / 2 - 1 - (i + 1)) (x * sq % p) (min b (x * sq % p)) = R) := by
        have := H1.out
        rw [show n / 2 - 1 - i = (n / 2 - 1 - (i + 1)) + 1 by omega] at this
        exact this
      clear t1 t2 H1
      generalize x * sq % p = xs at *
      have hmin : min b xs < p := by omega
      go_wp2_with fail
      exact ⟨⟨xs, min b xs, i + 1, hxs, hmin, by omega, H2, val_eq q2, val_eq (by omega), by go_num⟩, by simp [intOf]; omega⟩
    · have hd : decide ((i : Int) < (n : Int) / 2 - 1) = false := by simp; omega
      obtain rfl : i = n / 2 - 1 := by omega
      have HB : Hid (b = R) := by
        have := H1.out
        rw [Nat.sub_self] at this
        exact this
      clear H1
      go_wp2_with fail
      go_ret
      exact ⟨by rw [← HB.out]; rfl, rfl⟩
end Go.Proofs.YtinldhoimnbkhaaDoor
/- Proved: contracts of RootOf, of the program and of the model: both answer one and the same least root, 0 and no where there is none. -/
namespace Go.Proofs.YtinldhoimnbkhaaDoor
open Go.ChangeShapes Go.WideShapes Go.ChangeAt Go.RowKit
open M1
set_option linter.unusedVariables false
/-- at least lo and at most hi -/
def inB (x lo hi : Int) : Bool := decide (lo ≤ x ∧ x ≤ hi)
theorem inB_out {x lo hi : Int} (h : inB x lo hi = true) : lo ≤ x ∧ x ≤ hi := by simpa [inB] using h
theorem inB_not {x lo hi : Int} (h : inB x lo hi = false) : x < lo ∨ (lo ≤ x ∧ hi < x) := by simp [inB] at h; omega
theorem spec_in (x lo hi : Int) (w : World) :
    Calls Tryd.prog 68 #[.int .i64 x, .int .i64 lo, .int .i64 hi] w fun e w' => e = .returned (.bool (inB x lo hi)) ∧ w' = w := by
  cases h : inB x lo hi
  · rcases inB_not h with h1 | ⟨h1, h2⟩
    · clear h
      have d : decide (lo ≤ x) = false := by simp; omega
      go_enter Tryd.func68, Tryd.ntmps68
      go_wp2
      go_ret
      exact ⟨rfl, rfl⟩
    · clear h
      have d : decide (x ≤ hi) = false := by simp; omega
      go_enter Tryd.func68, Tryd.ntmps68
      go_wp2
      go_ret
      exact ⟨rfl, rfl⟩
  · obtain ⟨h1, h2⟩ := inB_out h
    clear h
    have d : decide (x ≤ hi) = true := by simp; omega
    go_enter Tryd.func68, Tryd.ntmps68
    go_wp2
    go_ret
    exact ⟨rfl, rfl⟩
/-- the orders of roots: powers of 2 from 2 to 64 -/
def ordB (n : Int) : Bool := inB n 2 64 && (bits BinOp.and IntKind.i64 n (n - 1) == 0)
theorem ord_even : ∀ n : Nat, n < 65 → 2 ≤ n → n &&& (n - 1) = 0 → n % 2 = 0 := by decide
theorem and_nat (a b : Nat) (ha : a ≤ 9223372036854775807) (hb : b ≤ 9223372036854775807) : bits .and .i64 (a : Int) (b : Int) = ((a &&& b : Nat) : Int) := and_i64_nat a b ha hb
theorem ordB_yes (n : Nat) (h : ordB (n : Int) = true) : 2 ≤ n ∧ n ≤ 64 ∧ n % 2 = 0 := by
  simp only [ordB, Bool.and_eq_true] at h
  obtain ⟨h1, h2⟩ := h
  obtain ⟨h3, h4⟩ := inB_out h1
  refine ⟨by omega, by omega, ord_even n (by omega) (by omega) ?_⟩
  have e : (n : Int) - 1 = ((n - 1 : Nat) : Int) := by omega
  rw [e, and_nat n (n - 1) (by omega) (by omega)] at h2
  have := beq_iff_eq.1 h2
  omega
theorem impl_isOrder (n : Int) (w : World) :
    Calls Tryd.prog 146 #[.int .i64 n] w fun e w' => e = .returned (.bool (ordB n)) ∧ w' = w := by
  cases h : inB n 2 64
  · have ho : ordB n = false := by simp [ordB, h]
    rw [ho]
    rcases inB_not h with h1 | ⟨h1, h2⟩
    · clear h ho
      have d : decide (2 ≤ n) = false := by simp; omega
      go_enter Tryd.func146, Tryd.ntmps146
      go_wp2
      go_ret
      exact ⟨rfl, rfl⟩
    · clear h ho
      have d : decide (n ≤ 64) = false := by simp; omega
      go_enter Tryd.func146, Tryd.ntmps146
      go_wp2
      go_ret
      exact ⟨rfl, rfl⟩
  · have ho : ordB n = (bits BinOp.and IntKind.i64 n (n - 1) == 0) := by simp [ordB, h]
    rw [ho]
    obtain ⟨h1, h2⟩ := inB_out h
    clear h ho
    have d : decide (n ≤ 64) = true := by simp; omega
    have d2 : decide (2 ≤ n) = true := by simp; omega
    go_enter Tryd.func146, Tryd.ntmps146
    go_wp2
    go_ret
    exact ⟨rfl, rfl⟩
theorem impl_isPM (p : Int) (w : World) (hP : PrsW w) (hT : TabW w) :
    Calls Tryd.prog 128 #[.int .i64 p] w fun e w' => e = .returned (.bool (modB p && isP p.toNat)) ∧ ∃ k, w' = w.drewN k := by
  cases h : modB p
  · have HB : Hid ((false && isP p.toNat) = false) := rfl
    generalize (false && isP p.toNat) = B at *
    clear hP hT
    go_enter Tryd.func128, Tryd.ntmps128
    go_wp2_with (go_at_call 118; refine (impl_isModulus _ _).mono ?_; rintro en w' ⟨rfl, rfl⟩)
    go_ret
    exact ⟨ret_bool HB.out.symm, 0, rfl⟩
  · obtain ⟨h1, h2⟩ := modB_yes h
    have c := fun W (h1 : PrsW W) (h2 : TabW W) => impl_IsPrime p.toNat W (by omega) h1 h2
    rw [Int.toNat_of_nonneg (by omega)] at c
    rw [Bool.true_and]
    generalize isP p.toNat = B at *
    have HP : Hid (PrsW w) := hP
    have HT : Hid (TabW w) := hT
    clear hP hT
    go_enter Tryd.func128, Tryd.ntmps128
    go_wp2_with (go_at_call 118; refine (impl_isModulus _ _).mono ?_; rintro en w' ⟨rfl, rfl⟩)
    refine (c _ HP.out HT.out).mono ?_
    rintro e w2 ⟨rfl, k, rfl⟩
    go_wp2_with fail
    go_ret
    exact ⟨rfl, k, rfl⟩
theorem lr_lt (p sq : Nat) (hp : 0 < p) : ∀ (k x b : Nat), b < p → lr p sq k x b < p
  | 0, _, _, h => h
  | k + 1, x, b, h => lr_lt p sq hp k _ _ (by have := Nat.mod_lt (x * sq) hp; omega)
/-- where RootOf answers -/
structure RootOk (p n : Int) : Prop where
  ord : ordB n = true
  md : modB p = true
  pr : isP p.toNat = true
  dv : (p - 1) % n = 0
theorem ordB_bd {n : Int} (h : ordB n = true) : 2 ≤ n ∧ n ≤ 64 := by
  simp only [ordB, Bool.and_eq_true] at h
  exact inB_out h.1
set_option maxHeartbeats 1000000 in
theorem impl_RootOf_no (p n : Int) (w : World) (hP : PrsW w) (hT : TabW w) (h : ¬ RootOk p n) :
    Calls Tryd.prog 131 #[.int .i64 p, .int .i64 n] w fun e w' => e = .returned (.tuple #[.int .i64 0, .bool false]) ∧ ∃ k, w' = w.drewN k := by
  have c0 := fun W => impl_isOrder n W
  have c1 := fun W (h1 : PrsW W) (h2 : TabW W) => impl_isPM p W h1 h2
  have HP : Hid (PrsW w) := hP
  have HT : Hid (TabW w) := hT
  clear hP hT
  cases ho : ordB n
  · rw [ho] at c0
    clear h
    go_enter Tryd.func131, Tryd.ntmps131
    go_wp2_with fail
    refine (c0 _).mono ?_
    rintro e w1 ⟨rfl, rfl⟩
    go_wp2_with fail
    go_ret2
    exact ⟨rfl, 0, rfl⟩
  · rw [ho] at c0
    obtain ⟨b1, b2⟩ := ordB_bd ho
    cases hm : (modB p && isP p.toNat)
    · rw [hm] at c1
      clear h
      go_enter Tryd.func131, Tryd.ntmps131
      go_wp2_with fail
      refine (c0 _).mono ?_
      rintro e w1 ⟨rfl, rfl⟩
      go_wp2_with fail
      refine (c1 _ HP.out HT.out).mono ?_
      rintro e w2 ⟨rfl, k, rfl⟩
      go_wp2_with fail
      go_ret2
      exact ⟨rfl, k, rfl⟩
    · rw [hm] at c1
      simp only [Bool.and_eq_true] at hm
      obtain ⟨m1, m2⟩ := modB_yes hm.1
      have hd : ((p - 1) % n != 0) = true := by
        simp only [bne_iff_ne]
        exact fun h4 => h ⟨ho, hm.1, hm.2, h4⟩
      have hnn : ¬ n = 0 := by omega
      clear h hm ho
      go_enter Tryd.func131, Tryd.ntmps131
      go_wp2_with fail
      refine (c0 _).mono ?_
      rintro e w1 ⟨rfl, rfl⟩
      go_wp2_with fail
      refine (c1 _ HP.out HT.out).mono ?_
      rintro e w2 ⟨rfl, k, rfl⟩
      go_wp2_with fail
      go_ret2
      exact ⟨rfl, k, rfl⟩
set_option maxHeartbeats 1000000 in
theorem impl_RootOf_yes (p n r R : Nat) (w : World) (hP : PrsW w) (hT : TabW w) (h : RootOk p n) (hrp : r < p)
    (cs : ∀ W, Calls Tryd.prog 148 #[.int .i64 p, .int .i64 n] W fun en w' => en = .returned (.int .i64 r) ∧ ∃ k, w' = W.drewN k)
    (cl : ∀ W, Calls Tryd.prog 147 #[.int .i64 r, .int .i64 p, .int .i64 n] W fun en w' => en = .returned (.int .i64 R) ∧ w' = W) :
    Calls Tryd.prog 131 #[.int .i64 p, .int .i64 n] w fun e w' => e = .returned (.tuple #[.int .i64 R, .bool true]) ∧ ∃ k, w' = w.drewN k := by
  obtain ⟨ho, hm, hi, hd⟩ := h
  have c0 := fun W => impl_isOrder n W
  have c1 := fun W (h1 : PrsW W) (h2 : TabW W) => impl_isPM p W h1 h2
  rw [ho] at c0
  rw [hm, hi, Bool.true_and] at c1
  obtain ⟨b1, b2⟩ := ordB_bd ho
  obtain ⟨m1, m2⟩ := modB_yes hm
  have hd' : (((p : Int) - 1) % (n : Int) != 0) = false := by simp [hd]
  have hnn : ¬ n = 0 := by omega
  have HP : Hid (PrsW w) := hP
  have HT : Hid (TabW w) := hT
  clear hP hT ho hm hi hd
  go_enter Tryd.func131, Tryd.ntmps131
  go_wp2_with fail
  refine (c0 _).mono ?_
  rintro e w1 ⟨rfl, rfl⟩
  go_wp2_with fail
  refine (c1 _ HP.out HT.out).mono ?_
  rintro e w2 ⟨rfl, k, rfl⟩
  go_wp2_with fail
  refine (cs _).mono ?_
  rintro e w3 ⟨rfl, k3, rfl⟩
  go_wp2_with fail
  refine (cl _).mono ?_
  rintro e w4 ⟨rfl, rfl⟩
  go_wp2_with fail
  go_ret2
  exact ⟨rfl, _, rfl⟩
end Go.Proofs.YtinldhoimnbkhaaDoor
/- Proved: contracts of RingOf, of the program and of the model: both answer one and the same ring at a prime modulus for whose size a root is there, and none otherwise. -/
namespace Go.Proofs.YtinldhoimnbkhaaDoor
open Go.ChangeShapes Go.WideShapes Go.ChangeAt Go.RowKit
open M1
set_option linter.unusedVariables false
def rgB (n : Int) : Bool := inB n 2 16 && (bits BinOp.and IntKind.i64 n (n - 1) == 0)
theorem rg_four : ∀ n : Nat, n < 17 → 2 ≤ n → n &&& (n - 1) = 0 → n = 2 ∨ n = 4 ∨ n = 8 ∨ n = 16 := by decide
theorem rgB_yes {n : Int} (h : rgB n = true) : n = 2 ∨ n = 4 ∨ n = 8 ∨ n = 16 := by
  simp only [rgB, Bool.and_eq_true] at h
  obtain ⟨h1, h2⟩ := h
  obtain ⟨h3, h4⟩ := inB_out h1
  obtain ⟨m, rfl⟩ := Int.eq_ofNat_of_zero_le (show 0 ≤ n by omega)
  have e : (m : Int) - 1 = ((m - 1 : Nat) : Int) := by omega
  rw [e, and_nat m (m - 1) (by omega) (by omega)] at h2
  have h5 := beq_iff_eq.1 h2
  rcases rg_four m (by omega) (by omega) (by omega) with h | h | h | h <;> omega
theorem rgB_mk {n : Int} (h : n = 2 ∨ n = 4 ∨ n = 8 ∨ n = 16) : rgB n = true := by
  rcases h with rfl | rfl | rfl | rfl <;> decide +kernel
theorem ord2 {n : Int} (h : n = 2 ∨ n = 4 ∨ n = 8 ∨ n = 16) : ordB (2 * n) = true := by
  rcases h with rfl | rfl | rfl | rfl <;> decide +kernel
theorem impl_isSize (n : Int) (w : World) :
    Calls Tryd.prog 130 #[.int .i64 n] w fun e w' => e = .returned (.bool (rgB n)) ∧ w' = w := by
  cases h : inB n 2 16
  · have ho : rgB n = false := by simp [rgB, h]
    rw [ho]
    rcases inB_not h with h1 | ⟨h1, h2⟩
    · clear h ho
      have d : decide (2 ≤ n) = false := by simp; omega
      go_enter Tryd.func130, Tryd.ntmps130
      go_wp2
      go_ret
      exact ⟨rfl, rfl⟩
    · clear h ho
      have d : decide (n ≤ 16) = false := by simp; omega
      go_enter Tryd.func130, Tryd.ntmps130
      go_wp2
      go_ret
      exact ⟨rfl, rfl⟩
  · have ho : rgB n = (bits BinOp.and IntKind.i64 n (n - 1) == 0) := by simp [rgB, h]
    rw [ho]
    obtain ⟨h1, h2⟩ := inB_out h
    clear h ho
    have d : decide (n ≤ 16) = true := by simp; omega
    have d2 : decide (2 ≤ n) = true := by simp; omega
    go_enter Tryd.func130, Tryd.ntmps130
    go_wp2
    go_ret
    exact ⟨rfl, rfl⟩
theorem spec_isSize (n : Int) (w : World) :
    Calls Tryd.prog 86 #[.int .i64 n] w fun e w' => e = .returned (.bool (rgB n)) ∧ w' = w := by
  have c : ∀ W, Calls Tryd.prog 107 #[.int .i64 n, .int .i64 2, .int .i64 16] W fun e w' => e = .returned (.bool (rgB n)) ∧ w' = W := by
    intro w
    cases h : inB n 2 16
    · have ho : rgB n = false := by simp [rgB, h]
      rw [ho]
      clear ho
      go_enter Tryd.func107, Tryd.ntmps107
      go_wp2_with (go_at_call 68; refine (spec_in _ _ _ _).mono ?_; rintro e w' ⟨rfl, rfl⟩)
      go_ret
      exact ⟨rfl, rfl⟩
    · have ho : rgB n = (bits BinOp.and IntKind.i64 n (n - 1) == 0) := by simp [rgB, h]
      rw [ho]
      obtain ⟨h1, h2⟩ := inB_out h
      clear ho
      go_enter Tryd.func107, Tryd.ntmps107
      go_wp2_with (go_at_call 68; refine (spec_in _ _ _ _).mono ?_; rintro e w' ⟨rfl, rfl⟩)
      go_ret
      exact ⟨rfl, rfl⟩
  generalize rgB n = B at *
  go_enter Tryd.func86, Tryd.ntmps86
  go_wp2_with fail
  refine (c _).mono ?_
  rintro e w' ⟨rfl, rfl⟩
  go_wp2_with fail
  go_ret
  exact ⟨rfl, rfl⟩
/-- where RingOf answers -/
structure RingOk (p n : Int) : Prop where
  sz : n = 2 ∨ n = 4 ∨ n = 8 ∨ n = 16
  md : modB p = true
  pr : isP p.toNat = true
  dv : (p - 1) % (2 * n) = 0
theorem RingOk.root {p n : Int} (h : RingOk p n) : RootOk p (2 * n) := ⟨ord2 h.sz, h.md, h.pr, h.dv⟩
theorem RingOk.of_root {p n : Int} (hs : n = 2 ∨ n = 4 ∨ n = 8 ∨ n = 16) (h : RootOk p (2 * n)) : RingOk p n := ⟨hs, h.md, h.pr, h.dv⟩
abbrev ring0 : Array Value := #[.int .i64 0, .int .i64 0, .int .i64 0]
theorem impl_RingOf_no (p n : Int) (w : World) (hP : PrsW w) (hT : TabW w) (h : ¬ RingOk p n) :
    Calls Tryd.prog 111 #[.int .i64 p, .int .i64 n] w fun e w' => e = .returned (.tuple #[.agg ring0, .bool false]) ∧ Old w w' := by
  have c0 := fun W => impl_isSize n W
  cases hs : rgB n
  · rw [hs] at c0
    clear h hP hT hs
    go_enter Tryd.func111, Tryd.ntmps111
    go_wp2_with fail
    refine (c0 _).mono ?_
    rintro e w1 ⟨rfl, rfl⟩
    go_wp2_with fail
    exact bodyPost_ret (v := .tuple #[.agg ring0, .bool false]) (by simp [results, Tryd.results111, go_sem]) rfl ⟨rfl, by repeat (first | exact Old.refl _ | apply Old.alloc)⟩
  · rw [hs] at c0
    have hz := rgB_yes hs
    have hb : 2 ≤ n ∧ n ≤ 16 := by omega
    have c1 := fun W (h1 : PrsW W) (h2 : TabW W) => impl_RootOf_no p (2 * n) W h1 h2 (fun h3 => h (RingOk.of_root hz h3))
    have HP : Hid (PrsW w) := hP
    have HT : Hid (TabW w) := hT
    clear h hP hT hs hz
    go_enter Tryd.func111, Tryd.ntmps111
    go_wp2_with fail
    refine (c0 _).mono ?_
    rintro e w1 ⟨rfl, rfl⟩
    go_wp2_with fail
    refine (c1 _ (HP.out.old (Old.alloc (Old.refl _) _)) (HT.out.old (Old.alloc (Old.refl _) _))).mono ?_
    rintro e w1 ⟨rfl, k, rfl⟩
    go_wp2_with fail
    exact bodyPost_ret (v := .tuple #[.agg ring0, .bool false]) (by simp [results, Tryd.results111, go_sem]) rfl ⟨rfl, by repeat (first | exact Old.refl _ | apply Old.alloc | apply Old.drewN | (refine Old.own ?_ (Nat.le_refl _) _))⟩
theorem impl_RingOf_yes (p n R : Nat) (w : World) (hP : PrsW w) (hT : TabW w) (hz : (n : Int) = 2 ∨ (n : Int) = 4 ∨ (n : Int) = 8 ∨ (n : Int) = 16)
    (c1 : ∀ W, PrsW W → TabW W → Calls Tryd.prog 131 #[.int .i64 p, .int .i64 (2 * n)] W fun e w' => e = .returned (.tuple #[.int .i64 R, .bool true]) ∧ ∃ k, w' = W.drewN k) :
    Calls Tryd.prog 111 #[.int .i64 p, .int .i64 n] w fun e w' => e = .returned (.tuple #[.agg #[.int .i64 p, .int .i64 n, .int .i64 R], .bool true]) ∧ Old w w' := by
  have c0 := fun W => impl_isSize n W
  rw [rgB_mk hz] at c0
  have hb : 2 ≤ n ∧ n ≤ 16 := by omega
  have HP : Hid (PrsW w) := hP
  have HT : Hid (TabW w) := hT
  clear hP hT hz
  go_enter Tryd.func111, Tryd.ntmps111
  go_wp2_with fail
  refine (c0 _).mono ?_
  rintro e w1 ⟨rfl, rfl⟩
  go_wp2_with fail
  refine (c1 _ (HP.out.old (Old.alloc (Old.refl _) _)) (HT.out.old (Old.alloc (Old.refl _) _))).mono ?_
  rintro e w1 ⟨rfl, k, rfl⟩
  go_wp2_with fail
  exact bodyPost_ret (v := .tuple #[.agg #[.int .i64 p, .int .i64 n, .int .i64 R], .bool true]) (by simp [results, Tryd.results111, go_sem]) rfl ⟨rfl, by repeat (first | exact Old.refl _ | apply Old.alloc | apply Old.drewN | (refine Old.own ?_ (Nat.le_refl _) _))⟩
end Go.Proofs.YtinldhoimnbkhaaDoor
/- Proved: primes: the least factor, Euclid's lemma, Fermat's little theorem, square roots of 1, and the roots of 1 of an order that is a power of 2; no program in sight. -/
namespace Go.Proofs.YtinldhoimnbkhaaDoor.F1
set_option linter.unusedVariables false
/-- n is a prime -/
def Pr (n : Nat) : Prop := 2 ≤ n ∧ ∀ d, d ∣ n → d = 1 ∨ d = n
theorem Pr.cop {p a : Nat} (h : Pr p) (ha : ¬ p ∣ a) : Nat.Coprime p a := by
  rcases h.2 _ (Nat.gcd_dvd_left p a) with h1 | h1
  · exact h1
  · exact absurd (h1 ▸ Nat.gcd_dvd_right p a) ha
theorem Pr.euclid {p a b : Nat} (h : Pr p) (hd : p ∣ a * b) : p ∣ a ∨ p ∣ b := by
  by_cases ha : p ∣ a
  · exact Or.inl ha
  · exact Or.inr ((h.cop ha).dvd_of_dvd_mul_left hd)
theorem sub_dvd_of_mod {p a b : Nat} (h : a % p = b % p) (hab : a ≤ b) : p ∣ b - a := by
  have h1 := Nat.div_add_mod a p
  have h2 := Nat.div_add_mod b p
  rw [h] at h1
  refine ⟨b / p - a / p, ?_⟩
  rw [Nat.mul_sub]
  omega
/-- square roots of a square -/
theorem Pr.sq {p x y : Nat} (hp : Pr p) (h : x * x % p = y * y % p) : x % p = y % p ∨ (x + y) % p = 0 := by
  rcases Nat.le_total x y with hxy | hxy
  · have h1 := sub_dvd_of_mod h (Nat.mul_le_mul hxy hxy)
    have e : y * y - x * x = (y - x) * (x + y) := by
      rw [Nat.sub_mul, Nat.mul_add, Nat.mul_add, Nat.mul_comm y x]
      omega
    rw [e] at h1
    rcases hp.euclid h1 with h2 | h2
    · obtain ⟨c, hc⟩ := h2
      left
      have : y = x + p * c := by omega
      rw [this, Nat.add_mul_mod_self_left]
    · exact Or.inr (Nat.mod_eq_zero_of_dvd h2)
  · have h1 := sub_dvd_of_mod h.symm (Nat.mul_le_mul hxy hxy)
    have e : x * x - y * y = (x - y) * (x + y) := by
      rw [Nat.sub_mul, Nat.mul_add, Nat.mul_add, Nat.mul_comm x y]
      omega
    rw [e] at h1
    rcases hp.euclid h1 with h2 | h2
    · obtain ⟨c, hc⟩ := h2
      left
      have : x = y + p * c := by omega
      rw [this, Nat.add_mul_mod_self_left]
    · exact Or.inr (Nat.mod_eq_zero_of_dvd h2)
end Go.Proofs.YtinldhoimnbkhaaDoor.F1
/- Proved: what is carried through a statement on lists: a ring's cells, rows of the call's own; and a ring's copy. -/
namespace Go.Proofs.YtinldhoimnbkhaaDoor
open Go.ChangeShapes Go.WideShapes Go.ChangeAt Go.RowKit
set_option linter.unusedVariables false
/-- a ring's three cells in a block -/
structure Rc (w : World) (b : Nat) (p n r : Int) : Prop where
  lt : b < w.heap.size
  c0 : w.cell? ⟨b, 0, none⟩ = some (.int .i64 p)
  c1 : w.cell? ⟨b, 1, none⟩ = some (.int .i64 n)
  c2 : w.cell? ⟨b, 2, none⟩ = some (.int .i64 r)
theorem Rc.new (w : World) (p n r : Int) {t : TypeId} : Rc (w.alloc (.cells #[.int .i64 p, .int .i64 n, .int .i64 r] t)) w.heap.size p n r :=
  ⟨by simp, cell_at _ _ _ _ _ rfl, cell_at _ _ _ _ _ rfl, cell_at _ _ _ _ _ rfl⟩
theorem Rc.old {w w' : World} {b : Nat} {p n r : Int} (h : Rc w b p n r) (g : Old w w') : Rc w' b p n r :=
  ⟨Nat.lt_of_lt_of_le h.lt g.size, (g.cell (p := ⟨b, 0, none⟩) h.lt).trans h.c0, (g.cell (p := ⟨b, 1, none⟩) h.lt).trans h.c1, (g.cell (p := ⟨b, 2, none⟩) h.lt).trans h.c2⟩
end Go.Proofs.YtinldhoimnbkhaaDoor
/- Proved: contracts of BitBack and of the model's l3Back: a number's bits from the last to the first; 0 where an argument is out of its bounds. -/
namespace Go.Proofs.YtinldhoimnbkhaaDoor
open Go.ChangeShapes Go.WideShapes Go.ChangeAt Go.RowKit
set_option linter.unusedVariables false
def resB (x p : Int) : Bool := decide (0 ≤ x) && decide (x < p)
theorem residue_any (x p : Int) (w : World) : Calls Tryd.prog 132 #[.int .i64 x, .int .i64 p] w fun e w' => e = .returned (.bool (resB x p)) ∧ w' = w := by
  by_cases h : 0 ≤ x
  · have hd : decide (x ≥ 0) = true := by simp; omega
    have hd2 : decide (0 ≤ x) = true := by simp; omega
    go_enter Tryd.func132, Tryd.ntmps132
    go_wp2_with fail
    go_ret
    exact ⟨by simp [resB, hd2], rfl⟩
  · have hd : decide (x ≥ 0) = false := by simp; omega
    have hd2 : decide (0 ≤ x) = false := by simp; omega
    go_enter Tryd.func132, Tryd.ntmps132
    go_wp2_with fail
    go_ret
    exact ⟨by simp [resB, hd2], rfl⟩
end Go.Proofs.YtinldhoimnbkhaaDoor
