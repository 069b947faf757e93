/- Proved: several texts in one: what each proves is said ahead of it. -/
import Derived.Test.YtkggfljdbdfonaaGreatDoorWo02
import Derived.Test.YtkggfljdbdfonaaGreatDoorWo01
/- Proved: what a table of the primes from 41 to 16383 and of the numbers to be looked at would have to say, for every number up to 268435455 that passes the twelve witnesses to be a prime; no program in sight. -/
namespace Go.Proofs.YtkggfljdbdfonaaGreatDoor.F1
open Go.Proofs.YtkggfljdbdfonaaGreatDoor
open M1
set_option linter.unusedVariables false
/-- a step of a power by five binary digits -/
def w5 (a n r x : Nat) : Nat := Nat.mod (Nat.mul (Nat.pow r 32) (Nat.pow a (Nat.mod x 32))) n
/-- a power, by five digits at a time -/
def pm (a e n : Nat) : Nat := w5 a n (w5 a n (w5 a n (w5 a n (Nat.mod (Nat.pow a (Nat.div e 1048576)) n) (Nat.div e 32768)) (Nat.div e 1024)) (Nat.div e 32)) e
theorem w5_eq (a n x : Nat) : w5 a n (a ^ (x / 32) % n) x = a ^ x % n := by
  show (a ^ (x / 32) % n) ^ 32 * a ^ (x % 32) % n = a ^ x % n
  rw [Nat.mul_mod, ← Nat.pow_mod, ← Nat.mul_mod, ← Nat.pow_mul, ← Nat.pow_add, Nat.mul_comm (x / 32) 32, Nat.div_add_mod]
theorem pm_eq (a e n : Nat) : pm a e n = a ^ e % n := by
  have h1 : e / 32768 / 32 = e / 1048576 := by rw [Nat.div_div_eq_div_mul]
  have h2 : e / 1024 / 32 = e / 32768 := by rw [Nat.div_div_eq_div_mul]
  have h3 : e / 32 / 32 = e / 1024 := by rw [Nat.div_div_eq_div_mul]
  show w5 a n (w5 a n (w5 a n (w5 a n (a ^ (e / 1048576) % n) (e / 32768)) (e / 1024)) (e / 32)) e = _
  rw [← h1, w5_eq, ← h2, w5_eq, ← h3, w5_eq, w5_eq]
def passK (n a : Nat) : Bool := pm a ((n - 1) / 2 ^ Lib.ctz 64 (n - 1)) n == 1 || sqs n (Lib.ctz 64 (n - 1)) (pm a ((n - 1) / 2 ^ Lib.ctz 64 (n - 1)) n)
theorem passK_eq (n a : Nat) : passK n a = passB n a := by unfold passK passB powM; rw [pm_eq]
def P37 : Nat := 3710369067405
/-- k + 1 does not pass -/
def candK (k : Nat) : Bool := cond (Nat.beq (Nat.gcd (Nat.succ k) P37) 1) (cond (Nat.beq (pm 2 k (Nat.succ k)) 1) (!(passK (Nat.succ k) 2 && passK (Nat.succ k) 3 && passK (Nat.succ k) 5 && passK (Nat.succ k) 7)) true) true
def cand (n : Nat) : Bool := Nat.rec true (fun k _ => candK k) n
/-- 2^d numbers from lo on -/
def allT (f : Nat → Bool) (d : Nat) : Nat → Bool := Nat.rec (fun lo => f lo) (fun d ih lo => cond (ih lo) (ih (Nat.add lo (Nat.pow 2 d))) false) d
theorem allT_all (f : Nat → Bool) : ∀ (d lo : Nat), allT f d lo = true → ∀ i, i < 2 ^ d → f (lo + i) = true
  | 0, lo, h, i, hi => by
    obtain rfl : i = 0 := by simpa using hi
    exact h
  | d + 1, lo, h, i, hi => by
    have h' : cond (allT f d lo) (allT f d (lo + 2 ^ d)) false = true := h
    cases h1 : allT f d lo with
    | false => rw [h1] at h'; cases h'
    | true =>
      rw [h1] at h'
      by_cases hlt : i < 2 ^ d
      · exact allT_all f d lo h1 i hlt
      · have := allT_all f d (lo + 2 ^ d) h' (i - 2 ^ d) (by rw [Nat.pow_succ] at hi; omega)
        rw [show lo + 2 ^ d + (i - 2 ^ d) = lo + i by omega] at this
        exact this
def tq (q t : Nat) : Bool := cond (Nat.ble (Nat.mul q (Nat.succ (Nat.mul t (Nat.pred q)))) 268435455) (cand (Nat.mul q (Nat.succ (Nat.mul t (Nat.pred q))))) true
/-- not all the twelve have 1 for their d-th power -/
def okd (q d : Nat) : Bool := smallP.any fun a => !(Nat.beq (Nat.mod (Nat.pow a d) q) 1)
def chkf (q f : Nat) : Bool := cond (Nat.beq (Nat.mod (Nat.pred q) f) 0) ((okd q f || Nat.beq f (Nat.pred q)) && (okd q (Nat.div (Nat.pred q) f) || Nat.beq f 1)) true
def prm (q : Nat) : Bool := allT (fun d => cond (Nat.beq (Nat.mod q d) 0) (Nat.ble q d) true) 7 2
def chkQ (q : Nat) : Bool := cond (Nat.beq (Nat.gcd q (Nat.mul 2 P37)) 1) (cond (prm q) (cond (allT (chkf q) 7 1) (allT (tq q) (Nat.succ (Nat.log2 (Nat.div 268435455 (Nat.mul q (Nat.pred q))))) 1) false) true) true

theorem sqs_ex (n : Nat) (hn : 2 ≤ n) : ∀ (s x : Nat), sqs n s x = true → ∃ i, i < s ∧ x ^ 2 ^ i % n = n - 1
  | 0, x, h => by cases h
  | k + 1, x, h => by
    have h' : (x == n - 1 || sqs n k (x * x % n)) = true := h
    rcases Bool.or_eq_true _ _ ▸ h' with h1 | h1
    · have e : x = n - 1 := by simpa using h1
      exact ⟨0, by omega, by rw [e, Nat.pow_zero, Nat.pow_one]; exact Nat.mod_eq_of_lt (by omega)⟩
    · obtain ⟨i, hi, he⟩ := sqs_ex n hn k _ h1
      refine ⟨i + 1, by omega, ?_⟩
      rw [← Nat.pow_mod] at he
      rw [← he, Nat.pow_succ 2 i, Nat.mul_comm (2 ^ i) 2, Nat.pow_mul, Nat.pow_two]
theorem ctz_mul (x : Nat) (h0 : 0 < x) (h : x < 2 ^ 64) : 2 ^ Lib.ctz 64 x * (x / 2 ^ Lib.ctz 64 x) = x := by
  have e : Lib.ctz 64 x = Lib.ctzFrom 64 x := by unfold Lib.ctz; rw [if_neg (by omega)]
  obtain ⟨m, hm, _⟩ := Lib.ctzFrom_spec 64 x h0 h
  rw [← e] at hm
  have : 2 ^ Lib.ctz 64 x ∣ x := ⟨_, hm⟩
  exact Nat.mul_div_cancel' this
theorem pass_fermat (n a : Nat) (hn : 3 ≤ n) (hn' : n - 1 < 2 ^ 64) (h : passB n a = true) : a ^ (n - 1) % n = 1 := by
  have hm := ctz_mul (n - 1) (by omega) hn'
  unfold passB powM at h
  generalize Lib.ctz 64 (n - 1) = s at *
  generalize (n - 1) / 2 ^ s = d at *
  have e0 : a ^ (n - 1) % n = (a ^ d % n) ^ 2 ^ s % n := by rw [← hm, Nat.mul_comm, Nat.pow_mul, ← Nat.pow_mod]
  rcases Bool.or_eq_true _ _ ▸ h with h1 | h1
  · have e : a ^ d % n = 1 := by simpa using h1
    rw [e0, e, Nat.one_pow, Nat.mod_eq_of_lt (by omega)]
  · obtain ⟨i, hi, he⟩ := sqs_ex n (by omega) s _ h1
    have e1 : 2 ^ s = 2 ^ i * (2 * 2 ^ (s - i - 1)) := by
      rw [← Nat.pow_succ', ← Nat.pow_add]
      congr 1
      omega
    have e2 : (n - 1) * (n - 1) % n = 1 := by
      have : (n - 1) * (n - 1) = 1 + n * (n - 2) := by
        obtain ⟨k, rfl⟩ : ∃ k, n = k + 2 := ⟨n - 2, by omega⟩
        rw [show k + 2 - 1 = k + 1 by omega, show k + 2 - 2 = k by omega]
        grind
      rw [this, Nat.add_mul_mod_self_left, Nat.mod_eq_of_lt (by omega)]
    rw [e0, e1, Nat.pow_mul, Nat.pow_mod, he, Nat.pow_mul, Nat.pow_two, Nat.pow_mod, e2, Nat.one_pow, Nat.mod_eq_of_lt (by omega)]
theorem pow_sub (a q m n : Nat) (hq : 2 ≤ q) (h1 : a ^ m % q = 1) (h2 : a ^ n % q = 1) : a ^ (n % m) % q = 1 := by
  have e := Nat.div_add_mod n m
  rw [← e, Nat.pow_add, Nat.pow_mul, Nat.mul_mod, Nat.pow_mod (a ^ m), h1, Nat.one_pow, Nat.mod_eq_of_lt (show 1 < q by omega), Nat.one_mul, Nat.mod_mod] at h2
  exact h2
theorem pow_gcd (a q : Nat) (hq : 2 ≤ q) (m n : Nat) : a ^ m % q = 1 → a ^ n % q = 1 → a ^ Nat.gcd m n % q = 1 := by
  induction m, n using Nat.gcd.induction with
  | H0 n => intro _ h; simpa using h
  | H1 m n hm ih =>
    intro h1 h2
    rw [Nat.gcd_rec]
    exact ih (pow_sub a q m n hq h1 h2) h1
theorem okd_ex {q d : Nat} (h : okd q d = true) : ∃ a ∈ smallP, a ^ d % q ≠ 1 := by
  unfold okd at h
  rw [List.any_eq_true] at h
  obtain ⟨a, ha, h1⟩ := h
  refine ⟨a, ha, fun e => ?_⟩
  have e' : Nat.mod (Nat.pow a d) q = 1 := e
  rw [e'] at h1
  cases h1
theorem nbeq {a b : Nat} (h : Nat.beq a b = true) : a = b := Nat.eq_of_beq_eq_true h
theorem nbeq_mk {a b : Nat} (h : a = b) : Nat.beq a b = true := by subst h; exact Nat.beq_refl a
theorem chkf_no (q d : Nat) (hq : 3 ≤ q) (hq' : q ≤ 16383) (h : allT (chkf q) 7 1 = true) (hd : d ∣ q - 1) (hne : d ≠ q - 1) : ∃ a ∈ smallP, a ^ d % q ≠ 1 := by
  have hall := allT_all _ _ _ h
  obtain ⟨c, hc⟩ := hd
  have hd0 : 0 < d := by rcases Nat.eq_zero_or_pos d with h | h; · subst h; omega
                         · exact h
  have hc0 : 0 < c := by rcases Nat.eq_zero_or_pos c with h | h; · subst h; omega
                         · exact h
  have use : ∀ f, 1 ≤ f → f ≤ 128 → f ∣ q - 1 → (okd q f = true ∨ f = q - 1) ∧ (okd q ((q - 1) / f) = true ∨ f = 1) := by
    intro f h1 h2 h3
    have hf := hall (f - 1) (by omega)
    rw [show 1 + (f - 1) = f by omega] at hf
    unfold chkf at hf
    have e : Nat.beq (Nat.mod (Nat.pred q) f) 0 = true := nbeq_mk (Nat.mod_eq_zero_of_dvd h3)
    rw [e] at hf
    have hf' : ((okd q f || Nat.beq f (Nat.pred q)) && (okd q (Nat.div (Nat.pred q) f) || Nat.beq f 1)) = true := hf
    rw [Bool.and_eq_true, Bool.or_eq_true, Bool.or_eq_true] at hf'
    exact ⟨hf'.1.imp id nbeq, hf'.2.imp id nbeq⟩
  by_cases hs : d ≤ 128
  · rcases (use d hd0 hs ⟨c, hc⟩).1 with h1 | h1
    · exact okd_ex h1
    · exact absurd h1 hne
  · have hcs : c ≤ 128 := by
      by_cases hc2 : c ≤ 128
      · exact hc2
      · have := Nat.mul_le_mul (show 129 ≤ d by omega) (show 129 ≤ c by omega)
        omega
    rcases (use c hc0 hcs ⟨d, by rw [hc, Nat.mul_comm]⟩).2 with h1 | h1
    · have e : (q - 1) / c = d := by rw [hc, Nat.mul_div_cancel _ hc0]
      rw [e] at h1
      exact okd_ex h1
    · subst h1
      rw [Nat.mul_one] at hc
      exact absurd hc.symm hne
/-- the order of the twelve together is q - 1 -/
theorem order_all (q e : Nat) (hq : 3 ≤ q) (hq' : q ≤ 16383) (hf : ∀ a ∈ smallP, a ^ (q - 1) % q = 1) (h : allT (chkf q) 7 1 = true) (he : ∀ a ∈ smallP, a ^ e % q = 1) : q - 1 ∣ e := by
  have hg : ∀ a ∈ smallP, a ^ Nat.gcd e (q - 1) % q = 1 := fun a ha => pow_gcd a q (by omega) e (q - 1) (he a ha) (hf a ha)
  by_cases hne : Nat.gcd e (q - 1) = q - 1
  · rw [← hne]; exact Nat.gcd_dvd_left _ _
  · obtain ⟨a, ha, h1⟩ := chkf_no q _ hq hq' h (Nat.gcd_dvd_right e (q - 1)) hne
    exact absurd (hg a ha) h1
theorem small_pr : ∀ a ∈ smallP, ∀ d, d ≤ 37 → d ∣ a → d = 1 ∨ d = a := by decide
theorem small_Pr (a : Nat) (ha : a ∈ smallP) : Pr a := by
  have hb : ∀ a ∈ smallP, 2 ≤ a ∧ a ≤ 37 := by decide
  refine ⟨(hb a ha).1, fun d hd => ?_⟩
  have := Nat.le_of_dvd (by have := (hb a ha).1; omega) hd
  exact small_pr a ha d (by have := (hb a ha).2; omega) hd
theorem cop_all (n : Nat) (h : ∀ a ∈ smallP, n % a ≠ 0) : Nat.Coprime n (2 * P37) := by
  have c : ∀ a ∈ smallP, Nat.Coprime n a := fun a ha => ((small_Pr a ha).cop (fun hd => h a ha (Nat.mod_eq_zero_of_dvd hd))).symm
  have e : 2 * P37 = 2 * (3 * (5 * (7 * (11 * (13 * (17 * (19 * (23 * (29 * (31 * 37)))))))))) := by decide
  rw [e]
  have m : ∀ a, a ∈ smallP → ∀ b, Nat.Coprime n b → Nat.Coprime n (a * b) := fun a ha b hb => Nat.Coprime.mul_right (c a ha) hb
  exact m 2 (by decide) _ (m 3 (by decide) _ (m 5 (by decide) _ (m 7 (by decide) _ (m 11 (by decide) _ (m 13 (by decide) _ (m 17 (by decide) _ (m 19 (by decide) _ (m 23 (by decide) _ (m 29 (by decide) _ (m 31 (by decide) _ (c 37 (by decide))))))))))))
theorem prm_of (q : Nat) (h : Pr q) : prm q = true := by
  have key2 : ∀ (f : Nat → Bool) (d lo : Nat), (∀ i, lo ≤ i → f i = true) → allT f d lo = true := by
    intro f d
    induction d with
    | zero => intro lo hf; exact hf lo (Nat.le_refl _)
    | succ d ih =>
      intro lo hf
      show cond (allT f d lo) (allT f d (lo + 2 ^ d)) false = true
      rw [ih lo hf, ih (lo + 2 ^ d) (fun i hi => hf i (Nat.le_trans (Nat.le_add_right _ _) hi))]
      rfl
  refine key2 _ _ _ (fun d hd => ?_)
  cases hb : Nat.beq (Nat.mod q d) 0 with
  | false => rfl
  | true =>
    have hdv : d ∣ q := Nat.dvd_of_mod_eq_zero (nbeq hb)
    rcases h.2 d hdv with h1 | h1
    · omega
    · subst h1; exact Nat.ble_self_eq_true d
/-- what the table says gives: a number that passes is a prime -/
theorem pr_of_table (tab : ∀ q, 41 ≤ q → q ≤ 16383 → chkQ q = true) (n : Nat) (h41 : 41 ≤ n) (hN : n ≤ 268435455) (hd : ∀ a ∈ smallP, n % a ≠ 0) (hp : ∀ a ∈ smallP, passB n a = true) : Pr n := by
  apply Classical.byContradiction
  intro hno
  obtain ⟨q, m, hq, hn, hm, hqq⟩ := not_pr (by omega) hno
  have hq2 := hq.1
  have hcop : Nat.Coprime q (2 * P37) := Nat.Coprime.coprime_dvd_left ⟨m, hn⟩ (cop_all n hd)
  have hq41 : 41 ≤ q := by
    by_cases h : 41 ≤ q
    · exact h
    · obtain ⟨a, ha, h0⟩ := above q (by omega) hq2
      have hda : a ∣ q := Nat.dvd_of_mod_eq_zero h0
      exact absurd (Nat.mod_eq_zero_of_dvd (Nat.dvd_trans hda ⟨m, hn⟩)) (hd a ha)
  have hq' : q ≤ 16383 := by
    by_cases h : q ≤ 16383
    · exact h
    · have := Nat.mul_le_mul (show 16384 ≤ q by omega) (show 16384 ≤ q by omega)
      omega
  have hc := tab q hq41 hq'
  unfold chkQ at hc
  have e1 : Nat.beq (Nat.gcd q (Nat.mul 2 P37)) 1 = true := nbeq_mk hcop
  rw [e1, prm_of q hq] at hc
  cases hf : allT (chkf q) 7 1 with
  | false => rw [hf] at hc; cases hc
  | true =>
    rw [hf] at hc
    have hc' : allT (tq q) (Nat.succ (Nat.log2 (Nat.div 268435455 (Nat.mul q (Nat.pred q))))) 1 = true := hc
    have hfer : ∀ a ∈ smallP, a ^ (q - 1) % q = 1 := by
      intro a ha
      refine hq.fermat (fun hda => ?_)
      have hb : ∀ a ∈ smallP, 2 ≤ a ∧ a ≤ 37 := by decide
      have := Nat.le_of_dvd (by have := (hb a ha).1; omega) hda
      have := (hb a ha).2
      omega
    have hdvd : q - 1 ∣ m - 1 := by
      refine order_all q (m - 1) (by omega) hq' hfer hf (fun a ha => ?_)
      have h1 := pass_fermat n a (by omega) (by omega) (hp a ha)
      have h2 : a ^ (n - 1) % q = 1 := by
        have := Nat.mod_mul_right_mod (a ^ (n - 1)) q m
        rw [← hn, h1, Nat.mod_eq_of_lt (by omega)] at this
        exact this.symm
      have e : n - 1 = (q - 1) * m + (m - 1) := by
        rw [hn, Nat.sub_mul, Nat.one_mul]
        have := Nat.mul_le_mul (show 1 ≤ q by omega) (Nat.le_refl m)
        omega
      rw [e, Nat.pow_add, Nat.pow_mul, Nat.mul_mod, Nat.pow_mod, hfer a ha, Nat.one_pow, Nat.mod_eq_of_lt (show 1 < q by omega), Nat.one_mul, Nat.mod_mod] at h2
      exact h2
    obtain ⟨t, ht⟩ := hdvd
    have ht0 : 0 < t := by
      rcases Nat.eq_zero_or_pos t with h | h
      · subst h; omega
      · exact h
    have hnt : n = q * (t * (q - 1) + 1) := by
      rw [hn]
      congr 1
      rw [Nat.mul_comm t]
      omega
    have htl : t ≤ 268435455 / (q * (q - 1)) := by
      rw [Nat.le_div_iff_mul_le (Nat.mul_pos (by omega) (by omega))]
      have : t * (q * (q - 1)) ≤ n := by
        rw [hnt, Nat.mul_add, Nat.mul_one]
        have : t * (q * (q - 1)) = q * (t * (q - 1)) := by rw [Nat.mul_left_comm]
        omega
      omega
    have hlog : t - 1 < 2 ^ Nat.succ (Nat.log2 (268435455 / (q * (q - 1)))) := by
      have := Nat.lt_log2_self (n := 268435455 / (q * (q - 1)))
      omega
    have hx := allT_all _ _ _ hc' (t - 1) hlog
    rw [show 1 + (t - 1) = t by omega] at hx
    unfold tq at hx
    have en : Nat.mul q (Nat.succ (Nat.mul t (Nat.pred q))) = n := hnt.symm
    rw [en] at hx
    have eb : Nat.ble n 268435455 = true := Nat.ble_eq_true_of_le hN
    rw [eb] at hx
    have hx' : cand n = true := hx
    obtain ⟨k, rfl⟩ : ∃ k, n = k + 1 := ⟨n - 1, by omega⟩
    have hy : candK k = true := hx'
    unfold candK at hy
    have hcn : Nat.Coprime (k + 1) P37 := Nat.Coprime.coprime_dvd_right ⟨2, by rw [Nat.mul_comm]⟩ (cop_all (k + 1) hd)
    have b1 : Nat.beq (Nat.gcd (Nat.succ k) P37) 1 = true := nbeq_mk hcn
    have hf2 := pass_fermat (k + 1) 2 (by omega) (by omega) (hp 2 (by decide))
    have b2 : Nat.beq (pm 2 k (Nat.succ k)) 1 = true := nbeq_mk (by rw [pm_eq]; exact hf2)
    rw [b1, b2] at hy
    have p2 : passK (Nat.succ k) 2 = true := by rw [passK_eq]; exact hp 2 (by decide)
    have p3 : passK (Nat.succ k) 3 = true := by rw [passK_eq]; exact hp 3 (by decide)
    have p5 : passK (Nat.succ k) 5 = true := by rw [passK_eq]; exact hp 5 (by decide)
    have p7 : passK (Nat.succ k) 7 = true := by rw [passK_eq]; exact hp 7 (by decide)
    rw [p2, p3, p5, p7] at hy
    cases hy
end Go.Proofs.YtkggfljdbdfonaaGreatDoor.F1
/- Proved: the table of the primes from 41 to 63, by reckoning in the kernel; no program in sight. -/
namespace Go.Proofs.YtkggfljdbdfonaaGreatDoor.F1
theorem tab41 : allT chkQ 0 41 = true := by decide +kernel
theorem tab42 : allT chkQ 1 42 = true := by decide +kernel
theorem tab44 : allT chkQ 2 44 = true := by decide +kernel
theorem tab48 : allT chkQ 3 48 = true := by decide +kernel
theorem tab56 : allT chkQ 3 56 = true := by decide +kernel
end Go.Proofs.YtkggfljdbdfonaaGreatDoor.F1
/- Proved: the table of the primes from 64 to 255, by reckoning in the kernel; no program in sight. -/
namespace Go.Proofs.YtkggfljdbdfonaaGreatDoor.F1
theorem tab64 : allT chkQ 4 64 = true := by decide +kernel
theorem tab80 : allT chkQ 4 80 = true := by decide +kernel
theorem tab96 : allT chkQ 5 96 = true := by decide +kernel
theorem tab128 : allT chkQ 7 128 = true := by decide +kernel
end Go.Proofs.YtkggfljdbdfonaaGreatDoor.F1
/- Proved: the table of the primes from 256 to 16383, by reckoning in the kernel; no program in sight. -/
namespace Go.Proofs.YtkggfljdbdfonaaGreatDoor.F1
theorem tab256 : allT chkQ 8 256 = true := by decide +kernel
theorem tab512 : allT chkQ 9 512 = true := by decide +kernel
theorem tab1024 : allT chkQ 10 1024 = true := by decide +kernel
theorem tab2048 : allT chkQ 11 2048 = true := by decide +kernel
theorem tab4096 : allT chkQ 12 4096 = true := by decide +kernel
theorem tab8192 : allT chkQ 13 8192 = true := by decide +kernel
end Go.Proofs.YtkggfljdbdfonaaGreatDoor.F1
/- Proved: every number up to 268435455 that passes trial division and the twelve witnesses is a prime, and so are the ten great ones that are drawn; no program in sight. -/
namespace Go.Proofs.YtkggfljdbdfonaaGreatDoor.F1
open Go.Proofs.YtkggfljdbdfonaaGreatDoor
set_option linter.unusedVariables false
theorem tab_all (q : Nat) (h1 : 41 ≤ q) (h2 : q ≤ 16383) : chkQ q = true := by
  have use : ∀ d lo, allT chkQ d lo = true → lo ≤ q → q < lo + 2 ^ d → chkQ q = true := by
    intro d lo h h3 h4
    have := allT_all chkQ d lo h (q - lo) (by omega)
    rwa [show lo + (q - lo) = q by omega] at this
  by_cases c41 : q < 42
  · exact use 0 41 tab41 (by omega) (by simpa using c41)
  by_cases c42 : q < 44
  · exact use 1 42 tab42 (by omega) (by simpa using c42)
  by_cases c44 : q < 48
  · exact use 2 44 tab44 (by omega) (by simpa using c44)
  by_cases c48 : q < 56
  · exact use 3 48 tab48 (by omega) (by simpa using c48)
  by_cases c56 : q < 64
  · exact use 3 56 tab56 (by omega) (by simpa using c56)
  by_cases c64 : q < 80
  · exact use 4 64 tab64 (by omega) (by simpa using c64)
  by_cases c80 : q < 96
  · exact use 4 80 tab80 (by omega) (by simpa using c80)
  by_cases c96 : q < 128
  · exact use 5 96 tab96 (by omega) (by simpa using c96)
  by_cases c128 : q < 256
  · exact use 7 128 tab128 (by omega) (by simpa using c128)
  by_cases c256 : q < 512
  · exact use 8 256 tab256 (by omega) (by simpa using c256)
  by_cases c512 : q < 1024
  · exact use 9 512 tab512 (by omega) (by simpa using c512)
  by_cases c1024 : q < 2048
  · exact use 10 1024 tab1024 (by omega) (by simpa using c1024)
  by_cases c2048 : q < 4096
  · exact use 11 2048 tab2048 (by omega) (by simpa using c2048)
  by_cases c4096 : q < 8192
  · exact use 12 4096 tab4096 (by omega) (by simpa using c4096)
  exact use 13 8192 tab8192 (by omega) (by simp; omega)
theorem wit_all (n : Nat) : ∀ l : List Nat, wit n l = true → ∀ a ∈ l, passB n a = true
  | [], _, a, ha => by cases ha
  | x :: l, h, a, ha => by
    have h' : (passB n x && wit n l) = true := h
    rw [Bool.and_eq_true] at h'
    rcases List.mem_cons.1 ha with rfl | h1
    · exact h'.1
    · exact wit_all n l h'.2 a h1
theorem fnd_all (n : Nat) : ∀ l : List Nat, fnd n l = true → (∃ a ∈ l, n = a) ∨ ((∀ a ∈ l, n % a ≠ 0) ∧ wit n smallP = true)
  | [], h => Or.inr ⟨fun a ha => (by cases ha), h⟩
  | x :: l, h => by
    unfold fnd at h
    by_cases hx : n % x = 0
    · rw [if_pos hx] at h
      exact Or.inl ⟨x, List.mem_cons_self .., by simpa using h⟩
    · rw [if_neg hx] at h
      rcases fnd_all n l h with ⟨a, ha, e⟩ | ⟨h1, h2⟩
      · exact Or.inl ⟨a, List.mem_cons_of_mem _ ha, e⟩
      · refine Or.inr ⟨fun a ha => ?_, h2⟩
        rcases List.mem_cons.1 ha with rfl | h3
        · exact hx
        · exact h1 a h3
theorem pr_of_isP (n : Nat) (h : isP n = true) (hN : n ≤ 268435455) : Pr n := by
  unfold isP at h
  by_cases h2 : n < 2
  · rw [if_pos h2] at h; cases h
  · rw [if_neg h2] at h
    rcases fnd_all n smallP h with ⟨a, ha, rfl⟩ | ⟨h1, h3⟩
    · exact small_Pr n ha
    · exact pr_of_table tab_all n (above_of n (by omega) h1) hN h1 (wit_all n smallP h3)
end Go.Proofs.YtkggfljdbdfonaaGreatDoor.F1
