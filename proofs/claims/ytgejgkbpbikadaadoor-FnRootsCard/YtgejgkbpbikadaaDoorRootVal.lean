/- Proved: the root that both answer at a prime: its n-th power is 1, its half power is not, and no lesser number is such; and every modulus that may be drawn and passes is a prime. -/
import Derived.Test.YtgejgkbpbikadaaDoorRows
import Derived.WalkKit
import Derived.ProofKit
import Derived.OpenShut
import Derived.Handy
import Derived.Test.YtgejgkbpbikadaaDoorRoot
import Derived.Test.YtgejgkbpbikadaaDoorDraw
import Derived.Test.YtgejgkbpbikadaaDoorTab
import Derived.Test.YtgejgkbpbikadaaDoorUnit
namespace Go.Proofs.YtgejgkbpbikadaaDoor
open Go.ChangeShapes Go.WideShapes Go.ChangeAt Go.RowKit
open M1
set_option linter.unusedVariables false
theorem no456 : isP 268435456 = false := by decide +kernel
theorem no455 : isP 268435455 = false := by decide +kernel
theorem drawn_Pr (p : Nat) (h : dmB (p : Int) = true) (hm : modB (p : Int) = true) (hP : isP p = true) : F1.Pr p := by
  obtain ⟨m1, m2⟩ := modB_yes hm
  by_cases hs : p ≤ 134217729
  · exact F1.pr_of_isP p hP hs
  · simp only [dmB, Bool.and_eq_true, Bool.or_eq_true, decide_eq_true_eq, List.contains_iff_mem, List.mem_cons, List.not_mem_nil, or_false] at h
    by_cases hb : p ∈ F1.bigP
    · exact F1.big_Pr p hb
    · exfalso
      simp only [F1.bigP, List.mem_cons, List.not_mem_nil, or_false] at hb
      have h3 : p = 268435456 ∨ p = 268435455 := by omega
      rcases h3 with rfl | rfl
      · rw [no456] at hP; cases hP
      · rw [no455] at hP; cases hP
theorem ord_pow : ∀ n : Nat, n < 65 → 2 ≤ n → n &&& (n - 1) = 0 → ∃ j, j < 6 ∧ n = 2 ^ (j + 1) := by decide
theorem ordB_pow (n : Nat) (h : ordB (n : Int) = true) : ∃ j, n = 2 ^ (j + 1) := by
  obtain ⟨b1, b2, b3⟩ := ordB_yes n h
  simp only [ordB, Bool.and_eq_true, beq_iff_eq] at h
  have e : (n : Int) - 1 = ((n - 1 : Nat) : Int) := by omega
  rw [e, and_nat n (n - 1) (by omega) (by omega)] at h
  obtain ⟨j, _, hj⟩ := ord_pow n (by omega) b1 (by omega)
  exact ⟨j, hj⟩
/-- both answer one and the same root, and it is the least -/
theorem RootOf_val (p n : Nat) (h : RootOk p n) (hPr : F1.Pr p) : ∃ R : Nat, R < p ∧ (1 ≤ R ∧ R ^ n % p = 1 ∧ R ^ (n / 2) % p ≠ 1 ∧ ∀ x, x < R → ¬ (x ^ n % p = 1 ∧ x ^ (n / 2) % p ≠ 1))
    ∧ (∀ W, PrsW W → TabW W → Calls Tryd.prog 7 #[.int .i64 p, .int .i64 n] W fun e w' => e = .returned (.tuple #[.int .i64 R, .bool true]) ∧ ∃ k, w' = W.drewN k)
    ∧ (∀ W, Calls Tryd.prog 8 #[.int .i64 p, .int .i64 n] W fun e w' => e = .returned (.tuple #[.int .i64 R, .bool true]) ∧ Grown W w') := by
  obtain ⟨j, hj⟩ := ordB_pow n h.ord
  obtain ⟨b1, b2, b3⟩ := ordB_yes n h.ord
  obtain ⟨m1, m2⟩ := modB_yes h.md
  have hdv : (p - 1) % n = 0 := by
    have h1 := h.dv
    have e : (p : Int) - 1 = ((p - 1 : Nat) : Int) := by omega
    rw [e] at h1
    have h2 : (((p - 1) % n : Nat) : Int) = 0 := by rw [← h1]; simp
    omega
  have en := Nat.div_add_mod (p - 1) n
  rw [hdv, Nat.add_zero] at en
  have hp3 : 3 ≤ p := by
    rcases Nat.lt_or_ge p 3 with hlt | hge
    · exfalso
      have h2 : p = 2 := by omega
      rw [h2, Nat.mod_eq_of_lt (by omega)] at hdv
      omega
    · exact hge
  obtain ⟨hh, ehh⟩ : ∃ hh, hh = n / 2 := ⟨_, rfl⟩
  have hn2 : n = 2 * hh := by omega
  have em : (p - 1) / n * hh = (p - 1) / 2 := by
    have h1 : 2 * ((p - 1) / n * hh) = p - 1 := by
      rw [← en, hn2]
      have := en
      rw [hn2] at this
      rw [this, ← this]
      grind
    omega
  have hpm : p = 2 * ((p - 1) / 2) + 1 := by
    have h1 : 2 * ((p - 1) / n * hh) = p - 1 := by
      have := en
      rw [hn2] at this
      rw [hn2, ← this]
      have e3 : (2 * hh * ((p - 1) / (2 * hh))) / (2 * hh) = (p - 1) / (2 * hh) := Nat.mul_div_cancel_left _ (by omega)
      rw [e3]
      grind
    omega
  obtain ⟨A, hA2, hAp, hmin, hA⟩ := first_ex p ((p - 1) / 2) (by omega) (by omega)
  have hr := powM_lt (A % p) ((p - 1) / n) p (by omega)
  have facts := F1.least_root (p := p) (n := n) (j := j) (A := A) (e := (p - 1) / n) hPr hp3 hj (by rw [← ehh]; exact em) hpm hA2 (fun b hb1 hb2 => by have := hmin b hb1 hb2; rwa [powM_mod] at this) (by rwa [powM_mod] at hA) (powM (A % p) ((p - 1) / n) p) _ (powM_mod _ _ _) rfl
  refine ⟨_, ?_, ⟨facts.2.2.1, facts.1, facts.2.1, facts.2.2.2⟩, fun W h1 h2 => impl_RootOf_yes p n _ _ W h1 h2 h hr (fun W => impl_someRoot p n _ _ A W hp3 (by omega) rfl rfl (by omega) b2 hA2 hAp hmin hA) (fun W => impl_leastRoot _ p n W (by omega) (by omega) hr b1 b2),
    fun W => spec_RootOf_yes p n _ W h (fun W => spec_leastRoot p n _ _ hh A W hp3 (by omega) hpm hn2 (by omega) b2 rfl em hA2 hAp hmin hA)⟩
  exact lr_lt p _ (by omega) _ _ _ hr
theorem impl_PowN (a e p : Nat) (W : World) (ha : a ≤ 9223372036854775807) (he : e ≤ 9223372036854775807) (hp : 2 ≤ p) (hp' : p ≤ 268435456) :
    Calls Tryd.prog 9 #[.int .i64 a, .int .i64 e, .int .i64 p] W fun en w' => en = .returned (.int .i64 ((a ^ e % p : Nat) : Int)) ∧ ∃ n, w' = W.drewN n := by
  have c := impl_PowMod_yes a e p W ⟨by omega, by omega⟩ ⟨by omega, by omega⟩ (by simp [powB]; omega)
  have e1 : ((a : Int) % (p : Int)).toNat = a % p := by rw [← Int.natCast_emod, Int.toNat_natCast]
  rw [e1, Int.toNat_natCast, Int.toNat_natCast, powM_mod] at c
  exact c
theorem spec_PowN (a e p : Nat) (W : World) (ha : a ≤ 9223372036854775807) (he : e ≤ 9223372036854775807) (hp : 2 ≤ p) (hp' : p ≤ 268435456) :
    Calls Tryd.prog 10 #[.int .i64 a, .int .i64 e, .int .i64 p] W fun en w' => en = .returned (.int .i64 ((a ^ e % p : Nat) : Int)) ∧ w' = W := by
  have c := spec_PowMod_yes a e p W ⟨by omega, by omega⟩ ⟨by omega, by omega⟩ (by simp [powB]; omega)
  have e1 : ((a : Int) % (p : Int)).toNat = a % p := by rw [← Int.natCast_emod, Int.toNat_natCast]
  rw [e1, Int.toNat_natCast, Int.toNat_natCast, powM_mod] at c
  exact c
end Go.Proofs.YtgejgkbpbikadaaDoor
