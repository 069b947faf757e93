/- Proved: several texts in one: what each proves is said ahead of it. -/
import Derived.Test.YtpebikjckhcgfaaDoorZ12
/- Proved: a root for each prime of a space, as the program makes it, of the full order. -/
namespace Go.Proofs.YtpebikjckhcgfaaDoor
open Go.ChangeShapes Go.WideShapes Go.ChangeAt Go.RowKit
open M1
set_option linter.unusedVariables false
set_option linter.unusedSimpArgs false
theorem Root_rt (p n : Nat) (h : RootOk p n) : ∃ R : Nat, R < p ∧ (F1.Pr p → Rt p n R)
    ∧ (∀ W, PrsW W → TabW W → Calls Tryd.prog 118 #[.int .i64 p, .int .i64 n] W fun e w' => e = .returned (.tuple #[.int .i64 R, .bool true]) ∧ ∃ k, w' = W.drewN k) := by
  obtain ⟨j, hj⟩ := ordB_pow n h.ord
  obtain ⟨b1, b2, b3⟩ := ordB_yes n h.ord
  obtain ⟨m1, m2⟩ := modB_yes h.md
  have hdv : (p - 1) % n = 0 := by
    have h1 := h.dv
    have e : (p : Int) - 1 = ((p - 1 : Nat) : Int) := by omega
    rw [e] at h1
    have h2 : (((p - 1) % n : Nat) : Int) = 0 := by rw [← h1]; simp
    omega
  have en := Nat.div_add_mod (p - 1) n
  rw [hdv, Nat.add_zero] at en
  have hp3 : 3 ≤ p := by
    rcases Nat.lt_or_ge p 3 with hlt | hge
    · exfalso
      have h2 : p = 2 := by omega
      rw [h2, Nat.mod_eq_of_lt (by omega)] at hdv
      omega
    · exact hge
  obtain ⟨hh, ehh⟩ : ∃ hh, hh = n / 2 := ⟨_, rfl⟩
  have hn2 : n = 2 * hh := by omega
  have em : (p - 1) / n * hh = (p - 1) / 2 := by
    have h1 : 2 * ((p - 1) / n * hh) = p - 1 := by
      rw [← en, hn2]
      have := en
      rw [hn2] at this
      rw [this, ← this]
      grind
    omega
  have hpm : p = 2 * ((p - 1) / 2) + 1 := by
    have h1 : 2 * ((p - 1) / n * hh) = p - 1 := by
      have := en
      rw [hn2] at this
      rw [hn2, ← this]
      have e3 : (2 * hh * ((p - 1) / (2 * hh))) / (2 * hh) = (p - 1) / (2 * hh) := Nat.mul_div_cancel_left _ (by omega)
      rw [e3]
      grind
    omega
  obtain ⟨A, hA2, hAp, hmin, hA⟩ := first_ex p ((p - 1) / 2) (by omega) (by omega)
  have hr := powM_lt (A % p) ((p - 1) / n) p (by omega)
  refine ⟨_, ?_, ?_, fun W h1 h2 => impl_RootOf_yes p n _ _ W h1 h2 h hr (fun W => impl_someRoot p n _ _ A W hp3 (by omega) rfl rfl (by omega) b2 hA2 hAp hmin hA) (fun W => impl_leastRoot _ p n W (by omega) (by omega) hr b1 b2)⟩
  · exact lr_lt p _ (by omega) _ _ _ hr
  · intro hPr
    have facts := F1.least_root (p := p) (n := n) (j := j) (A := A) (e := (p - 1) / n) hPr hp3 hj (by rw [← ehh]; exact em) hpm hA2 (fun b hb1 hb2 => by have := hmin b hb1 hb2; rwa [powM_mod] at this) (by rwa [powM_mod] at hA) (powM (A % p) ((p - 1) / n) p) _ (powM_mod _ _ _) rfl
    exact ⟨facts.2.2.1, facts.1, neg_of hPr hp3 (by omega) facts.1 facts.2.1⟩
theorem Rings_rt (N : Int) (xs : List Int) : ∃ Rf : Nat → Int, ∀ k, RingOk (xs.getD k 0) N → ((0 ≤ Rf k ∧ Rf k < xs.getD k 0) ∧ (∀ W, PrsW W → TabW W → Calls Tryd.prog 61 #[.int .i64 (xs.getD k 0), .int .i64 N] W fun e w' => e = .returned (.tuple #[.agg #[.int .i64 (xs.getD k 0), .int .i64 N, .int .i64 (Rf k)], .bool true]) ∧ Old W w'))
    ∧ ∃ P M R : Nat, xs.getD k 0 = P ∧ N = M ∧ Rf k = R ∧ R < P ∧ RingOk P M ∧ (F1.Pr P → Rt P (2 * M) R) := by
  have h : ∀ k, ∃ Rk : Int, RingOk (xs.getD k 0) N → ((0 ≤ Rk ∧ Rk < xs.getD k 0) ∧ (∀ W, PrsW W → TabW W → Calls Tryd.prog 61 #[.int .i64 (xs.getD k 0), .int .i64 N] W fun e w' => e = .returned (.tuple #[.agg #[.int .i64 (xs.getD k 0), .int .i64 N, .int .i64 Rk], .bool true]) ∧ Old W w'))
      ∧ ∃ P M R : Nat, xs.getD k 0 = P ∧ N = M ∧ Rk = R ∧ R < P ∧ RingOk P M ∧ (F1.Pr P → Rt P (2 * M) R) := fun k => by
    by_cases hk : RingOk (xs.getD k 0) N
    · have h1 := modB_yes hk.md
      have h2 := hk.sz
      obtain ⟨P, hP⟩ := Int.eq_ofNat_of_zero_le (show 0 ≤ xs.getD k 0 by omega)
      obtain ⟨M, hM⟩ := Int.eq_ofNat_of_zero_le (show 0 ≤ N by omega)
      rw [hP, hM] at hk ⊢
      obtain ⟨R, r1, r2, r3⟩ := Root_rt P (2 * M) (by have := hk.root; exact_mod_cast this)
      have e : ((2 * M : Nat) : Int) = 2 * (M : Int) := by omega
      rw [e] at r3
      exact ⟨R, fun _ => ⟨⟨by omega, fun W a b => impl_RingOf_yes P M R W a b hk.sz r3⟩, P, M, R, rfl, rfl, rfl, r1, hk, r2⟩⟩
    · exact ⟨0, fun h => absurd h hk⟩
  exact Classical.skolem.1 h
end Go.Proofs.YtpebikjckhcgfaaDoor
