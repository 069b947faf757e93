/- Proved: the program's RingOf where it answers: its own contract alone. -/
import Derived.Test.YtcbbljadjibfeaaDoorKB
namespace Go.Proofs.YtcbbljadjibfeaaDoor
open Go.ChangeShapes Go.WideShapes Go.ChangeAt Go.RowKit
open M1
set_option linter.unusedVariables false
set_option linter.unusedSimpArgs false
theorem Root_impl (p n : Nat) (h : RootOk p n) : ∃ R : Nat, R < p ∧ (∀ W, PrsW W → TabW W → Calls Tryd.prog 134 #[.int .i64 p, .int .i64 n] W fun e w' => e = .returned (.tuple #[.int .i64 R, .bool true]) ∧ ∃ k, w' = W.drewN k) := by
  obtain ⟨b1, b2, b3⟩ := ordB_yes n h.ord
  obtain ⟨m1, m2⟩ := modB_yes h.md
  have hdv : (p - 1) % n = 0 := by
    have h1 := h.dv
    have e : (p : Int) - 1 = ((p - 1 : Nat) : Int) := by omega
    rw [e] at h1
    have h2 : (((p - 1) % n : Nat) : Int) = 0 := by rw [← h1]; simp
    omega
  have hp3 : 3 ≤ p := by
    rcases Nat.lt_or_ge p 3 with hlt | hge
    · exfalso
      have h2 : p = 2 := by omega
      rw [h2, Nat.mod_eq_of_lt (by omega)] at hdv
      omega
    · exact hge
  obtain ⟨A, hA2, hAp, hmin, hA⟩ := first_ex p ((p - 1) / 2) (by omega) (by omega)
  have hr := powM_lt (A % p) ((p - 1) / n) p (by omega)
  refine ⟨_, ?_, fun W h1 h2 => impl_RootOf_yes p n _ _ W h1 h2 h hr (fun W => impl_someRoot p n _ _ A W hp3 (by omega) rfl rfl (by omega) b2 hA2 hAp hmin hA) (fun W => impl_leastRoot _ p n W (by omega) (by omega) hr b1 b2)⟩
  exact lr_lt p _ (by omega) _ _ _ hr
theorem Ring_impl (p n : Int) (h : RingOk p n) : ∃ R : Int, (0 ≤ R ∧ R < p) ∧ (∀ W, PrsW W → TabW W → Calls Tryd.prog 112 #[.int .i64 p, .int .i64 n] W fun e w' => e = .returned (.tuple #[.agg #[.int .i64 p, .int .i64 n, .int .i64 R], .bool true]) ∧ Old W w') := by
  obtain ⟨m1, m2⟩ := modB_yes h.md
  have hz := h.sz
  obtain ⟨P, rfl⟩ : ∃ P : Nat, p = P := ⟨p.toNat, by omega⟩
  obtain ⟨N, rfl⟩ : ∃ N : Nat, n = N := ⟨n.toNat, by omega⟩
  obtain ⟨R, h1, h3⟩ := Root_impl P (2 * N) (by have := h.root; exact_mod_cast this)
  have e : ((2 * N : Nat) : Int) = 2 * (N : Int) := by omega
  rw [e] at h3
  exact ⟨R, by omega, fun W a b => impl_RingOf_yes P N R W a b h.sz h3⟩
end Go.Proofs.YtcbbljadjibfeaaDoor
