/- Proved: the contract of the program's ModWord (and of its tests for a modulus and of the least residue). -/
import Derived.Test.YtejkejfhahmhcaaDoorExpC
import Derived.Test.YtejkejfhahmhcaaDoorKC
import Derived.Test.YtejkejfhahmhcaaDoorKS
namespace Go.Proofs.YtejkejfhahmhcaaDoor
open Go.ChangeShapes Go.WideShapes Go.ChangeAt Go.RowKit
open M2
set_option linter.unusedVariables false
set_option linter.unusedSimpArgs false
/-- a modulus -/
def modBW (p : Int) : Bool := decide (2 ≤ p ∧ p ≤ 268435456)
theorem modB_yesW {p : Int} (h : modBW p = true) : 2 ≤ p ∧ p ≤ 268435456 := by simpa [modBW] using h
theorem modB_noW {p : Int} (h : modBW p = false) : p < 2 ∨ (2 ≤ p ∧ 268435456 < p) := by simp [modBW] at h; omega
theorem impl_isModulusW (p : Int) (w : World) :
    Calls Tryd.prog 117 #[.int .i64 p] w fun e w' => e = .returned (.bool (modBW p)) ∧ w' = w := by
  cases h : modBW p
  · rcases modB_noW h with h1 | ⟨h1, h2⟩
    all_goals
      clear h
      try (have d : decide (p ≤ 268435456) = false := by simp; omega)
      go_enter Tryd.func117, Tryd.ntmps117
      go_wp2
      go_ret
      exact ⟨rfl, rfl⟩
  · obtain ⟨h1, h2⟩ := modB_yesW h
    clear h
    go_enter Tryd.func117, Tryd.ntmps117
    go_wp2
    go_ret
    exact ⟨rfl, rfl⟩
theorem tmod_negI (a p : Int) (h0 : a < 0) (hp : 1 ≤ p) : -p < a.tmod p ∧ a.tmod p ≤ 0 ∧ (a.tmod p < 0 → a.tmod p + p = a % p) ∧ (0 ≤ a.tmod p → a.tmod p = a % p) := by
  have e : Int.tmod a p = - ((-a) % p) := by
    rw [← Int.tmod_eq_emod_of_nonneg (by omega), Int.neg_tmod, Int.neg_neg]
  have r0 := Int.emod_nonneg (-a) (show p ≠ 0 by omega)
  have r1 := Int.emod_lt_of_pos (-a) (b := p) (by omega)
  have k : (-a) % p = if p ∣ a then 0 else p - a % p := by
    rw [Int.neg_emod]
    have : (p.natAbs : Int) = p := by omega
    rw [this]
  by_cases hd : p ∣ a
  · rw [if_pos hd] at k
    have := Int.emod_eq_zero_of_dvd hd
    omega
  · rw [if_neg hd] at k
    have hd' : a % p ≠ 0 := fun h => hd (Int.dvd_of_emod_eq_zero h)
    have s0 := Int.emod_nonneg a (show p ≠ 0 by omega)
    have s1 := Int.emod_lt_of_pos a (b := p) (by omega)
    omega
theorem impl_residueOfW (a p : Int) (w : World) (ha : -9223372036854775808 ≤ a ∧ a ≤ 9223372036854775807) (hp : 1 ≤ p ∧ p ≤ 4294967296) :
    Calls Tryd.prog 82 #[.int .i64 a, .int .i64 p] w fun e w' => e = .returned (.int .i64 (a % p)) ∧ w' = w := by
  obtain ⟨h1, h2⟩ := hp
  obtain ⟨h3, h4⟩ := ha
  by_cases h0 : 0 ≤ a
  · have r0 := Int.emod_nonneg a (show p ≠ 0 by omega)
    go_enter Tryd.func82, Tryd.ntmps82
    go_wp2
    go_ret
    exact ⟨rfl, rfl⟩
  · obtain ⟨t1, t2, t3, t4⟩ := tmod_negI a p (by omega) h1
    have T3 : Hid (a.tmod p < 0 → a.tmod p + p = a % p) := t3
    have T4 : Hid (0 ≤ a.tmod p → a.tmod p = a % p) := t4
    clear t3 t4
    by_cases hs : a.tmod p < 0
    · go_enter Tryd.func82, Tryd.ntmps82
      go_wp2
      go_ret
      exact ⟨by rw [← T3.out hs]; rfl, rfl⟩
    · go_enter Tryd.func82, Tryd.ntmps82
      go_wp2
      go_ret
      exact ⟨by rw [← T4.out (by omega)]; rfl, rfl⟩

theorem mod_negs (a d : Nat) (hd : 0 < d) : (-((a % d : Nat) : Int)) % (d : Int) = (-(a : Int)) % (d : Int) := by
  have h : (-(a : Int)) = -((a % d : Nat) : Int) + (d : Int) * (-((a / d : Nat) : Int)) := by
    have h1 := Nat.div_add_mod a d
    have h2 : (a : Int) = (d : Int) * ((a / d : Nat) : Int) + ((a % d : Nat) : Int) := by
      have := congrArg (fun z : Nat => (z : Int)) h1.symm
      simp only [Int.natCast_add, Int.natCast_mul] at this
      exact this
    rw [Int.mul_neg]
    omega
  rw [h, Int.add_mul_emod_self_left]
end Go.Proofs.YtejkejfhahmhcaaDoor
