/- Proved: every number up to 268435455 that passes trial division and the twelve witnesses is a prime, and so are the ten great ones that are drawn; no program in sight. -/
import Derived.Test.YtfgooclnohnkmaaGreatDoorTab1
import Derived.Test.YtfgooclnohnkmaaGreatDoorTab2
import Derived.Test.YtfgooclnohnkmaaGreatDoorTab3
namespace Go.Proofs.YtfgooclnohnkmaaGreatDoor.F1
open Go.Proofs.YtfgooclnohnkmaaGreatDoor
set_option linter.unusedVariables false
theorem tab_all (q : Nat) (h1 : 41 ≤ q) (h2 : q ≤ 16383) : chkQ q = true := by
  have use : ∀ d lo, allT chkQ d lo = true → lo ≤ q → q < lo + 2 ^ d → chkQ q = true := by
    intro d lo h h3 h4
    have := allT_all chkQ d lo h (q - lo) (by omega)
    rwa [show lo + (q - lo) = q by omega] at this
  by_cases c41 : q < 42
  · exact use 0 41 tab41 (by omega) (by simpa using c41)
  by_cases c42 : q < 44
  · exact use 1 42 tab42 (by omega) (by simpa using c42)
  by_cases c44 : q < 48
  · exact use 2 44 tab44 (by omega) (by simpa using c44)
  by_cases c48 : q < 56
  · exact use 3 48 tab48 (by omega) (by simpa using c48)
  by_cases c56 : q < 64
  · exact use 3 56 tab56 (by omega) (by simpa using c56)
  by_cases c64 : q < 80
  · exact use 4 64 tab64 (by omega) (by simpa using c64)
  by_cases c80 : q < 96
  · exact use 4 80 tab80 (by omega) (by simpa using c80)
  by_cases c96 : q < 128
  · exact use 5 96 tab96 (by omega) (by simpa using c96)
  by_cases c128 : q < 256
  · exact use 7 128 tab128 (by omega) (by simpa using c128)
  by_cases c256 : q < 512
  · exact use 8 256 tab256 (by omega) (by simpa using c256)
  by_cases c512 : q < 1024
  · exact use 9 512 tab512 (by omega) (by simpa using c512)
  by_cases c1024 : q < 2048
  · exact use 10 1024 tab1024 (by omega) (by simpa using c1024)
  by_cases c2048 : q < 4096
  · exact use 11 2048 tab2048 (by omega) (by simpa using c2048)
  by_cases c4096 : q < 8192
  · exact use 12 4096 tab4096 (by omega) (by simpa using c4096)
  exact use 13 8192 tab8192 (by omega) (by simp; omega)
theorem wit_all (n : Nat) : ∀ l : List Nat, wit n l = true → ∀ a ∈ l, passB n a = true
  | [], _, a, ha => by cases ha
  | x :: l, h, a, ha => by
    have h' : (passB n x && wit n l) = true := h
    rw [Bool.and_eq_true] at h'
    rcases List.mem_cons.1 ha with rfl | h1
    · exact h'.1
    · exact wit_all n l h'.2 a h1
theorem fnd_all (n : Nat) : ∀ l : List Nat, fnd n l = true → (∃ a ∈ l, n = a) ∨ ((∀ a ∈ l, n % a ≠ 0) ∧ wit n smallP = true)
  | [], h => Or.inr ⟨fun a ha => (by cases ha), h⟩
  | x :: l, h => by
    unfold fnd at h
    by_cases hx : n % x = 0
    · rw [if_pos hx] at h
      exact Or.inl ⟨x, List.mem_cons_self .., by simpa using h⟩
    · rw [if_neg hx] at h
      rcases fnd_all n l h with ⟨a, ha, e⟩ | ⟨h1, h2⟩
      · exact Or.inl ⟨a, List.mem_cons_of_mem _ ha, e⟩
      · refine Or.inr ⟨fun a ha => ?_, h2⟩
        rcases List.mem_cons.1 ha with rfl | h3
        · exact hx
        · exact h1 a h3
theorem pr_of_isP (n : Nat) (h : isP n = true) (hN : n ≤ 268435455) : Pr n := by
  unfold isP at h
  by_cases h2 : n < 2
  · rw [if_pos h2] at h; cases h
  · rw [if_neg h2] at h
    rcases fnd_all n smallP h with ⟨a, ha, rfl⟩ | ⟨h1, h3⟩
    · exact small_Pr n ha
    · exact pr_of_table tab_all n (above_of n (by omega) h1) hN h1 (wit_all n smallP h3)
/-- no divisor from 2 to 16385 -/
def trial (n : Nat) : Bool := allT (fun d => !(Nat.beq (Nat.mod n d) 0)) 14 2
theorem pr_of_trial (n : Nat) (h2 : 2 ≤ n) (hn : n ≤ 268435456) (h : trial n = true) : Pr n := by
  apply Classical.byContradiction
  intro hno
  obtain ⟨q, m, hq, hm, _, hqq⟩ := not_pr h2 hno
  have hq2 := hq.1
  have hq' : q ≤ 16385 := by
    by_cases hx : q ≤ 16385
    · exact hx
    · have := Nat.mul_le_mul (show 16386 ≤ q by omega) (show 16386 ≤ q by omega)
      omega
  have hx := allT_all _ _ _ h (q - 2) (by simp; omega)
  rw [show 2 + (q - 2) = q by omega] at hx
  have e : Nat.beq (Nat.mod n q) 0 = true := nbeq_mk (Nat.mod_eq_zero_of_dvd ⟨m, hm⟩)
  rw [e] at hx
  cases hx
def bigP : List Nat := [268435361, 268435009, 268434977, 268434721, 268434401, 268433761, 268433569, 268433441, 268433377, 268433057]
theorem big268435361 : trial 268435361 = true := by decide +kernel
theorem big268435009 : trial 268435009 = true := by decide +kernel
theorem big268434977 : trial 268434977 = true := by decide +kernel
theorem big268434721 : trial 268434721 = true := by decide +kernel
theorem big268434401 : trial 268434401 = true := by decide +kernel
theorem big268433761 : trial 268433761 = true := by decide +kernel
theorem big268433569 : trial 268433569 = true := by decide +kernel
theorem big268433441 : trial 268433441 = true := by decide +kernel
theorem big268433377 : trial 268433377 = true := by decide +kernel
theorem big268433057 : trial 268433057 = true := by decide +kernel
theorem big_Pr (n : Nat) (h : n ∈ bigP) : Pr n := by
  unfold bigP at h
  simp only [List.mem_cons, List.not_mem_nil, or_false] at h
  rcases h with rfl | rfl | rfl | rfl | rfl | rfl | rfl | rfl | rfl | rfl
  · exact pr_of_trial _ (by omega) (by omega) big268435361
  · exact pr_of_trial _ (by omega) (by omega) big268435009
  · exact pr_of_trial _ (by omega) (by omega) big268434977
  · exact pr_of_trial _ (by omega) (by omega) big268434721
  · exact pr_of_trial _ (by omega) (by omega) big268434401
  · exact pr_of_trial _ (by omega) (by omega) big268433761
  · exact pr_of_trial _ (by omega) (by omega) big268433569
  · exact pr_of_trial _ (by omega) (by omega) big268433441
  · exact pr_of_trial _ (by omega) (by omega) big268433377
  · exact pr_of_trial _ (by omega) (by omega) big268433057
end Go.Proofs.YtfgooclnohnkmaaGreatDoor.F1
