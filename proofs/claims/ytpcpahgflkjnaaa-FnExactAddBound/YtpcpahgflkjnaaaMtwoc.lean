/- Proved: limbs of a word, what is left by a word, doubling, and products of limbs, round by round; no program in sight. -/
import Derived.Test.YtpcpahgflkjnaaaMtwob
namespace Go.Proofs.Ytpcpahgflkjnaaa.M2
set_option linter.unusedVariables false
theorem nrm_of_ge {xs : List Nat} (h : Lim xs) (hv : xs.length ≠ 0 → LB ^ (xs.length - 1) ≤ val xs) : Nrm xs := by
  refine ⟨h, fun hne h0 => ?_⟩
  have e := List.dropLast_concat_getLast hne
  have hl : xs.length ≠ 0 := fun h0 => hne (List.length_eq_zero_iff.1 h0)
  have h1 := hv hl
  rw [← e, h0, val_snoc, Nat.mul_zero, Nat.add_zero] at h1
  have h2 : val xs.dropLast < LB ^ xs.dropLast.length := val_lt (fun x hx => h x (List.dropLast_subset xs hx))
  have e2 : (xs.dropLast ++ [0]).length - 1 = xs.dropLast.length := by simp
  rw [e2] at h1
  omega
theorem nrm_ge {xs : List Nat} (h : Nrm xs) (h0 : xs.length ≠ 0) : LB ^ (xs.length - 1) ≤ val xs := by
  by_cases hlt : val xs < LB ^ (xs.length - 1)
  · have := dig_len_le hlt
    rw [dig_val h] at this
    omega
  · omega
theorem dig_snoc {n m : Nat} {out : List Nat} (h : dig n = out ++ dig m) (hm : m ≠ 0) : dig n = (out ++ [m % LB]) ++ dig (m / LB) := by
  rw [h, dig_pos m hm, List.append_assoc]
  rfl
theorem word_step (xs : List Nat) (k m : Nat) (h : k < xs.length) : (val (xs.drop (k + 1)) % m * LB + xs.getD k 0) % m = val (xs.drop k) % m := by
  rw [val_drop_getD xs k h, Nat.add_mod, Nat.mul_mod, Nat.mod_mod, ← Nat.mul_mod, ← Nat.add_mod, Nat.add_comm, Nat.mul_comm]
/-- doubling, k limbs far -/
structure ShI (xs : List Nat) (bit k : Nat) (out : List Nat) (c : Nat) : Prop where
  lim : Lim out
  len : out.length = k
  eq : val out + LB ^ k * c = 2 * val (xs.take k) + bit
  c1 : c ≤ 1
theorem ShI.start (xs : List Nat) (bit : Nat) (hb : bit ≤ 1) : ShI xs bit 0 [] bit := ⟨Lim.nil, rfl, by simp [val], hb⟩
theorem ShI.step {xs : List Nat} {bit k : Nat} {out : List Nat} {c : Nat} (h : ShI xs bit k out c) (hx : Lim xs) : ShI xs bit (k + 1) (out ++ [(c + 2 * xs.getD k 0) % LB]) ((c + 2 * xs.getD k 0) / LB) := by
  have h1 := hx.getD k
  have h3 := h.c1
  refine ⟨h.lim.append (Lim.cons (Nat.mod_lt _ LB_pos) Lim.nil), by simp [h.len], ?_, ?_⟩
  · rw [val_snoc, h.len, val_take_succ, Nat.add_assoc, split_pow]
    have := h.eq
    have e : LB ^ k * (c + 2 * xs.getD k 0) = LB ^ k * c + 2 * (LB ^ k * xs.getD k 0) := by rw [Nat.mul_add, Nat.mul_left_comm]
    rw [e, Nat.mul_add]
    omega
  · have : c + 2 * xs.getD k 0 < LB * 2 := by omega
    have := Nat.div_lt_of_lt_mul this
    omega
theorem ShI.no {xs : List Nat} {bit : Nat} {out : List Nat} {c : Nat} (h : ShI xs bit xs.length out c) (hx : Nrm xs) (hc : c = 0) : out = dig (2 * val xs + bit) := by
  have h1 := h.eq
  rw [List.take_length, hc, Nat.mul_zero, Nat.add_zero] at h1
  rw [← h1]
  refine (dig_val (nrm_of_ge h.lim (fun h0 => ?_))).symm
  rw [h.len] at h0 ⊢
  have := nrm_ge hx h0
  omega
theorem ShI.yes {xs : List Nat} {bit : Nat} {out : List Nat} {c : Nat} (h : ShI xs bit xs.length out c) (hc : 0 < c) : out ++ [c] = dig (2 * val xs + bit) := by
  have h1 := h.eq
  rw [List.take_length] at h1
  have h3 := h.c1
  have hLB : (1 : Nat) < LB := by decide
  have e : val (out ++ [c]) = 2 * val xs + bit := by rw [val_snoc, h.len]; exact h1
  rw [← e]
  refine (dig_val ⟨h.lim.append (Lim.cons (by omega) Lim.nil), fun hne => ?_⟩).symm
  simp
  omega
/-- limbs with one turned -/
theorem val_set : ∀ (xs : List Nat) (k y : Nat), k < xs.length → val (xs.set k y) + LB ^ k * xs.getD k 0 = val xs + LB ^ k * y
  | [], k, y, h => by simp at h
  | x :: xs, 0, y, h => by
    show y + LB * val xs + LB ^ 0 * x = x + LB * val xs + LB ^ 0 * y
    rw [Nat.pow_zero]
    omega
  | x :: xs, k + 1, y, h => by
    have ih := val_set xs k y (by simpa using h)
    show x + LB * val (xs.set k y) + LB ^ (k + 1) * xs.getD k 0 = x + LB * val xs + LB ^ (k + 1) * y
    rw [Nat.pow_succ]
    have e : LB * (val (xs.set k y) + LB ^ k * xs.getD k 0) = LB * (val xs + LB ^ k * y) := by rw [ih]
    rw [Nat.mul_add, Nat.mul_add] at e
    have e1 : LB ^ k * LB * xs.getD k 0 = LB * (LB ^ k * xs.getD k 0) := by rw [Nat.mul_comm (LB ^ k) LB, Nat.mul_assoc]
    have e2 : LB ^ k * LB * y = LB * (LB ^ k * y) := by rw [Nat.mul_comm (LB ^ k) LB, Nat.mul_assoc]
    omega
theorem Lim.set {xs : List Nat} (h : Lim xs) (k y : Nat) (hy : y < LB) : Lim (xs.set k y) := fun z hz => by
  rcases List.mem_or_eq_of_mem_set hz with h1 | h1
  · exact h z h1
  · rw [h1]; exact hy
theorem lim_zeros (n : Nat) : Lim (List.replicate n 0) := fun z hz => by rw [List.eq_of_mem_replicate hz]; exact LB_pos
theorem val_zeros : ∀ n : Nat, val (List.replicate n 0) = 0
  | 0 => rfl
  | n + 1 => by
    rw [List.replicate_succ]
    show 0 + LB * val (List.replicate n 0) = 0
    rw [val_zeros n, Nat.mul_zero]
/-- products: out and a carry at the place p are worth T -/
structure MulI (n p T : Nat) (out : List Nat) (c : Nat) : Prop where
  lim : Lim out
  len : out.length = n
  eq : val out + LB ^ p * c = T
  c1 : c < LB
theorem MulI.step {n p T : Nat} {out : List Nat} {c : Nat} (h : MulI n p T out c) (z : Nat) (hz : z ≤ (LB - 1) * (LB - 1)) (hp : p < n) :
    MulI n (p + 1) (T + LB ^ p * z) (out.set p ((c + (out.getD p 0 + z)) % LB)) ((c + (out.getD p 0 + z)) / LB) := by
  have h1 := h.lim.getD p
  have h2 := h.c1
  refine ⟨h.lim.set _ _ (Nat.mod_lt _ LB_pos), by simp [h.len], ?_, ?_⟩
  · have e := val_set out p ((c + (out.getD p 0 + z)) % LB) (by rw [h.len]; exact hp)
    have e2 := split_pow p (c + (out.getD p 0 + z))
    have e3 := h.eq
    rw [Nat.mul_add, Nat.mul_add] at e2
    omega
  · refine Nat.div_lt_of_lt_mul ?_
    have : LB * LB = (LB - 1) * (LB - 1) + 2 * (LB - 1) + 1 := by decide
    omega
theorem MulI.carry {n p T : Nat} {out : List Nat} {c : Nat} (h : MulI n p T out c) (hT : T < LB ^ n) (hc : 0 < c) : p < n := by
  by_cases hp : p < n
  · exact hp
  · exfalso
    have h1 := h.eq
    have h2 : LB ^ n ≤ LB ^ p := Nat.pow_le_pow_right LB_pos (by omega)
    have h3 : LB ^ p * 1 ≤ LB ^ p * c := Nat.mul_le_mul (Nat.le_refl _) hc
    omega
theorem MulI.next {n p T : Nat} {out : List Nat} {c : Nat} (h : MulI n p T out c) (hp : p < n) :
    MulI n (p + 1) T (out.set p ((c + out.getD p 0) % LB)) ((c + out.getD p 0) / LB) := by
  have := h.step 0 (Nat.zero_le _) hp
  simpa using this
theorem MulI.zero {n p T : Nat} {out : List Nat} {c : Nat} (h : MulI n p T out c) (hc : c = 0) (p' : Nat) : MulI n p' T out 0 := by
  have := h.eq
  rw [hc, Nat.mul_zero, Nat.add_zero] at this
  exact ⟨h.lim, h.len, by rw [Nat.mul_zero, Nat.add_zero]; exact this, LB_pos⟩
theorem mul_row (A X P J T y k j : Nat) (hJ : P * J = LB ^ (k + j)) : A + P * X * T + LB ^ (k + j) * (X * y) = A + P * X * (T + J * y) := by
  rw [← hJ]
  grind
theorem mul_row_step (xs ys : List Nat) (x k j : Nat) : val (xs.take k) * val ys + LB ^ k * x * val (ys.take j) + LB ^ (k + j) * (x * ys.getD j 0) = val (xs.take k) * val ys + LB ^ k * x * val (ys.take (j + 1)) := by
  rw [val_take_succ]
  exact mul_row _ _ _ _ _ _ k j (Nat.pow_add LB k j).symm
end Go.Proofs.Ytpcpahgflkjnaaa.M2
