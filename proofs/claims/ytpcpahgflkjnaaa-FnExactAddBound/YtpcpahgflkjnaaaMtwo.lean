/- Proved: numbers as limbs to the base 2^28, the lowest first: what they are worth, the limbs of a number, noughts behind struck; no program in sight. -/
namespace Go.Proofs.Ytpcpahgflkjnaaa.M2
set_option linter.unusedVariables false
def LB : Nat := 268435456
/-- what limbs are worth -/
def val : List Nat → Nat
  | [] => 0
  | x :: xs => x + LB * val xs
/-- the limbs of a number, none behind that is 0, at most so many of them -/
def digF : Nat → Nat → List Nat
  | 0, _ => []
  | f + 1, n => if n = 0 then [] else (n % LB) :: digF f (n / LB)
/-- the limbs of a number, none behind that is 0 -/
def dig (n : Nat) : List Nat := digF n n
theorem digF_zero (f : Nat) : digF f 0 = [] := by cases f <;> rfl
theorem digF_eq (f : Nat) : ∀ g n, n ≤ f → n ≤ g → digF f n = digF g n := by
  induction f with
  | zero => intro g n h k; obtain rfl : n = 0 := by omega
            rw [digF_zero, digF_zero]
  | succ f ih =>
    intro g n h k
    by_cases hn : n = 0
    · subst hn; rw [digF_zero, digF_zero]
    · obtain ⟨g', rfl⟩ : ∃ g', g = g' + 1 := ⟨g - 1, by omega⟩
      have hd : n / LB < n := Nat.div_lt_self (by omega) (by decide)
      have e1 : digF (f + 1) n = (n % LB) :: digF f (n / LB) := by rw [digF, if_neg hn]
      have e2 : digF (g' + 1) n = (n % LB) :: digF g' (n / LB) := by rw [digF, if_neg hn]
      rw [e1, e2, ih g' (n / LB) (by omega) (by omega)]
theorem dig_zero : dig 0 = [] := rfl
theorem dig_pos (n : Nat) (h : n ≠ 0) : dig n = (n % LB) :: dig (n / LB) := by
  obtain ⟨m, rfl⟩ : ∃ m, n = m + 1 := ⟨n - 1, by omega⟩
  have hd : (m + 1) / LB < m + 1 := Nat.div_lt_self (by omega) (by decide)
  have e1 : digF (m + 1) (m + 1) = ((m + 1) % LB) :: digF m ((m + 1) / LB) := by rw [digF, if_neg h]
  show digF (m + 1) (m + 1) = _
  rw [e1, digF_eq m ((m + 1) / LB) ((m + 1) / LB) (by omega) (Nat.le_refl _)]
  rfl
/-- every limb is below the base -/
def Lim (xs : List Nat) : Prop := ∀ x ∈ xs, x < LB
/-- limbs as they should be -/
def Nrm (xs : List Nat) : Prop := Lim xs ∧ ∀ h : xs ≠ [], xs.getLast h ≠ 0
theorem Lim.nil : Lim [] := fun x hx => by cases hx
theorem Lim.cons {x : Nat} {xs : List Nat} (h : x < LB) (hs : Lim xs) : Lim (x :: xs) := fun y hy => by
  rcases List.mem_cons.1 hy with rfl | h1
  · exact h
  · exact hs y h1
theorem Lim.head {x : Nat} {xs : List Nat} (h : Lim (x :: xs)) : x < LB := h x (List.mem_cons_self ..)
theorem Lim.tail {x : Nat} {xs : List Nat} (h : Lim (x :: xs)) : Lim xs := fun y hy => h y (List.mem_cons_of_mem _ hy)
theorem Lim.append {xs ys : List Nat} (h : Lim xs) (k : Lim ys) : Lim (xs ++ ys) := fun y hy => by
  rcases List.mem_append.1 hy with h1 | h1
  · exact h y h1
  · exact k y h1
theorem Lim.take {xs : List Nat} (h : Lim xs) (k : Nat) : Lim (xs.take k) := fun y hy => h y (List.mem_of_mem_take hy)
theorem Lim.drop {xs : List Nat} (h : Lim xs) (k : Nat) : Lim (xs.drop k) := fun y hy => h y (List.mem_of_mem_drop hy)
theorem Lim.getD {xs : List Nat} (h : Lim xs) (k : Nat) : xs.getD k 0 < LB := by
  by_cases hk : k < xs.length
  · have e : xs.getD k 0 = xs[k] := by simp [List.getD, hk]
    rw [e]; exact h _ (List.getElem_mem hk)
  · have e : xs.getD k 0 = 0 := by simp [List.getD, List.getElem?_eq_none (Nat.le_of_not_lt hk)]
    rw [e]; decide
theorem LB_pos : 0 < LB := by decide
theorem val_dig (n : Nat) : val (dig n) = n := by
  induction n using Nat.strongRecOn with
  | _ n ih =>
    by_cases h : n = 0
    · subst h; rw [dig_zero]; rfl
    · rw [dig_pos n h]
      show n % LB + LB * val (dig (n / LB)) = n
      rw [ih (n / LB) (Nat.div_lt_self (by omega) (by decide))]
      exact Nat.mod_add_div n LB
theorem dig_lim (n : Nat) : Lim (dig n) := by
  induction n using Nat.strongRecOn with
  | _ n ih =>
    by_cases h : n = 0
    · subst h; rw [dig_zero]; exact Lim.nil
    · rw [dig_pos n h]
      exact Lim.cons (Nat.mod_lt _ LB_pos) (ih _ (Nat.div_lt_self (by omega) (by decide)))
theorem dig_nil {n : Nat} (h : dig n = []) : n = 0 := by
  have := val_dig n
  rw [h] at this
  exact this.symm
theorem dig_ne {n : Nat} (h : n ≠ 0) : dig n ≠ [] := fun e => h (dig_nil e)
theorem dig_nrm (n : Nat) : Nrm (dig n) := by
  refine ⟨dig_lim n, ?_⟩
  induction n using Nat.strongRecOn with
  | _ n ih =>
    intro hne
    have h : n ≠ 0 := by rintro rfl; exact hne dig_zero
    have e := dig_pos n h
    by_cases h2 : n / LB = 0
    · have e2 : dig n = [n % LB] := by rw [e, h2, dig_zero]
      have hlt : n < LB := by
        by_cases hl : n < LB
        · exact hl
        · have := Nat.div_pos (Nat.le_of_not_lt hl) LB_pos
          omega
      have : (dig n).getLast hne = n % LB := by simp [e2]
      rw [this, Nat.mod_eq_of_lt hlt]
      exact h
    · have h3 := ih (n / LB) (Nat.div_lt_self (by omega) (by decide)) (dig_ne h2)
      have : (dig n).getLast hne = (dig (n / LB)).getLast (dig_ne h2) := by
        simp only [e]
        rw [List.getLast_cons (dig_ne h2)]
      rw [this]
      exact h3
theorem val_zero_of {xs : List Nat} (h : Nrm xs) (hv : val xs = 0) : xs = [] := by
  induction xs with
  | nil => rfl
  | cons x xs ih =>
    exfalso
    have hv' : x + LB * val xs = 0 := hv
    have hp := LB_pos
    have hx : x = 0 := by omega
    have hs : val xs = 0 := by
      have : LB * val xs = 0 := by omega
      rcases Nat.mul_eq_zero.1 this with h1 | h1
      · omega
      · exact h1
    by_cases hxs : xs = []
    · subst hxs
      exact h.2 (by simp) (by simpa using hx)
    · have : xs = [] := ih ⟨h.1.tail, fun hne => by
        have := h.2 (by simp)
        rw [List.getLast_cons hne] at this
        exact this⟩ hs
      exact hxs this
theorem dig_val {xs : List Nat} (h : Nrm xs) : dig (val xs) = xs := by
  induction xs with
  | nil => exact dig_zero
  | cons x xs ih =>
    have hne : val (x :: xs) ≠ 0 := fun e => by cases val_zero_of h e
    have hx := h.1.head
    have ht : Nrm xs := ⟨h.1.tail, fun hne => by
      have := h.2 (by simp)
      rw [List.getLast_cons hne] at this
      exact this⟩
    rw [dig_pos _ hne]
    have e1 : val (x :: xs) % LB = x := by
      show (x + LB * val xs) % LB = x
      rw [Nat.add_mul_mod_self_left, Nat.mod_eq_of_lt hx]
    have e2 : val (x :: xs) / LB = val xs := by
      show (x + LB * val xs) / LB = val xs
      rw [Nat.add_mul_div_left _ _ LB_pos, Nat.div_eq_of_lt hx, Nat.zero_add]
    rw [e1, e2, ih ht]
theorem val_append : ∀ (xs ys : List Nat), val (xs ++ ys) = val xs + LB ^ xs.length * val ys
  | [], ys => by simp [val]
  | x :: xs, ys => by
    show x + LB * val (xs ++ ys) = x + LB * val xs + LB ^ (xs.length + 1) * val ys
    rw [val_append xs ys, Nat.pow_succ, Nat.mul_add]
    grind
theorem val_snoc (xs : List Nat) (x : Nat) : val (xs ++ [x]) = val xs + LB ^ xs.length * x := by
  rw [val_append]; simp [val]
theorem val_lt : ∀ {xs : List Nat}, Lim xs → val xs < LB ^ xs.length
  | [], _ => by simp [val]
  | x :: xs, h => by
    have h1 := val_lt h.tail
    have h2 := h.head
    show x + LB * val xs < LB ^ (xs.length + 1)
    rw [Nat.pow_succ, Nat.mul_comm (LB ^ xs.length)]
    have h3 : LB * (val xs + 1) ≤ LB * LB ^ xs.length := Nat.mul_le_mul (Nat.le_refl _) h1
    rw [Nat.mul_add] at h3
    omega
/-- noughts behind struck -/
def trim (xs : List Nat) : List Nat := dig (val xs)
theorem trim_snoc0 (xs : List Nat) : trim (xs ++ [0]) = trim xs := by unfold trim; rw [val_snoc]; simp
theorem trim_nrm {xs : List Nat} (h : Nrm xs) : trim xs = xs := dig_val h
theorem val_trim (xs : List Nat) : val (trim xs) = val xs := val_dig _
theorem take_succ_getD (xs : List Nat) (k : Nat) (h : k < xs.length) : xs.take (k + 1) = xs.take k ++ [xs.getD k 0] := by
  rw [List.take_add_one]
  simp [List.getD, h]
theorem val_take_succ (xs : List Nat) (k : Nat) : val (xs.take (k + 1)) = val (xs.take k) + LB ^ k * xs.getD k 0 := by
  by_cases h : k < xs.length
  · rw [take_succ_getD xs k h, val_snoc, List.length_take, Nat.min_eq_left (Nat.le_of_lt h)]
  · have h' := Nat.le_of_not_lt h
    rw [List.take_of_length_le (by omega), List.take_of_length_le h']
    simp [List.getD, List.getElem?_eq_none h']
theorem val_drop_getD (xs : List Nat) (k : Nat) (h : k < xs.length) : val (xs.drop k) = xs.getD k 0 + LB * val (xs.drop (k + 1)) := by
  rw [List.drop_eq_getElem_cons h]
  show xs[k] + LB * val (xs.drop (k + 1)) = _
  simp [List.getD, h]
/-- how many limbs a number has -/
theorem dig_len_le {n k : Nat} (h : n < LB ^ k) : (dig n).length ≤ k := by
  by_cases hl : (dig n).length ≤ k
  · exact hl
  · exfalso
    have hn := dig_nrm n
    have hne : dig n ≠ [] := by intro e; rw [e] at hl; simp at hl
    have e := List.dropLast_concat_getLast hne
    have hv := val_dig n
    rw [← e, val_snoc, List.length_dropLast] at hv
    have h0 := hn.2 hne
    have h1 : LB ^ k ≤ LB ^ ((dig n).length - 1) := Nat.pow_le_pow_right LB_pos (by omega)
    have h2 : LB ^ ((dig n).length - 1) * 1 ≤ LB ^ ((dig n).length - 1) * (dig n).getLast hne := Nat.mul_le_mul (Nat.le_refl _) (by omega)
    omega
theorem dig_len_ge {n k : Nat} (h : LB ^ k ≤ n) : k < (dig n).length := by
  have h1 := val_lt (dig_lim n)
  rw [val_dig] at h1
  by_cases hl : k < (dig n).length
  · exact hl
  · have := Nat.pow_le_pow_right LB_pos (Nat.le_of_not_lt hl)
    omega
end Go.Proofs.Ytpcpahgflkjnaaa.M2
