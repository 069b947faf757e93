/- Proved: numbers in an array of eighty limbs: noughts behind, one form for one number; what one round of adding, taking away, scaling and dividing does there; no program in sight. -/
import Derived.Test.YtpcpahgflkjnaaaMtwoe
namespace Go.Proofs.Ytpcpahgflkjnaaa.M2
set_option linter.unusedVariables false
/-- limbs with noughts behind, eighty in all -/
def ext (xs : List Nat) : List Nat := xs ++ List.replicate (80 - xs.length) 0
theorem ext_len {xs : List Nat} (h : xs.length ≤ 80) : (ext xs).length = 80 := by unfold ext; simp; omega
theorem ext_lim {xs : List Nat} (h : Lim xs) : Lim (ext xs) := h.append (lim_zeros _)
theorem ext_val (xs : List Nat) : val (ext xs) = val xs := by unfold ext; rw [val_append, val_zeros]; simp
theorem ext_getD (xs : List Nat) (j : Nat) : (ext xs).getD j 0 = xs.getD j 0 := by
  unfold ext
  by_cases h : j < xs.length
  · simp [List.getD, List.getElem?_append_left h]
  · simp only [List.getD, List.getElem?_append_right (Nat.le_of_not_lt h)]
    rw [List.getElem?_eq_none (Nat.le_of_not_lt h)]
    by_cases h2 : j - xs.length < 80 - xs.length
    · rw [List.getElem?_replicate, if_pos h2]; rfl
    · rw [List.getElem?_replicate, if_neg h2]
theorem ext_set {xs : List Nat} (h : xs.length < 80) (y : Nat) : (ext xs).set xs.length y = ext (xs ++ [y]) := by
  unfold ext
  rw [List.set_append_right _ _ (Nat.le_refl _), Nat.sub_self]
  obtain ⟨m, hm⟩ : ∃ m, 80 - xs.length = m + 1 := ⟨79 - xs.length, by omega⟩
  rw [hm, List.length_append]
  have : 80 - (xs.length + [y].length) = m := by simp; omega
  rw [this]
  simp [List.replicate_succ]
theorem ext_take {xs : List Nat} (k : Nat) (h : xs.length ≤ k) (hk : k ≤ 80) : val ((ext xs).take k) = val xs := by
  unfold ext
  rw [List.take_append, List.take_of_length_le h, val_append, List.take_replicate, val_zeros]
  simp
theorem lim_ext : ∀ {a b : List Nat}, Lim a → Lim b → a.length = b.length → val a = val b → a = b
  | [], [], _, _, _, _ => rfl
  | [], _ :: _, _, _, h, _ => by simp at h
  | _ :: _, [], _, _, h, _ => by simp at h
  | x :: a, y :: b, ha, hb, hl, hv => by
    have h1 := ha.head
    have h2 := hb.head
    have e : x + LB * val a = y + LB * val b := hv
    have ex : x = y := by
      have := congrArg (· % LB) e
      simp only [Nat.add_mul_mod_self_left, Nat.mod_eq_of_lt h1, Nat.mod_eq_of_lt h2] at this
      exact this
    subst ex
    have ev : val a = val b := Nat.eq_of_mul_eq_mul_left LB_pos (by omega)
    rw [lim_ext ha.tail hb.tail (by simpa using hl) ev]
/-- the eighty limbs of a number -/
def pad (n : Nat) : List Nat := ext (dig n)
theorem pad_val (n : Nat) : val (pad n) = n := by unfold pad; rw [ext_val, val_dig]
theorem pad_lim (n : Nat) : Lim (pad n) := ext_lim (dig_lim n)
theorem pad_len {n : Nat} (h : (dig n).length ≤ 80) : (pad n).length = 80 := ext_len h
theorem pad_getD (n j : Nat) : (pad n).getD j 0 = (dig n).getD j 0 := ext_getD _ _
theorem pad_of {xs : List Nat} (h : Lim xs) (hl : xs.length = 80) : xs = pad (val xs) := by
  have hd : (dig (val xs)).length ≤ 80 := by have := val_lt h; rw [hl] at this; exact dig_len_le this
  exact lim_ext h (pad_lim _) (by rw [hl, pad_len hd]) (by rw [pad_val])
/-- how many limbs a number has -/
def cnt (n : Nat) : Nat := (dig n).length
theorem cnt_zero : cnt 0 = 0 := by unfold cnt; rw [dig_zero]; rfl
theorem cnt_pos {n : Nat} (h : n ≠ 0) : 0 < cnt n := by
  unfold cnt
  have := dig_ne h
  cases e : dig n with
  | nil => exact absurd e this
  | cons x xs => simp
theorem cnt_lt (n : Nat) : n < LB ^ cnt n := by
  have := val_lt (dig_lim n)
  rw [val_dig] at this
  exact this
theorem cnt_ge {n : Nat} (h : n ≠ 0) : LB ^ (cnt n - 1) ≤ n := by
  have := nrm_ge (dig_nrm n) (by have := cnt_pos h; unfold cnt at this; omega)
  rw [val_dig] at this
  exact this
theorem cnt_le {n k : Nat} (h : n < LB ^ k) : cnt n ≤ k := dig_len_le h
theorem cnt_mono {n m : Nat} (h : n ≤ m) : cnt n ≤ cnt m := cnt_le (Nat.lt_of_le_of_lt h (cnt_lt m))
theorem cnt_nrm {xs : List Nat} (h : Nrm xs) : cnt (val xs) = xs.length := by unfold cnt; rw [dig_val h]
/-- noughts at the top struck: where k limbs are left -/
theorem cnt_at {ls : List Nat} (h : Lim ls) (k : Nat) (hk : k ≤ ls.length) (hv : val (ls.take k) = val ls) (h0 : k = 0 ∨ ls.getD (k - 1) 0 ≠ 0) : cnt (val ls) = k := by
  have hn : Nrm (ls.take k) := by
    refine ⟨h.take k, fun hne => ?_⟩
    have hk0 : 0 < k := by
      rcases Nat.eq_zero_or_pos k with e | e
      · subst e; simp at hne
      · exact e
    have h1 : ls.getD (k - 1) 0 ≠ 0 := by
      rcases h0 with h0 | h0
      · omega
      · exact h0
    rw [List.getLast_eq_getElem]
    simp only [List.length_take, Nat.min_eq_left hk, List.getElem_take]
    simpa [List.getD, show k - 1 < ls.length by omega] using h1
  rw [← hv, cnt_nrm hn, List.length_take, Nat.min_eq_left hk]
theorem take_zero_step {ls : List Nat} (k : Nat) (hv : val (ls.take (k + 1)) = val ls) (h0 : ls.getD k 0 = 0) : val (ls.take k) = val ls := by
  rw [val_take_succ, h0, Nat.mul_zero, Nat.add_zero] at hv
  exact hv
theorem val_top : ∀ (k : Nat) (ls : List Nat), (∀ j, k ≤ j → ls.getD j 0 = 0) → val (ls.take k) = val ls := by
  intro k
  induction k with
  | zero =>
    intro ls
    induction ls with
    | nil => intro _; rfl
    | cons x xs ih =>
      intro hj
      have h0 : x = 0 := hj 0 (by omega)
      have h1 : val xs = 0 := by
        have := ih (fun j hj2 => by have := hj (j + 1) (by omega); simpa using this)
        rw [← this]; simp [val]
      simp [val, h0, h1]
  | succ k ih =>
    intro ls hj
    cases ls with
    | nil => simp [val]
    | cons x xs =>
      have := ih xs (fun j hj2 => by have := hj (j + 1) (by omega); simpa using this)
      simp [val, this]
theorem take_all {ls : List Nat} (hl : ls.length = 80) : val (ls.take 80) = val ls := by rw [← hl, List.take_length]
end Go.Proofs.Ytpcpahgflkjnaaa.M2
