/- Proved: several texts in one: what each proves is said ahead of it. -/
/- Proved: numbers as limbs to the base 2^28, the lowest first: what they are worth, the limbs of a number, noughts behind struck; no program in sight. -/
namespace Go.Proofs.YtanijpekdnkicaaGreatDoor.M2
set_option linter.unusedVariables false
def LB : Nat := 268435456
def val : List Nat → Nat
  | [] => 0
  | x :: xs => x + LB * val xs
def digF : Nat → Nat → List Nat
  | 0, _ => []
  | f + 1, n => if n = 0 then [] else (n % LB) :: digF f (n / LB)
def dig (n : Nat) : List Nat := digF n n
theorem digF_zero (f : Nat) : digF f 0 = [] := by cases f <;> rfl
theorem digF_eq (f : Nat) : ∀ g n, n ≤ f → n ≤ g → digF f n = digF g n := by
  induction f with
  | zero => intro g n h k; obtain rfl : n = 0 := by omega
            rw [digF_zero, digF_zero]
  | succ f ih =>
    intro g n h k
    by_cases hn : n = 0
    · subst hn; rw [digF_zero, digF_zero]
    · obtain ⟨g', rfl⟩ : ∃ g', g = g' + 1 := ⟨g - 1, by omega⟩
      have hd : n / LB < n := Nat.div_lt_self (by omega) (by decide)
      have e1 : digF (f + 1) n = (n % LB) :: digF f (n / LB) := by rw [digF, if_neg hn]
      have e2 : digF (g' + 1) n = (n % LB) :: digF g' (n / LB) := by rw [digF, if_neg hn]
      rw [e1, e2, ih g' (n / LB) (by omega) (by omega)]
theorem dig_zero : dig 0 = [] := rfl
theorem dig_pos (n : Nat) (h : n ≠ 0) : dig n = (n % LB) :: dig (n / LB) := by
  obtain ⟨m, rfl⟩ : ∃ m, n = m + 1 := ⟨n - 1, by omega⟩
  have hd : (m + 1) / LB < m + 1 := Nat.div_lt_self (by omega) (by decide)
  have e1 : digF (m + 1) (m + 1) = ((m + 1) % LB) :: digF m ((m + 1) / LB) := by rw [digF, if_neg h]
  show digF (m + 1) (m + 1) = _
  rw [e1, digF_eq m ((m + 1) / LB) ((m + 1) / LB) (by omega) (Nat.le_refl _)]
  rfl
def Lim (xs : List Nat) : Prop := ∀ x ∈ xs, x < LB
def Nrm (xs : List Nat) : Prop := Lim xs ∧ ∀ h : xs ≠ [], xs.getLast h ≠ 0
theorem Lim.nil : Lim [] := fun x hx => by cases hx
theorem Lim.cons {x : Nat} {xs : List Nat} (h : x < LB) (hs : Lim xs) : Lim (x :: xs) := fun y hy => by
  rcases List.mem_cons.1 hy with rfl | h1
  · exact h
  · exact hs y h1
theorem Lim.head {x : Nat} {xs : List Nat} (h : Lim (x :: xs)) : x < LB := h x (List.mem_cons_self ..)
theorem Lim.tail {x : Nat} {xs : List Nat} (h : Lim (x :: xs)) : Lim xs := fun y hy => h y (List.mem_cons_of_mem _ hy)
theorem Lim.append {xs ys : List Nat} (h : Lim xs) (k : Lim ys) : Lim (xs ++ ys) := fun y hy => by
  rcases List.mem_append.1 hy with h1 | h1
  · exact h y h1
  · exact k y h1
theorem Lim.take {xs : List Nat} (h : Lim xs) (k : Nat) : Lim (xs.take k) := fun y hy => h y (List.mem_of_mem_take hy)
theorem Lim.getD {xs : List Nat} (h : Lim xs) (k : Nat) : xs.getD k 0 < LB := by
  by_cases hk : k < xs.length
  · have e : xs.getD k 0 = xs[k] := by simp [List.getD, hk]
    rw [e]; exact h _ (List.getElem_mem hk)
  · have e : xs.getD k 0 = 0 := by simp [List.getD, List.getElem?_eq_none (Nat.le_of_not_lt hk)]
    rw [e]; decide
theorem LB_pos : 0 < LB := by decide
theorem val_dig (n : Nat) : val (dig n) = n := by
  induction n using Nat.strongRecOn with
  | _ n ih =>
    by_cases h : n = 0
    · subst h; rw [dig_zero]; rfl
    · rw [dig_pos n h]
      show n % LB + LB * val (dig (n / LB)) = n
      rw [ih (n / LB) (Nat.div_lt_self (by omega) (by decide))]
      exact Nat.mod_add_div n LB
theorem dig_lim (n : Nat) : Lim (dig n) := by
  induction n using Nat.strongRecOn with
  | _ n ih =>
    by_cases h : n = 0
    · subst h; rw [dig_zero]; exact Lim.nil
    · rw [dig_pos n h]
      exact Lim.cons (Nat.mod_lt _ LB_pos) (ih _ (Nat.div_lt_self (by omega) (by decide)))
theorem dig_nil {n : Nat} (h : dig n = []) : n = 0 := by
  have := val_dig n
  rw [h] at this
  exact this.symm
theorem dig_ne {n : Nat} (h : n ≠ 0) : dig n ≠ [] := fun e => h (dig_nil e)
theorem dig_nrm (n : Nat) : Nrm (dig n) := by
  refine ⟨dig_lim n, ?_⟩
  induction n using Nat.strongRecOn with
  | _ n ih =>
    intro hne
    have h : n ≠ 0 := by rintro rfl; exact hne dig_zero
    have e := dig_pos n h
    by_cases h2 : n / LB = 0
    · have e2 : dig n = [n % LB] := by rw [e, h2, dig_zero]
      have hlt : n < LB := by
        by_cases hl : n < LB
        · exact hl
        · have := Nat.div_pos (Nat.le_of_not_lt hl) LB_pos
          omega
      have : (dig n).getLast hne = n % LB := by simp [e2]
      rw [this, Nat.mod_eq_of_lt hlt]
      exact h
    · have h3 := ih (n / LB) (Nat.div_lt_self (by omega) (by decide)) (dig_ne h2)
      have : (dig n).getLast hne = (dig (n / LB)).getLast (dig_ne h2) := by
        simp only [e]
        rw [List.getLast_cons (dig_ne h2)]
      rw [this]
      exact h3
theorem val_zero_of {xs : List Nat} (h : Nrm xs) (hv : val xs = 0) : xs = [] := by
  induction xs with
  | nil => rfl
  | cons x xs ih =>
    exfalso
    have hv' : x + LB * val xs = 0 := hv
    have hp := LB_pos
    have hx : x = 0 := by omega
    have hs : val xs = 0 := by
      have : LB * val xs = 0 := by omega
      rcases Nat.mul_eq_zero.1 this with h1 | h1
      · omega
      · exact h1
    by_cases hxs : xs = []
    · subst hxs
      exact h.2 (by simp) (by simpa using hx)
    · have : xs = [] := ih ⟨h.1.tail, fun hne => by
        have := h.2 (by simp)
        rw [List.getLast_cons hne] at this
        exact this⟩ hs
      exact hxs this
theorem dig_val {xs : List Nat} (h : Nrm xs) : dig (val xs) = xs := by
  induction xs with
  | nil => exact dig_zero
  | cons x xs ih =>
    have hne : val (x :: xs) ≠ 0 := fun e => by cases val_zero_of h e
    have hx := h.1.head
    have ht : Nrm xs := ⟨h.1.tail, fun hne => by
      have := h.2 (by simp)
      rw [List.getLast_cons hne] at this
      exact this⟩
    rw [dig_pos _ hne]
    have e1 : val (x :: xs) % LB = x := by
      show (x + LB * val xs) % LB = x
      rw [Nat.add_mul_mod_self_left, Nat.mod_eq_of_lt hx]
    have e2 : val (x :: xs) / LB = val xs := by
      show (x + LB * val xs) / LB = val xs
      rw [Nat.add_mul_div_left _ _ LB_pos, Nat.div_eq_of_lt hx, Nat.zero_add]
    rw [e1, e2, ih ht]
theorem val_append : ∀ (xs ys : List Nat), val (xs ++ ys) = val xs + LB ^ xs.length * val ys
  | [], ys => by simp [val]
  | x :: xs, ys => by
    show x + LB * val (xs ++ ys) = x + LB * val xs + LB ^ (xs.length + 1) * val ys
    rw [val_append xs ys, Nat.pow_succ, Nat.mul_add]
    grind
theorem val_snoc (xs : List Nat) (x : Nat) : val (xs ++ [x]) = val xs + LB ^ xs.length * x := by
  rw [val_append]; simp [val]
theorem val_lt : ∀ {xs : List Nat}, Lim xs → val xs < LB ^ xs.length
  | [], _ => by simp [val]
  | x :: xs, h => by
    have h1 := val_lt h.tail
    have h2 := h.head
    show x + LB * val xs < LB ^ (xs.length + 1)
    rw [Nat.pow_succ, Nat.mul_comm (LB ^ xs.length)]
    have h3 : LB * (val xs + 1) ≤ LB * LB ^ xs.length := Nat.mul_le_mul (Nat.le_refl _) h1
    rw [Nat.mul_add] at h3
    omega
def trim (xs : List Nat) : List Nat := dig (val xs)
theorem take_succ_getD (xs : List Nat) (k : Nat) (h : k < xs.length) : xs.take (k + 1) = xs.take k ++ [xs.getD k 0] := by
  rw [List.take_add_one]
  simp [List.getD, h]
theorem val_take_succ (xs : List Nat) (k : Nat) : val (xs.take (k + 1)) = val (xs.take k) + LB ^ k * xs.getD k 0 := by
  by_cases h : k < xs.length
  · rw [take_succ_getD xs k h, val_snoc, List.length_take, Nat.min_eq_left (Nat.le_of_lt h)]
  · have h' := Nat.le_of_not_lt h
    rw [List.take_of_length_le (by omega), List.take_of_length_le h']
    simp [List.getD, List.getElem?_eq_none h']
theorem val_drop_getD (xs : List Nat) (k : Nat) (h : k < xs.length) : val (xs.drop k) = xs.getD k 0 + LB * val (xs.drop (k + 1)) := by
  rw [List.drop_eq_getElem_cons h]
  show xs[k] + LB * val (xs.drop (k + 1)) = _
  simp [List.getD, h]
theorem dig_len_le {n k : Nat} (h : n < LB ^ k) : (dig n).length ≤ k := by
  by_cases hl : (dig n).length ≤ k
  · exact hl
  · exfalso
    have hn := dig_nrm n
    have hne : dig n ≠ [] := by intro e; rw [e] at hl; simp at hl
    have e := List.dropLast_concat_getLast hne
    have hv := val_dig n
    rw [← e, val_snoc, List.length_dropLast] at hv
    have h0 := hn.2 hne
    have h1 : LB ^ k ≤ LB ^ ((dig n).length - 1) := Nat.pow_le_pow_right LB_pos (by omega)
    have h2 : LB ^ ((dig n).length - 1) * 1 ≤ LB ^ ((dig n).length - 1) * (dig n).getLast hne := Nat.mul_le_mul (Nat.le_refl _) (by omega)
    omega
end Go.Proofs.YtanijpekdnkicaaGreatDoor.M2
/- Proved: what one round of adding, taking away and comparing limbs does; no program in sight. -/
namespace Go.Proofs.YtanijpekdnkicaaGreatDoor.M2
set_option linter.unusedVariables false
theorem split_pow (i c : Nat) : LB ^ i * (c % LB) + LB ^ (i + 1) * (c / LB) = LB ^ i * c := by
  rw [Nat.pow_succ, Nat.mul_assoc, ← Nat.mul_add, Nat.mod_add_div]
theorem nrm_len_le {a b : List Nat} (ha : Nrm a) (hb : Nrm b) (h : val b ≤ val a) : b.length ≤ a.length := by
  have h1 := val_lt ha.1
  have h2 := dig_len_le (n := val b) (k := a.length) (by omega)
  rw [dig_val hb] at h2
  exact h2
def cmpN (x y : Nat) : Int := if x < y then -1 else if y < x then 1 else 0
theorem cmp_short {a b : List Nat} (ha : Nrm a) (hb : Nrm b) (h : a.length < b.length) : val a < val b := by
  by_cases hlt : val a < val b
  · exact hlt
  · have := nrm_len_le ha hb (by omega)
    omega
theorem cmp_at {a b : List Nat} {i : Nat} (ha : Lim a) (hi : i < a.length) (hl : a.length = b.length) (he : a.drop (i + 1) = b.drop (i + 1)) (h : a.getD i 0 < b.getD i 0) : val a < val b := by
  have e1 : val a = val (a.take i) + LB ^ i * val (a.drop i) := by
    have := val_append (a.take i) (a.drop i)
    rw [List.take_append_drop, List.length_take, Nat.min_eq_left (Nat.le_of_lt hi)] at this
    exact this
  have e2 : val b = val (b.take i) + LB ^ i * val (b.drop i) := by
    have := val_append (b.take i) (b.drop i)
    rw [List.take_append_drop, List.length_take, Nat.min_eq_left (by omega)] at this
    exact this
  have h1 := val_lt (ha.take i)
  rw [List.length_take, Nat.min_eq_left (Nat.le_of_lt hi)] at h1
  rw [e1, e2, val_drop_getD a i hi, val_drop_getD b i (by omega), he]
  have h2 : LB ^ i * (a.getD i 0 + LB * val (b.drop (i + 1)) + 1) ≤ LB ^ i * (b.getD i 0 + LB * val (b.drop (i + 1))) := Nat.mul_le_mul (Nat.le_refl _) (by omega)
  rw [Nat.mul_add _ _ 1] at h2
  omega
theorem drop_step {a b : List Nat} {i : Nat} (hi : i < a.length) (hl : a.length = b.length) (he : a.drop (i + 1) = b.drop (i + 1)) (h : a.getD i 0 = b.getD i 0) : a.drop i = b.drop i := by
  rw [List.drop_eq_getElem_cons hi, List.drop_eq_getElem_cons (show i < b.length by omega), he]
  congr 1
  simpa [List.getD, hi, show i < b.length by omega] using h
end Go.Proofs.YtanijpekdnkicaaGreatDoor.M2
/- Proved: limbs of a word, what is left by a word, doubling, and products of limbs, round by round; no program in sight. -/
namespace Go.Proofs.YtanijpekdnkicaaGreatDoor.M2
set_option linter.unusedVariables false
theorem dig_snoc {n m : Nat} {out : List Nat} (h : dig n = out ++ dig m) (hm : m ≠ 0) : dig n = (out ++ [m % LB]) ++ dig (m / LB) := by
  rw [h, dig_pos m hm, List.append_assoc]
  rfl
theorem val_set : ∀ (xs : List Nat) (k y : Nat), k < xs.length → val (xs.set k y) + LB ^ k * xs.getD k 0 = val xs + LB ^ k * y
  | [], k, y, h => by simp at h
  | x :: xs, 0, y, h => by
    show y + LB * val xs + LB ^ 0 * x = x + LB * val xs + LB ^ 0 * y
    rw [Nat.pow_zero]
    omega
  | x :: xs, k + 1, y, h => by
    have ih := val_set xs k y (by simpa using h)
    show x + LB * val (xs.set k y) + LB ^ (k + 1) * xs.getD k 0 = x + LB * val xs + LB ^ (k + 1) * y
    rw [Nat.pow_succ]
    have e : LB * (val (xs.set k y) + LB ^ k * xs.getD k 0) = LB * (val xs + LB ^ k * y) := by rw [ih]
    rw [Nat.mul_add, Nat.mul_add] at e
    have e1 : LB ^ k * LB * xs.getD k 0 = LB * (LB ^ k * xs.getD k 0) := by rw [Nat.mul_comm (LB ^ k) LB, Nat.mul_assoc]
    have e2 : LB ^ k * LB * y = LB * (LB ^ k * y) := by rw [Nat.mul_comm (LB ^ k) LB, Nat.mul_assoc]
    omega
theorem Lim.set {xs : List Nat} (h : Lim xs) (k y : Nat) (hy : y < LB) : Lim (xs.set k y) := fun z hz => by
  rcases List.mem_or_eq_of_mem_set hz with h1 | h1
  · exact h z h1
  · rw [h1]; exact hy
theorem lim_zeros (n : Nat) : Lim (List.replicate n 0) := fun z hz => by rw [List.eq_of_mem_replicate hz]; exact LB_pos
theorem val_zeros : ∀ n : Nat, val (List.replicate n 0) = 0
  | 0 => rfl
  | n + 1 => by
    rw [List.replicate_succ]
    show 0 + LB * val (List.replicate n 0) = 0
    rw [val_zeros n, Nat.mul_zero]
structure MulI (n p T : Nat) (out : List Nat) (c : Nat) : Prop where
  lim : Lim out
  len : out.length = n
  eq : val out + LB ^ p * c = T
  c1 : c < LB
theorem MulI.step {n p T : Nat} {out : List Nat} {c : Nat} (h : MulI n p T out c) (z : Nat) (hz : z ≤ (LB - 1) * (LB - 1)) (hp : p < n) :
    MulI n (p + 1) (T + LB ^ p * z) (out.set p ((c + (out.getD p 0 + z)) % LB)) ((c + (out.getD p 0 + z)) / LB) := by
  have h1 := h.lim.getD p
  have h2 := h.c1
  refine ⟨h.lim.set _ _ (Nat.mod_lt _ LB_pos), by simp [h.len], ?_, ?_⟩
  · have e := val_set out p ((c + (out.getD p 0 + z)) % LB) (by rw [h.len]; exact hp)
    have e2 := split_pow p (c + (out.getD p 0 + z))
    have e3 := h.eq
    rw [Nat.mul_add, Nat.mul_add] at e2
    omega
  · refine Nat.div_lt_of_lt_mul ?_
    have : LB * LB = (LB - 1) * (LB - 1) + 2 * (LB - 1) + 1 := by decide
    omega
theorem MulI.carry {n p T : Nat} {out : List Nat} {c : Nat} (h : MulI n p T out c) (hT : T < LB ^ n) (hc : 0 < c) : p < n := by
  by_cases hp : p < n
  · exact hp
  · exfalso
    have h1 := h.eq
    have h2 : LB ^ n ≤ LB ^ p := Nat.pow_le_pow_right LB_pos (by omega)
    have h3 : LB ^ p * 1 ≤ LB ^ p * c := Nat.mul_le_mul (Nat.le_refl _) hc
    omega
theorem MulI.next {n p T : Nat} {out : List Nat} {c : Nat} (h : MulI n p T out c) (hp : p < n) :
    MulI n (p + 1) T (out.set p ((c + out.getD p 0) % LB)) ((c + out.getD p 0) / LB) := by
  have := h.step 0 (Nat.zero_le _) hp
  simpa using this
theorem MulI.zero {n p T : Nat} {out : List Nat} {c : Nat} (h : MulI n p T out c) (hc : c = 0) (p' : Nat) : MulI n p' T out 0 := by
  have := h.eq
  rw [hc, Nat.mul_zero, Nat.add_zero] at this
  exact ⟨h.lim, h.len, by rw [Nat.mul_zero, Nat.add_zero]; exact this, LB_pos⟩
theorem mul_row (A X P J T y k j : Nat) (hJ : P * J = LB ^ (k + j)) : A + P * X * T + LB ^ (k + j) * (X * y) = A + P * X * (T + J * y) := by
  rw [← hJ]
  grind
theorem mul_row_step (xs ys : List Nat) (x k j : Nat) : val (xs.take k) * val ys + LB ^ k * x * val (ys.take j) + LB ^ (k + j) * (x * ys.getD j 0) = val (xs.take k) * val ys + LB ^ k * x * val (ys.take (j + 1)) := by
  rw [val_take_succ]
  exact mul_row _ _ _ _ _ _ k j (Nat.pow_add LB k j).symm
end Go.Proofs.YtanijpekdnkicaaGreatDoor.M2
/- Proved: numbers in an array of eighty limbs: noughts behind, one form for one number; what one round of adding, taking away, scaling and dividing does there; no program in sight. -/
namespace Go.Proofs.YtanijpekdnkicaaGreatDoor.M2
set_option linter.unusedVariables false
def ext (xs : List Nat) : List Nat := xs ++ List.replicate (80 - xs.length) 0
theorem ext_len {xs : List Nat} (h : xs.length ≤ 80) : (ext xs).length = 80 := by unfold ext; simp; omega
theorem ext_lim {xs : List Nat} (h : Lim xs) : Lim (ext xs) := h.append (lim_zeros _)
theorem ext_val (xs : List Nat) : val (ext xs) = val xs := by unfold ext; rw [val_append, val_zeros]; simp
theorem ext_getD (xs : List Nat) (j : Nat) : (ext xs).getD j 0 = xs.getD j 0 := by
  unfold ext
  by_cases h : j < xs.length
  · simp [List.getD, List.getElem?_append_left h]
  · simp only [List.getD, List.getElem?_append_right (Nat.le_of_not_lt h)]
    rw [List.getElem?_eq_none (Nat.le_of_not_lt h)]
    by_cases h2 : j - xs.length < 80 - xs.length
    · rw [List.getElem?_replicate, if_pos h2]; rfl
    · rw [List.getElem?_replicate, if_neg h2]
theorem ext_set {xs : List Nat} (h : xs.length < 80) (y : Nat) : (ext xs).set xs.length y = ext (xs ++ [y]) := by
  unfold ext
  rw [List.set_append_right _ _ (Nat.le_refl _), Nat.sub_self]
  obtain ⟨m, hm⟩ : ∃ m, 80 - xs.length = m + 1 := ⟨79 - xs.length, by omega⟩
  rw [hm, List.length_append]
  have : 80 - (xs.length + [y].length) = m := by simp; omega
  rw [this]
  simp [List.replicate_succ]
theorem ext_take {xs : List Nat} (k : Nat) (h : xs.length ≤ k) (hk : k ≤ 80) : val ((ext xs).take k) = val xs := by
  unfold ext
  rw [List.take_append, List.take_of_length_le h, val_append, List.take_replicate, val_zeros]
  simp
theorem lim_ext : ∀ {a b : List Nat}, Lim a → Lim b → a.length = b.length → val a = val b → a = b
  | [], [], _, _, _, _ => rfl
  | [], _ :: _, _, _, h, _ => by simp at h
  | _ :: _, [], _, _, h, _ => by simp at h
  | x :: a, y :: b, ha, hb, hl, hv => by
    have h1 := ha.head
    have h2 := hb.head
    have e : x + LB * val a = y + LB * val b := hv
    have ex : x = y := by
      have := congrArg (· % LB) e
      simp only [Nat.add_mul_mod_self_left, Nat.mod_eq_of_lt h1, Nat.mod_eq_of_lt h2] at this
      exact this
    subst ex
    have ev : val a = val b := Nat.eq_of_mul_eq_mul_left LB_pos (by omega)
    rw [lim_ext ha.tail hb.tail (by simpa using hl) ev]
def pad (n : Nat) : List Nat := ext (dig n)
theorem pad_val (n : Nat) : val (pad n) = n := by unfold pad; rw [ext_val, val_dig]
theorem pad_lim (n : Nat) : Lim (pad n) := ext_lim (dig_lim n)
theorem pad_len {n : Nat} (h : (dig n).length ≤ 80) : (pad n).length = 80 := ext_len h
theorem pad_getD (n j : Nat) : (pad n).getD j 0 = (dig n).getD j 0 := ext_getD _ _
theorem pad_of {xs : List Nat} (h : Lim xs) (hl : xs.length = 80) : xs = pad (val xs) := by
  have hd : (dig (val xs)).length ≤ 80 := by have := val_lt h; rw [hl] at this; exact dig_len_le this
  exact lim_ext h (pad_lim _) (by rw [hl, pad_len hd]) (by rw [pad_val])
def cnt (n : Nat) : Nat := (dig n).length
theorem cnt_zero : cnt 0 = 0 := by unfold cnt; rw [dig_zero]; rfl
theorem cnt_pos {n : Nat} (h : n ≠ 0) : 0 < cnt n := by
  unfold cnt
  have := dig_ne h
  cases e : dig n with
  | nil => exact absurd e this
  | cons x xs => simp
theorem cnt_lt (n : Nat) : n < LB ^ cnt n := by
  have := val_lt (dig_lim n)
  rw [val_dig] at this
  exact this
theorem cnt_le {n k : Nat} (h : n < LB ^ k) : cnt n ≤ k := dig_len_le h
theorem cnt_nrm {xs : List Nat} (h : Nrm xs) : cnt (val xs) = xs.length := by unfold cnt; rw [dig_val h]
theorem cnt_at {ls : List Nat} (h : Lim ls) (k : Nat) (hk : k ≤ ls.length) (hv : val (ls.take k) = val ls) (h0 : k = 0 ∨ ls.getD (k - 1) 0 ≠ 0) : cnt (val ls) = k := by
  have hn : Nrm (ls.take k) := by
    refine ⟨h.take k, fun hne => ?_⟩
    have hk0 : 0 < k := by
      rcases Nat.eq_zero_or_pos k with e | e
      · subst e; simp at hne
      · exact e
    have h1 : ls.getD (k - 1) 0 ≠ 0 := by
      rcases h0 with h0 | h0
      · omega
      · exact h0
    rw [List.getLast_eq_getElem]
    simp only [List.length_take, Nat.min_eq_left hk, List.getElem_take]
    simpa [List.getD, show k - 1 < ls.length by omega] using h1
  rw [← hv, cnt_nrm hn, List.length_take, Nat.min_eq_left hk]
theorem take_zero_step {ls : List Nat} (k : Nat) (hv : val (ls.take (k + 1)) = val ls) (h0 : ls.getD k 0 = 0) : val (ls.take k) = val ls := by
  rw [val_take_succ, h0, Nat.mul_zero, Nat.add_zero] at hv
  exact hv
theorem val_top : ∀ (k : Nat) (ls : List Nat), (∀ j, k ≤ j → ls.getD j 0 = 0) → val (ls.take k) = val ls := by
  intro k
  induction k with
  | zero =>
    intro ls
    induction ls with
    | nil => intro _; rfl
    | cons x xs ih =>
      intro hj
      have h0 : x = 0 := hj 0 (by omega)
      have h1 : val xs = 0 := by
        have := ih (fun j hj2 => by have := hj (j + 1) (by omega); simpa using this)
        rw [← this]; simp [val]
      simp [val, h0, h1]
  | succ k ih =>
    intro ls hj
    cases ls with
    | nil => simp [val]
    | cons x xs =>
      have := ih xs (fun j hj2 => by have := hj (j + 1) (by omega); simpa using this)
      simp [val, this]
end Go.Proofs.YtanijpekdnkicaaGreatDoor.M2
/- Proved: long division by guessed digits to the base 2^28, as numbers: the guess is the digit or one too great; what taking away does to eighty limbs; no program in sight. -/
namespace Go.Proofs.YtanijpekdnkicaaGreatDoor.M2
set_option linter.unusedVariables false
theorem pw (k : Nat) : 0 < LB ^ k := Nat.pow_pos LB_pos
variable {L v p m : Nat}
end Go.Proofs.YtanijpekdnkicaaGreatDoor.M2
/- Proved: a number whose smaller ones all are roots of 1 has no power that is 0, and two ways of finding the least of some powers agree; no program in sight. -/
namespace Go.Proofs.YtanijpekdnkicaaGreatDoor.M1
def lr (p sq : Nat) : Nat → Nat → Nat → Nat
  | 0, _, b => b
  | k + 1, x, b => lr p sq k (x * sq % p) (min b (x * sq % p))
end Go.Proofs.YtanijpekdnkicaaGreatDoor.M1
/- Proved: plain arithmetic for the proofs of this seat (powers, inverses by Euclid's way, Barrett's, Montgomery's and Shoup's products); no program in sight. -/
namespace Go.Proofs.YtanijpekdnkicaaGreatDoor.M1
def powM (a e p : Nat) : Nat := a ^ e % p
theorem mm (a b p : Nat) : a % p * (b % p) % p = a * b % p := (Nat.mul_mod a b p).symm
theorem ml (a b p : Nat) : (a % p * b) % p = a * b % p := by rw [Nat.mul_mod, Nat.mod_mod, ← Nat.mul_mod]
theorem mrr (a b p : Nat) : (a * (b % p)) % p = a * b % p := by rw [Nat.mul_mod, Nat.mod_mod, ← Nat.mul_mod]
theorem pow_half_even (a e : Nat) (h : e % 2 = 0) : (a * a) ^ (e / 2) = a ^ e := by
  rw [← Nat.pow_two, ← Nat.pow_mul]; congr 1; omega
theorem pow_half_odd (a e : Nat) (h : e % 2 = 1) : a * (a * a) ^ (e / 2) = a ^ e := by
  rw [← Nat.pow_two, ← Nat.pow_mul, Nat.mul_comm, ← Nat.pow_succ]; congr 1; omega
theorem step_even (r a e p : Nat) (h : e % 2 = 0) : r * (a * a % p) ^ (e / 2) % p = r * a ^ e % p := by
  rw [← mrr, ← Nat.pow_mod, mrr, pow_half_even a e h]
theorem step_odd (r a e p : Nat) (h : e % 2 = 1) : (r * a % p) * (a * a % p) ^ (e / 2) % p = r * a ^ e % p := by
  rw [ml, ← mrr, ← Nat.pow_mod, mrr, Nat.mul_assoc, pow_half_odd a e h]
theorem powM_lt (a e p : Nat) (h : 0 < p) : powM a e p < p := Nat.mod_lt _ h
end Go.Proofs.YtanijpekdnkicaaGreatDoor.M1
/- Proved: the digits of a long division by halves of a word are the true ones; no program in sight. -/
namespace Go.Proofs.YtanijpekdnkicaaGreatDoor.M1
structure Dig (u v y1 y0 q r : Nat) : Prop where
  eq : q * y1 + r = u
  ge : (u * 4294967296 + v) / (y1 * 4294967296 + y0) ≤ q
structure Half (u v y1 y0 : Nat) : Prop where
  y1lo : 2147483648 ≤ y1
  y1hi : y1 < 4294967296
  y0hi : y0 < 4294967296
  vhi : v < 4294967296
  ult : u < y1 * 4294967296 + y0
theorem div_lt_K (u v Y K : Nat) (hv : v < K) (hu : u < Y) : (u * K + v) / Y < K := by
  apply Nat.div_lt_of_lt_mul
  have : (u + 1) * K ≤ Y * K := Nat.mul_le_mul_right _ (by omega)
  rw [Nat.add_mul] at this
  omega
theorem Half.Qlt {u v y1 y0 : Nat} (h : Half u v y1 y0) : (u * 4294967296 + v) / (y1 * 4294967296 + y0) < 4294967296 :=
  div_lt_K u v _ 4294967296 h.vhi h.ult
theorem Dig.start {u v y1 y0 : Nat} (h : Half u v y1 y0) : Dig u v y1 y0 (u / y1) (u - u / y1 * y1) ∧ u / y1 * y1 ≤ u ∧ u - u / y1 * y1 < 4294967296 ∧ u / y1 ≤ 4294967297 := by
  obtain ⟨h1, h2, h3, h4, h5⟩ := h
  have e := Nat.div_add_mod u y1
  have m := Nat.mod_lt u (show y1 > 0 by omega)
  rw [Nat.mul_comm] at e
  refine ⟨⟨by omega, ?_⟩, by omega, by omega, ?_⟩
  · rw [Nat.le_div_iff_mul_le (by omega)]
    have hq := Nat.div_mul_le_self (u * 4294967296 + v) (y1 * 4294967296 + y0)
    generalize (u * 4294967296 + v) / (y1 * 4294967296 + y0) = Q at *
    have e2 : Q * (y1 * 4294967296 + y0) = Q * y1 * 4294967296 + Q * y0 := by grind
    generalize Q * y1 = a at *
    generalize Q * y0 = b at *
    omega
  · rw [Nat.div_le_iff_le_mul_add_pred (by omega)]
    omega
theorem Dig.more {u v y1 y0 q r : Nat} (h : Half u v y1 y0) (d : Dig u v y1 y0 q r) (hc : 4294967296 ≤ q ∨ 4294967296 * r + v < q * y0) : 1 ≤ q ∧ Dig u v y1 y0 (q - 1) (r + y1) := by
  have hQ := h.Qlt
  have hm : 1 ≤ q ∧ (q - 1) * y1 + (r + y1) = u ∧ (u * 4294967296 + v) / (y1 * 4294967296 + y0) ≤ q - 1 := ?_
  · exact ⟨hm.1, ⟨hm.2.1, hm.2.2⟩⟩
  obtain ⟨h1, h2, h3, h4, h5⟩ := h
  obtain ⟨e, g⟩ := d
  have hlt : (u * 4294967296 + v) / (y1 * 4294967296 + y0) < q := by
    rcases hc with hc | hc
    · omega
    · rw [Nat.div_lt_iff_lt_mul (by omega)]
      have e2 : q * (y1 * 4294967296 + y0) = q * y1 * 4294967296 + q * y0 := by grind
      rw [e2]
      generalize q * y1 = a at *
      generalize q * y0 = b at *
      omega
  generalize (u * 4294967296 + v) / (y1 * 4294967296 + y0) = Q at *
  refine ⟨by omega, ?_, by omega⟩
  obtain ⟨q', rfl⟩ : ∃ q', q = q' + 1 := ⟨q - 1, by omega⟩
  rw [Nat.add_sub_cancel, Nat.add_mul] at *
  omega
theorem Dig.done {u v y1 y0 q r : Nat} (h : Half u v y1 y0) (d : Dig u v y1 y0 q r) (hc : q * y0 ≤ 4294967296 * r + v) : q = (u * 4294967296 + v) / (y1 * 4294967296 + y0) := by
  obtain ⟨h1, h2, h3, h4, h5⟩ := h
  obtain ⟨e, g⟩ := d
  apply Nat.le_antisymm _ g
  rw [Nat.le_div_iff_mul_le (by omega)]
  have e2 : q * (y1 * 4294967296 + y0) = q * y1 * 4294967296 + q * y0 := by grind
  rw [e2]
  generalize q * y1 = a at *
  generalize q * y0 = b at *
  omega
theorem Dig.broke {u v y1 y0 q r : Nat} (h : Half u v y1 y0) (d : Dig u v y1 y0 q r) (hq : q ≤ 4294967296) (hr : 4294967296 ≤ r) : q = (u * 4294967296 + v) / (y1 * 4294967296 + y0) := by
  have h' := h
  obtain ⟨h1, h2, h3, h4, h5⟩ := h'
  apply d.done h
  have : q * y0 ≤ 4294967296 * y0 := Nat.mul_le_mul_right _ hq
  omega
theorem left_over (u v Y : Nat) : u * 4294967296 + v - (u * 4294967296 + v) / Y * Y = (u * 4294967296 + v) % Y ∧ (u * 4294967296 + v) / Y * Y ≤ u * 4294967296 + v := by
  have e := Nat.div_add_mod (u * 4294967296 + v) Y
  rw [Nat.mul_comm] at e
  generalize (u * 4294967296 + v) / Y * Y = a at *
  omega
theorem two_digits (u v1 v0 Y : Nat) : ((u * 4294967296 + v1) % Y * 4294967296 + v0) % Y = (u * 18446744073709551616 + (v1 * 4294967296 + v0)) % Y := by
  rw [Nat.add_mod, Nat.mul_mod, Nat.mod_mod, ← Nat.mul_mod, ← Nat.add_mod]
  have e2 : (u * 4294967296 + v1) * 4294967296 + v0 = u * 18446744073709551616 + (v1 * 4294967296 + v0) := by omega
  rw [e2]
end Go.Proofs.YtanijpekdnkicaaGreatDoor.M1
