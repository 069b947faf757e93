/- Proved: several texts in one: what each proves is said ahead of it. -/
import Derived.Test.YtcgnndenmcmieaaDoorK0
import Derived.Deep.RegionWith
/- Proved: numbers as limbs to the base 2^28, the lowest first: what they are worth, the limbs of a number, noughts behind struck; no program in sight. -/
namespace Go.Proofs.YtcgnndenmcmieaaDoor.M2
set_option linter.unusedVariables false
def LB : Nat := 268435456
/-- what limbs are worth -/
def val : List Nat → Nat
  | [] => 0
  | x :: xs => x + LB * val xs
/-- the limbs of a number, none behind that is 0, at most so many of them -/
def digF : Nat → Nat → List Nat
  | 0, _ => []
  | f + 1, n => if n = 0 then [] else (n % LB) :: digF f (n / LB)
/-- the limbs of a number, none behind that is 0 -/
def dig (n : Nat) : List Nat := digF n n
theorem digF_zero (f : Nat) : digF f 0 = [] := by cases f <;> rfl
theorem digF_eq (f : Nat) : ∀ g n, n ≤ f → n ≤ g → digF f n = digF g n := by
  induction f with
  | zero => intro g n h k; obtain rfl : n = 0 := by omega
            rw [digF_zero, digF_zero]
  | succ f ih =>
    intro g n h k
    by_cases hn : n = 0
    · subst hn; rw [digF_zero, digF_zero]
    · obtain ⟨g', rfl⟩ : ∃ g', g = g' + 1 := ⟨g - 1, by omega⟩
      have hd : n / LB < n := Nat.div_lt_self (by omega) (by decide)
      have e1 : digF (f + 1) n = (n % LB) :: digF f (n / LB) := by rw [digF, if_neg hn]
      have e2 : digF (g' + 1) n = (n % LB) :: digF g' (n / LB) := by rw [digF, if_neg hn]
      rw [e1, e2, ih g' (n / LB) (by omega) (by omega)]
theorem dig_zero : dig 0 = [] := rfl
theorem dig_pos (n : Nat) (h : n ≠ 0) : dig n = (n % LB) :: dig (n / LB) := by
  obtain ⟨m, rfl⟩ : ∃ m, n = m + 1 := ⟨n - 1, by omega⟩
  have hd : (m + 1) / LB < m + 1 := Nat.div_lt_self (by omega) (by decide)
  have e1 : digF (m + 1) (m + 1) = ((m + 1) % LB) :: digF m ((m + 1) / LB) := by rw [digF, if_neg h]
  show digF (m + 1) (m + 1) = _
  rw [e1, digF_eq m ((m + 1) / LB) ((m + 1) / LB) (by omega) (Nat.le_refl _)]
  rfl
/-- every limb is below the base -/
def Lim (xs : List Nat) : Prop := ∀ x ∈ xs, x < LB
/-- limbs as they should be -/
def Nrm (xs : List Nat) : Prop := Lim xs ∧ ∀ h : xs ≠ [], xs.getLast h ≠ 0
theorem Lim.nil : Lim [] := fun x hx => by cases hx
theorem Lim.cons {x : Nat} {xs : List Nat} (h : x < LB) (hs : Lim xs) : Lim (x :: xs) := fun y hy => by
  rcases List.mem_cons.1 hy with rfl | h1
  · exact h
  · exact hs y h1
theorem Lim.head {x : Nat} {xs : List Nat} (h : Lim (x :: xs)) : x < LB := h x (List.mem_cons_self ..)
theorem Lim.tail {x : Nat} {xs : List Nat} (h : Lim (x :: xs)) : Lim xs := fun y hy => h y (List.mem_cons_of_mem _ hy)
theorem Lim.append {xs ys : List Nat} (h : Lim xs) (k : Lim ys) : Lim (xs ++ ys) := fun y hy => by
  rcases List.mem_append.1 hy with h1 | h1
  · exact h y h1
  · exact k y h1
theorem Lim.take {xs : List Nat} (h : Lim xs) (k : Nat) : Lim (xs.take k) := fun y hy => h y (List.mem_of_mem_take hy)
theorem Lim.drop {xs : List Nat} (h : Lim xs) (k : Nat) : Lim (xs.drop k) := fun y hy => h y (List.mem_of_mem_drop hy)
theorem Lim.getD {xs : List Nat} (h : Lim xs) (k : Nat) : xs.getD k 0 < LB := by
  by_cases hk : k < xs.length
  · have e : xs.getD k 0 = xs[k] := by simp [List.getD, hk]
    rw [e]; exact h _ (List.getElem_mem hk)
  · have e : xs.getD k 0 = 0 := by simp [List.getD, List.getElem?_eq_none (Nat.le_of_not_lt hk)]
    rw [e]; decide
theorem LB_pos : 0 < LB := by decide
theorem val_dig (n : Nat) : val (dig n) = n := by
  induction n using Nat.strongRecOn with
  | _ n ih =>
    by_cases h : n = 0
    · subst h; rw [dig_zero]; rfl
    · rw [dig_pos n h]
      show n % LB + LB * val (dig (n / LB)) = n
      rw [ih (n / LB) (Nat.div_lt_self (by omega) (by decide))]
      exact Nat.mod_add_div n LB
theorem dig_lim (n : Nat) : Lim (dig n) := by
  induction n using Nat.strongRecOn with
  | _ n ih =>
    by_cases h : n = 0
    · subst h; rw [dig_zero]; exact Lim.nil
    · rw [dig_pos n h]
      exact Lim.cons (Nat.mod_lt _ LB_pos) (ih _ (Nat.div_lt_self (by omega) (by decide)))
theorem dig_nil {n : Nat} (h : dig n = []) : n = 0 := by
  have := val_dig n
  rw [h] at this
  exact this.symm
theorem dig_ne {n : Nat} (h : n ≠ 0) : dig n ≠ [] := fun e => h (dig_nil e)
theorem dig_nrm (n : Nat) : Nrm (dig n) := by
  refine ⟨dig_lim n, ?_⟩
  induction n using Nat.strongRecOn with
  | _ n ih =>
    intro hne
    have h : n ≠ 0 := by rintro rfl; exact hne dig_zero
    have e := dig_pos n h
    by_cases h2 : n / LB = 0
    · have e2 : dig n = [n % LB] := by rw [e, h2, dig_zero]
      have hlt : n < LB := by
        by_cases hl : n < LB
        · exact hl
        · have := Nat.div_pos (Nat.le_of_not_lt hl) LB_pos
          omega
      have : (dig n).getLast hne = n % LB := by simp [e2]
      rw [this, Nat.mod_eq_of_lt hlt]
      exact h
    · have h3 := ih (n / LB) (Nat.div_lt_self (by omega) (by decide)) (dig_ne h2)
      have : (dig n).getLast hne = (dig (n / LB)).getLast (dig_ne h2) := by
        simp only [e]
        rw [List.getLast_cons (dig_ne h2)]
      rw [this]
      exact h3
theorem val_zero_of {xs : List Nat} (h : Nrm xs) (hv : val xs = 0) : xs = [] := by
  induction xs with
  | nil => rfl
  | cons x xs ih =>
    exfalso
    have hv' : x + LB * val xs = 0 := hv
    have hp := LB_pos
    have hx : x = 0 := by omega
    have hs : val xs = 0 := by
      have : LB * val xs = 0 := by omega
      rcases Nat.mul_eq_zero.1 this with h1 | h1
      · omega
      · exact h1
    by_cases hxs : xs = []
    · subst hxs
      exact h.2 (by simp) (by simpa using hx)
    · have : xs = [] := ih ⟨h.1.tail, fun hne => by
        have := h.2 (by simp)
        rw [List.getLast_cons hne] at this
        exact this⟩ hs
      exact hxs this
theorem dig_val {xs : List Nat} (h : Nrm xs) : dig (val xs) = xs := by
  induction xs with
  | nil => exact dig_zero
  | cons x xs ih =>
    have hne : val (x :: xs) ≠ 0 := fun e => by cases val_zero_of h e
    have hx := h.1.head
    have ht : Nrm xs := ⟨h.1.tail, fun hne => by
      have := h.2 (by simp)
      rw [List.getLast_cons hne] at this
      exact this⟩
    rw [dig_pos _ hne]
    have e1 : val (x :: xs) % LB = x := by
      show (x + LB * val xs) % LB = x
      rw [Nat.add_mul_mod_self_left, Nat.mod_eq_of_lt hx]
    have e2 : val (x :: xs) / LB = val xs := by
      show (x + LB * val xs) / LB = val xs
      rw [Nat.add_mul_div_left _ _ LB_pos, Nat.div_eq_of_lt hx, Nat.zero_add]
    rw [e1, e2, ih ht]
theorem val_append : ∀ (xs ys : List Nat), val (xs ++ ys) = val xs + LB ^ xs.length * val ys
  | [], ys => by simp [val]
  | x :: xs, ys => by
    show x + LB * val (xs ++ ys) = x + LB * val xs + LB ^ (xs.length + 1) * val ys
    rw [val_append xs ys, Nat.pow_succ, Nat.mul_add]
    grind
theorem val_snoc (xs : List Nat) (x : Nat) : val (xs ++ [x]) = val xs + LB ^ xs.length * x := by
  rw [val_append]; simp [val]
theorem val_lt : ∀ {xs : List Nat}, Lim xs → val xs < LB ^ xs.length
  | [], _ => by simp [val]
  | x :: xs, h => by
    have h1 := val_lt h.tail
    have h2 := h.head
    show x + LB * val xs < LB ^ (xs.length + 1)
    rw [Nat.pow_succ, Nat.mul_comm (LB ^ xs.length)]
    have h3 : LB * (val xs + 1) ≤ LB * LB ^ xs.length := Nat.mul_le_mul (Nat.le_refl _) h1
    rw [Nat.mul_add] at h3
    omega
/-- noughts behind struck -/
def trim (xs : List Nat) : List Nat := dig (val xs)
theorem trim_snoc0 (xs : List Nat) : trim (xs ++ [0]) = trim xs := by unfold trim; rw [val_snoc]; simp
theorem trim_nrm {xs : List Nat} (h : Nrm xs) : trim xs = xs := dig_val h
theorem val_trim (xs : List Nat) : val (trim xs) = val xs := val_dig _
theorem take_succ_getD (xs : List Nat) (k : Nat) (h : k < xs.length) : xs.take (k + 1) = xs.take k ++ [xs.getD k 0] := by
  rw [List.take_add_one]
  simp [List.getD, h]
theorem val_take_succ (xs : List Nat) (k : Nat) : val (xs.take (k + 1)) = val (xs.take k) + LB ^ k * xs.getD k 0 := by
  by_cases h : k < xs.length
  · rw [take_succ_getD xs k h, val_snoc, List.length_take, Nat.min_eq_left (Nat.le_of_lt h)]
  · have h' := Nat.le_of_not_lt h
    rw [List.take_of_length_le (by omega), List.take_of_length_le h']
    simp [List.getD, List.getElem?_eq_none h']
theorem val_drop_getD (xs : List Nat) (k : Nat) (h : k < xs.length) : val (xs.drop k) = xs.getD k 0 + LB * val (xs.drop (k + 1)) := by
  rw [List.drop_eq_getElem_cons h]
  show xs[k] + LB * val (xs.drop (k + 1)) = _
  simp [List.getD, h]
/-- how many limbs a number has -/
theorem dig_len_le {n k : Nat} (h : n < LB ^ k) : (dig n).length ≤ k := by
  by_cases hl : (dig n).length ≤ k
  · exact hl
  · exfalso
    have hn := dig_nrm n
    have hne : dig n ≠ [] := by intro e; rw [e] at hl; simp at hl
    have e := List.dropLast_concat_getLast hne
    have hv := val_dig n
    rw [← e, val_snoc, List.length_dropLast] at hv
    have h0 := hn.2 hne
    have h1 : LB ^ k ≤ LB ^ ((dig n).length - 1) := Nat.pow_le_pow_right LB_pos (by omega)
    have h2 : LB ^ ((dig n).length - 1) * 1 ≤ LB ^ ((dig n).length - 1) * (dig n).getLast hne := Nat.mul_le_mul (Nat.le_refl _) (by omega)
    omega
theorem dig_len_ge {n k : Nat} (h : LB ^ k ≤ n) : k < (dig n).length := by
  have h1 := val_lt (dig_lim n)
  rw [val_dig] at h1
  by_cases hl : k < (dig n).length
  · exact hl
  · have := Nat.pow_le_pow_right LB_pos (Nat.le_of_not_lt hl)
    omega
end Go.Proofs.YtcgnndenmcmieaaDoor.M2
/- Proved: what one round of adding, taking away and comparing limbs does; no program in sight. -/
namespace Go.Proofs.YtcgnndenmcmieaaDoor.M2
set_option linter.unusedVariables false
/-- adding, i limbs far -/
structure AddI (a b : List Nat) (i : Nat) (out : List Nat) (c : Nat) : Prop where
  lim : Lim out
  len : out.length = i
  eq : val out + LB ^ i * c = val (a.take i) + val (b.take i)
  c1 : c ≤ 1
theorem AddI.start (a b : List Nat) : AddI a b 0 [] 0 := ⟨Lim.nil, rfl, by simp [val], by omega⟩
theorem split_pow (i c : Nat) : LB ^ i * (c % LB) + LB ^ (i + 1) * (c / LB) = LB ^ i * c := by
  rw [Nat.pow_succ, Nat.mul_assoc, ← Nat.mul_add, Nat.mod_add_div]
theorem AddI.step {a b : List Nat} {i : Nat} {out : List Nat} {c : Nat} (h : AddI a b i out c) (ha : Lim a) (hb : Lim b) :
    AddI a b (i + 1) (out ++ [(c + a.getD i 0 + b.getD i 0) % LB]) ((c + a.getD i 0 + b.getD i 0) / LB) := by
  have h1 := ha.getD i
  have h2 := hb.getD i
  have h3 := h.c1
  refine ⟨h.lim.append (Lim.cons (Nat.mod_lt _ LB_pos) Lim.nil), by simp [h.len], ?_, ?_⟩
  · rw [val_snoc, h.len, val_take_succ, val_take_succ, Nat.add_assoc, split_pow]
    have := h.eq
    rw [Nat.mul_add, Nat.mul_add]
    omega
  · have : c + a.getD i 0 + b.getD i 0 < LB * 2 := by omega
    have := Nat.div_lt_of_lt_mul this
    omega
theorem AddI.done {a b : List Nat} {i : Nat} {out : List Nat} {c : Nat} (h : AddI a b i out c) (ha : a.length ≤ i) (hb : b.length ≤ i) (hc : c = 0) : trim out = dig (val a + val b) := by
  have := h.eq
  rw [List.take_of_length_le ha, List.take_of_length_le hb, hc, Nat.mul_zero, Nat.add_zero] at this
  unfold trim
  rw [this]
/-- taking away, i limbs far -/
structure SubI (a b : List Nat) (i : Nat) (out : List Nat) (c : Nat) : Prop where
  lim : Lim out
  len : out.length = i
  eq : val out + val (b.take i) = val (a.take i) + LB ^ i * c
  c1 : c ≤ 1
theorem SubI.start (a b : List Nat) : SubI a b 0 [] 0 := ⟨Lim.nil, rfl, by simp [val], by omega⟩
/-- a round that takes no more than there is -/
theorem SubI.stepNo {a b : List Nat} {i : Nat} {out : List Nat} {c : Nat} (h : SubI a b i out c) (ha : Lim a) (hle : c + b.getD i 0 ≤ a.getD i 0) :
    SubI a b (i + 1) (out ++ [a.getD i 0 - c - b.getD i 0]) 0 := by
  have h1 := ha.getD i
  refine ⟨h.lim.append (Lim.cons (by omega) Lim.nil), by simp [h.len], ?_, by omega⟩
  rw [val_snoc, h.len, val_take_succ, val_take_succ, Nat.mul_zero, Nat.add_zero]
  have := h.eq
  obtain ⟨d, hd⟩ : ∃ d, a.getD i 0 = d + c + b.getD i 0 := ⟨a.getD i 0 - c - b.getD i 0, by omega⟩
  rw [show a.getD i 0 - c - b.getD i 0 = d by omega, hd, Nat.mul_add, Nat.mul_add]
  omega
/-- a round that borrows -/
theorem SubI.stepYes {a b : List Nat} {i : Nat} {out : List Nat} {c : Nat} (h : SubI a b i out c) (ha : Lim a) (hb : Lim b) (hlt : a.getD i 0 < c + b.getD i 0) :
    SubI a b (i + 1) (out ++ [a.getD i 0 + LB - c - b.getD i 0]) 1 := by
  have h1 := ha.getD i
  have h2 := hb.getD i
  have h3 := h.c1
  refine ⟨h.lim.append (Lim.cons (by omega) Lim.nil), by simp [h.len], ?_, by omega⟩
  rw [val_snoc, h.len, val_take_succ, val_take_succ, Nat.mul_one, Nat.pow_succ]
  have := h.eq
  obtain ⟨d, hd⟩ : ∃ d, a.getD i 0 + LB = d + c + b.getD i 0 := ⟨a.getD i 0 + LB - c - b.getD i 0, by omega⟩
  rw [show a.getD i 0 + LB - c - b.getD i 0 = d by omega]
  have e : LB ^ i * (a.getD i 0 + LB) = LB ^ i * (d + c + b.getD i 0) := by rw [hd]
  rw [Nat.mul_add, Nat.mul_add, Nat.mul_add] at e
  omega
theorem SubI.done {a b : List Nat} {i : Nat} {out : List Nat} {c : Nat} (h : SubI a b i out c) (ha : a.length = i) (hb : b.length ≤ i) (hle : val b ≤ val a) : trim out = dig (val a - val b) := by
  have h1 := h.eq
  rw [List.take_of_length_le hb, List.take_of_length_le (show a.length ≤ i by omega)] at h1
  have h2 := val_lt h.lim
  rw [h.len] at h2
  have h3 := h.c1
  have hc : c = 0 := by
    rcases Nat.eq_zero_or_pos c with h4 | h4
    · exact h4
    · exfalso
      have : c = 1 := by omega
      subst this
      omega
  subst hc
  unfold trim
  congr 1
  omega
theorem nrm_len_le {a b : List Nat} (ha : Nrm a) (hb : Nrm b) (h : val b ≤ val a) : b.length ≤ a.length := by
  have h1 := val_lt ha.1
  have h2 := dig_len_le (n := val b) (k := a.length) (by omega)
  rw [dig_val hb] at h2
  exact h2
/-- how two numbers lie, as -1, 0, 1 -/
def cmpN (x y : Nat) : Int := if x < y then -1 else if y < x then 1 else 0
theorem cmp_short {a b : List Nat} (ha : Nrm a) (hb : Nrm b) (h : a.length < b.length) : val a < val b := by
  by_cases hlt : val a < val b
  · exact hlt
  · have := nrm_len_le ha hb (by omega)
    omega
theorem cmp_at {a b : List Nat} {i : Nat} (ha : Lim a) (hi : i < a.length) (hl : a.length = b.length) (he : a.drop (i + 1) = b.drop (i + 1)) (h : a.getD i 0 < b.getD i 0) : val a < val b := by
  have e1 : val a = val (a.take i) + LB ^ i * val (a.drop i) := by
    have := val_append (a.take i) (a.drop i)
    rw [List.take_append_drop, List.length_take, Nat.min_eq_left (Nat.le_of_lt hi)] at this
    exact this
  have e2 : val b = val (b.take i) + LB ^ i * val (b.drop i) := by
    have := val_append (b.take i) (b.drop i)
    rw [List.take_append_drop, List.length_take, Nat.min_eq_left (by omega)] at this
    exact this
  have h1 := val_lt (ha.take i)
  rw [List.length_take, Nat.min_eq_left (Nat.le_of_lt hi)] at h1
  rw [e1, e2, val_drop_getD a i hi, val_drop_getD b i (by omega), he]
  have h2 : LB ^ i * (a.getD i 0 + LB * val (b.drop (i + 1)) + 1) ≤ LB ^ i * (b.getD i 0 + LB * val (b.drop (i + 1))) := Nat.mul_le_mul (Nat.le_refl _) (by omega)
  rw [Nat.mul_add _ _ 1] at h2
  omega
theorem drop_step {a b : List Nat} {i : Nat} (hi : i < a.length) (hl : a.length = b.length) (he : a.drop (i + 1) = b.drop (i + 1)) (h : a.getD i 0 = b.getD i 0) : a.drop i = b.drop i := by
  rw [List.drop_eq_getElem_cons hi, List.drop_eq_getElem_cons (show i < b.length by omega), he]
  congr 1
  simpa [List.getD, hi, show i < b.length by omega] using h
end Go.Proofs.YtcgnndenmcmieaaDoor.M2
/- Proved: limbs of a word, what is left by a word, doubling, and products of limbs, round by round; no program in sight. -/
namespace Go.Proofs.YtcgnndenmcmieaaDoor.M2
set_option linter.unusedVariables false
theorem nrm_of_ge {xs : List Nat} (h : Lim xs) (hv : xs.length ≠ 0 → LB ^ (xs.length - 1) ≤ val xs) : Nrm xs := by
  refine ⟨h, fun hne h0 => ?_⟩
  have e := List.dropLast_concat_getLast hne
  have hl : xs.length ≠ 0 := fun h0 => hne (List.length_eq_zero_iff.1 h0)
  have h1 := hv hl
  rw [← e, h0, val_snoc, Nat.mul_zero, Nat.add_zero] at h1
  have h2 : val xs.dropLast < LB ^ xs.dropLast.length := val_lt (fun x hx => h x (List.dropLast_subset xs hx))
  have e2 : (xs.dropLast ++ [0]).length - 1 = xs.dropLast.length := by simp
  rw [e2] at h1
  omega
theorem nrm_ge {xs : List Nat} (h : Nrm xs) (h0 : xs.length ≠ 0) : LB ^ (xs.length - 1) ≤ val xs := by
  by_cases hlt : val xs < LB ^ (xs.length - 1)
  · have := dig_len_le hlt
    rw [dig_val h] at this
    omega
  · omega
theorem dig_snoc {n m : Nat} {out : List Nat} (h : dig n = out ++ dig m) (hm : m ≠ 0) : dig n = (out ++ [m % LB]) ++ dig (m / LB) := by
  rw [h, dig_pos m hm, List.append_assoc]
  rfl
theorem word_step (xs : List Nat) (k m : Nat) (h : k < xs.length) : (val (xs.drop (k + 1)) % m * LB + xs.getD k 0) % m = val (xs.drop k) % m := by
  rw [val_drop_getD xs k h, Nat.add_mod, Nat.mul_mod, Nat.mod_mod, ← Nat.mul_mod, ← Nat.add_mod, Nat.add_comm, Nat.mul_comm]
/-- doubling, k limbs far -/
structure ShI (xs : List Nat) (bit k : Nat) (out : List Nat) (c : Nat) : Prop where
  lim : Lim out
  len : out.length = k
  eq : val out + LB ^ k * c = 2 * val (xs.take k) + bit
  c1 : c ≤ 1
theorem ShI.start (xs : List Nat) (bit : Nat) (hb : bit ≤ 1) : ShI xs bit 0 [] bit := ⟨Lim.nil, rfl, by simp [val], hb⟩
theorem ShI.step {xs : List Nat} {bit k : Nat} {out : List Nat} {c : Nat} (h : ShI xs bit k out c) (hx : Lim xs) : ShI xs bit (k + 1) (out ++ [(c + 2 * xs.getD k 0) % LB]) ((c + 2 * xs.getD k 0) / LB) := by
  have h1 := hx.getD k
  have h3 := h.c1
  refine ⟨h.lim.append (Lim.cons (Nat.mod_lt _ LB_pos) Lim.nil), by simp [h.len], ?_, ?_⟩
  · rw [val_snoc, h.len, val_take_succ, Nat.add_assoc, split_pow]
    have := h.eq
    have e : LB ^ k * (c + 2 * xs.getD k 0) = LB ^ k * c + 2 * (LB ^ k * xs.getD k 0) := by rw [Nat.mul_add, Nat.mul_left_comm]
    rw [e, Nat.mul_add]
    omega
  · have : c + 2 * xs.getD k 0 < LB * 2 := by omega
    have := Nat.div_lt_of_lt_mul this
    omega
theorem ShI.no {xs : List Nat} {bit : Nat} {out : List Nat} {c : Nat} (h : ShI xs bit xs.length out c) (hx : Nrm xs) (hc : c = 0) : out = dig (2 * val xs + bit) := by
  have h1 := h.eq
  rw [List.take_length, hc, Nat.mul_zero, Nat.add_zero] at h1
  rw [← h1]
  refine (dig_val (nrm_of_ge h.lim (fun h0 => ?_))).symm
  rw [h.len] at h0 ⊢
  have := nrm_ge hx h0
  omega
theorem ShI.yes {xs : List Nat} {bit : Nat} {out : List Nat} {c : Nat} (h : ShI xs bit xs.length out c) (hc : 0 < c) : out ++ [c] = dig (2 * val xs + bit) := by
  have h1 := h.eq
  rw [List.take_length] at h1
  have h3 := h.c1
  have hLB : (1 : Nat) < LB := by decide
  have e : val (out ++ [c]) = 2 * val xs + bit := by rw [val_snoc, h.len]; exact h1
  rw [← e]
  refine (dig_val ⟨h.lim.append (Lim.cons (by omega) Lim.nil), fun hne => ?_⟩).symm
  simp
  omega
/-- limbs with one turned -/
theorem val_set : ∀ (xs : List Nat) (k y : Nat), k < xs.length → val (xs.set k y) + LB ^ k * xs.getD k 0 = val xs + LB ^ k * y
  | [], k, y, h => by simp at h
  | x :: xs, 0, y, h => by
    show y + LB * val xs + LB ^ 0 * x = x + LB * val xs + LB ^ 0 * y
    rw [Nat.pow_zero]
    omega
  | x :: xs, k + 1, y, h => by
    have ih := val_set xs k y (by simpa using h)
    show x + LB * val (xs.set k y) + LB ^ (k + 1) * xs.getD k 0 = x + LB * val xs + LB ^ (k + 1) * y
    rw [Nat.pow_succ]
    have e : LB * (val (xs.set k y) + LB ^ k * xs.getD k 0) = LB * (val xs + LB ^ k * y) := by rw [ih]
    rw [Nat.mul_add, Nat.mul_add] at e
    have e1 : LB ^ k * LB * xs.getD k 0 = LB * (LB ^ k * xs.getD k 0) := by rw [Nat.mul_comm (LB ^ k) LB, Nat.mul_assoc]
    have e2 : LB ^ k * LB * y = LB * (LB ^ k * y) := by rw [Nat.mul_comm (LB ^ k) LB, Nat.mul_assoc]
    omega
theorem Lim.set {xs : List Nat} (h : Lim xs) (k y : Nat) (hy : y < LB) : Lim (xs.set k y) := fun z hz => by
  rcases List.mem_or_eq_of_mem_set hz with h1 | h1
  · exact h z h1
  · rw [h1]; exact hy
theorem lim_zeros (n : Nat) : Lim (List.replicate n 0) := fun z hz => by rw [List.eq_of_mem_replicate hz]; exact LB_pos
theorem val_zeros : ∀ n : Nat, val (List.replicate n 0) = 0
  | 0 => rfl
  | n + 1 => by
    rw [List.replicate_succ]
    show 0 + LB * val (List.replicate n 0) = 0
    rw [val_zeros n, Nat.mul_zero]
/-- products: out and a carry at the place p are worth T -/
structure MulI (n p T : Nat) (out : List Nat) (c : Nat) : Prop where
  lim : Lim out
  len : out.length = n
  eq : val out + LB ^ p * c = T
  c1 : c < LB
theorem MulI.step {n p T : Nat} {out : List Nat} {c : Nat} (h : MulI n p T out c) (z : Nat) (hz : z ≤ (LB - 1) * (LB - 1)) (hp : p < n) :
    MulI n (p + 1) (T + LB ^ p * z) (out.set p ((c + (out.getD p 0 + z)) % LB)) ((c + (out.getD p 0 + z)) / LB) := by
  have h1 := h.lim.getD p
  have h2 := h.c1
  refine ⟨h.lim.set _ _ (Nat.mod_lt _ LB_pos), by simp [h.len], ?_, ?_⟩
  · have e := val_set out p ((c + (out.getD p 0 + z)) % LB) (by rw [h.len]; exact hp)
    have e2 := split_pow p (c + (out.getD p 0 + z))
    have e3 := h.eq
    rw [Nat.mul_add, Nat.mul_add] at e2
    omega
  · refine Nat.div_lt_of_lt_mul ?_
    have : LB * LB = (LB - 1) * (LB - 1) + 2 * (LB - 1) + 1 := by decide
    omega
theorem MulI.carry {n p T : Nat} {out : List Nat} {c : Nat} (h : MulI n p T out c) (hT : T < LB ^ n) (hc : 0 < c) : p < n := by
  by_cases hp : p < n
  · exact hp
  · exfalso
    have h1 := h.eq
    have h2 : LB ^ n ≤ LB ^ p := Nat.pow_le_pow_right LB_pos (by omega)
    have h3 : LB ^ p * 1 ≤ LB ^ p * c := Nat.mul_le_mul (Nat.le_refl _) hc
    omega
theorem MulI.next {n p T : Nat} {out : List Nat} {c : Nat} (h : MulI n p T out c) (hp : p < n) :
    MulI n (p + 1) T (out.set p ((c + out.getD p 0) % LB)) ((c + out.getD p 0) / LB) := by
  have := h.step 0 (Nat.zero_le _) hp
  simpa using this
theorem MulI.zero {n p T : Nat} {out : List Nat} {c : Nat} (h : MulI n p T out c) (hc : c = 0) (p' : Nat) : MulI n p' T out 0 := by
  have := h.eq
  rw [hc, Nat.mul_zero, Nat.add_zero] at this
  exact ⟨h.lim, h.len, by rw [Nat.mul_zero, Nat.add_zero]; exact this, LB_pos⟩
theorem mul_row (A X P J T y k j : Nat) (hJ : P * J = LB ^ (k + j)) : A + P * X * T + LB ^ (k + j) * (X * y) = A + P * X * (T + J * y) := by
  rw [← hJ]
  grind
theorem mul_row_step (xs ys : List Nat) (x k j : Nat) : val (xs.take k) * val ys + LB ^ k * x * val (ys.take j) + LB ^ (k + j) * (x * ys.getD j 0) = val (xs.take k) * val ys + LB ^ k * x * val (ys.take (j + 1)) := by
  rw [val_take_succ]
  exact mul_row _ _ _ _ _ _ k j (Nat.pow_add LB k j).symm
end Go.Proofs.YtcgnndenmcmieaaDoor.M2
/- Proved: what one round of dividing limbs does, by one limb and bit by bit; no program in sight. -/
namespace Go.Proofs.YtcgnndenmcmieaaDoor.M2
set_option linter.unusedVariables false
/-- dividing by d, down to the place k -/
structure DivI (xs : List Nat) (d k : Nat) (out : List Nat) (r : Nat) : Prop where
  qs : ∃ qs, out = List.replicate k 0 ++ qs ∧ Lim qs ∧ k + qs.length = xs.length ∧ val qs = val (xs.drop k) / d
  r_eq : r = val (xs.drop k) % d
theorem DivI.start (xs : List Nat) (d : Nat) : DivI xs d xs.length (List.replicate xs.length 0) 0 :=
  ⟨⟨[], by simp, Lim.nil, by simp, by simp [val]⟩, by simp [val]⟩
theorem DivI.len {xs : List Nat} {d k : Nat} {out : List Nat} {r : Nat} (h : DivI xs d k out r) : out.length = xs.length := by
  obtain ⟨qs, e, _, hl, _⟩ := h.qs
  rw [e]; simp; omega
theorem DivI.lim {xs : List Nat} {d k : Nat} {out : List Nat} {r : Nat} (h : DivI xs d k out r) : Lim out := by
  obtain ⟨qs, e, hq, _, _⟩ := h.qs
  rw [e]; exact (lim_zeros k).append hq
theorem set_head (j y : Nat) (qs : List Nat) : (List.replicate (j + 1) 0 ++ qs).set j y = List.replicate j 0 ++ y :: qs := by
  rw [show List.replicate (j + 1) 0 = List.replicate j 0 ++ [0] by rw [← List.replicate_append_replicate]; rfl, List.append_assoc, List.set_append_right _ _ (by simp), List.length_replicate, Nat.sub_self]
  rfl
theorem div_facts (V d x : Nat) (hd : 0 < d) : (x + LB * V) / d = LB * (V / d) + (V % d * LB + x) / d ∧ (x + LB * V) % d = (V % d * LB + x) % d := by
  have e : x + LB * V = (V % d * LB + x) + d * (LB * (V / d)) := by
    have := Nat.div_add_mod V d
    have h2 : LB * (d * (V / d) + V % d) = LB * V := by rw [this]
    rw [Nat.mul_add] at h2
    have h3 : d * (LB * (V / d)) = LB * (d * (V / d)) := Nat.mul_left_comm _ _ _
    rw [Nat.mul_comm (V % d) LB]
    omega
  rw [e]
  refine ⟨?_, Nat.add_mul_mod_self_left _ _ _⟩
  rw [Nat.add_mul_div_left _ _ hd, Nat.add_comm]
theorem DivI.step {xs : List Nat} {d j : Nat} {out : List Nat} {r : Nat} (h : DivI xs d (j + 1) out r) (hd : 0 < d) (hj : j < xs.length) (hx : Lim xs) :
    DivI xs d j (out.set j ((r * LB + xs.getD j 0) / d)) ((r * LB + xs.getD j 0) % d) ∧ (r * LB + xs.getD j 0) / d < LB := by
  obtain ⟨qs, e, hq, hl, hv⟩ := h.qs
  have hr := h.r_eq
  have hlt : (r * LB + xs.getD j 0) / d < LB := by
    refine Nat.div_lt_of_lt_mul ?_
    have h1 : r < d := by rw [hr]; exact Nat.mod_lt _ hd
    have h2 := hx.getD j
    have h3 : (r + 1) * LB ≤ d * LB := Nat.mul_le_mul h1 (Nat.le_refl _)
    rw [Nat.add_mul] at h3
    omega
  have f := div_facts (val (xs.drop (j + 1))) d (xs.getD j 0) hd
  rw [← val_drop_getD xs j hj, ← hr] at f
  refine ⟨⟨⟨(r * LB + xs.getD j 0) / d :: qs, ?_, Lim.cons hlt hq, by simp; omega, ?_⟩, f.2.symm⟩, hlt⟩
  · rw [e, set_head]
  · rw [f.1]
    show (r * LB + xs.getD j 0) / d + LB * val qs = _
    rw [hv, Nat.add_comm]
theorem DivI.done {xs : List Nat} {d : Nat} {out : List Nat} {r : Nat} (h : DivI xs d 0 out r) : trim out = dig (val xs / d) ∧ r = val xs % d := by
  obtain ⟨qs, e, hq, hl, hv⟩ := h.qs
  refine ⟨?_, h.r_eq⟩
  unfold trim
  rw [e]
  simp at hv ⊢
  rw [hv]
theorem dig_one (r : Nat) (h0 : r ≠ 0) (h : r < LB) : dig r = [r] := by
  rw [dig_pos r h0, Nat.mod_eq_of_lt h, Nat.div_eq_of_lt h, dig_zero]
end Go.Proofs.YtcgnndenmcmieaaDoor.M2
/- Proved: what one round of dividing limbs bit by bit does; no program in sight. -/
namespace Go.Proofs.YtcgnndenmcmieaaDoor.M2
set_option linter.unusedVariables false
/-- what has been brought down: the limbs above, and of x the bits from t on -/
def down (V x t : Nat) : Nat := V * 2 ^ (28 - t) + x / 2 ^ t
theorem down_start (V x : Nat) (hx : x < LB) : down V x 28 = V := by
  unfold down
  have e : (2 : Nat) ^ 28 = LB := by decide
  rw [e, Nat.div_eq_of_lt hx]
  simp
theorem down_end (V x : Nat) : down V x 0 = x + LB * V := by
  unfold down
  have e : (2 : Nat) ^ 28 = LB := by decide
  simp
  rw [show (268435456 : Nat) = LB from rfl, Nat.mul_comm V LB]
  omega
theorem down_step (V x t : Nat) (ht : t < 28) : down V x t = 2 * down V x (t + 1) + x / 2 ^ t % 2 := by
  unfold down
  have e1 : (2 : Nat) ^ (28 - t) = 2 * 2 ^ (28 - (t + 1)) := by
    rw [show 28 - t = (28 - (t + 1)) + 1 by omega, Nat.pow_succ, Nat.mul_comm]
  have e2 : x / 2 ^ (t + 1) = x / 2 ^ t / 2 := by rw [Nat.pow_succ, Nat.div_div_eq_div_mul]
  rw [e1, e2]
  have := Nat.div_add_mod (x / 2 ^ t) 2
  have e3 : V * (2 * 2 ^ (28 - (t + 1))) = 2 * (V * 2 ^ (28 - (t + 1))) := Nat.mul_left_comm _ _ _
  rw [e3]
  omega
/-- dividing by D: the limbs above j are done, of the limb at j the bits from t on; o is its quotient so far, R what is left -/
structure BitI (xs : List Nat) (D j t : Nat) (qs : List Nat) (o R : Nat) : Prop where
  lim : Lim qs
  len : j + 1 + qs.length = xs.length
  q : val qs = val (xs.drop (j + 1)) / D
  r : R = down (val (xs.drop (j + 1))) (xs.getD j 0) t % D
  oq : LB * val qs + o = down (val (xs.drop (j + 1))) (xs.getD j 0) t / D * 2 ^ t
theorem BitI.start {xs : List Nat} {D j : Nat} {out : List Nat} {R : Nat} (h : DivI xs D (j + 1) out R) (hx : Lim xs) : ∃ qs, out = List.replicate j 0 ++ 0 :: qs ∧ BitI xs D j 28 qs 0 R := by
  obtain ⟨qs, e, hq, hl, hv⟩ := h.qs
  refine ⟨qs, ?_, hq, hl, hv, ?_, ?_⟩
  · rw [e, show List.replicate (j + 1) 0 = List.replicate j 0 ++ [0] by rw [← List.replicate_append_replicate]; rfl, List.append_assoc]
    rfl
  · rw [down_start _ _ (hx.getD j)]
    exact h.r_eq
  · rw [down_start _ _ (hx.getD j), ← hv, Nat.add_zero, Nat.mul_comm]
    rfl
theorem half_facts (H D b : Nat) (hD : 0 < D) (hb : b ≤ 1) :
    (2 * (H % D) + b < D → (2 * H + b) / D = 2 * (H / D) ∧ (2 * H + b) % D = 2 * (H % D) + b) ∧
    (¬ 2 * (H % D) + b < D → (2 * H + b) / D = 2 * (H / D) + 1 ∧ (2 * H + b) % D = 2 * (H % D) + b - D) := by
  have e := Nat.div_add_mod H D
  have hm : H % D < D := Nat.mod_lt _ hD
  generalize H / D = Q at *
  generalize H % D = M at *
  have e1 : 2 * H + b = D * (2 * Q) + (2 * M + b) := by
    rw [← e, Nat.mul_add, Nat.mul_left_comm]
    omega
  constructor
  · intro h
    rw [e1]
    exact ⟨by rw [Nat.mul_add_div hD, Nat.div_eq_of_lt h, Nat.add_zero], by rw [Nat.mul_add_mod, Nat.mod_eq_of_lt h]⟩
  · intro h
    have e2 : 2 * H + b = D * (2 * Q + 1) + (2 * M + b - D) := by
      rw [Nat.mul_add, Nat.mul_one]
      omega
    have h3 : 2 * M + b - D < D := by omega
    rw [e2]
    exact ⟨by rw [Nat.mul_add_div hD, Nat.div_eq_of_lt h3, Nat.add_zero], by rw [Nat.mul_add_mod, Nat.mod_eq_of_lt h3]⟩
theorem BitI.no {xs : List Nat} {D j t : Nat} {qs : List Nat} {o R : Nat} (h : BitI xs D j (t + 1) qs o R) (hD : 0 < D) (ht : t < 28) (hlt : 2 * R + xs.getD j 0 / 2 ^ t % 2 < D) :
    BitI xs D j t qs o (2 * R + xs.getD j 0 / 2 ^ t % 2) := by
  have f := (half_facts (down (val (xs.drop (j + 1))) (xs.getD j 0) (t + 1)) D (xs.getD j 0 / 2 ^ t % 2) hD (by omega)).1 (by rw [← h.r]; exact hlt)
  rw [← down_step _ _ t ht, ← h.r] at f
  refine ⟨h.lim, h.len, h.q, f.2.symm, ?_⟩
  rw [f.1, h.oq, Nat.pow_succ]
  grind
theorem BitI.yes {xs : List Nat} {D j t : Nat} {qs : List Nat} {o R : Nat} (h : BitI xs D j (t + 1) qs o R) (hD : 0 < D) (ht : t < 28) (hge : ¬ 2 * R + xs.getD j 0 / 2 ^ t % 2 < D) :
    BitI xs D j t qs (o + 2 ^ t) (2 * R + xs.getD j 0 / 2 ^ t % 2 - D) := by
  have f := (half_facts (down (val (xs.drop (j + 1))) (xs.getD j 0) (t + 1)) D (xs.getD j 0 / 2 ^ t % 2) hD (by omega)).2 (by rw [← h.r]; exact hge)
  rw [← down_step _ _ t ht, ← h.r] at f
  refine ⟨h.lim, h.len, h.q, f.2.symm, ?_⟩
  have := h.oq
  rw [f.1, Nat.add_mul, Nat.one_mul, ← Nat.add_assoc, this, Nat.pow_succ]
  grind
theorem BitI.lt {xs : List Nat} {D j t : Nat} {qs : List Nat} {o R : Nat} (h : BitI xs D j t qs o R) (hD : 0 < D) (ht : t ≤ 28) (hx : Lim xs) : o < LB := by
  have h1 := h.oq
  have h2 := h.q
  have hxj := hx.getD j
  generalize val (xs.drop (j + 1)) = V at *
  generalize xs.getD j 0 = x at *
  have b1 : down V x t / D * D ≤ down V x t := Nat.div_mul_le_self _ _
  have b2 : down V x t * 2 ^ t ≤ V * LB + x := by
    unfold down
    rw [Nat.add_mul, Nat.mul_assoc, ← Nat.pow_add, show 28 - t + t = 28 by omega]
    have := Nat.div_mul_le_self x (2 ^ t)
    have e : (2 : Nat) ^ 28 = LB := by decide
    rw [e]
    omega
  have b3 : V + 1 ≤ (V / D + 1) * D := by
    have := Nat.div_add_mod V D
    have := Nat.mod_lt V hD
    rw [Nat.add_mul, Nat.one_mul, Nat.mul_comm (V / D) D]
    omega
  have b4 : (V + 1) * LB ≤ (V / D + 1) * D * LB := Nat.mul_le_mul b3 (Nat.le_refl _)
  have b5 : down V x t / D * D * 2 ^ t ≤ down V x t * 2 ^ t := Nat.mul_le_mul b1 (Nat.le_refl _)
  rw [Nat.add_mul, Nat.one_mul] at b4
  have b6 : down V x t / D * 2 ^ t * D < (V / D + 1) * LB * D := by
    have e1 : down V x t / D * 2 ^ t * D = down V x t / D * D * 2 ^ t := by grind
    have e2 : (V / D + 1) * LB * D = (V / D + 1) * D * LB := by grind
    rw [e1, e2]
    omega
  have b7 : down V x t / D * 2 ^ t < (V / D + 1) * LB := Nat.lt_of_mul_lt_mul_right b6
  rw [← h1, h2, Nat.add_mul, Nat.one_mul, Nat.mul_comm LB] at b7
  omega
theorem BitI.done {xs : List Nat} {D j : Nat} {qs : List Nat} {o R : Nat} (h : BitI xs D j 0 qs o R) (hD : 0 < D) (hx : Lim xs) : DivI xs D j (List.replicate j 0 ++ o :: qs) R := by
  have hj : j < xs.length := by have := h.len; omega
  have hlt := h.lt hD (by omega) hx
  have e := val_drop_getD xs j hj
  refine ⟨⟨o :: qs, rfl, Lim.cons hlt h.lim, by have := h.len; simp; omega, ?_⟩, ?_⟩
  · have := h.oq
    rw [down_end, ← e, Nat.pow_zero, Nat.mul_one] at this
    rw [← this]
    show o + LB * val qs = LB * val qs + o
    omega
  · rw [h.r, down_end, e]
theorem get_mid (j o : Nat) (qs : List Nat) : (List.replicate j 0 ++ o :: qs).getD j 0 = o := by
  simp [List.getD]
theorem set_mid (j o y : Nat) (qs : List Nat) : (List.replicate j 0 ++ o :: qs).set j y = List.replicate j 0 ++ y :: qs := by
  rw [List.set_append_right _ _ (by simp), List.length_replicate, Nat.sub_self]
  rfl
end Go.Proofs.YtcgnndenmcmieaaDoor.M2
/- Proved: contracts of the statements' own helpers over whole numbers: sizes, copies, comparisons, marks. -/
namespace Go.Proofs.YtcgnndenmcmieaaDoor
open Go.ChangeShapes Go.WideShapes Go.ChangeAt Go.RowKit
set_option linter.unusedVariables false
set_option linter.unusedSimpArgs false
theorem szInts_any (a : Option Addr) (len cap : Nat) (left : Int) (w : World) (hl : len ≤ 9223372036854775807) (h0 : 0 ≤ left) (h1 : left ≤ 1048576) :
    Calls Tryd.prog 57 #[.slice a len cap, .int .i64 left] w fun e w' => e = .returned (.int .i64 (if left < (len : Int) then -1 else left - len)) ∧ w' = w := by
  by_cases h : left < (len : Int)
  · have d : decide (left - (len : Int) < 0) = true := by simp; omega
    rw [if_pos h]
    go_enter Tryd.func57, Tryd.ntmps57
    go_wp2_with fail
    go_ret
    exact ⟨rfl, rfl⟩
  · have d : decide (left - (len : Int) < 0) = false := by simp; omega
    rw [if_neg h]
    go_enter Tryd.func57, Tryd.ntmps57
    go_wp2_with fail
    go_ret
    exact ⟨rfl, rfl⟩
theorem szWhole_no (neg : Bool) (a : Option Addr) (len cap : Nat) (left : Int) (w : World) (hl : len ≤ 9223372036854775807) (h0 : 0 ≤ left) (h1 : left ≤ 1048576) (h : left < (len : Int)) :
    Calls Tryd.prog 58 #[.agg #[.bool neg, .slice a len cap], .int .i64 left] w fun e w' => e = .returned (.int .i64 (-1)) ∧ Old w w' := by
  have c := fun W => szInts_any a len cap left W hl h0 h1
  rw [if_pos h] at c
  go_enter Tryd.func58, Tryd.ntmps58
  go_wp2_with fail
  refine (c _).mono ?_
  rintro e w' ⟨rfl, rfl⟩
  go_wp2_with fail
  go_ret
  exact ⟨rfl, (Old.refl _).alloc _⟩
theorem szWhole_yes (neg : Bool) (a : Option Addr) (len cap : Nat) (left : Int) (w : World) (hl : len ≤ 9223372036854775807) (h0 : 0 ≤ left) (h1 : left ≤ 1048576) (h : ¬ left < (len : Int)) :
    Calls Tryd.prog 58 #[.agg #[.bool neg, .slice a len cap], .int .i64 left] w fun e w' => e = .returned (.int .i64 (left - len)) ∧ Old w w' := by
  have c := fun W => szInts_any a len cap left W hl h0 h1
  rw [if_neg h] at c
  have d : decide (left - (len : Int) < 0) = false := by simp; omega
  go_enter Tryd.func58, Tryd.ntmps58
  go_wp2_with fail
  refine (c _).mono ?_
  rintro e w' ⟨rfl, rfl⟩
  go_wp2_with fail
  go_ret
  exact ⟨rfl, (Old.refl _).alloc _⟩
set_option maxHeartbeats 1000000 in
theorem toWhole_any (neg : Bool) (xs : List Int) (v : Value) (w : World) (h : Row w v xs) (hl : xs.length ≤ 1048576) :
    Calls Tryd.prog 63 #[.agg #[.bool neg, v]] w fun e w' => ∃ v', e = .returned (.agg #[.bool neg, v']) ∧ Old w w' ∧ Own w' w.heap.size v' xs := by
  have HR : Hid (Row w v xs) := h
  obtain ⟨a0, cap0, rfl⟩ := h.slice
  clear h
  go_enter Tryd.func63, Tryd.ntmps63
  go_wp2_with fail
  refine (toInts_any xs _ _ (HR.out.old (((Old.refl w).alloc _).alloc _ |>.alloc _)) hl).mono ?_
  rintro e w1 ⟨rfl, g1, o1⟩
  have q20 : w1.cell? ⟨w.heap.size + 1 + 1, 0, none⟩ = some (Value.bool neg) := (g1.cell (p := ⟨w.heap.size + 1 + 1, 0, none⟩) (by simp; try omega)).trans (by simp [cell_at, cell_lt, fro_at, fro_lt])
  have q21 : w1.cell? ⟨w.heap.size + 1 + 1, 1, none⟩ = some (Value.slice none 0 0) := (g1.cell (p := ⟨w.heap.size + 1 + 1, 1, none⟩) (by simp; try omega)).trans (by simp [cell_at, cell_lt, fro_at, fro_lt])
  have q10 : w1.cell? ⟨w.heap.size + 1, 0, none⟩ = some (Value.bool false) := (g1.cell (p := ⟨w.heap.size + 1, 0, none⟩) (by simp; try omega)).trans (by simp [cell_at, cell_lt, fro_at, fro_lt])
  have q11 : w1.cell? ⟨w.heap.size + 1, 1, none⟩ = some (Value.slice none 0 0) := (g1.cell (p := ⟨w.heap.size + 1, 1, none⟩) (by simp; try omega)).trans (by simp [cell_at, cell_lt, fro_at, fro_lt])
  have f21 : w1.frozen? ⟨w.heap.size + 1 + 1, 1, none⟩ = false := (g1.frozen (p := ⟨w.heap.size + 1 + 1, 1, none⟩) (by simp; try omega)).trans (by simp [cell_at, cell_lt, fro_at, fro_lt])
  have f10 : w1.frozen? ⟨w.heap.size + 1, 0, none⟩ = false := (g1.frozen (p := ⟨w.heap.size + 1, 0, none⟩) (by simp; try omega)).trans (by simp [cell_at, cell_lt, fro_at, fro_lt])
  have f11 : w1.frozen? ⟨w.heap.size + 1, 1, none⟩ = false := (g1.frozen (p := ⟨w.heap.size + 1, 1, none⟩) (by simp; try omega)).trans (by simp [cell_at, cell_lt, fro_at, fro_lt])
  have HG : Hid (Old w w1) := Old.trans (((Old.refl w).alloc _).alloc _ |>.alloc _) g1
  have HO : Hid (Own w1 w.heap.size (.slice (some ⟨w.heap.size + 1 + 1 + 1, 0, none⟩) xs.length xs.length) xs) := by
    have := Own.low o1 (base' := w.heap.size) (by simp; omega)
    simp at this
    exact this
  clear g1 o1 HR
  go_wp2_with fail
  refine bodyPost_ret (v := .agg #[.bool neg, .slice (some ⟨w.heap.size + 1 + 1 + 1, 0, none⟩) xs.length xs.length]) (by simp [results, Tryd.results63, go_sem, q10, q11]) rfl ⟨_, rfl, ?_, ?_⟩
  · exact ((HG.out.own (p := ⟨w.heap.size + 1 + 1, 1, none⟩) (by simp; omega) _).own (p := ⟨w.heap.size + 1, 0, none⟩) (by simp) _).own (p := ⟨w.heap.size + 1, 1, none⟩) (by simp) _
  · exact ownsRow_setCell_other (ownsRow_setCell_other (ownsRow_setCell_other HO.out (by simp [Value.ownBlock]) _) (by simp [Value.ownBlock]; omega) _) (by simp [Value.ownBlock]; omega) _
set_option maxHeartbeats 1000000 in
theorem eqWhole_yes (neg : Bool) (xs : List Int) (v u : Value) (w : World) (h : Row w v xs) (k : Row w u xs) (hl : xs.length ≤ 1073741824) :
    Calls Tryd.prog 56 #[.agg #[.bool neg, v], .agg #[.bool neg, u]] w fun e w' => e = .returned (.bool true) ∧ Old w w' := by
  have HR : Hid (Row w v xs) := h
  have HK : Hid (Row w u xs) := k
  obtain ⟨a0, cap0, rfl⟩ := h.slice
  obtain ⟨a1, cap1, rfl⟩ := k.slice
  clear h k
  have dn : (neg != neg) = false := by simp
  go_enter Tryd.func56, Tryd.ntmps56
  go_wp2_with fail
  refine (eqInts_yes xs _ _ _ (HR.out.old (((Old.refl w).alloc _).alloc _)) (HK.out.old (((Old.refl w).alloc _).alloc _)) hl).mono ?_
  rintro e w1 ⟨rfl, g1⟩
  have HG : Hid (Old w w1) := Old.trans (((Old.refl w).alloc _).alloc _) g1
  clear g1
  go_wp2_with fail
  go_ret
  exact ⟨rfl, HG.out⟩
end Go.Proofs.YtcgnndenmcmieaaDoor
/- Proved: contracts of the model's functions on limbs: noughts struck, comparing, adding, taking away. -/
namespace Go.Proofs.YtcgnndenmcmieaaDoor
open Go.ChangeShapes Go.WideShapes Go.ChangeAt Go.RowKit
open M2
set_option linter.unusedVariables false
set_option linter.unusedSimpArgs false
/-- limbs as the program's numbers -/
def toI (xs : List Nat) : List Int := xs.map (fun (n : Nat) => (n : Int))
theorem toI_len (xs : List Nat) : (toI xs).length = xs.length := by simp [toI]
theorem toI_get (xs : List Nat) (j : Nat) : (toI xs).getD j 0 = ((xs.getD j 0 : Nat) : Int) := by
  simp only [toI, List.getD, List.getElem?_map]
  cases xs[j]? <;> rfl
theorem toI_take (xs : List Nat) (k : Nat) : (toI xs).take k = toI (xs.take k) := by simp [toI]
theorem toI_append (xs ys : List Nat) : toI (xs ++ ys) = toI xs ++ toI ys := by simp [toI]
theorem toI_nil : toI [] = [] := rfl
/-- where the limbs lie, if there are any -/
theorem Row.at {w : World} {a : Option Addr} {n cap : Nat} {xs : List Nat} (h : Row w (.slice a n cap) (toI xs)) (h0 : 0 < xs.length) :
    ∃ b o, a = some ⟨b, o, none⟩ ∧ b < w.heap.size ∧ ∀ j, j < xs.length → w.cell? ⟨b, o + j, none⟩ = some (.int .i64 ((xs.getD j 0 : Nat) : Int)) := by
  rcases h with ⟨a', cap', e, e2⟩ | ⟨b, o, cap', e, hb, _, hc⟩
  · have := congrArg List.length e2
    rw [toI_len, List.length_nil] at this
    omega
  · simp only [Value.slice.injEq] at e
    obtain ⟨rfl, _, _⟩ := e
    rw [toI_len] at hc
    exact ⟨b, o, rfl, hb, fun j hj => by rw [hc j hj, toI_get]⟩
theorem Row.sliceN {w : World} {v : Value} {xs : List Nat} (h : Row w v (toI xs)) : ∃ a cap, v = .slice a xs.length cap := by
  obtain ⟨a, cap, e⟩ := h.slice
  rw [toI_len] at e
  exact ⟨a, cap, e⟩
theorem nrm_take {xs : List Nat} (h : Lim xs) (k : Nat) (hk : k ≤ xs.length) (h0 : 0 < k → xs.getD (k - 1) 0 ≠ 0) : Nrm (xs.take k) := by
  refine ⟨h.take k, fun hne => ?_⟩
  have hk0 : 0 < k := by
    rcases Nat.eq_zero_or_pos k with e | e
    · subst e; simp at hne
    · exact e
  have := h0 hk0
  rw [List.getLast_eq_getElem]
  simp only [List.length_take, Nat.min_eq_left hk, List.getElem_take]
  simpa [List.getD, show k - 1 < xs.length by omega] using this
theorem beq0 (x : Nat) (h : x ≠ 0) : ((x : Int) == 0) = false := by simp; omega
theorem dlt_yes {a b : Int} (h : a < b) : decide (a < b) = true := by simp; omega
theorem dlt_no {a b : Int} (h : ¬ a < b) : decide (a < b) = false := by simp; omega
def sliceLen : Value → Nat
  | .slice _ k _ => k
  | _ => 0
set_option maxHeartbeats 1000000 in
theorem trim_any (xs : List Nat) (v : Value) (base : Nat) (w : World) (h : Own w base v (toI xs)) (hl : Lim xs) (hn : xs.length ≤ 1073741824) :
    Calls Tryd.prog 134 #[v] w fun e w' => ∃ v', e = .returned v' ∧ Old w w' ∧ Own w' base v' (toI (trim xs)) := by
  by_cases h0 : xs.length = 0
  · obtain rfl := List.length_eq_zero_iff.1 h0
    have HF : Hid (Own w base v (toI (trim []))) := by
      have : trim [] = [] := dig_zero
      rw [this]; exact h
    obtain ⟨a0, cap0, rfl⟩ := (Own.row h).slice
    rw [toI_len] at *
    clear h
    go_enter Tryd.func134, Tryd.ntmps134
    go_wp2_with fail
    refine wp_loop_rounds 1 ?_
    rw [rounds_succ]
    go_wp2_with fail
    go_ret
    exact ⟨_, rfl, Old.refl _, HF.out⟩
  · obtain ⟨g, cap, e⟩ : ∃ g cap, v = .slice (some ⟨g, 0, none⟩) xs.length cap := by
      rcases h.2 with ⟨_, h1⟩ | ⟨g, cap, cur, e, _⟩
      · rw [toI_len] at h1; exact absurd h1 h0
      · rw [toI_len] at e; exact ⟨g, cap, e⟩
    subst e
    have hcap : xs.length ≤ cap ∧ cap ≤ 9223372036854775807 := by
      rcases h.2 with ⟨h1, _⟩ | ⟨g', cap', cur, e, _, _, h1, h2, _⟩
      · simp at h1
      · simp only [Value.slice.injEq] at e
        obtain ⟨_, _, rfl⟩ := e
        rw [toI_len] at h1
        exact ⟨h1, h2⟩
    obtain ⟨hcap1, hcap2⟩ := hcap
    have HO : Hid (Own w base (.slice (some ⟨g, 0, none⟩) xs.length cap) (toI xs)) := h
    obtain ⟨b, o, e1, hb, hc⟩ := Row.at (Own.row h) (by omega)
    obtain ⟨rfl, rfl⟩ : b = g ∧ o = 0 := by cases e1; exact ⟨rfl, rfl⟩
    simp only [Nat.zero_add] at hc
    have HC : Hid (∀ j, j < xs.length → w.cell? ⟨b, j, none⟩ = some (.int .i64 ((xs.getD j 0 : Nat) : Int))) := hc
    clear h hc e1
    go_enter Tryd.func134, Tryd.ntmps134
    go_wp2_with fail
    go_loopw [0] (fun u W => ∃ k : Nat, k ≤ xs.length ∧ u = .slice (some ⟨b, 0, none⟩) k cap ∧ Hid (val (xs.take k) = val xs) ∧ Hid (Old w W)) (fun u _ => sliceLen u)
    case atStart => exact ⟨xs.length, Nat.le_refl _, rfl, by rw [List.take_length]; rfl, Old.refl _⟩
    case round =>
      obtain ⟨k, hk, rfl, HV, HG⟩ := hrel
      rcases Nat.eq_zero_or_pos k with hk0 | hk0
      · subst hk0
        have HF : Hid (Own wr base (.slice (some ⟨b, 0, none⟩) 0 cap) (toI (trim xs))) := by
          have e : trim xs = xs.take 0 := by
            unfold trim
            rw [← HV.out]
            exact dig_val (nrm_take hl 0 (by omega) (fun h => absurd h (by omega)))
          rw [e, ← toI_take]
          exact Own.take (by rw [toI_len]; exact HO.out.old HG.out) 0 (by omega)
        clear HO
        go_wp2_with fail
        go_ret
        exact ⟨_, rfl, HG.out, HF.out⟩
      · obtain ⟨m, rfl⟩ : ∃ m, k = m + 1 := ⟨k - 1, by omega⟩
        have c1 : wr.cell? ⟨b, m, none⟩ = some (.int .i64 ((xs.getD m 0 : Nat) : Int)) := (HG.out.cell (p := ⟨b, m, none⟩) hb).trans (HC.out m (by omega))
        have d0 : decide ((0 : Int) < ((m + 1 : Nat) : Int)) = true := by simp <;> omega
        by_cases hx : xs.getD m 0 = 0
        · have HV2 : Hid (val (xs.take m) = val xs) := by
            have := HV.out
            rw [val_take_succ, hx, Nat.mul_zero, Nat.add_zero] at this
            exact this
          rw [hx] at c1
          clear HV hx
          go_wp2_with fail
          exact ⟨⟨m, by omega, rfl, HV2, HG⟩, by simp [sliceLen]⟩
        · have HF : Hid (Own wr base (.slice (some ⟨b, 0, none⟩) (m + 1) cap) (toI (trim xs))) := by
            have e : trim xs = xs.take (m + 1) := by
              unfold trim
              rw [← HV.out]
              exact dig_val (nrm_take hl (m + 1) hk (fun _ => hx))
            rw [e, ← toI_take]
            exact Own.take (by rw [toI_len]; exact HO.out.old HG.out) (m + 1) (by rw [toI_len]; exact hk)
          have d1 := beq0 _ hx
          generalize xs.getD m 0 = x at *
          clear HO
          go_wp2_with fail
          go_ret
          exact ⟨_, rfl, HG.out, HF.out⟩
end Go.Proofs.YtcgnndenmcmieaaDoor
/- Proved: contracts of the model's functions on limbs: adding and taking away. -/
namespace Go.Proofs.YtcgnndenmcmieaaDoor
open Go.ChangeShapes Go.WideShapes Go.ChangeAt Go.RowKit
open M2
set_option linter.unusedVariables false
set_option linter.unusedSimpArgs false
theorem one_cellW (w : World) (x : Value) (t : TypeId) : ∀ j u, [x][j]? = some u → (w.alloc (.cells #[x] t)).cell? ((⟨w.heap.size, 0, none⟩ : Addr).add j) = some u := by
  intro j u hj
  match j, hj with
  | 0, hj => simp at hj; subst hj; simp [Addr.add]
theorem one_oneW (x : Int) : ∀ u ∈ [Value.int .i64 x], u.oneCell' = true := by intro u hu; simp at hu; subst hu; rfl
theorem Own.snocW {w : World} {base : Nat} {v : Value} {xs : List Nat} {y : Nat} (h : w.ownsRow base 3 1 v ((toI xs).length + 1) ((toI xs).map (Value.int .i64) ++ [.int .i64 (y : Int)])) : Own w base v (toI (xs ++ [y])) := by
  unfold Own
  rw [toI_append]
  simpa [toI] using h
theorem Old.growW {a b c : World} {v : Value} {xs : List Value} {n : Nat} (h : Old a b) (ho : b.ownsRow a.heap.size 3 1 v n xs) (g : b.grownBy c v.ownBlock) : Old a c :=
  Below.grown h g h.size (fun k hk => (ho.lt k hk).1)
end Go.Proofs.YtcgnndenmcmieaaDoor
/- Proved: the contract of the model's function that takes limbs away from limbs. -/
namespace Go.Proofs.YtcgnndenmcmieaaDoor
open Go.ChangeShapes Go.WideShapes Go.ChangeAt Go.RowKit
open M2
set_option linter.unusedVariables false
set_option linter.unusedSimpArgs false
end Go.Proofs.YtcgnndenmcmieaaDoor
/- Proved: contracts of the model's functions on limbs: of a word, what is left by a word, doubling. -/
namespace Go.Proofs.YtcgnndenmcmieaaDoor
open Go.ChangeShapes Go.WideShapes Go.ChangeAt Go.RowKit
open M2
set_option linter.unusedVariables false
set_option linter.unusedSimpArgs false
set_option maxHeartbeats 2000000 in
theorem of_any (n : Nat) (w : World) (hn : n ≤ 9223372036854775807) :
    Calls Tryd.prog 98 #[.int .i64 n] w fun e w' => ∃ v', e = .returned v' ∧ Old w w' ∧ Own w' w.heap.size v' (toI (dig n)) := by
  obtain ⟨i0, hi, hz0, hz1, hz2⟩ := info_parts Tryd.infoInt
  have hlen : (dig n).length ≤ 3 := dig_len_le (by unfold LB; omega)
  go_enter Tryd.func98, Tryd.ntmps98
  go_wp2_with fail
  go_loopw [0, 3] (fun m o W => ∃ (m' : Nat) (out : List Nat), m' ≤ 9223372036854775807 ∧ m = .int .i64 m' ∧ Hid (dig n = out ++ dig m') ∧ Hid (Own W w.heap.size o (toI out)) ∧ Hid (Old w W)) (fun m _ _ => (intOf m).toNat)
  case atStart => exact ⟨n, [], hn, rfl, rfl, World.ownsRow_nil _ _ _ _, Old.refl _⟩
  case round =>
    obtain ⟨m, out, hm, rfl, HI, HO, HG⟩ := hrel
    rcases Nat.eq_zero_or_pos m with h0 | h0
    · subst h0
      have HE : Hid (dig n = out) := by have := HI.out; rw [dig_zero, List.append_nil] at this; exact this
      clear HI
      go_wp2_with fail
      go_ret
      exact ⟨_, rfl, HG.out, by rw [HE.out]; exact HO.out⟩
    · have HS : Hid (dig n = (out ++ [m % LB]) ++ dig (m / LB)) := dig_snoc HI.out (by omega)
      have hol : out.length ≤ 3 := by
        have := congrArg List.length HI.out
        rw [List.length_append] at this
        omega
      generalize hR : m % LB = R at *
      generalize hQ : m / LB = Q at *
      unfold LB at hR hQ
      have e3 : (m : Int) % 268435456 = (R : Int) := by omega
      have e4 : (m : Int) / 268435456 = (Q : Int) := by omega
      have hQm : Q < m := by omega
      have d0 : decide (0 < m) = true := by simp; omega
      clear hR hQ HI
      go_wp2_with (at_builtin; refine wpList_append_own _ rfl _ _ 75 rfl w.heap.size 3 i0 (.int .i64 0) 1 8 Tryd.underlying75 hi hz0 hz1 hz2 rfl (by decide) _ _ _ rfl (HO.out.alloc _) ⟨wr.heap.size, 0, none⟩ 1 1 [.int .i64 (R : Int)] rfl rfl (one_cellW _ _ _) (one_oneW _) (by rw [toI_len]; skip; unfold maxLen; omega) (by rw [toI_len]; skip; omega) (by have := HG.out.size; simp; omega) ?_; intro v' w1 hown hgrow _; have HO2 : Hid (Own w1 w.heap.size v' (toI (out ++ [R]))) := Own.snocW hown; have HG2 : Hid (Old w w1) := Old.growW (HG.out.alloc _) (HO.out.alloc _) hgrow; clear hown hgrow)
      exact ⟨⟨Q, out ++ [R], by omega, by first | rfl | rw [e4], HS, HO2, HG2⟩, by simp [intOf]; omega⟩
set_option maxHeartbeats 2000000 in
theorem word_any (xs : List Nat) (m : Nat) (v : Value) (w : World) (hv : Row w v (toI xs)) (hx : Lim xs) (la : xs.length ≤ 1048576) (hm : 1 ≤ m) (hm' : m ≤ 268435456) :
    Calls Tryd.prog 141 #[v, .int .i64 m] w fun e w' => e = .returned (.int .i64 ((val xs % m : Nat) : Int)) ∧ Old w w' := by
  have HV : Hid (Row w v (toI xs)) := hv
  obtain ⟨a0, cap0, rfl⟩ := hv.sliceN
  clear hv
  have hmn : ¬ m = 0 := by omega
  go_enter Tryd.func141, Tryd.ntmps141
  go_wp2_with fail
  go_loopw [5, 6] (fun r i W => ∃ (k r' : Nat), (k ≤ xs.length ∧ r' < m) ∧ r = .int .i64 r' ∧ i = .int .i64 ((k : Int) - 1) ∧ Hid (r' = val (xs.drop k) % m) ∧ Hid (Old w W)) (fun _ i _ => (intOf i + 1).toNat)
  case atStart => exact ⟨xs.length, 0, ⟨Nat.le_refl _, by omega⟩, rfl, rfl, (by show 0 = val (xs.drop xs.length) % m; rw [List.drop_length]; rfl), Old.refl _⟩
  case round =>
    obtain ⟨k, r, ⟨hk, hr⟩, rfl, rfl, HD, HG⟩ := hrel
    rcases Nat.eq_zero_or_pos k with hk0 | hk0
    · subst hk0
      have HE : Hid (r = val xs % m) := HD.out
      clear HD
      go_wp2_with fail
      go_ret
      exact ⟨congrArg (fun (z : Nat) => Ending.returned (.int .i64 (z : Int))) HE.out, HG.out⟩
    · obtain ⟨j, rfl⟩ : ∃ j, k = j + 1 := ⟨k - 1, by omega⟩
      obtain ⟨b, o, rfl, hb1, hc1⟩ := Row.at (HV.out.old HG.out) (by omega)
      have c1 := hc1 j (by omega)
      clear hc1
      have hxj := hx.getD j
      have HS : Hid ((r * LB + xs.getD j 0) % m = val (xs.drop j) % m) := by rw [HD.out]; exact word_step xs j m (by omega)
      have em : ((j + 1 : Nat) : Int) - 1 = (j : Int) := by omega
      generalize xs.getD j 0 = x at *
      rw [em]
      unfold LB at HS hxj
      have hlt : (r * 268435456 + x) % m < m := Nat.mod_lt _ (by omega)
      generalize hR : (r * 268435456 + x) % m = R at *
      have e3 : ((r : Int) * 268435456 + (x : Int)) % (m : Int) = (R : Int) := by rw [← hR]; simp
      clear hR em HD
      go_wp2_with fail
      exact ⟨⟨j, R, ⟨by omega, hlt⟩, by rw [e3], by go_num, HS, HG⟩, by simp [intOf]⟩
end Go.Proofs.YtcgnndenmcmieaaDoor
/- Proved: the contract of the model's product of limbs. -/
namespace Go.Proofs.YtcgnndenmcmieaaDoor
open Go.ChangeShapes Go.WideShapes Go.ChangeAt Go.RowKit
open M2
set_option linter.unusedVariables false
set_option linter.unusedSimpArgs false
/-- a row of n numbers of the call's own, at its head -/
abbrev OwnAt (w : World) (base g n : Nat) (xs : List Nat) : Prop := w.ownsRow base 3 1 (.slice (some ⟨g, 0, none⟩) n n) n ((toI xs).map (Value.int .i64))
theorem OwnAt.get {w : World} {base g n : Nat} {xs : List Nat} (h : OwnAt w base g n xs) (hn : xs.length = n) (j : Nat) (hj : j < n) : w.cell? ⟨g, j, none⟩ = some (.int .i64 ((xs.getD j 0 : Nat) : Int)) := by
  rw [World.ownsRow.cellAt h j (by omega), ← toI_get]
  have : j < (toI xs).length := by rw [toI_len]; omega
  simp [List.getD, this]
theorem OwnAt.free {w : World} {base g n : Nat} {xs : List Nat} (h : OwnAt w base g n xs) (j : Nat) : w.frozen? ⟨g, j, none⟩ = false := World.ownsRow.frozenAt h j
theorem OwnAt.put {w : World} {base g n : Nat} {xs : List Nat} (h : OwnAt w base g n xs) (j y : Nat) : OwnAt (w.setCell ⟨g, j, none⟩ (.int .i64 (y : Int))) base g n (xs.set j y) := by
  have := (World.ownsRow.stored h j (.int .i64 (y : Int))).1
  unfold OwnAt
  have e : toI (xs.set j y) = (toI xs).set j (y : Int) := by simp [toI, List.map_set]
  rw [e, List.map_set]
  exact this
theorem OwnAt.own {w : World} {base g n : Nat} {xs : List Nat} (h : OwnAt w base g n xs) (hn : xs.length = n) : Own w base (.slice (some ⟨g, 0, none⟩) n n) (toI xs) := by
  unfold Own
  rw [toI_len, hn]
  exact h
theorem made_nats (n : Nat) : (madeCells (Value.int .i64 0).cells (n * 1)).toList = (toI (List.replicate n 0)).map (Value.int .i64) := by
  rw [made_ints]
  simp [toI]
set_option maxHeartbeats 4000000 in
theorem mul_any (xs ys : List Nat) (v u : Value) (w : World) (hv : Row w v (toI xs)) (hu : Row w u (toI ys)) (ha : Lim xs) (hb : Lim ys) (la : xs.length ≤ 1048576) (lb : ys.length ≤ 1048576) :
    Calls Tryd.prog 97 #[v, u] w fun e w' => ∃ v', e = .returned v' ∧ Old w w' ∧ Own w' w.heap.size v' (toI (dig (val xs * val ys))) := by
  obtain ⟨i0, hi, hz0, hz1, hz2⟩ := info_parts Tryd.infoInt
  have HV : Hid (Row w v (toI xs)) := hv
  have HU : Hid (Row w u (toI ys)) := hu
  obtain ⟨a0, cap0, rfl⟩ := hv.sliceN
  obtain ⟨a1, cap1, rfl⟩ := hu.sliceN
  clear hv hu
  obtain ⟨n, hn⟩ : ∃ n, n = xs.length + ys.length := ⟨_, rfl⟩
  have en : (xs.length : Int) + (ys.length : Int) = (n : Int) := by omega
  have HN : Hid (n = xs.length + ys.length) := hn
  have hn' : n ≤ 2097152 := by omega
  have HT : Hid (∀ i, val (xs.take i) * val ys < LB ^ n) := fun i => by
    have h1 := val_lt (ha.take i)
    have h2 := val_lt hb
    have h3 : LB ^ (xs.take i).length ≤ LB ^ xs.length := Nat.pow_le_pow_right LB_pos (by rw [List.length_take]; omega)
    have h4 : val (xs.take i) * val ys < LB ^ xs.length * LB ^ ys.length := Nat.mul_lt_mul'' (by omega) h2
    rw [hn, Nat.pow_add]
    exact h4
  clear hn
  go_enter Tryd.func97, Tryd.ntmps97
  go_wp2_with (at_make; refine wpList_make_full _ rfl _ _ 75 rfl w.heap.size 3 i0 (.int .i64 0) 1 Tryd.underlying75 hi hz0 hz1 .i64 .i64 _ _ n rfl rfl rfl rfl (by rw [hz2]; omega) (by unfold maxLen; omega) (Nat.le_refl _) ?_; intro w1 hown hgrow)
  rw [made_nats] at hown
  have HO : Hid (OwnAt w1 w.heap.size w.heap.size n (List.replicate n 0)) := hown
  have HG : Hid (Old w w1) := Below.grown (Below.refl _ _) hgrow (Nat.le_refl _) (fun _ h => by cases h)
  clear hown hgrow
  go_loopw [20] (fun i W => ∃ (k : Nat) (out : List Nat), k ≤ xs.length ∧ i = .int .i64 k ∧ Hid (MulI n 0 (val (xs.take k) * val ys) out 0) ∧ Hid (OwnAt W w.heap.size w.heap.size n out) ∧ Hid (Old w W)) (fun i _ => xs.length - (intOf i).toNat)
  case atStart => exact ⟨0, List.replicate n 0, by omega, rfl, (by exact ⟨lim_zeros n, by simp, by rw [val_zeros]; simp [val], LB_pos⟩), HO, HG⟩
  case round =>
    obtain ⟨k, out, hk, rfl, HI, HO1, HG1⟩ := hrel
    clear HO HG
    by_cases h1 : k < xs.length
    · obtain ⟨b, o, rfl, hb1, hc1⟩ := Row.at (HV.out.old HG1.out) (by omega)
      have c1 := hc1 k h1
      clear hc1
      have hx := ha.getD k
      have HX : Hid (val (xs.take (k + 1)) * val ys = val (xs.take k) * val ys + LB ^ k * xs.getD k 0 * val ys) := by rw [val_take_succ, Nat.add_mul]; rfl
      generalize xs.getD k 0 = x at *
      go_wp2_with fail
      go_loopw [8, 27] (fun c j W => ∃ (j' c' : Nat) (out' : List Nat), (j' ≤ ys.length ∧ c' < 268435456) ∧ j = .int .i64 j' ∧ c = .int .i64 c' ∧ Hid (MulI n (k + j') (val (xs.take k) * val ys + LB ^ k * x * val (ys.take j')) out' c') ∧ Hid (OwnAt W w.heap.size w.heap.size n out') ∧ Hid (Old w W)) (fun _ j _ => ys.length - (intOf j).toNat)
      case atStart => exact ⟨0, 0, out, ⟨by omega, by omega⟩, rfl, rfl, (by have := HI.out.zero rfl (k + 0); simp [val] at this ⊢; exact this), HO1, HG1⟩
      case round =>
        obtain ⟨j, c, out', ⟨hj, hc⟩, rfl, rfl, HI2, HO2, HG2⟩ := hrel
        by_cases h2 : j < ys.length
        · obtain ⟨b', o', rfl, hb2, hc2⟩ := Row.at (HU.out.old HG2.out) (by omega)
          have c2 := hc2 j h2
          clear hc2
          have hy := hb.getD j
          have hpn : k + j < n := by have := HN.out; omega
          have hz : x * ys.getD j 0 ≤ (LB - 1) * (LB - 1) := Nat.mul_le_mul (by omega) (by omega)
          have hov := HI2.out.lim.getD (k + j)
          have c3 := HO2.out.get HI2.out.len (k + j) hpn
          have c4 := HO2.out.free (k + j)
          have HS : Hid (MulI n (k + (j + 1)) (val (xs.take k) * val ys + LB ^ k * x * val (ys.take (j + 1))) (out'.set (k + j) ((c + (out'.getD (k + j) 0 + x * ys.getD j 0)) % LB)) ((c + (out'.getD (k + j) 0 + x * ys.getD j 0)) / LB)) := by
            have := HI2.out.step (x * ys.getD j 0) hz hpn
            have e := mul_row_step xs ys x k j
            rw [e] at this
            exact this
          generalize out'.getD (k + j) 0 = ov at *
          generalize ys.getD j 0 = y at *
          have ez : (x : Int) * (y : Int) = ((x * y : Nat) : Int) := by simp
          have hz' : x * y ≤ 72057593501057025 := hz
          generalize x * y = z at *
          have HP : Hid (∀ y', OwnAt (wr.setCell ⟨w.heap.size, k + j, none⟩ (.int .i64 ((y' : Nat) : Int))) w.heap.size w.heap.size n (out'.set (k + j) y')) := fun y' => HO2.out.put (k + j) y'
          have ep : (k : Int) + (j : Int) = ((k + j : Nat) : Int) := by omega
          generalize hp : k + j = p at *
          generalize hR : (c + (ov + z)) % LB = R at *
          generalize hQ : (c + (ov + z)) / LB = Q at *
          have hQ1 := HS.out.c1
          unfold LB at hR hQ hov hQ1
          have e3 : ((c : Int) + ((ov : Int) + (z : Int))) % 268435456 = (R : Int) := by omega
          have e4 : ((c : Int) + ((ov : Int) + (z : Int))) / 268435456 = (Q : Int) := by omega
          clear hR hQ hz hz' hp
          go_wp2_with fail
          exact ⟨⟨j + 1, Q, out'.set p R, ⟨by omega, hQ1⟩, by go_num, by rw [e4], HS, HP.out R, HG2.out.own (Nat.le_refl _) _⟩, by simp [intOf]; omega⟩
        · obtain rfl : j = ys.length := by omega
          have HI3 : Hid (MulI n (k + ys.length) (val (xs.take (k + 1)) * val ys) out' c) := by
            have := HI2.out
            rw [List.take_length, ← HX.out] at this
            exact this
          have ep : (k : Int) + (ys.length : Int) = ((k + ys.length : Nat) : Int) := by omega
          have hpn : k + ys.length ≤ n := by have := HN.out; omega
          clear HI2 HI HO1 HG1
          generalize k + ys.length = p0 at *
          go_wp2_with fail
          go_loopw [8, 11] (fun c j W => ∃ (p c' : Nat) (out' : List Nat), (p ≤ n ∧ c' < 268435456) ∧ j = .int .i64 p ∧ c = .int .i64 c' ∧ Hid (MulI n p (val (xs.take (k + 1)) * val ys) out' c') ∧ Hid (OwnAt W w.heap.size w.heap.size n out') ∧ Hid (Old w W)) (fun _ j _ => n - (intOf j).toNat)
          case atStart => exact ⟨p0, c, out', ⟨hpn, hc⟩, by go_num, rfl, HI3, HO2, HG2⟩
          case round =>
            obtain ⟨p, c', out2, ⟨hp, hc'⟩, rfl, rfl, HI4, HO4, HG4⟩ := hrel
            clear HI3 HO2 HG2
            rcases Nat.eq_zero_or_pos c' with h0 | h0
            · subst h0
              have HI5 : Hid (MulI n 0 (val (xs.take (k + 1)) * val ys) out2 0) := HI4.out.zero rfl 0
              clear HI4
              go_wp2_with fail
              exact ⟨⟨k + 1, out2, by omega, by go_num, HI5, HO4, HG4⟩, by simp [intOf]; omega⟩
            · have hpn2 := HI4.out.carry (HT.out (k + 1)) h0
              have HS : Hid (MulI n (p + 1) (val (xs.take (k + 1)) * val ys) (out2.set p ((c' + out2.getD p 0) % LB)) ((c' + out2.getD p 0) / LB)) := HI4.out.next hpn2
              have hov := HI4.out.lim.getD p
              have c3 := HO4.out.get HI4.out.len p hpn2
              have c4 := HO4.out.free p
              have HP : Hid (∀ y', OwnAt (wr.setCell ⟨w.heap.size, p, none⟩ (.int .i64 ((y' : Nat) : Int))) w.heap.size w.heap.size n (out2.set p y')) := fun y' => HO4.out.put p y'
              generalize out2.getD p 0 = ov at *
              generalize hR : (c' + ov) % LB = R at *
              generalize hQ : (c' + ov) / LB = Q at *
              have hQ1 := HS.out.c1
              unfold LB at hR hQ hov hQ1
              have e3 : ((c' : Int) + (ov : Int)) % 268435456 = (R : Int) := by omega
              have e4 : ((c' : Int) + (ov : Int)) / 268435456 = (Q : Int) := by omega
              have d0 : decide (0 < c') = true := by simp; omega
              clear hR hQ HI4
              go_wp2_with fail
              exact ⟨⟨p + 1, Q, out2.set p R, ⟨by omega, hQ1⟩, by go_num, by rw [e4], HS, HP.out R, HG4.out.own (Nat.le_refl _) _⟩, by simp [intOf]; omega⟩
    · have HE : Hid (trim out = dig (val xs * val ys)) := by
        have := HI.out.eq
        rw [Nat.mul_zero, Nat.add_zero, List.take_of_length_le (by omega)] at this
        unfold trim
        rw [this]
        rfl
      have HL : Hid (Lim out ∧ out.length = n) := ⟨HI.out.lim, HI.out.len⟩
      clear HI
      go_wp2_with fail
      refine (trim_any out _ w.heap.size _ (HO1.out.own HL.out.2) HL.out.1 (by have := HL.out.2; omega)).mono ?_
      rintro e w1 ⟨v', rfl, g1, o1⟩
      have HG2 : Hid (Old w w1) := Old.trans HG1.out g1
      have HO2 : Hid (Own w1 w.heap.size v' (toI (trim out))) := o1
      clear g1 o1
      go_wp2_with fail
      go_ret
      exact ⟨_, rfl, HG2.out, by rw [← HE.out]; exact HO2.out⟩
end Go.Proofs.YtcgnndenmcmieaaDoor
/- Proved: the contract of the model's GoodWhole. -/
namespace Go.Proofs.YtcgnndenmcmieaaDoor
open Go.ChangeShapes Go.WideShapes Go.ChangeAt Go.RowKit
open M2
set_option linter.unusedVariables false
set_option linter.unusedSimpArgs false
/-- a limb at its place is as it should be -/
abbrev okAt (xs : List Int) (j : Nat) : Prop := (0 ≤ xs.getD j 0 ∧ xs.getD j 0 ≤ 268435455) ∧ ¬ (xs.getD j 0 = 0 ∧ j + 1 = xs.length)
/-- a whole number is as it should be -/
abbrev Good (n : Bool) (xs : List Int) : Prop := xs.length ≤ 40 ∧ ¬ (xs.length = 0 ∧ n = true) ∧ ∀ j, j < xs.length → okAt xs j
theorem specIn (x lo hi : Int) (w : World) :
    Calls Tryd.prog 89 #[.int .i64 x, .int .i64 lo, .int .i64 hi] w fun e w' => e = .returned (.bool (decide (lo ≤ x ∧ x ≤ hi))) ∧ w' = w := by
  by_cases h1 : lo ≤ x
  · by_cases h2 : x ≤ hi
    · rw [decide_eq_true ⟨h1, h2⟩]
      go_enter Tryd.func89, Tryd.ntmps89
      go_wp2_with fail
      go_ret
      exact ⟨by simp [h1, h2], rfl⟩
    · rw [decide_eq_false (fun h => h2 h.2)]
      go_enter Tryd.func89, Tryd.ntmps89
      go_wp2_with fail
      go_ret
      exact ⟨by simp [h1, h2], rfl⟩
  · rw [decide_eq_false (fun h => h1 h.1)]
    go_enter Tryd.func89, Tryd.ntmps89
    go_wp2_with fail
    go_ret
    exact ⟨by simp [h1], rfl⟩
set_option maxHeartbeats 2000000 in
theorem good_any (n : Bool) (xs : List Int) (v : Value) (w : World) (hv : Row w v xs) (hl : xs.length ≤ 1048576) :
    Calls Tryd.prog 60 #[.agg #[.bool n, v]] w fun e w' => e = .returned (.bool (decide (Good n xs))) ∧ Old w w' := by
  have HV : Hid (Row w v xs) := hv
  obtain ⟨a0, cap0, rfl⟩ := hv.slice
  clear hv
  by_cases h40 : xs.length ≤ 40
  · by_cases h0 : xs.length = 0 ∧ n = true
    · have e : decide (Good n xs) = false := decide_eq_false (fun h => h.2.1 h0)
      rw [e]
      obtain ⟨h01, rfl⟩ := h0
      obtain rfl := List.length_eq_zero_iff.1 h01
      clear e h01
      go_enter Tryd.func60, Tryd.ntmps60
      go_wp2_with fail
      go_ret
      exact ⟨rfl, (Old.refl w).alloc _⟩
    · have HG0 : Hid (Good n xs ↔ ∀ j, j < xs.length → okAt xs j) := ⟨fun h => h.2.2, fun h => ⟨h40, h0, h⟩⟩
      have d40 : decide ((40 : Int) < (xs.length : Int)) = false := dlt_no (by omega)
      have dn : xs.length = 0 → n = false := fun h => by
        cases n with
        | false => rfl
        | true => exact absurd ⟨h, rfl⟩ h0
      obtain ⟨B, hB⟩ : ∃ B, decide (Good n xs) = B := ⟨_, rfl⟩
      rw [hB]
      have HB : Hid (decide (Good n xs) = B) := hB
      clear hB h0
      rcases Nat.eq_zero_or_pos xs.length with hx0 | hx0
      · obtain rfl := List.length_eq_zero_iff.1 hx0
        obtain rfl := dn rfl
        have HT : Hid (B = true) := by rw [← HB.out]; exact decide_eq_true (HG0.out.2 (fun j hj => by simp at hj))
        clear dn hx0
        go_enter Tryd.func60, Tryd.ntmps60
        go_wp2_with fail
        refine wp_loop_rounds 1 ?_
        rw [rounds_succ]
        go_wp2_with fail
        go_ret
        exact ⟨congrArg (fun z => Ending.returned (.bool z)) HT.out.symm, (Old.refl w).alloc _⟩
      · have dx0 : ((xs.length : Int) == 0) = false := by simp; intro h; rw [h] at hx0; simp at hx0
        have HC : Hid (∃ b o, a0 = some ⟨b, o, none⟩ ∧ b < w.heap.size ∧ ∀ j, j < xs.length → w.cell? ⟨b, o + j, none⟩ = some (.int .i64 (xs.getD j 0))) := by
          rcases HV.out with ⟨a', cap', e, e2⟩ | ⟨b, o, cap', e, hb, _, hc⟩
          · rw [e2] at hx0; simp at hx0
          · simp only [Value.slice.injEq] at e
            obtain ⟨rfl, _, _⟩ := e
            exact ⟨b, o, rfl, hb, hc⟩
        obtain ⟨b, o, rfl, hb, hc⟩ := HC.out
        have HC2 : Hid (∀ j, j < xs.length → w.cell? ⟨b, o + j, none⟩ = some (.int .i64 (xs.getD j 0))) := hc
        clear hc HC dn HV
        go_enter Tryd.func60, Tryd.ntmps60
        go_wp2_with fail
        go_loopw [22] (fun i W => ∃ k : Nat, k ≤ xs.length ∧ i = .int .i64 k ∧ Hid (∀ j, j < k → okAt xs j) ∧ W = w.alloc (.cells #[.bool n, .slice (some ⟨b, o, none⟩) xs.length cap0] 72)) (fun i _ => xs.length - (intOf i).toNat)
        case atStart => exact ⟨0, by omega, rfl, fun j hj => absurd hj (by omega), rfl⟩
        case round =>
          obtain ⟨k, hk, rfl, HF, rfl⟩ := hrel
          by_cases hlt : k < xs.length
          · have c1 : (w.alloc (.cells #[.bool n, .slice (some ⟨b, o, none⟩) xs.length cap0] 72)).cell? ⟨b, o + k, none⟩ = some (.int .i64 (xs.getD k 0)) := (cell_lt _ _ _ _ hb).trans (HC2.out k hlt)
            have c2 : (w.alloc (.cells #[.bool n, .slice (some ⟨b, o, none⟩) xs.length cap0] 72)).cell? ⟨w.heap.size, 1, none⟩ = some (.slice (some ⟨b, o, none⟩) xs.length cap0) := cell_at _ _ _ _ _ rfl
            by_cases hok : okAt xs k
            · have HF2 : Hid (∀ j, j < k + 1 → okAt xs j) := fun j hj => by
                by_cases hjk : j = k
                · rw [hjk]; exact hok
                · exact HF.out j (by omega)
              obtain ⟨⟨h1, h2⟩, h3⟩ := hok
              have din : decide (0 ≤ xs.getD k 0 ∧ xs.getD k 0 ≤ 268435455) = true := decide_eq_true ⟨h1, h2⟩
              have cin := fun W => specIn (xs.getD k 0) 0 268435455 W
              rw [din] at cin
              generalize xs.getD k 0 = x at *
              clear din
              by_cases hx : x = 0
              · have hne : ¬ k + 1 = xs.length := fun h => h3 ⟨hx, h⟩
                have dk : ((k : Int) == (xs.length : Int) - 1) = false := by simp; omega
                have dz : (x == 0) = true := by simp [hx]
                clear hx h3
                go_wp2_with fail
                refine (cin _).mono ?_
                rintro e w' ⟨rfl, rfl⟩
                go_wp2_with fail
                exact ⟨⟨k + 1, by omega, by go_num, HF2, by first | rfl | trivial⟩, by simp [intOf]; omega⟩
              · have dz : (x == 0) = false := by simp [hx]
                clear hx h3
                go_wp2_with fail
                refine (cin _).mono ?_
                rintro e w' ⟨rfl, rfl⟩
                go_wp2_with fail
                exact ⟨⟨k + 1, by omega, by go_num, HF2, by first | rfl | trivial⟩, by simp [intOf]; omega⟩
            · have HT : Hid (B = false) := by rw [← HB.out]; exact decide_eq_false (fun h => hok (HG0.out.1 h k hlt))
              by_cases hin : 0 ≤ xs.getD k 0 ∧ xs.getD k 0 ≤ 268435455
              · have hz : xs.getD k 0 = 0 ∧ k + 1 = xs.length := by
                  apply Classical.byContradiction
                  intro h
                  exact hok ⟨hin, h⟩
                have cin := fun W => specIn (xs.getD k 0) 0 268435455 W
                rw [decide_eq_true hin] at cin
                have dk : ((k : Int) == (xs.length : Int) - 1) = true := by simp; omega
                have dz : (xs.getD k 0 == 0) = true := by rw [hz.1]; rfl
                generalize xs.getD k 0 = x at *
                clear hz hin hok
                go_wp2_with fail
                refine (cin _).mono ?_
                rintro e w' ⟨rfl, rfl⟩
                go_wp2_with fail
                go_ret
                exact ⟨congrArg (fun z => Ending.returned (.bool z)) HT.out.symm, (Old.refl w).alloc _⟩
              · have cin := fun W => specIn (xs.getD k 0) 0 268435455 W
                rw [decide_eq_false hin] at cin
                generalize xs.getD k 0 = x at *
                clear hin hok
                go_wp2_with fail
                refine (cin _).mono ?_
                rintro e w' ⟨rfl, rfl⟩
                go_wp2_with fail
                go_ret
                exact ⟨congrArg (fun z => Ending.returned (.bool z)) HT.out.symm, (Old.refl w).alloc _⟩
          · have HT : Hid (B = true) := by rw [← HB.out]; exact decide_eq_true (HG0.out.2 (fun j hj => HF.out j (by omega)))
            go_wp2_with fail
            go_ret
            exact ⟨congrArg (fun z => Ending.returned (.bool z)) HT.out.symm, (Old.refl w).alloc _⟩
  · have e : decide (Good n xs) = false := decide_eq_false (fun h => h40 h.1)
    rw [e]
    have d40 : decide ((40 : Int) < (xs.length : Int)) = true := dlt_yes (by omega)
    clear e
    go_enter Tryd.func60, Tryd.ntmps60
    go_wp2_with fail
    go_ret
    exact ⟨rfl, (Old.refl w).alloc _⟩
end Go.Proofs.YtcgnndenmcmieaaDoor
/- Proved: the walk of the statement on GoodWhole, under the contract of the program's own function. -/
namespace Go.Proofs.YtcgnndenmcmieaaDoor
open Go.ChangeShapes Go.WideShapes Go.ChangeAt Go.RowKit
open M2
set_option linter.unusedVariables false
set_option linter.unusedSimpArgs false
/-- a struct of two cells in a block of its own -/
abbrev StW (w : World) (k : Nat) (x y : Value) (t : TypeId) : Prop := w.heap[k]? = some (.cells #[x, y] t (0, 0))
theorem StW.c0 {w : World} {k : Nat} {x y : Value} {t : TypeId} (h : StW w k x y t) : w.cell? ⟨k, 0, none⟩ = some x := cell_of_row w k 0 _ t (0, 0) h
theorem StW.c1 {w : World} {k : Nat} {x y : Value} {t : TypeId} (h : StW w k x y t) : w.cell? ⟨k, 1, none⟩ = some y := cell_of_row w k 1 _ t (0, 0) h
theorem StW.f0 {w : World} {k : Nat} {x y : Value} {t : TypeId} (h : StW w k x y t) : w.frozen? ⟨k, 0, none⟩ = false := frozen_of_row w k 0 _ t h
theorem StW.f1 {w : World} {k : Nat} {x y : Value} {t : TypeId} (h : StW w k x y t) : w.frozen? ⟨k, 1, none⟩ = false := frozen_of_row w k 1 _ t h
theorem StW.lt {w : World} {k : Nat} {x y : Value} {t : TypeId} (h : StW w k x y t) : k < w.heap.size := (Array.getElem?_eq_some_iff.1 h).1
theorem StW.old {w w' : World} {k : Nat} {x y : Value} {t : TypeId} (h : StW w k x y t) (g : Old w w') : StW w' k x y t := (g.block k h.lt).trans h
theorem StW.new (w : World) (x y : Value) (t : TypeId) : StW (w.alloc (.cells #[x, y] t)) w.heap.size x y t := heap_alloc_new w _
end Go.Proofs.YtcgnndenmcmieaaDoor
/- Proved: structs of two cells under writes into other blocks; no function of the program. -/
namespace Go.Proofs.YtcgnndenmcmieaaDoor
open Go.ChangeShapes Go.WideShapes Go.ChangeAt Go.RowKit
set_option linter.unusedVariables false
set_option linter.unusedSimpArgs false
theorem StW.at2 (w : World) (x y x' y' : Value) (t t' : TypeId) : StW ((w.alloc (.cells #[x, y] t)).alloc (.cells #[x', y'] t')) (w.heap.size + 1) x' y' t' := heap_alloc2_new w _ _
theorem StW.at1 (w : World) (x y x' y' : Value) (t t' : TypeId) : StW ((w.alloc (.cells #[x, y] t)).alloc (.cells #[x', y'] t')) w.heap.size x y t := heap_alloc2_old w _ _
theorem StW.byW_ {w w' : World} {k : Nat} {x y : Value} {t : TypeId} {ob : Option Nat} (h : StW w k x y t) (g : w.grownBy w' ob) (hne : ∀ b, ob = some b → b ≠ k) : StW w' k x y t :=
  (g.block k h.lt (fun e => hne k e.symm rfl)).trans h
theorem Own.byW_ {w w' : World} {base : Nat} {v : Value} {xs : List Int} {ob : Option Nat} (h : Own w base v xs) (g : w.grownBy w' ob) (hne : ∀ a b, v.ownBlock = some a → ob = some b → a ≠ b) : Own w' base v xs := by
  refine World.ownsRow.kept h g ?_
  cases hv : v.ownBlock with
  | none => exact Or.inl rfl
  | some a =>
    refine Or.inr (fun e => ?_)
    exact hne a a hv e.symm rfl
theorem Old.byW_ {a w w' : World} {ob : Option Nat} (h : Old a w) (g : w.grownBy w' ob) (hb : ∀ b, ob = some b → a.heap.size ≤ b) : Old a w' := Below.grown h g h.size hb
/-- since w0 a struct has been made in block k that tells a sign and limbs, which lie in a row that is new as well -/
structure Made (w0 : World) (rb : Bool) (rl : List Nat) (W : World) (k : Nat) (a : Option Addr) (cap : Nat) : Prop where
  old : Old w0 W
  st : StW W k (.bool rb) (.slice a (toI rl).length cap) 72
  own : Own W w0.heap.size (.slice a (toI rl).length cap) (toI rl)
  lo : w0.heap.size ≤ k
theorem two_last {w0 w5 : World} {rb : Bool} {rl : List Nat} {a : Option Addr} {cap base : Nat} (g : Old w0 w5) (o : Own w5 base (.slice a (toI rl).length cap) (toI rl)) (hb : w0.heap.size ≤ base) :
    Made w0 rb rl (w5.alloc (.cells #[.bool rb, .slice a (toI rl).length cap] 72)) w5.heap.size a cap :=
  ⟨g.alloc _, StW.new _ _ _ _, (Own.low o hb).alloc _, g.size⟩
theorem two_made {w0 w5 : World} {rb : Bool} {rl : List Nat} {a : Option Addr} {cap base k : Nat} (g : Old w0 w5) (o : Own w5 base (.slice a (toI rl).length cap) (toI rl)) (s : StW w5 k (.bool false) (.slice none 0 0) 72) (hb : w0.heap.size ≤ base) (hk : w0.heap.size ≤ k) (hne : k < base) :
    Made w0 rb rl ((w5.setCell ⟨k, 0, none⟩ (.bool rb)).setCell ⟨k, 1, none⟩ (.slice a (toI rl).length cap)) k a cap := by
  refine ⟨(g.own (p := ⟨k, 0, none⟩) hk _).own (p := ⟨k, 1, none⟩) hk _, ?_, ?_, hk⟩
  · have h1 := heap_setCell_same w5 k 0 _ _ (.bool rb) s
    have h2 := heap_setCell_same _ k 1 _ _ (.slice a (toI rl).length cap) h1
    exact h2
  · refine Own.low (base := base) (ownsRow_setCell_other (ownsRow_setCell_other o (fun e => ?_) _) (fun e => ?_) _) hb
    · have := (o.lt k e).1; omega
    · have := (o.lt k e).1; omega
end Go.Proofs.YtcgnndenmcmieaaDoor
