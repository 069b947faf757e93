/- Proved: several texts in one: what each proves is said ahead of it. -/
import Derived.Orders
import Derived.Tactics2
/- Proved: numbers as limbs to the base 2^28, the lowest first: what they are worth, the limbs of a number, noughts behind struck; no program in sight. -/
namespace Go.Proofs.YtfgooclnohnkmaaGreatDoor.M2
set_option linter.unusedVariables false
def LB : Nat := 268435456
/-- what limbs are worth -/
def val : List Nat → Nat
  | [] => 0
  | x :: xs => x + LB * val xs
/-- the limbs of a number, none behind that is 0, at most so many of them -/
def digF : Nat → Nat → List Nat
  | 0, _ => []
  | f + 1, n => if n = 0 then [] else (n % LB) :: digF f (n / LB)
/-- the limbs of a number, none behind that is 0 -/
def dig (n : Nat) : List Nat := digF n n
theorem digF_zero (f : Nat) : digF f 0 = [] := by cases f <;> rfl
theorem digF_eq (f : Nat) : ∀ g n, n ≤ f → n ≤ g → digF f n = digF g n := by
  induction f with
  | zero => intro g n h k; obtain rfl : n = 0 := by omega
            rw [digF_zero, digF_zero]
  | succ f ih =>
    intro g n h k
    by_cases hn : n = 0
    · subst hn; rw [digF_zero, digF_zero]
    · obtain ⟨g', rfl⟩ : ∃ g', g = g' + 1 := ⟨g - 1, by omega⟩
      have hd : n / LB < n := Nat.div_lt_self (by omega) (by decide)
      have e1 : digF (f + 1) n = (n % LB) :: digF f (n / LB) := by rw [digF, if_neg hn]
      have e2 : digF (g' + 1) n = (n % LB) :: digF g' (n / LB) := by rw [digF, if_neg hn]
      rw [e1, e2, ih g' (n / LB) (by omega) (by omega)]
theorem dig_zero : dig 0 = [] := rfl
theorem dig_pos (n : Nat) (h : n ≠ 0) : dig n = (n % LB) :: dig (n / LB) := by
  obtain ⟨m, rfl⟩ : ∃ m, n = m + 1 := ⟨n - 1, by omega⟩
  have hd : (m + 1) / LB < m + 1 := Nat.div_lt_self (by omega) (by decide)
  have e1 : digF (m + 1) (m + 1) = ((m + 1) % LB) :: digF m ((m + 1) / LB) := by rw [digF, if_neg h]
  show digF (m + 1) (m + 1) = _
  rw [e1, digF_eq m ((m + 1) / LB) ((m + 1) / LB) (by omega) (Nat.le_refl _)]
  rfl
/-- every limb is below the base -/
def Lim (xs : List Nat) : Prop := ∀ x ∈ xs, x < LB
/-- limbs as they should be -/
def Nrm (xs : List Nat) : Prop := Lim xs ∧ ∀ h : xs ≠ [], xs.getLast h ≠ 0
theorem Lim.nil : Lim [] := fun x hx => by cases hx
theorem Lim.cons {x : Nat} {xs : List Nat} (h : x < LB) (hs : Lim xs) : Lim (x :: xs) := fun y hy => by
  rcases List.mem_cons.1 hy with rfl | h1
  · exact h
  · exact hs y h1
theorem Lim.head {x : Nat} {xs : List Nat} (h : Lim (x :: xs)) : x < LB := h x (List.mem_cons_self ..)
theorem Lim.tail {x : Nat} {xs : List Nat} (h : Lim (x :: xs)) : Lim xs := fun y hy => h y (List.mem_cons_of_mem _ hy)
theorem Lim.append {xs ys : List Nat} (h : Lim xs) (k : Lim ys) : Lim (xs ++ ys) := fun y hy => by
  rcases List.mem_append.1 hy with h1 | h1
  · exact h y h1
  · exact k y h1
theorem Lim.take {xs : List Nat} (h : Lim xs) (k : Nat) : Lim (xs.take k) := fun y hy => h y (List.mem_of_mem_take hy)
theorem Lim.drop {xs : List Nat} (h : Lim xs) (k : Nat) : Lim (xs.drop k) := fun y hy => h y (List.mem_of_mem_drop hy)
theorem Lim.getD {xs : List Nat} (h : Lim xs) (k : Nat) : xs.getD k 0 < LB := by
  by_cases hk : k < xs.length
  · have e : xs.getD k 0 = xs[k] := by simp [List.getD, hk]
    rw [e]; exact h _ (List.getElem_mem hk)
  · have e : xs.getD k 0 = 0 := by simp [List.getD, List.getElem?_eq_none (Nat.le_of_not_lt hk)]
    rw [e]; decide
theorem LB_pos : 0 < LB := by decide
theorem val_dig (n : Nat) : val (dig n) = n := by
  induction n using Nat.strongRecOn with
  | _ n ih =>
    by_cases h : n = 0
    · subst h; rw [dig_zero]; rfl
    · rw [dig_pos n h]
      show n % LB + LB * val (dig (n / LB)) = n
      rw [ih (n / LB) (Nat.div_lt_self (by omega) (by decide))]
      exact Nat.mod_add_div n LB
theorem dig_lim (n : Nat) : Lim (dig n) := by
  induction n using Nat.strongRecOn with
  | _ n ih =>
    by_cases h : n = 0
    · subst h; rw [dig_zero]; exact Lim.nil
    · rw [dig_pos n h]
      exact Lim.cons (Nat.mod_lt _ LB_pos) (ih _ (Nat.div_lt_self (by omega) (by decide)))
theorem dig_nil {n : Nat} (h : dig n = []) : n = 0 := by
  have := val_dig n
  rw [h] at this
  exact this.symm
theorem dig_ne {n : Nat} (h : n ≠ 0) : dig n ≠ [] := fun e => h (dig_nil e)
theorem dig_nrm (n : Nat) : Nrm (dig n) := by
  refine ⟨dig_lim n, ?_⟩
  induction n using Nat.strongRecOn with
  | _ n ih =>
    intro hne
    have h : n ≠ 0 := by rintro rfl; exact hne dig_zero
    have e := dig_pos n h
    by_cases h2 : n / LB = 0
    · have e2 : dig n = [n % LB] := by rw [e, h2, dig_zero]
      have hlt : n < LB := by
        by_cases hl : n < LB
        · exact hl
        · have := Nat.div_pos (Nat.le_of_not_lt hl) LB_pos
          omega
      have : (dig n).getLast hne = n % LB := by simp [e2]
      rw [this, Nat.mod_eq_of_lt hlt]
      exact h
    · have h3 := ih (n / LB) (Nat.div_lt_self (by omega) (by decide)) (dig_ne h2)
      have : (dig n).getLast hne = (dig (n / LB)).getLast (dig_ne h2) := by
        simp only [e]
        rw [List.getLast_cons (dig_ne h2)]
      rw [this]
      exact h3
theorem val_zero_of {xs : List Nat} (h : Nrm xs) (hv : val xs = 0) : xs = [] := by
  induction xs with
  | nil => rfl
  | cons x xs ih =>
    exfalso
    have hv' : x + LB * val xs = 0 := hv
    have hp := LB_pos
    have hx : x = 0 := by omega
    have hs : val xs = 0 := by
      have : LB * val xs = 0 := by omega
      rcases Nat.mul_eq_zero.1 this with h1 | h1
      · omega
      · exact h1
    by_cases hxs : xs = []
    · subst hxs
      exact h.2 (by simp) (by simpa using hx)
    · have : xs = [] := ih ⟨h.1.tail, fun hne => by
        have := h.2 (by simp)
        rw [List.getLast_cons hne] at this
        exact this⟩ hs
      exact hxs this
theorem dig_val {xs : List Nat} (h : Nrm xs) : dig (val xs) = xs := by
  induction xs with
  | nil => exact dig_zero
  | cons x xs ih =>
    have hne : val (x :: xs) ≠ 0 := fun e => by cases val_zero_of h e
    have hx := h.1.head
    have ht : Nrm xs := ⟨h.1.tail, fun hne => by
      have := h.2 (by simp)
      rw [List.getLast_cons hne] at this
      exact this⟩
    rw [dig_pos _ hne]
    have e1 : val (x :: xs) % LB = x := by
      show (x + LB * val xs) % LB = x
      rw [Nat.add_mul_mod_self_left, Nat.mod_eq_of_lt hx]
    have e2 : val (x :: xs) / LB = val xs := by
      show (x + LB * val xs) / LB = val xs
      rw [Nat.add_mul_div_left _ _ LB_pos, Nat.div_eq_of_lt hx, Nat.zero_add]
    rw [e1, e2, ih ht]
theorem val_append : ∀ (xs ys : List Nat), val (xs ++ ys) = val xs + LB ^ xs.length * val ys
  | [], ys => by simp [val]
  | x :: xs, ys => by
    show x + LB * val (xs ++ ys) = x + LB * val xs + LB ^ (xs.length + 1) * val ys
    rw [val_append xs ys, Nat.pow_succ, Nat.mul_add]
    grind
theorem val_snoc (xs : List Nat) (x : Nat) : val (xs ++ [x]) = val xs + LB ^ xs.length * x := by
  rw [val_append]; simp [val]
theorem val_lt : ∀ {xs : List Nat}, Lim xs → val xs < LB ^ xs.length
  | [], _ => by simp [val]
  | x :: xs, h => by
    have h1 := val_lt h.tail
    have h2 := h.head
    show x + LB * val xs < LB ^ (xs.length + 1)
    rw [Nat.pow_succ, Nat.mul_comm (LB ^ xs.length)]
    have h3 : LB * (val xs + 1) ≤ LB * LB ^ xs.length := Nat.mul_le_mul (Nat.le_refl _) h1
    rw [Nat.mul_add] at h3
    omega
/-- noughts behind struck -/
def trim (xs : List Nat) : List Nat := dig (val xs)
theorem val_trim (xs : List Nat) : val (trim xs) = val xs := val_dig _
theorem take_succ_getD (xs : List Nat) (k : Nat) (h : k < xs.length) : xs.take (k + 1) = xs.take k ++ [xs.getD k 0] := by
  rw [List.take_add_one]
  simp [List.getD, h]
theorem val_take_succ (xs : List Nat) (k : Nat) : val (xs.take (k + 1)) = val (xs.take k) + LB ^ k * xs.getD k 0 := by
  by_cases h : k < xs.length
  · rw [take_succ_getD xs k h, val_snoc, List.length_take, Nat.min_eq_left (Nat.le_of_lt h)]
  · have h' := Nat.le_of_not_lt h
    rw [List.take_of_length_le (by omega), List.take_of_length_le h']
    simp [List.getD, List.getElem?_eq_none h']
theorem val_drop_getD (xs : List Nat) (k : Nat) (h : k < xs.length) : val (xs.drop k) = xs.getD k 0 + LB * val (xs.drop (k + 1)) := by
  rw [List.drop_eq_getElem_cons h]
  show xs[k] + LB * val (xs.drop (k + 1)) = _
  simp [List.getD, h]
/-- how many limbs a number has -/
theorem dig_len_le {n k : Nat} (h : n < LB ^ k) : (dig n).length ≤ k := by
  by_cases hl : (dig n).length ≤ k
  · exact hl
  · exfalso
    have hn := dig_nrm n
    have hne : dig n ≠ [] := by intro e; rw [e] at hl; simp at hl
    have e := List.dropLast_concat_getLast hne
    have hv := val_dig n
    rw [← e, val_snoc, List.length_dropLast] at hv
    have h0 := hn.2 hne
    have h1 : LB ^ k ≤ LB ^ ((dig n).length - 1) := Nat.pow_le_pow_right LB_pos (by omega)
    have h2 : LB ^ ((dig n).length - 1) * 1 ≤ LB ^ ((dig n).length - 1) * (dig n).getLast hne := Nat.mul_le_mul (Nat.le_refl _) (by omega)
    omega
theorem dig_len_ge {n k : Nat} (h : LB ^ k ≤ n) : k < (dig n).length := by
  have h1 := val_lt (dig_lim n)
  rw [val_dig] at h1
  by_cases hl : k < (dig n).length
  · exact hl
  · have := Nat.pow_le_pow_right LB_pos (Nat.le_of_not_lt hl)
    omega
end Go.Proofs.YtfgooclnohnkmaaGreatDoor.M2
/- Proved: what one round of adding, taking away and comparing limbs does; no program in sight. -/
namespace Go.Proofs.YtfgooclnohnkmaaGreatDoor.M2
set_option linter.unusedVariables false
/-- adding, i limbs far -/
structure AddI (a b : List Nat) (i : Nat) (out : List Nat) (c : Nat) : Prop where
  lim : Lim out
  len : out.length = i
  eq : val out + LB ^ i * c = val (a.take i) + val (b.take i)
  c1 : c ≤ 1
theorem AddI.start (a b : List Nat) : AddI a b 0 [] 0 := ⟨Lim.nil, rfl, by simp [val], by omega⟩
theorem split_pow (i c : Nat) : LB ^ i * (c % LB) + LB ^ (i + 1) * (c / LB) = LB ^ i * c := by
  rw [Nat.pow_succ, Nat.mul_assoc, ← Nat.mul_add, Nat.mod_add_div]
theorem AddI.step {a b : List Nat} {i : Nat} {out : List Nat} {c : Nat} (h : AddI a b i out c) (ha : Lim a) (hb : Lim b) :
    AddI a b (i + 1) (out ++ [(c + a.getD i 0 + b.getD i 0) % LB]) ((c + a.getD i 0 + b.getD i 0) / LB) := by
  have h1 := ha.getD i
  have h2 := hb.getD i
  have h3 := h.c1
  refine ⟨h.lim.append (Lim.cons (Nat.mod_lt _ LB_pos) Lim.nil), by simp [h.len], ?_, ?_⟩
  · rw [val_snoc, h.len, val_take_succ, val_take_succ, Nat.add_assoc, split_pow]
    have := h.eq
    rw [Nat.mul_add, Nat.mul_add]
    omega
  · have : c + a.getD i 0 + b.getD i 0 < LB * 2 := by omega
    have := Nat.div_lt_of_lt_mul this
    omega
theorem AddI.done {a b : List Nat} {i : Nat} {out : List Nat} {c : Nat} (h : AddI a b i out c) (ha : a.length ≤ i) (hb : b.length ≤ i) (hc : c = 0) : trim out = dig (val a + val b) := by
  have := h.eq
  rw [List.take_of_length_le ha, List.take_of_length_le hb, hc, Nat.mul_zero, Nat.add_zero] at this
  unfold trim
  rw [this]
/-- taking away, i limbs far -/
structure SubI (a b : List Nat) (i : Nat) (out : List Nat) (c : Nat) : Prop where
  lim : Lim out
  len : out.length = i
  eq : val out + val (b.take i) = val (a.take i) + LB ^ i * c
  c1 : c ≤ 1
theorem SubI.start (a b : List Nat) : SubI a b 0 [] 0 := ⟨Lim.nil, rfl, by simp [val], by omega⟩
/-- a round that takes no more than there is -/
theorem SubI.stepNo {a b : List Nat} {i : Nat} {out : List Nat} {c : Nat} (h : SubI a b i out c) (ha : Lim a) (hle : c + b.getD i 0 ≤ a.getD i 0) :
    SubI a b (i + 1) (out ++ [a.getD i 0 - c - b.getD i 0]) 0 := by
  have h1 := ha.getD i
  refine ⟨h.lim.append (Lim.cons (by omega) Lim.nil), by simp [h.len], ?_, by omega⟩
  rw [val_snoc, h.len, val_take_succ, val_take_succ, Nat.mul_zero, Nat.add_zero]
  have := h.eq
  obtain ⟨d, hd⟩ : ∃ d, a.getD i 0 = d + c + b.getD i 0 := ⟨a.getD i 0 - c - b.getD i 0, by omega⟩
  rw [show a.getD i 0 - c - b.getD i 0 = d by omega, hd, Nat.mul_add, Nat.mul_add]
  omega
/-- a round that borrows -/
theorem SubI.stepYes {a b : List Nat} {i : Nat} {out : List Nat} {c : Nat} (h : SubI a b i out c) (ha : Lim a) (hb : Lim b) (hlt : a.getD i 0 < c + b.getD i 0) :
    SubI a b (i + 1) (out ++ [a.getD i 0 + LB - c - b.getD i 0]) 1 := by
  have h1 := ha.getD i
  have h2 := hb.getD i
  have h3 := h.c1
  refine ⟨h.lim.append (Lim.cons (by omega) Lim.nil), by simp [h.len], ?_, by omega⟩
  rw [val_snoc, h.len, val_take_succ, val_take_succ, Nat.mul_one, Nat.pow_succ]
  have := h.eq
  obtain ⟨d, hd⟩ : ∃ d, a.getD i 0 + LB = d + c + b.getD i 0 := ⟨a.getD i 0 + LB - c - b.getD i 0, by omega⟩
  rw [show a.getD i 0 + LB - c - b.getD i 0 = d by omega]
  have e : LB ^ i * (a.getD i 0 + LB) = LB ^ i * (d + c + b.getD i 0) := by rw [hd]
  rw [Nat.mul_add, Nat.mul_add, Nat.mul_add] at e
  omega
theorem SubI.done {a b : List Nat} {i : Nat} {out : List Nat} {c : Nat} (h : SubI a b i out c) (ha : a.length = i) (hb : b.length ≤ i) (hle : val b ≤ val a) : trim out = dig (val a - val b) := by
  have h1 := h.eq
  rw [List.take_of_length_le hb, List.take_of_length_le (show a.length ≤ i by omega)] at h1
  have h2 := val_lt h.lim
  rw [h.len] at h2
  have h3 := h.c1
  have hc : c = 0 := by
    rcases Nat.eq_zero_or_pos c with h4 | h4
    · exact h4
    · exfalso
      have : c = 1 := by omega
      subst this
      omega
  subst hc
  unfold trim
  congr 1
  omega
theorem nrm_len_le {a b : List Nat} (ha : Nrm a) (hb : Nrm b) (h : val b ≤ val a) : b.length ≤ a.length := by
  have h1 := val_lt ha.1
  have h2 := dig_len_le (n := val b) (k := a.length) (by omega)
  rw [dig_val hb] at h2
  exact h2
/-- how two numbers lie, as -1, 0, 1 -/
def cmpN (x y : Nat) : Int := if x < y then -1 else if y < x then 1 else 0
theorem cmp_short {a b : List Nat} (ha : Nrm a) (hb : Nrm b) (h : a.length < b.length) : val a < val b := by
  by_cases hlt : val a < val b
  · exact hlt
  · have := nrm_len_le ha hb (by omega)
    omega
theorem cmp_at {a b : List Nat} {i : Nat} (ha : Lim a) (hi : i < a.length) (hl : a.length = b.length) (he : a.drop (i + 1) = b.drop (i + 1)) (h : a.getD i 0 < b.getD i 0) : val a < val b := by
  have e1 : val a = val (a.take i) + LB ^ i * val (a.drop i) := by
    have := val_append (a.take i) (a.drop i)
    rw [List.take_append_drop, List.length_take, Nat.min_eq_left (Nat.le_of_lt hi)] at this
    exact this
  have e2 : val b = val (b.take i) + LB ^ i * val (b.drop i) := by
    have := val_append (b.take i) (b.drop i)
    rw [List.take_append_drop, List.length_take, Nat.min_eq_left (by omega)] at this
    exact this
  have h1 := val_lt (ha.take i)
  rw [List.length_take, Nat.min_eq_left (Nat.le_of_lt hi)] at h1
  rw [e1, e2, val_drop_getD a i hi, val_drop_getD b i (by omega), he]
  have h2 : LB ^ i * (a.getD i 0 + LB * val (b.drop (i + 1)) + 1) ≤ LB ^ i * (b.getD i 0 + LB * val (b.drop (i + 1))) := Nat.mul_le_mul (Nat.le_refl _) (by omega)
  rw [Nat.mul_add _ _ 1] at h2
  omega
theorem drop_step {a b : List Nat} {i : Nat} (hi : i < a.length) (hl : a.length = b.length) (he : a.drop (i + 1) = b.drop (i + 1)) (h : a.getD i 0 = b.getD i 0) : a.drop i = b.drop i := by
  rw [List.drop_eq_getElem_cons hi, List.drop_eq_getElem_cons (show i < b.length by omega), he]
  congr 1
  simpa [List.getD, hi, show i < b.length by omega] using h
end Go.Proofs.YtfgooclnohnkmaaGreatDoor.M2
/- Proved: a region that draws its order, by what holds between its operations, whatever the order; no function of the program. -/
namespace Go.Proofs.YtfgooclnohnkmaaGreatDoor
open Go
set_option linter.unusedSimpArgs false
set_option linter.unusedVariables false
theorem count_set (l : Array Bool) (i : Nat) (h : l.getD i true = false) : (l.setIfInBounds i true).toList.count false + 1 = l.toList.count false := by
  have hi : i < l.size := by
    rcases Nat.lt_or_ge i l.size with h1 | h1
    · exact h1
    · simp [Array.getD, Nat.not_lt.2 h1] at h
  have he : l[i] = false := by simpa [Array.getD, hi] using h
  rw [Array.toList_setIfInBounds, List.count_set (by simpa using hi)]
  have h0 : l.toList[i]'(by simpa using hi) = false := by simpa using he
  have hp : 0 < l.toList.count false := List.count_pos_iff.2 (by rw [← h0]; exact List.getElem_mem _)
  rw [h0]
  have e1 : (false == false) = true := rfl
  have e2 : (true == false) = false := rfl
  rw [e1, e2]
  simp only [if_true, Bool.false_eq_true, if_false]
  omega
theorem wpAny_inv {P : Program} {ops : Array Oper} {Q : Exit → Act → World → Prop} {md : Region.Mode} (I : Array Bool → Act → World → Prop)
    (hstep : ∀ l a w i, I l a w → i ∈ Region.ready md ops l → wpOp P ops Q i (I (l.setIfInBounds i true)) a w)
    (hdone : ∀ l a w, I l a w → Region.ready md ops l = [] → Q .normal a w) :
    ∀ fuel l a w, l.toList.count false ≤ fuel → I l a w → wpAny P md ops Q fuel l a w := by
  intro fuel
  have hr : ∀ (l : Array Bool) i, i ∈ Region.ready md ops l → l.getD i true = false := by
    intro l i hi
    unfold Region.ready at hi
    rw [List.mem_filter] at hi
    have := hi.2
    simp only [Bool.and_eq_true] at this
    simpa using this.1
  induction fuel with
  | zero =>
    intro l a w hc hI
    have : Region.ready md ops l = [] := by
      cases h : Region.ready md ops l with
      | nil => rfl
      | cons i t =>
        have h1 := hr l i (by rw [h]; simp)
        have := count_set l i h1
        omega
    exact ⟨this, hdone l a w hI this⟩
  | succ n ih =>
    intro l a w hc hI
    refine ⟨hdone l a w hI, fun i hi => ?_⟩
    have h1 := count_set l i (hr l i hi)
    exact wpOp_mono (fun a w h => ih _ a w (by omega) h) (hstep l a w i hI hi)
def upd (d : Nat → Bool) (i : Nat) : Nat → Bool := fun j => if j = i then true else d j
theorem upd_same (d : Nat → Bool) (i : Nat) : upd d i i = true := if_pos rfl
theorem upd_other (d : Nat → Bool) {i j : Nat} (h : j ≠ i) : upd d i j = d j := if_neg h
theorem wp_region_inv {P : Program} {id : Nat} {ops : Array Oper} {Q : Exit → Act → World → Prop} {a : Act} {w : World} (hm : P.follows .mixedOrders = true) (I : (Nat → Bool) → Act → World → Prop)
    (hord : (List.range ops.size).all (fun i => ((ops[i]?).map (fun o => o.after.all fun e => !Region.binds .any e || decide (e.on < i))).getD true) = true)
    (h0 : I (fun _ => false) a { w with drawn := w.drawn + 1 })
    (hstep : ∀ i o, ops[i]? = some o → ∀ d a w, I d a w → d i = false → (∀ e ∈ o.after.toList, Region.binds .any e = true → d e.on = true) → if Region.wanted o (yielded ops a.tmps) = true then o.wp P a w (I (upd d i)) Q else I (upd d i) (a.put o.dst undef) w)
    (hdone : ∀ d a w, (∀ i, i < ops.size → d i = true) → I d a w → Q .normal a w) :
    (Code.region id ops true).wp P Q a w := by
  refine wp_region_any hm ?_
  refine wpAny_inv (fun l a w => l.size = ops.size ∧ I (fun i => l.getD i false) a w) ?_ ?_ _ _ _ _ ?_ ⟨by simp, ?_⟩
  · rintro l a w i ⟨hl, hI⟩ hi
    unfold Region.ready at hi
    rw [List.mem_filter] at hi
    obtain ⟨hir, hi⟩ := hi
    have hlt : i < ops.size := by simpa using hir
    simp only [Bool.and_eq_true] at hi
    have ho : ops[i]? = some ops[i] := Array.getElem?_eq_getElem hlt
    have hf : l.getD i false = false := by
      have := hi.1
      simp only [Bool.not_eq_true'] at this
      simpa [Array.getD, hl, hlt] using this
    have ha := hi.2
    rw [ho] at ha
    simp only [Option.map_some, Option.getD_some] at ha
    rw [Array.all_eq_true'] at ha
    have hs := hstep i _ ho _ a w hI hf (fun e he hb => by
      have := ha e (by simpa using he)
      rw [hb] at this
      simpa using this)
    have hu : (fun j => (l.setIfInBounds i true).getD j false) = upd (fun j => l.getD j false) i := by
      funext j
      unfold upd
      by_cases hj : j = i
      · subst hj
        simp [Array.getD, hl, hlt]
      · rw [if_neg hj]
        simp only [Array.getD, Array.size_setIfInBounds]
        split
        · rename_i h
          simp [h, Ne.symm hj]
        · rfl
    unfold wpOp
    rw [ho]
    simp only
    split
    · rename_i hw
      rw [if_pos hw] at hs
      exact Or.inl (Oper.wp_mono (fun a w h => ⟨by simp [hl], by rw [hu]; exact h⟩) hs)
    · rename_i hw
      rw [if_neg hw] at hs
      exact ⟨by simp [hl], by rw [hu]; exact hs⟩
  · rintro l a w ⟨hl, hI⟩ hr
    refine hdone _ a w ?_ hI
    have key : ∀ n i, i < n → i < ops.size → l.getD i false = true := by
      intro n
      induction n with
      | zero => intro i h; omega
      | succ n ih =>
        intro i hi hlt
        cases hv : l.getD i false with
        | true => rfl
        | false =>
          exfalso
          have hmem : i ∈ Region.ready .any ops l := by
            unfold Region.ready
            rw [List.mem_filter]
            refine ⟨by simpa using hlt, ?_⟩
            have ho : ops[i]? = some ops[i] := Array.getElem?_eq_getElem hlt
            rw [ho]
            simp only [Bool.and_eq_true, Option.map_some, Option.getD_some]
            refine ⟨?_, ?_⟩
            · have : l.getD i true = false := by simpa [Array.getD, hl, hlt] using hv
              rw [this]; rfl
            · rw [Array.all_eq_true']
              intro e he
              have h1 := List.all_eq_true.1 hord i (by simpa using hlt)
              rw [ho] at h1
              simp only [Option.map_some, Option.getD_some] at h1
              rw [Array.all_eq_true'] at h1
              have h2 := h1 e he
              cases hb : Region.binds .any e with
              | false => rfl
              | true =>
                rw [hb] at h2
                have h3 : e.on < i := by simpa using h2
                rw [ih e.on (by omega) (by omega)]
                rfl
          rw [hr] at hmem
          cases hmem
    intro i hi
    exact key (i + 1) i (Nat.lt_succ_self i) hi
  · simp
  · have : (fun i => (Array.replicate ops.size false).getD i false) = fun _ => false := by
      funext i
      simp [Array.getD]
    rw [this]
    exact h0
/-- each operation, once those that it waits for are done, keeps what holds -/
def Steps (P : Program) (Q : Exit → Act → World → Prop) (I : (Nat → Bool) → Act → World → Prop) : Nat → List Oper → Prop
  | _, [] => True
  | i, o :: os => (∀ d a w, I d a w → d i = false → (∀ e ∈ o.after.toList, Region.binds .any e = true → d e.on = true) → o.wp P a w (I (upd d i)) Q) ∧ Steps P Q I (i + 1) os
theorem Steps.at {P : Program} {Q : Exit → Act → World → Prop} {I : (Nat → Bool) → Act → World → Prop} : ∀ (l : List Oper) (k i : Nat) (o : Oper), Steps P Q I k l → l[i]? = some o → ∀ d a w, I d a w → d (k + i) = false → (∀ e ∈ o.after.toList, Region.binds .any e = true → d e.on = true) → o.wp P a w (I (upd d (k + i))) Q
  | [], k, i, o, _, h => by simp at h
  | x :: l, k, 0, o, hs, h => by
    simp at h
    subst h
    exact hs.1
  | x :: l, k, i + 1, o, hs, h => by
    have h2 : l[i]? = some o := by simpa using h
    have := Steps.at l (k + 1) i o hs.2 h2
    rw [show k + 1 + i = k + (i + 1) by omega] at this
    exact this
theorem wp_region_steps {P : Program} {id : Nat} {ops : Array Oper} {Q : Exit → Act → World → Prop} {a : Act} {w : World} (I : (Nat → Bool) → Act → World → Prop) (hm : P.follows .mixedOrders = true)
    (hord : (List.range ops.size).all (fun i => ((ops[i]?).map (fun o => o.after.all fun e => !Region.binds .any e || decide (e.on < i))).getD true) = true)
    (hg : ops.toList.all (fun o => o.guard.isNone) = true)
    (h0 : I (fun _ => false) a { w with drawn := w.drawn + 1 })
    (hstep : Steps P Q I 0 ops.toList)
    (hdone : ∀ d a w, (∀ i, i < ops.size → d i = true) → I d a w → Q .normal a w) :
    (Code.region id ops true).wp P Q a w := by
  refine wp_region_inv hm I hord h0 ?_ hdone
  intro i o ho d a w hI hi hd
  have hl : ops.toList[i]? = some o := by simpa using ho
  have hgn := List.all_eq_true.1 hg o (List.mem_of_getElem? hl)
  have hw : Region.wanted o (yielded ops a.tmps) = true := by
    cases h : o.guard with
    | none => simp [Region.wanted, h]
    | some g => rw [h] at hgn; cases hgn
  rw [if_pos hw]
  have := Steps.at ops.toList 0 i o hstep hl d a w hI
  rw [Nat.zero_add] at this
  exact this hi hd
/-- a frame with some slots written anew -/
def putAll (a : Act) : List (Nat × Value) → Act
  | [] => a
  | (s, v) :: l => (putAll a l).put (some s) v
def setKey : List (Nat × Value) → Nat → Value → List (Nat × Value)
  | [], _, _ => []
  | (t, u) :: l, s, v => if t = s then (t, v) :: l else (t, u) :: setKey l s v
def getKey : List (Nat × Value) → Nat → Option Value
  | [], _ => none
  | (t, u) :: l, s => if t = s then some u else getKey l s
theorem putAll_put (a : Act) : ∀ (l : List (Nat × Value)) (s : Nat) (v : Value), (getKey l s).isSome = true → (putAll a l).put (some s) v = putAll a (setKey l s v)
  | [], s, v, h => by cases h
  | (t, u) :: l, s, v, h => by
    unfold setKey
    by_cases hts : t = s
    · subst hts
      rw [if_pos rfl]
      simp [putAll, Act.put, Array.setIfInBounds_setIfInBounds]
    · rw [if_neg hts]
      have h2 : (getKey l s).isSome = true := by
        unfold getKey at h
        rw [if_neg hts] at h
        exact h
      have ih := putAll_put a l s v h2
      show ((putAll a l).put (some t) u).put (some s) v = (putAll a (setKey l s v)).put (some t) u
      rw [← ih]
      simp [Act.put, Array.setIfInBounds_comm _ _ hts]
theorem putAll_size (a : Act) : ∀ (l : List (Nat × Value)), (putAll a l).tmps.size = a.tmps.size
  | [] => rfl
  | (t, u) :: l => by
    simp [putAll, Act.put, putAll_size a l]
theorem eval_putAll (a : Act) (s : Nat) (hs : s < a.tmps.size) : ∀ (l : List (Nat × Value)), (putAll a l).eval (.tmp s) = (getKey l s).getD (a.eval (.tmp s))
  | [] => rfl
  | (t, u) :: l => by
    unfold getKey
    by_cases hts : t = s
    · subst hts
      rw [if_pos rfl]
      have := putAll_size a l
      simp [putAll, Act.put, Act.eval, Array.getD, this, hs]
    · rw [if_neg hts, ← eval_putAll a s hs l]
      have := putAll_size a l
      simp [putAll, Act.put, Act.eval, Array.getD, this, hs, hts]
theorem putAll_self (a : Act) : ∀ (ws : List Nat), (∀ s ∈ ws, s < a.tmps.size) → putAll a (ws.map fun s => (s, a.eval (.tmp s))) = a
  | [], _ => rfl
  | s :: ws, h => by
    have ih := putAll_self a ws (fun t ht => h t (by simp [ht]))
    show (putAll a (ws.map fun s => (s, a.eval (.tmp s)))).put (some s) (a.eval (.tmp s)) = a
    rw [ih]
    have hs := h s (by simp)
    cases a with
    | mk tmps defers =>
      simp only [Act.put, Act.eval]
      congr 1
      apply Array.ext
      · simp
      · intro i h1 h2
        rw [Array.getElem_setIfInBounds]
        split
        · rename_i e
          subst e
          simp [Array.getD]
        · rfl
end Go.Proofs.YtfgooclnohnkmaaGreatDoor
