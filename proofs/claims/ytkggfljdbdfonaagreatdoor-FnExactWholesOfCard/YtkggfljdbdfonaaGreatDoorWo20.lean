/- Proved: several texts in one: what each proves is said ahead of it. -/
import Derived.Test.YtkggfljdbdfonaaGreatDoorWo00
import Derived.Deep.RegionWith
/- Proved: numbers as limbs to the base 2^28, the lowest first: what they are worth, the limbs of a number, noughts behind struck; no program in sight. -/
namespace Go.Proofs.YtkggfljdbdfonaaGreatDoor.M2
set_option linter.unusedVariables false
def LB : Nat := 268435456
/-- what limbs are worth -/
def val : List Nat → Nat
  | [] => 0
  | x :: xs => x + LB * val xs
/-- the limbs of a number, none behind that is 0, at most so many of them -/
def digF : Nat → Nat → List Nat
  | 0, _ => []
  | f + 1, n => if n = 0 then [] else (n % LB) :: digF f (n / LB)
/-- the limbs of a number, none behind that is 0 -/
def dig (n : Nat) : List Nat := digF n n
theorem digF_zero (f : Nat) : digF f 0 = [] := by cases f <;> rfl
theorem digF_eq (f : Nat) : ∀ g n, n ≤ f → n ≤ g → digF f n = digF g n := by
  induction f with
  | zero => intro g n h k; obtain rfl : n = 0 := by omega
            rw [digF_zero, digF_zero]
  | succ f ih =>
    intro g n h k
    by_cases hn : n = 0
    · subst hn; rw [digF_zero, digF_zero]
    · obtain ⟨g', rfl⟩ : ∃ g', g = g' + 1 := ⟨g - 1, by omega⟩
      have hd : n / LB < n := Nat.div_lt_self (by omega) (by decide)
      have e1 : digF (f + 1) n = (n % LB) :: digF f (n / LB) := by rw [digF, if_neg hn]
      have e2 : digF (g' + 1) n = (n % LB) :: digF g' (n / LB) := by rw [digF, if_neg hn]
      rw [e1, e2, ih g' (n / LB) (by omega) (by omega)]
theorem dig_zero : dig 0 = [] := rfl
theorem dig_pos (n : Nat) (h : n ≠ 0) : dig n = (n % LB) :: dig (n / LB) := by
  obtain ⟨m, rfl⟩ : ∃ m, n = m + 1 := ⟨n - 1, by omega⟩
  have hd : (m + 1) / LB < m + 1 := Nat.div_lt_self (by omega) (by decide)
  have e1 : digF (m + 1) (m + 1) = ((m + 1) % LB) :: digF m ((m + 1) / LB) := by rw [digF, if_neg h]
  show digF (m + 1) (m + 1) = _
  rw [e1, digF_eq m ((m + 1) / LB) ((m + 1) / LB) (by omega) (Nat.le_refl _)]
  rfl
/-- every limb is below the base -/
def Lim (xs : List Nat) : Prop := ∀ x ∈ xs, x < LB
/-- limbs as they should be -/
def Nrm (xs : List Nat) : Prop := Lim xs ∧ ∀ h : xs ≠ [], xs.getLast h ≠ 0
theorem Lim.nil : Lim [] := fun x hx => by cases hx
theorem Lim.cons {x : Nat} {xs : List Nat} (h : x < LB) (hs : Lim xs) : Lim (x :: xs) := fun y hy => by
  rcases List.mem_cons.1 hy with rfl | h1
  · exact h
  · exact hs y h1
theorem Lim.head {x : Nat} {xs : List Nat} (h : Lim (x :: xs)) : x < LB := h x (List.mem_cons_self ..)
theorem Lim.tail {x : Nat} {xs : List Nat} (h : Lim (x :: xs)) : Lim xs := fun y hy => h y (List.mem_cons_of_mem _ hy)
theorem Lim.append {xs ys : List Nat} (h : Lim xs) (k : Lim ys) : Lim (xs ++ ys) := fun y hy => by
  rcases List.mem_append.1 hy with h1 | h1
  · exact h y h1
  · exact k y h1
theorem Lim.take {xs : List Nat} (h : Lim xs) (k : Nat) : Lim (xs.take k) := fun y hy => h y (List.mem_of_mem_take hy)
theorem Lim.drop {xs : List Nat} (h : Lim xs) (k : Nat) : Lim (xs.drop k) := fun y hy => h y (List.mem_of_mem_drop hy)
theorem Lim.getD {xs : List Nat} (h : Lim xs) (k : Nat) : xs.getD k 0 < LB := by
  by_cases hk : k < xs.length
  · have e : xs.getD k 0 = xs[k] := by simp [List.getD, hk]
    rw [e]; exact h _ (List.getElem_mem hk)
  · have e : xs.getD k 0 = 0 := by simp [List.getD, List.getElem?_eq_none (Nat.le_of_not_lt hk)]
    rw [e]; decide
theorem LB_pos : 0 < LB := by decide
theorem val_dig (n : Nat) : val (dig n) = n := by
  induction n using Nat.strongRecOn with
  | _ n ih =>
    by_cases h : n = 0
    · subst h; rw [dig_zero]; rfl
    · rw [dig_pos n h]
      show n % LB + LB * val (dig (n / LB)) = n
      rw [ih (n / LB) (Nat.div_lt_self (by omega) (by decide))]
      exact Nat.mod_add_div n LB
theorem dig_lim (n : Nat) : Lim (dig n) := by
  induction n using Nat.strongRecOn with
  | _ n ih =>
    by_cases h : n = 0
    · subst h; rw [dig_zero]; exact Lim.nil
    · rw [dig_pos n h]
      exact Lim.cons (Nat.mod_lt _ LB_pos) (ih _ (Nat.div_lt_self (by omega) (by decide)))
theorem dig_nil {n : Nat} (h : dig n = []) : n = 0 := by
  have := val_dig n
  rw [h] at this
  exact this.symm
theorem dig_ne {n : Nat} (h : n ≠ 0) : dig n ≠ [] := fun e => h (dig_nil e)
theorem dig_nrm (n : Nat) : Nrm (dig n) := by
  refine ⟨dig_lim n, ?_⟩
  induction n using Nat.strongRecOn with
  | _ n ih =>
    intro hne
    have h : n ≠ 0 := by rintro rfl; exact hne dig_zero
    have e := dig_pos n h
    by_cases h2 : n / LB = 0
    · have e2 : dig n = [n % LB] := by rw [e, h2, dig_zero]
      have hlt : n < LB := by
        by_cases hl : n < LB
        · exact hl
        · have := Nat.div_pos (Nat.le_of_not_lt hl) LB_pos
          omega
      have : (dig n).getLast hne = n % LB := by simp [e2]
      rw [this, Nat.mod_eq_of_lt hlt]
      exact h
    · have h3 := ih (n / LB) (Nat.div_lt_self (by omega) (by decide)) (dig_ne h2)
      have : (dig n).getLast hne = (dig (n / LB)).getLast (dig_ne h2) := by
        simp only [e]
        rw [List.getLast_cons (dig_ne h2)]
      rw [this]
      exact h3
theorem val_zero_of {xs : List Nat} (h : Nrm xs) (hv : val xs = 0) : xs = [] := by
  induction xs with
  | nil => rfl
  | cons x xs ih =>
    exfalso
    have hv' : x + LB * val xs = 0 := hv
    have hp := LB_pos
    have hx : x = 0 := by omega
    have hs : val xs = 0 := by
      have : LB * val xs = 0 := by omega
      rcases Nat.mul_eq_zero.1 this with h1 | h1
      · omega
      · exact h1
    by_cases hxs : xs = []
    · subst hxs
      exact h.2 (by simp) (by simpa using hx)
    · have : xs = [] := ih ⟨h.1.tail, fun hne => by
        have := h.2 (by simp)
        rw [List.getLast_cons hne] at this
        exact this⟩ hs
      exact hxs this
theorem dig_val {xs : List Nat} (h : Nrm xs) : dig (val xs) = xs := by
  induction xs with
  | nil => exact dig_zero
  | cons x xs ih =>
    have hne : val (x :: xs) ≠ 0 := fun e => by cases val_zero_of h e
    have hx := h.1.head
    have ht : Nrm xs := ⟨h.1.tail, fun hne => by
      have := h.2 (by simp)
      rw [List.getLast_cons hne] at this
      exact this⟩
    rw [dig_pos _ hne]
    have e1 : val (x :: xs) % LB = x := by
      show (x + LB * val xs) % LB = x
      rw [Nat.add_mul_mod_self_left, Nat.mod_eq_of_lt hx]
    have e2 : val (x :: xs) / LB = val xs := by
      show (x + LB * val xs) / LB = val xs
      rw [Nat.add_mul_div_left _ _ LB_pos, Nat.div_eq_of_lt hx, Nat.zero_add]
    rw [e1, e2, ih ht]
theorem val_append : ∀ (xs ys : List Nat), val (xs ++ ys) = val xs + LB ^ xs.length * val ys
  | [], ys => by simp [val]
  | x :: xs, ys => by
    show x + LB * val (xs ++ ys) = x + LB * val xs + LB ^ (xs.length + 1) * val ys
    rw [val_append xs ys, Nat.pow_succ, Nat.mul_add]
    grind
theorem val_snoc (xs : List Nat) (x : Nat) : val (xs ++ [x]) = val xs + LB ^ xs.length * x := by
  rw [val_append]; simp [val]
theorem val_lt : ∀ {xs : List Nat}, Lim xs → val xs < LB ^ xs.length
  | [], _ => by simp [val]
  | x :: xs, h => by
    have h1 := val_lt h.tail
    have h2 := h.head
    show x + LB * val xs < LB ^ (xs.length + 1)
    rw [Nat.pow_succ, Nat.mul_comm (LB ^ xs.length)]
    have h3 : LB * (val xs + 1) ≤ LB * LB ^ xs.length := Nat.mul_le_mul (Nat.le_refl _) h1
    rw [Nat.mul_add] at h3
    omega
/-- noughts behind struck -/
def trim (xs : List Nat) : List Nat := dig (val xs)
theorem val_trim (xs : List Nat) : val (trim xs) = val xs := val_dig _
theorem take_succ_getD (xs : List Nat) (k : Nat) (h : k < xs.length) : xs.take (k + 1) = xs.take k ++ [xs.getD k 0] := by
  rw [List.take_add_one]
  simp [List.getD, h]
theorem val_take_succ (xs : List Nat) (k : Nat) : val (xs.take (k + 1)) = val (xs.take k) + LB ^ k * xs.getD k 0 := by
  by_cases h : k < xs.length
  · rw [take_succ_getD xs k h, val_snoc, List.length_take, Nat.min_eq_left (Nat.le_of_lt h)]
  · have h' := Nat.le_of_not_lt h
    rw [List.take_of_length_le (by omega), List.take_of_length_le h']
    simp [List.getD, List.getElem?_eq_none h']
theorem val_drop_getD (xs : List Nat) (k : Nat) (h : k < xs.length) : val (xs.drop k) = xs.getD k 0 + LB * val (xs.drop (k + 1)) := by
  rw [List.drop_eq_getElem_cons h]
  show xs[k] + LB * val (xs.drop (k + 1)) = _
  simp [List.getD, h]
/-- how many limbs a number has -/
theorem dig_len_le {n k : Nat} (h : n < LB ^ k) : (dig n).length ≤ k := by
  by_cases hl : (dig n).length ≤ k
  · exact hl
  · exfalso
    have hn := dig_nrm n
    have hne : dig n ≠ [] := by intro e; rw [e] at hl; simp at hl
    have e := List.dropLast_concat_getLast hne
    have hv := val_dig n
    rw [← e, val_snoc, List.length_dropLast] at hv
    have h0 := hn.2 hne
    have h1 : LB ^ k ≤ LB ^ ((dig n).length - 1) := Nat.pow_le_pow_right LB_pos (by omega)
    have h2 : LB ^ ((dig n).length - 1) * 1 ≤ LB ^ ((dig n).length - 1) * (dig n).getLast hne := Nat.mul_le_mul (Nat.le_refl _) (by omega)
    omega
theorem dig_len_ge {n k : Nat} (h : LB ^ k ≤ n) : k < (dig n).length := by
  have h1 := val_lt (dig_lim n)
  rw [val_dig] at h1
  by_cases hl : k < (dig n).length
  · exact hl
  · have := Nat.pow_le_pow_right LB_pos (Nat.le_of_not_lt hl)
    omega
end Go.Proofs.YtkggfljdbdfonaaGreatDoor.M2
/- Proved: what one round of adding, taking away and comparing limbs does; no program in sight. -/
namespace Go.Proofs.YtkggfljdbdfonaaGreatDoor.M2
set_option linter.unusedVariables false
/-- adding, i limbs far -/
structure AddI (a b : List Nat) (i : Nat) (out : List Nat) (c : Nat) : Prop where
  lim : Lim out
  len : out.length = i
  eq : val out + LB ^ i * c = val (a.take i) + val (b.take i)
  c1 : c ≤ 1
theorem AddI.start (a b : List Nat) : AddI a b 0 [] 0 := ⟨Lim.nil, rfl, by simp [val], by omega⟩
theorem split_pow (i c : Nat) : LB ^ i * (c % LB) + LB ^ (i + 1) * (c / LB) = LB ^ i * c := by
  rw [Nat.pow_succ, Nat.mul_assoc, ← Nat.mul_add, Nat.mod_add_div]
theorem AddI.step {a b : List Nat} {i : Nat} {out : List Nat} {c : Nat} (h : AddI a b i out c) (ha : Lim a) (hb : Lim b) :
    AddI a b (i + 1) (out ++ [(c + a.getD i 0 + b.getD i 0) % LB]) ((c + a.getD i 0 + b.getD i 0) / LB) := by
  have h1 := ha.getD i
  have h2 := hb.getD i
  have h3 := h.c1
  refine ⟨h.lim.append (Lim.cons (Nat.mod_lt _ LB_pos) Lim.nil), by simp [h.len], ?_, ?_⟩
  · rw [val_snoc, h.len, val_take_succ, val_take_succ, Nat.add_assoc, split_pow]
    have := h.eq
    rw [Nat.mul_add, Nat.mul_add]
    omega
  · have : c + a.getD i 0 + b.getD i 0 < LB * 2 := by omega
    have := Nat.div_lt_of_lt_mul this
    omega
theorem AddI.done {a b : List Nat} {i : Nat} {out : List Nat} {c : Nat} (h : AddI a b i out c) (ha : a.length ≤ i) (hb : b.length ≤ i) (hc : c = 0) : trim out = dig (val a + val b) := by
  have := h.eq
  rw [List.take_of_length_le ha, List.take_of_length_le hb, hc, Nat.mul_zero, Nat.add_zero] at this
  unfold trim
  rw [this]
/-- taking away, i limbs far -/
structure SubI (a b : List Nat) (i : Nat) (out : List Nat) (c : Nat) : Prop where
  lim : Lim out
  len : out.length = i
  eq : val out + val (b.take i) = val (a.take i) + LB ^ i * c
  c1 : c ≤ 1
theorem SubI.start (a b : List Nat) : SubI a b 0 [] 0 := ⟨Lim.nil, rfl, by simp [val], by omega⟩
/-- a round that takes no more than there is -/
theorem SubI.stepNo {a b : List Nat} {i : Nat} {out : List Nat} {c : Nat} (h : SubI a b i out c) (ha : Lim a) (hle : c + b.getD i 0 ≤ a.getD i 0) :
    SubI a b (i + 1) (out ++ [a.getD i 0 - c - b.getD i 0]) 0 := by
  have h1 := ha.getD i
  refine ⟨h.lim.append (Lim.cons (by omega) Lim.nil), by simp [h.len], ?_, by omega⟩
  rw [val_snoc, h.len, val_take_succ, val_take_succ, Nat.mul_zero, Nat.add_zero]
  have := h.eq
  obtain ⟨d, hd⟩ : ∃ d, a.getD i 0 = d + c + b.getD i 0 := ⟨a.getD i 0 - c - b.getD i 0, by omega⟩
  rw [show a.getD i 0 - c - b.getD i 0 = d by omega, hd, Nat.mul_add, Nat.mul_add]
  omega
/-- a round that borrows -/
theorem SubI.stepYes {a b : List Nat} {i : Nat} {out : List Nat} {c : Nat} (h : SubI a b i out c) (ha : Lim a) (hb : Lim b) (hlt : a.getD i 0 < c + b.getD i 0) :
    SubI a b (i + 1) (out ++ [a.getD i 0 + LB - c - b.getD i 0]) 1 := by
  have h1 := ha.getD i
  have h2 := hb.getD i
  have h3 := h.c1
  refine ⟨h.lim.append (Lim.cons (by omega) Lim.nil), by simp [h.len], ?_, by omega⟩
  rw [val_snoc, h.len, val_take_succ, val_take_succ, Nat.mul_one, Nat.pow_succ]
  have := h.eq
  obtain ⟨d, hd⟩ : ∃ d, a.getD i 0 + LB = d + c + b.getD i 0 := ⟨a.getD i 0 + LB - c - b.getD i 0, by omega⟩
  rw [show a.getD i 0 + LB - c - b.getD i 0 = d by omega]
  have e : LB ^ i * (a.getD i 0 + LB) = LB ^ i * (d + c + b.getD i 0) := by rw [hd]
  rw [Nat.mul_add, Nat.mul_add, Nat.mul_add] at e
  omega
theorem SubI.done {a b : List Nat} {i : Nat} {out : List Nat} {c : Nat} (h : SubI a b i out c) (ha : a.length = i) (hb : b.length ≤ i) (hle : val b ≤ val a) : trim out = dig (val a - val b) := by
  have h1 := h.eq
  rw [List.take_of_length_le hb, List.take_of_length_le (show a.length ≤ i by omega)] at h1
  have h2 := val_lt h.lim
  rw [h.len] at h2
  have h3 := h.c1
  have hc : c = 0 := by
    rcases Nat.eq_zero_or_pos c with h4 | h4
    · exact h4
    · exfalso
      have : c = 1 := by omega
      subst this
      omega
  subst hc
  unfold trim
  congr 1
  omega
theorem nrm_len_le {a b : List Nat} (ha : Nrm a) (hb : Nrm b) (h : val b ≤ val a) : b.length ≤ a.length := by
  have h1 := val_lt ha.1
  have h2 := dig_len_le (n := val b) (k := a.length) (by omega)
  rw [dig_val hb] at h2
  exact h2
/-- how two numbers lie, as -1, 0, 1 -/
def cmpN (x y : Nat) : Int := if x < y then -1 else if y < x then 1 else 0
theorem cmp_short {a b : List Nat} (ha : Nrm a) (hb : Nrm b) (h : a.length < b.length) : val a < val b := by
  by_cases hlt : val a < val b
  · exact hlt
  · have := nrm_len_le ha hb (by omega)
    omega
theorem cmp_at {a b : List Nat} {i : Nat} (ha : Lim a) (hi : i < a.length) (hl : a.length = b.length) (he : a.drop (i + 1) = b.drop (i + 1)) (h : a.getD i 0 < b.getD i 0) : val a < val b := by
  have e1 : val a = val (a.take i) + LB ^ i * val (a.drop i) := by
    have := val_append (a.take i) (a.drop i)
    rw [List.take_append_drop, List.length_take, Nat.min_eq_left (Nat.le_of_lt hi)] at this
    exact this
  have e2 : val b = val (b.take i) + LB ^ i * val (b.drop i) := by
    have := val_append (b.take i) (b.drop i)
    rw [List.take_append_drop, List.length_take, Nat.min_eq_left (by omega)] at this
    exact this
  have h1 := val_lt (ha.take i)
  rw [List.length_take, Nat.min_eq_left (Nat.le_of_lt hi)] at h1
  rw [e1, e2, val_drop_getD a i hi, val_drop_getD b i (by omega), he]
  have h2 : LB ^ i * (a.getD i 0 + LB * val (b.drop (i + 1)) + 1) ≤ LB ^ i * (b.getD i 0 + LB * val (b.drop (i + 1))) := Nat.mul_le_mul (Nat.le_refl _) (by omega)
  rw [Nat.mul_add _ _ 1] at h2
  omega
theorem drop_step {a b : List Nat} {i : Nat} (hi : i < a.length) (hl : a.length = b.length) (he : a.drop (i + 1) = b.drop (i + 1)) (h : a.getD i 0 = b.getD i 0) : a.drop i = b.drop i := by
  rw [List.drop_eq_getElem_cons hi, List.drop_eq_getElem_cons (show i < b.length by omega), he]
  congr 1
  simpa [List.getD, hi, show i < b.length by omega] using h
end Go.Proofs.YtkggfljdbdfonaaGreatDoor.M2
/- Proved: contracts of the model's functions on limbs: noughts struck, comparing, adding, taking away. -/
namespace Go.Proofs.YtkggfljdbdfonaaGreatDoor
open Go.ChangeShapes Go.WideShapes Go.ChangeAt Go.RowKit
open M2
set_option linter.unusedVariables false
set_option linter.unusedSimpArgs false
/-- limbs as the program's numbers -/
def toI (xs : List Nat) : List Int := xs.map (fun (n : Nat) => (n : Int))
theorem toI_len (xs : List Nat) : (toI xs).length = xs.length := by simp [toI]
theorem toI_get (xs : List Nat) (j : Nat) : (toI xs).getD j 0 = ((xs.getD j 0 : Nat) : Int) := by
  simp only [toI, List.getD, List.getElem?_map]
  cases xs[j]? <;> rfl
theorem toI_take (xs : List Nat) (k : Nat) : (toI xs).take k = toI (xs.take k) := by simp [toI]
theorem toI_append (xs ys : List Nat) : toI (xs ++ ys) = toI xs ++ toI ys := by simp [toI]
/-- where the limbs lie, if there are any -/
theorem Row.at {w : World} {a : Option Addr} {n cap : Nat} {xs : List Nat} (h : Row w (.slice a n cap) (toI xs)) (h0 : 0 < xs.length) :
    ∃ b o, a = some ⟨b, o, none⟩ ∧ b < w.heap.size ∧ ∀ j, j < xs.length → w.cell? ⟨b, o + j, none⟩ = some (.int .i64 ((xs.getD j 0 : Nat) : Int)) := by
  rcases h with ⟨a', cap', e, e2⟩ | ⟨b, o, cap', e, hb, _, hc⟩
  · have := congrArg List.length e2
    rw [toI_len, List.length_nil] at this
    omega
  · simp only [Value.slice.injEq] at e
    obtain ⟨rfl, _, _⟩ := e
    rw [toI_len] at hc
    exact ⟨b, o, rfl, hb, fun j hj => by rw [hc j hj, toI_get]⟩
theorem Row.sliceN {w : World} {v : Value} {xs : List Nat} (h : Row w v (toI xs)) : ∃ a cap, v = .slice a xs.length cap := by
  obtain ⟨a, cap, e⟩ := h.slice
  rw [toI_len] at e
  exact ⟨a, cap, e⟩
theorem nrm_take {xs : List Nat} (h : Lim xs) (k : Nat) (hk : k ≤ xs.length) (h0 : 0 < k → xs.getD (k - 1) 0 ≠ 0) : Nrm (xs.take k) := by
  refine ⟨h.take k, fun hne => ?_⟩
  have hk0 : 0 < k := by
    rcases Nat.eq_zero_or_pos k with e | e
    · subst e; simp at hne
    · exact e
  have := h0 hk0
  rw [List.getLast_eq_getElem]
  simp only [List.length_take, Nat.min_eq_left hk, List.getElem_take]
  simpa [List.getD, show k - 1 < xs.length by omega] using this
theorem beq0 (x : Nat) (h : x ≠ 0) : ((x : Int) == 0) = false := by simp; omega
theorem dlt_yes {a b : Int} (h : a < b) : decide (a < b) = true := by simp; omega
theorem dlt_no {a b : Int} (h : ¬ a < b) : decide (a < b) = false := by simp; omega
def sliceLen : Value → Nat
  | .slice _ k _ => k
  | _ => 0
set_option maxHeartbeats 1000000 in
theorem trim_any (xs : List Nat) (v : Value) (base : Nat) (w : World) (h : Own w base v (toI xs)) (hl : Lim xs) (hn : xs.length ≤ 1073741824) :
    Calls Tryz.prog 158 #[v] w fun e w' => ∃ v', e = .returned v' ∧ Old w w' ∧ Own w' base v' (toI (trim xs)) := by
  by_cases h0 : xs.length = 0
  · obtain rfl := List.length_eq_zero_iff.1 h0
    have HF : Hid (Own w base v (toI (trim []))) := by
      have : trim [] = [] := dig_zero
      rw [this]; exact h
    obtain ⟨a0, cap0, rfl⟩ := (Own.row h).slice
    rw [toI_len] at *
    clear h
    go_enter Tryz.func158, Tryz.ntmps158
    go_wp2_with fail
    refine wp_loop_rounds 1 ?_
    rw [rounds_succ]
    go_wp2_with fail
    go_ret
    exact ⟨_, rfl, Old.refl _, HF.out⟩
  · obtain ⟨g, cap, e⟩ : ∃ g cap, v = .slice (some ⟨g, 0, none⟩) xs.length cap := by
      rcases h.2 with ⟨_, h1⟩ | ⟨g, cap, cur, e, _⟩
      · rw [toI_len] at h1; exact absurd h1 h0
      · rw [toI_len] at e; exact ⟨g, cap, e⟩
    subst e
    have hcap : xs.length ≤ cap ∧ cap ≤ 9223372036854775807 := by
      rcases h.2 with ⟨h1, _⟩ | ⟨g', cap', cur, e, _, _, h1, h2, _⟩
      · simp at h1
      · simp only [Value.slice.injEq] at e
        obtain ⟨_, _, rfl⟩ := e
        rw [toI_len] at h1
        exact ⟨h1, h2⟩
    obtain ⟨hcap1, hcap2⟩ := hcap
    have HO : Hid (Own w base (.slice (some ⟨g, 0, none⟩) xs.length cap) (toI xs)) := h
    obtain ⟨b, o, e1, hb, hc⟩ := Row.at (Own.row h) (by omega)
    obtain ⟨rfl, rfl⟩ : b = g ∧ o = 0 := by cases e1; exact ⟨rfl, rfl⟩
    simp only [Nat.zero_add] at hc
    have HC : Hid (∀ j, j < xs.length → w.cell? ⟨b, j, none⟩ = some (.int .i64 ((xs.getD j 0 : Nat) : Int))) := hc
    clear h hc e1
    go_enter Tryz.func158, Tryz.ntmps158
    go_wp2_with fail
    go_loopw [0] (fun u W => ∃ k : Nat, k ≤ xs.length ∧ u = .slice (some ⟨b, 0, none⟩) k cap ∧ Hid (val (xs.take k) = val xs) ∧ Hid (Old w W)) (fun u _ => sliceLen u)
    case atStart => exact ⟨xs.length, Nat.le_refl _, rfl, by rw [List.take_length]; rfl, Old.refl _⟩
    case round =>
      obtain ⟨k, hk, rfl, HV, HG⟩ := hrel
      rcases Nat.eq_zero_or_pos k with hk0 | hk0
      · subst hk0
        have HF : Hid (Own wr base (.slice (some ⟨b, 0, none⟩) 0 cap) (toI (trim xs))) := by
          have e : trim xs = xs.take 0 := by
            unfold trim
            rw [← HV.out]
            exact dig_val (nrm_take hl 0 (by omega) (fun h => absurd h (by omega)))
          rw [e, ← toI_take]
          exact Own.take (by rw [toI_len]; exact HO.out.old HG.out) 0 (by omega)
        clear HO
        go_wp2_with fail
        go_ret
        exact ⟨_, rfl, HG.out, HF.out⟩
      · obtain ⟨m, rfl⟩ : ∃ m, k = m + 1 := ⟨k - 1, by omega⟩
        have c1 : wr.cell? ⟨b, m, none⟩ = some (.int .i64 ((xs.getD m 0 : Nat) : Int)) := (HG.out.cell (p := ⟨b, m, none⟩) hb).trans (HC.out m (by omega))
        have d0 : decide ((0 : Int) < ((m + 1 : Nat) : Int)) = true := by simp <;> omega
        by_cases hx : xs.getD m 0 = 0
        · have HV2 : Hid (val (xs.take m) = val xs) := by
            have := HV.out
            rw [val_take_succ, hx, Nat.mul_zero, Nat.add_zero] at this
            exact this
          rw [hx] at c1
          clear HV hx
          go_wp2_with fail
          exact ⟨⟨m, by omega, rfl, HV2, HG⟩, by simp [sliceLen]⟩
        · have HF : Hid (Own wr base (.slice (some ⟨b, 0, none⟩) (m + 1) cap) (toI (trim xs))) := by
            have e : trim xs = xs.take (m + 1) := by
              unfold trim
              rw [← HV.out]
              exact dig_val (nrm_take hl (m + 1) hk (fun _ => hx))
            rw [e, ← toI_take]
            exact Own.take (by rw [toI_len]; exact HO.out.old HG.out) (m + 1) (by rw [toI_len]; exact hk)
          have d1 := beq0 _ hx
          generalize xs.getD m 0 = x at *
          clear HO
          go_wp2_with fail
          go_ret
          exact ⟨_, rfl, HG.out, HF.out⟩
set_option maxHeartbeats 1000000 in
theorem cmp_any (xs ys : List Nat) (v u : Value) (w : World) (hv : Row w v (toI xs)) (hu : Row w u (toI ys)) (ha : Nrm xs) (hb : Nrm ys) (la : xs.length ≤ 1073741824) (lb : ys.length ≤ 1073741824) :
    Calls Tryz.prog 104 #[v, u] w fun e w' => e = .returned (.int .i64 (cmpN (val xs) (val ys))) ∧ Old w w' := by
  have HV : Hid (Row w v (toI xs)) := hv
  have HU : Hid (Row w u (toI ys)) := hu
  obtain ⟨a0, cap0, rfl⟩ := hv.sliceN
  obtain ⟨a1, cap1, rfl⟩ := hu.sliceN
  clear hv hu
  by_cases hlen : xs.length = ys.length
  · have d1 : ((xs.length : Int) != (ys.length : Int)) = false := by simp; omega
    have HL : Hid (xs.length = ys.length) := hlen
    clear hlen
    go_enter Tryz.func104, Tryz.ntmps104
    go_wp2_with fail
    go_loopw [5] (fun i W => ∃ k : Nat, k ≤ xs.length ∧ i = .int .i64 ((k : Int) - 1) ∧ Hid (xs.drop k = ys.drop k) ∧ Hid (Old w W)) (fun i _ => (intOf i + 1).toNat)
    case atStart => exact ⟨xs.length, Nat.le_refl _, rfl, (by show xs.drop xs.length = ys.drop xs.length; rw [List.drop_length, HL.out, List.drop_length]), Old.refl _⟩
    case round =>
      obtain ⟨k, hk, rfl, HD, HG⟩ := hrel
      rcases Nat.eq_zero_or_pos k with hk0 | hk0
      · subst hk0
        have e : cmpN (val xs) (val ys) = 0 := by
          have : xs = ys := by simpa using HD.out
          rw [this]
          unfold cmpN
          rw [if_neg (by omega), if_neg (by omega)]
        have HE : Hid (cmpN (val xs) (val ys) = 0) := e
        clear e
        go_wp2_with fail
        go_ret
        exact ⟨congrArg (fun z => Ending.returned (.int .i64 z)) HE.out.symm, HG.out⟩
      · obtain ⟨m, rfl⟩ : ∃ m, k = m + 1 := ⟨k - 1, by omega⟩
        obtain ⟨b, o, rfl, hb1, hc1⟩ := Row.at (HV.out.old HG.out) (by omega)
        obtain ⟨b', o', rfl, hb2, hc2⟩ := Row.at (HU.out.old HG.out) (by have := HL.out; omega)
        have c1 := hc1 m (by omega)
        have c2 := hc2 m (by have := HL.out; omega)
        clear hc1 hc2
        have d0 : decide ((0 : Int) ≤ (m : Int)) = true := by simp
        have hm : m < ys.length := by have := HL.out; omega
        have em : ((m + 1 : Nat) : Int) - 1 = (m : Int) := by omega
        have LTa := cmp_at (i := m) ha.1 (by omega) HL.out HD.out
        have LTb := cmp_at (i := m) hb.1 hm HL.out.symm HD.out.symm
        have EQ := drop_step (i := m) (by omega) HL.out HD.out
        have HA : Hid (xs.getD m 0 < ys.getD m 0 → val xs < val ys) := LTa
        have HB : Hid (ys.getD m 0 < xs.getD m 0 → val ys < val xs) := LTb
        have HE : Hid (xs.getD m 0 = ys.getD m 0 → xs.drop m = ys.drop m) := EQ
        clear LTa LTb EQ HD
        generalize xs.getD m 0 = x at *
        generalize ys.getD m 0 = y at *
        rw [em]
        clear em
        rcases Nat.lt_trichotomy x y with hxy | hxy | hxy
        · have d1 : decide (x < y) = true := by simp; omega
          have HE2 : Hid (cmpN (val xs) (val ys) = -1) := by have := HA.out hxy; unfold cmpN; rw [if_pos this]; rfl
          clear hxy
          go_wp2_with fail
          go_quiet (fail)
          go_wp2_with fail
          go_ret
          exact ⟨congrArg (fun z => Ending.returned (.int .i64 z)) HE2.out.symm, HG.out.drewN _⟩
        · subst hxy
          have HE3 : Hid (xs.drop m = ys.drop m) := HE.out rfl
          clear HE HA HB
          go_wp2_with fail
          go_quiet (fail)
          go_wp2_with fail
          go_quiet (fail)
          go_wp2_with fail
          exact ⟨⟨m, by omega, rfl, HE3, HG.out.drewN _⟩, by simp [intOf]⟩
        · have d1 : decide (x < y) = false := by simp; omega
          have d2 : decide (y < x) = true := by simp; omega
          have HE2 : Hid (cmpN (val xs) (val ys) = 1) := by have := HB.out hxy; unfold cmpN; rw [if_neg (by omega), if_pos this]; rfl
          clear hxy
          go_wp2_with fail
          go_quiet (fail)
          go_wp2_with fail
          go_quiet (fail)
          go_wp2_with fail
          go_ret
          exact ⟨congrArg (fun z => Ending.returned (.int .i64 z)) HE2.out.symm, (HG.out.drewN _).drewN _⟩
  · have d1 : ((xs.length : Int) != (ys.length : Int)) = true := by simp; omega
    by_cases hlt : xs.length < ys.length
    · have d2 : decide ((xs.length : Int) < (ys.length : Int)) = true := dlt_yes (by omega)
      have e : cmpN (val xs) (val ys) = -1 := by unfold cmpN; rw [if_pos (cmp_short ha hb hlt)]
      rw [e]
      go_enter Tryz.func104, Tryz.ntmps104
      go_wp2_with fail
      go_ret
      exact ⟨rfl, Old.refl _⟩
    · have d2 : decide ((xs.length : Int) < (ys.length : Int)) = false := dlt_no (by omega)
      have e : cmpN (val xs) (val ys) = 1 := by
        have := cmp_short hb ha (by omega)
        unfold cmpN; rw [if_neg (by omega), if_pos this]
      rw [e]
      go_enter Tryz.func104, Tryz.ntmps104
      go_wp2_with fail
      go_ret
      exact ⟨rfl, Old.refl _⟩
end Go.Proofs.YtkggfljdbdfonaaGreatDoor
/- Proved: contracts of the statements' own helpers over whole numbers: sizes, copies, comparisons, marks. -/
namespace Go.Proofs.YtkggfljdbdfonaaGreatDoor
open Go.ChangeShapes Go.WideShapes Go.ChangeAt Go.RowKit
set_option linter.unusedVariables false
set_option linter.unusedSimpArgs false
theorem szInts_any (a : Option Addr) (len cap : Nat) (left : Int) (w : World) (hl : len ≤ 9223372036854775807) (h0 : 0 ≤ left) (h1 : left ≤ 1048576) :
    Calls Tryz.prog 42 #[.slice a len cap, .int .i64 left] w fun e w' => e = .returned (.int .i64 (if left < (len : Int) then -1 else left - len)) ∧ w' = w := by
  by_cases h : left < (len : Int)
  · have d : decide (left - (len : Int) < 0) = true := by simp; omega
    rw [if_pos h]
    go_enter Tryz.func42, Tryz.ntmps42
    go_wp2_with fail
    go_ret
    exact ⟨rfl, rfl⟩
  · have d : decide (left - (len : Int) < 0) = false := by simp; omega
    rw [if_neg h]
    go_enter Tryz.func42, Tryz.ntmps42
    go_wp2_with fail
    go_ret
    exact ⟨rfl, rfl⟩
set_option maxHeartbeats 1000000 in
theorem eqWhole_yes (neg : Bool) (xs : List Int) (v u : Value) (w : World) (h : Row w v xs) (k : Row w u xs) (hl : xs.length ≤ 1073741824) :
    Calls Tryz.prog 26 #[.agg #[.bool neg, v], .agg #[.bool neg, u]] w fun e w' => e = .returned (.bool true) ∧ Old w w' := by
  have HR : Hid (Row w v xs) := h
  have HK : Hid (Row w u xs) := k
  obtain ⟨a0, cap0, rfl⟩ := h.slice
  obtain ⟨a1, cap1, rfl⟩ := k.slice
  clear h k
  have dn : (neg != neg) = false := by simp
  go_enter Tryz.func26, Tryz.ntmps26
  go_wp2_with fail
  refine (eqInts_yes xs _ _ _ (HR.out.old (((Old.refl w).alloc _).alloc _)) (HK.out.old (((Old.refl w).alloc _).alloc _)) hl).mono ?_
  rintro e w1 ⟨rfl, g1⟩
  have HG : Hid (Old w w1) := Old.trans (((Old.refl w).alloc _).alloc _) g1
  clear g1
  go_wp2_with fail
  go_ret
  exact ⟨rfl, HG.out⟩
end Go.Proofs.YtkggfljdbdfonaaGreatDoor
/- Proved: the walk of the statement on GoodWhole, under the contract of the program's own function. -/
namespace Go.Proofs.YtkggfljdbdfonaaGreatDoor
open Go.ChangeShapes Go.WideShapes Go.ChangeAt Go.RowKit
open M2
set_option linter.unusedVariables false
set_option linter.unusedSimpArgs false
/-- a struct of two cells in a block of its own -/
abbrev StW (w : World) (k : Nat) (x y : Value) (t : TypeId) : Prop := w.heap[k]? = some (.cells #[x, y] t (0, 0))
theorem StW.c0 {w : World} {k : Nat} {x y : Value} {t : TypeId} (h : StW w k x y t) : w.cell? ⟨k, 0, none⟩ = some x := cell_of_row w k 0 _ t (0, 0) h
theorem StW.c1 {w : World} {k : Nat} {x y : Value} {t : TypeId} (h : StW w k x y t) : w.cell? ⟨k, 1, none⟩ = some y := cell_of_row w k 1 _ t (0, 0) h
theorem StW.f0 {w : World} {k : Nat} {x y : Value} {t : TypeId} (h : StW w k x y t) : w.frozen? ⟨k, 0, none⟩ = false := frozen_of_row w k 0 _ t h
theorem StW.f1 {w : World} {k : Nat} {x y : Value} {t : TypeId} (h : StW w k x y t) : w.frozen? ⟨k, 1, none⟩ = false := frozen_of_row w k 1 _ t h
theorem StW.lt {w : World} {k : Nat} {x y : Value} {t : TypeId} (h : StW w k x y t) : k < w.heap.size := (Array.getElem?_eq_some_iff.1 h).1
theorem StW.old {w w' : World} {k : Nat} {x y : Value} {t : TypeId} (h : StW w k x y t) (g : Old w w') : StW w' k x y t := (g.block k h.lt).trans h
theorem StW.new (w : World) (x y : Value) (t : TypeId) : StW (w.alloc (.cells #[x, y] t)) w.heap.size x y t := heap_alloc_new w _
end Go.Proofs.YtkggfljdbdfonaaGreatDoor
/- Proved: structs of two cells under writes into other blocks; no function of the program. -/
namespace Go.Proofs.YtkggfljdbdfonaaGreatDoor
open Go.ChangeShapes Go.WideShapes Go.ChangeAt Go.RowKit
set_option linter.unusedVariables false
set_option linter.unusedSimpArgs false
theorem StW.at1 (w : World) (x y x' y' : Value) (t t' : TypeId) : StW ((w.alloc (.cells #[x, y] t)).alloc (.cells #[x', y'] t')) w.heap.size x y t := heap_alloc2_old w _ _
/-- since w0 a struct has been made in block k that tells a sign and limbs, which lie in a row that is new as well -/
structure Made (w0 : World) (rb : Bool) (rl : List Nat) (W : World) (k : Nat) (a : Option Addr) (cap : Nat) : Prop where
  old : Old w0 W
  st : StW W k (.bool rb) (.slice a (toI rl).length cap) 51
  own : Own W w0.heap.size (.slice a (toI rl).length cap) (toI rl)
  lo : w0.heap.size ≤ k
theorem two_made {w0 w5 : World} {rb : Bool} {rl : List Nat} {a : Option Addr} {cap base k : Nat} (g : Old w0 w5) (o : Own w5 base (.slice a (toI rl).length cap) (toI rl)) (s : StW w5 k (.bool false) (.slice none 0 0) 51) (hb : w0.heap.size ≤ base) (hk : w0.heap.size ≤ k) (hne : k < base) :
    Made w0 rb rl ((w5.setCell ⟨k, 0, none⟩ (.bool rb)).setCell ⟨k, 1, none⟩ (.slice a (toI rl).length cap)) k a cap := by
  refine ⟨(g.own (p := ⟨k, 0, none⟩) hk _).own (p := ⟨k, 1, none⟩) hk _, ?_, ?_, hk⟩
  · have h1 := heap_setCell_same w5 k 0 _ _ (.bool rb) s
    have h2 := heap_setCell_same _ k 1 _ _ (.slice a (toI rl).length cap) h1
    exact h2
  · refine Own.low (base := base) (ownsRow_setCell_other (ownsRow_setCell_other o (fun e => ?_) _) (fun e => ?_) _) hb
    · have := (o.lt k e).1; omega
    · have := (o.lt k e).1; omega
end Go.Proofs.YtkggfljdbdfonaaGreatDoor
