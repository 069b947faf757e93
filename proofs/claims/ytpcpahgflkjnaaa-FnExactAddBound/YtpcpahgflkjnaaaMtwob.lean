/- Proved: what one round of adding, taking away and comparing limbs does; no program in sight. -/
import Derived.Test.YtpcpahgflkjnaaaMtwo
namespace Go.Proofs.Ytpcpahgflkjnaaa.M2
set_option linter.unusedVariables false
/-- adding, i limbs far -/
structure AddI (a b : List Nat) (i : Nat) (out : List Nat) (c : Nat) : Prop where
  lim : Lim out
  len : out.length = i
  eq : val out + LB ^ i * c = val (a.take i) + val (b.take i)
  c1 : c ≤ 1
theorem AddI.start (a b : List Nat) : AddI a b 0 [] 0 := ⟨Lim.nil, rfl, by simp [val], by omega⟩
theorem split_pow (i c : Nat) : LB ^ i * (c % LB) + LB ^ (i + 1) * (c / LB) = LB ^ i * c := by
  rw [Nat.pow_succ, Nat.mul_assoc, ← Nat.mul_add, Nat.mod_add_div]
theorem AddI.step {a b : List Nat} {i : Nat} {out : List Nat} {c : Nat} (h : AddI a b i out c) (ha : Lim a) (hb : Lim b) :
    AddI a b (i + 1) (out ++ [(c + a.getD i 0 + b.getD i 0) % LB]) ((c + a.getD i 0 + b.getD i 0) / LB) := by
  have h1 := ha.getD i
  have h2 := hb.getD i
  have h3 := h.c1
  refine ⟨h.lim.append (Lim.cons (Nat.mod_lt _ LB_pos) Lim.nil), by simp [h.len], ?_, ?_⟩
  · rw [val_snoc, h.len, val_take_succ, val_take_succ, Nat.add_assoc, split_pow]
    have := h.eq
    rw [Nat.mul_add, Nat.mul_add]
    omega
  · have : c + a.getD i 0 + b.getD i 0 < LB * 2 := by omega
    have := Nat.div_lt_of_lt_mul this
    omega
theorem AddI.done {a b : List Nat} {i : Nat} {out : List Nat} {c : Nat} (h : AddI a b i out c) (ha : a.length ≤ i) (hb : b.length ≤ i) (hc : c = 0) : trim out = dig (val a + val b) := by
  have := h.eq
  rw [List.take_of_length_le ha, List.take_of_length_le hb, hc, Nat.mul_zero, Nat.add_zero] at this
  unfold trim
  rw [this]
/-- taking away, i limbs far -/
structure SubI (a b : List Nat) (i : Nat) (out : List Nat) (c : Nat) : Prop where
  lim : Lim out
  len : out.length = i
  eq : val out + val (b.take i) = val (a.take i) + LB ^ i * c
  c1 : c ≤ 1
theorem SubI.start (a b : List Nat) : SubI a b 0 [] 0 := ⟨Lim.nil, rfl, by simp [val], by omega⟩
/-- a round that takes no more than there is -/
theorem SubI.stepNo {a b : List Nat} {i : Nat} {out : List Nat} {c : Nat} (h : SubI a b i out c) (ha : Lim a) (hle : c + b.getD i 0 ≤ a.getD i 0) :
    SubI a b (i + 1) (out ++ [a.getD i 0 - c - b.getD i 0]) 0 := by
  have h1 := ha.getD i
  refine ⟨h.lim.append (Lim.cons (by omega) Lim.nil), by simp [h.len], ?_, by omega⟩
  rw [val_snoc, h.len, val_take_succ, val_take_succ, Nat.mul_zero, Nat.add_zero]
  have := h.eq
  obtain ⟨d, hd⟩ : ∃ d, a.getD i 0 = d + c + b.getD i 0 := ⟨a.getD i 0 - c - b.getD i 0, by omega⟩
  rw [show a.getD i 0 - c - b.getD i 0 = d by omega, hd, Nat.mul_add, Nat.mul_add]
  omega
/-- a round that borrows -/
theorem SubI.stepYes {a b : List Nat} {i : Nat} {out : List Nat} {c : Nat} (h : SubI a b i out c) (ha : Lim a) (hb : Lim b) (hlt : a.getD i 0 < c + b.getD i 0) :
    SubI a b (i + 1) (out ++ [a.getD i 0 + LB - c - b.getD i 0]) 1 := by
  have h1 := ha.getD i
  have h2 := hb.getD i
  have h3 := h.c1
  refine ⟨h.lim.append (Lim.cons (by omega) Lim.nil), by simp [h.len], ?_, by omega⟩
  rw [val_snoc, h.len, val_take_succ, val_take_succ, Nat.mul_one, Nat.pow_succ]
  have := h.eq
  obtain ⟨d, hd⟩ : ∃ d, a.getD i 0 + LB = d + c + b.getD i 0 := ⟨a.getD i 0 + LB - c - b.getD i 0, by omega⟩
  rw [show a.getD i 0 + LB - c - b.getD i 0 = d by omega]
  have e : LB ^ i * (a.getD i 0 + LB) = LB ^ i * (d + c + b.getD i 0) := by rw [hd]
  rw [Nat.mul_add, Nat.mul_add, Nat.mul_add] at e
  omega
theorem SubI.done {a b : List Nat} {i : Nat} {out : List Nat} {c : Nat} (h : SubI a b i out c) (ha : a.length = i) (hb : b.length ≤ i) (hle : val b ≤ val a) : trim out = dig (val a - val b) := by
  have h1 := h.eq
  rw [List.take_of_length_le hb, List.take_of_length_le (show a.length ≤ i by omega)] at h1
  have h2 := val_lt h.lim
  rw [h.len] at h2
  have h3 := h.c1
  have hc : c = 0 := by
    rcases Nat.eq_zero_or_pos c with h4 | h4
    · exact h4
    · exfalso
      have : c = 1 := by omega
      subst this
      omega
  subst hc
  unfold trim
  congr 1
  omega
theorem nrm_len_le {a b : List Nat} (ha : Nrm a) (hb : Nrm b) (h : val b ≤ val a) : b.length ≤ a.length := by
  have h1 := val_lt ha.1
  have h2 := dig_len_le (n := val b) (k := a.length) (by omega)
  rw [dig_val hb] at h2
  exact h2
/-- how two numbers lie, as -1, 0, 1 -/
def cmpN (x y : Nat) : Int := if x < y then -1 else if y < x then 1 else 0
theorem cmp_short {a b : List Nat} (ha : Nrm a) (hb : Nrm b) (h : a.length < b.length) : val a < val b := by
  by_cases hlt : val a < val b
  · exact hlt
  · have := nrm_len_le ha hb (by omega)
    omega
theorem cmp_at {a b : List Nat} {i : Nat} (ha : Lim a) (hi : i < a.length) (hl : a.length = b.length) (he : a.drop (i + 1) = b.drop (i + 1)) (h : a.getD i 0 < b.getD i 0) : val a < val b := by
  have e1 : val a = val (a.take i) + LB ^ i * val (a.drop i) := by
    have := val_append (a.take i) (a.drop i)
    rw [List.take_append_drop, List.length_take, Nat.min_eq_left (Nat.le_of_lt hi)] at this
    exact this
  have e2 : val b = val (b.take i) + LB ^ i * val (b.drop i) := by
    have := val_append (b.take i) (b.drop i)
    rw [List.take_append_drop, List.length_take, Nat.min_eq_left (by omega)] at this
    exact this
  have h1 := val_lt (ha.take i)
  rw [List.length_take, Nat.min_eq_left (Nat.le_of_lt hi)] at h1
  rw [e1, e2, val_drop_getD a i hi, val_drop_getD b i (by omega), he]
  have h2 : LB ^ i * (a.getD i 0 + LB * val (b.drop (i + 1)) + 1) ≤ LB ^ i * (b.getD i 0 + LB * val (b.drop (i + 1))) := Nat.mul_le_mul (Nat.le_refl _) (by omega)
  rw [Nat.mul_add _ _ 1] at h2
  omega
theorem drop_step {a b : List Nat} {i : Nat} (hi : i < a.length) (hl : a.length = b.length) (he : a.drop (i + 1) = b.drop (i + 1)) (h : a.getD i 0 = b.getD i 0) : a.drop i = b.drop i := by
  rw [List.drop_eq_getElem_cons hi, List.drop_eq_getElem_cons (show i < b.length by omega), he]
  congr 1
  simpa [List.getD, hi, show i < b.length by omega] using h
end Go.Proofs.Ytpcpahgflkjnaaa.M2
