/- Proved: what one round of dividing limbs bit by bit does; no program in sight. -/
import Derived.Test.YtpcpahgflkjnaaaMtwod
namespace Go.Proofs.Ytpcpahgflkjnaaa.M2
set_option linter.unusedVariables false
/-- what has been brought down: the limbs above, and of x the bits from t on -/
def down (V x t : Nat) : Nat := V * 2 ^ (28 - t) + x / 2 ^ t
theorem down_start (V x : Nat) (hx : x < LB) : down V x 28 = V := by
  unfold down
  have e : (2 : Nat) ^ 28 = LB := by decide
  rw [e, Nat.div_eq_of_lt hx]
  simp
theorem down_end (V x : Nat) : down V x 0 = x + LB * V := by
  unfold down
  have e : (2 : Nat) ^ 28 = LB := by decide
  simp
  rw [show (268435456 : Nat) = LB from rfl, Nat.mul_comm V LB]
  omega
theorem down_step (V x t : Nat) (ht : t < 28) : down V x t = 2 * down V x (t + 1) + x / 2 ^ t % 2 := by
  unfold down
  have e1 : (2 : Nat) ^ (28 - t) = 2 * 2 ^ (28 - (t + 1)) := by
    rw [show 28 - t = (28 - (t + 1)) + 1 by omega, Nat.pow_succ, Nat.mul_comm]
  have e2 : x / 2 ^ (t + 1) = x / 2 ^ t / 2 := by rw [Nat.pow_succ, Nat.div_div_eq_div_mul]
  rw [e1, e2]
  have := Nat.div_add_mod (x / 2 ^ t) 2
  have e3 : V * (2 * 2 ^ (28 - (t + 1))) = 2 * (V * 2 ^ (28 - (t + 1))) := Nat.mul_left_comm _ _ _
  rw [e3]
  omega
/-- dividing by D: the limbs above j are done, of the limb at j the bits from t on; o is its quotient so far, R what is left -/
structure BitI (xs : List Nat) (D j t : Nat) (qs : List Nat) (o R : Nat) : Prop where
  lim : Lim qs
  len : j + 1 + qs.length = xs.length
  q : val qs = val (xs.drop (j + 1)) / D
  r : R = down (val (xs.drop (j + 1))) (xs.getD j 0) t % D
  oq : LB * val qs + o = down (val (xs.drop (j + 1))) (xs.getD j 0) t / D * 2 ^ t
theorem BitI.start {xs : List Nat} {D j : Nat} {out : List Nat} {R : Nat} (h : DivI xs D (j + 1) out R) (hx : Lim xs) : ∃ qs, out = List.replicate j 0 ++ 0 :: qs ∧ BitI xs D j 28 qs 0 R := by
  obtain ⟨qs, e, hq, hl, hv⟩ := h.qs
  refine ⟨qs, ?_, hq, hl, hv, ?_, ?_⟩
  · rw [e, show List.replicate (j + 1) 0 = List.replicate j 0 ++ [0] by rw [← List.replicate_append_replicate]; rfl, List.append_assoc]
    rfl
  · rw [down_start _ _ (hx.getD j)]
    exact h.r_eq
  · rw [down_start _ _ (hx.getD j), ← hv, Nat.add_zero, Nat.mul_comm]
    rfl
theorem half_facts (H D b : Nat) (hD : 0 < D) (hb : b ≤ 1) :
    (2 * (H % D) + b < D → (2 * H + b) / D = 2 * (H / D) ∧ (2 * H + b) % D = 2 * (H % D) + b) ∧
    (¬ 2 * (H % D) + b < D → (2 * H + b) / D = 2 * (H / D) + 1 ∧ (2 * H + b) % D = 2 * (H % D) + b - D) := by
  have e := Nat.div_add_mod H D
  have hm : H % D < D := Nat.mod_lt _ hD
  generalize H / D = Q at *
  generalize H % D = M at *
  have e1 : 2 * H + b = D * (2 * Q) + (2 * M + b) := by
    rw [← e, Nat.mul_add, Nat.mul_left_comm]
    omega
  constructor
  · intro h
    rw [e1]
    exact ⟨by rw [Nat.mul_add_div hD, Nat.div_eq_of_lt h, Nat.add_zero], by rw [Nat.mul_add_mod, Nat.mod_eq_of_lt h]⟩
  · intro h
    have e2 : 2 * H + b = D * (2 * Q + 1) + (2 * M + b - D) := by
      rw [Nat.mul_add, Nat.mul_one]
      omega
    have h3 : 2 * M + b - D < D := by omega
    rw [e2]
    exact ⟨by rw [Nat.mul_add_div hD, Nat.div_eq_of_lt h3, Nat.add_zero], by rw [Nat.mul_add_mod, Nat.mod_eq_of_lt h3]⟩
theorem BitI.no {xs : List Nat} {D j t : Nat} {qs : List Nat} {o R : Nat} (h : BitI xs D j (t + 1) qs o R) (hD : 0 < D) (ht : t < 28) (hlt : 2 * R + xs.getD j 0 / 2 ^ t % 2 < D) :
    BitI xs D j t qs o (2 * R + xs.getD j 0 / 2 ^ t % 2) := by
  have f := (half_facts (down (val (xs.drop (j + 1))) (xs.getD j 0) (t + 1)) D (xs.getD j 0 / 2 ^ t % 2) hD (by omega)).1 (by rw [← h.r]; exact hlt)
  rw [← down_step _ _ t ht, ← h.r] at f
  refine ⟨h.lim, h.len, h.q, f.2.symm, ?_⟩
  rw [f.1, h.oq, Nat.pow_succ]
  grind
theorem BitI.yes {xs : List Nat} {D j t : Nat} {qs : List Nat} {o R : Nat} (h : BitI xs D j (t + 1) qs o R) (hD : 0 < D) (ht : t < 28) (hge : ¬ 2 * R + xs.getD j 0 / 2 ^ t % 2 < D) :
    BitI xs D j t qs (o + 2 ^ t) (2 * R + xs.getD j 0 / 2 ^ t % 2 - D) := by
  have f := (half_facts (down (val (xs.drop (j + 1))) (xs.getD j 0) (t + 1)) D (xs.getD j 0 / 2 ^ t % 2) hD (by omega)).2 (by rw [← h.r]; exact hge)
  rw [← down_step _ _ t ht, ← h.r] at f
  refine ⟨h.lim, h.len, h.q, f.2.symm, ?_⟩
  have := h.oq
  rw [f.1, Nat.add_mul, Nat.one_mul, ← Nat.add_assoc, this, Nat.pow_succ]
  grind
theorem BitI.lt {xs : List Nat} {D j t : Nat} {qs : List Nat} {o R : Nat} (h : BitI xs D j t qs o R) (hD : 0 < D) (ht : t ≤ 28) (hx : Lim xs) : o < LB := by
  have h1 := h.oq
  have h2 := h.q
  have hxj := hx.getD j
  generalize val (xs.drop (j + 1)) = V at *
  generalize xs.getD j 0 = x at *
  have b1 : down V x t / D * D ≤ down V x t := Nat.div_mul_le_self _ _
  have b2 : down V x t * 2 ^ t ≤ V * LB + x := by
    unfold down
    rw [Nat.add_mul, Nat.mul_assoc, ← Nat.pow_add, show 28 - t + t = 28 by omega]
    have := Nat.div_mul_le_self x (2 ^ t)
    have e : (2 : Nat) ^ 28 = LB := by decide
    rw [e]
    omega
  have b3 : V + 1 ≤ (V / D + 1) * D := by
    have := Nat.div_add_mod V D
    have := Nat.mod_lt V hD
    rw [Nat.add_mul, Nat.one_mul, Nat.mul_comm (V / D) D]
    omega
  have b4 : (V + 1) * LB ≤ (V / D + 1) * D * LB := Nat.mul_le_mul b3 (Nat.le_refl _)
  have b5 : down V x t / D * D * 2 ^ t ≤ down V x t * 2 ^ t := Nat.mul_le_mul b1 (Nat.le_refl _)
  rw [Nat.add_mul, Nat.one_mul] at b4
  have b6 : down V x t / D * 2 ^ t * D < (V / D + 1) * LB * D := by
    have e1 : down V x t / D * 2 ^ t * D = down V x t / D * D * 2 ^ t := by grind
    have e2 : (V / D + 1) * LB * D = (V / D + 1) * D * LB := by grind
    rw [e1, e2]
    omega
  have b7 : down V x t / D * 2 ^ t < (V / D + 1) * LB := Nat.lt_of_mul_lt_mul_right b6
  rw [← h1, h2, Nat.add_mul, Nat.one_mul, Nat.mul_comm LB] at b7
  omega
theorem BitI.done {xs : List Nat} {D j : Nat} {qs : List Nat} {o R : Nat} (h : BitI xs D j 0 qs o R) (hD : 0 < D) (hx : Lim xs) : DivI xs D j (List.replicate j 0 ++ o :: qs) R := by
  have hj : j < xs.length := by have := h.len; omega
  have hlt := h.lt hD (by omega) hx
  have e := val_drop_getD xs j hj
  refine ⟨⟨o :: qs, rfl, Lim.cons hlt h.lim, by have := h.len; simp; omega, ?_⟩, ?_⟩
  · have := h.oq
    rw [down_end, ← e, Nat.pow_zero, Nat.mul_one] at this
    rw [← this]
    show o + LB * val qs = LB * val qs + o
    omega
  · rw [h.r, down_end, e]
theorem get_mid (j o : Nat) (qs : List Nat) : (List.replicate j 0 ++ o :: qs).getD j 0 = o := by
  simp [List.getD]
theorem set_mid (j o y : Nat) (qs : List Nat) : (List.replicate j 0 ++ o :: qs).set j y = List.replicate j 0 ++ y :: qs := by
  rw [List.set_append_right _ _ (by simp), List.length_replicate, Nat.sub_self]
  rfl
end Go.Proofs.Ytpcpahgflkjnaaa.M2
