/- Proved: what one round of dividing limbs does, by one limb and bit by bit; no program in sight. -/
import Derived.Test.YtpcpahgflkjnaaaMtwoc
namespace Go.Proofs.Ytpcpahgflkjnaaa.M2
set_option linter.unusedVariables false
/-- dividing by d, down to the place k -/
structure DivI (xs : List Nat) (d k : Nat) (out : List Nat) (r : Nat) : Prop where
  qs : ∃ qs, out = List.replicate k 0 ++ qs ∧ Lim qs ∧ k + qs.length = xs.length ∧ val qs = val (xs.drop k) / d
  r_eq : r = val (xs.drop k) % d
theorem DivI.start (xs : List Nat) (d : Nat) : DivI xs d xs.length (List.replicate xs.length 0) 0 :=
  ⟨⟨[], by simp, Lim.nil, by simp, by simp [val]⟩, by simp [val]⟩
theorem DivI.len {xs : List Nat} {d k : Nat} {out : List Nat} {r : Nat} (h : DivI xs d k out r) : out.length = xs.length := by
  obtain ⟨qs, e, _, hl, _⟩ := h.qs
  rw [e]; simp; omega
theorem DivI.lim {xs : List Nat} {d k : Nat} {out : List Nat} {r : Nat} (h : DivI xs d k out r) : Lim out := by
  obtain ⟨qs, e, hq, _, _⟩ := h.qs
  rw [e]; exact (lim_zeros k).append hq
theorem set_head (j y : Nat) (qs : List Nat) : (List.replicate (j + 1) 0 ++ qs).set j y = List.replicate j 0 ++ y :: qs := by
  rw [show List.replicate (j + 1) 0 = List.replicate j 0 ++ [0] by rw [← List.replicate_append_replicate]; rfl, List.append_assoc, List.set_append_right _ _ (by simp), List.length_replicate, Nat.sub_self]
  rfl
theorem div_facts (V d x : Nat) (hd : 0 < d) : (x + LB * V) / d = LB * (V / d) + (V % d * LB + x) / d ∧ (x + LB * V) % d = (V % d * LB + x) % d := by
  have e : x + LB * V = (V % d * LB + x) + d * (LB * (V / d)) := by
    have := Nat.div_add_mod V d
    have h2 : LB * (d * (V / d) + V % d) = LB * V := by rw [this]
    rw [Nat.mul_add] at h2
    have h3 : d * (LB * (V / d)) = LB * (d * (V / d)) := Nat.mul_left_comm _ _ _
    rw [Nat.mul_comm (V % d) LB]
    omega
  rw [e]
  refine ⟨?_, Nat.add_mul_mod_self_left _ _ _⟩
  rw [Nat.add_mul_div_left _ _ hd, Nat.add_comm]
theorem DivI.step {xs : List Nat} {d j : Nat} {out : List Nat} {r : Nat} (h : DivI xs d (j + 1) out r) (hd : 0 < d) (hj : j < xs.length) (hx : Lim xs) :
    DivI xs d j (out.set j ((r * LB + xs.getD j 0) / d)) ((r * LB + xs.getD j 0) % d) ∧ (r * LB + xs.getD j 0) / d < LB := by
  obtain ⟨qs, e, hq, hl, hv⟩ := h.qs
  have hr := h.r_eq
  have hlt : (r * LB + xs.getD j 0) / d < LB := by
    refine Nat.div_lt_of_lt_mul ?_
    have h1 : r < d := by rw [hr]; exact Nat.mod_lt _ hd
    have h2 := hx.getD j
    have h3 : (r + 1) * LB ≤ d * LB := Nat.mul_le_mul h1 (Nat.le_refl _)
    rw [Nat.add_mul] at h3
    omega
  have f := div_facts (val (xs.drop (j + 1))) d (xs.getD j 0) hd
  rw [← val_drop_getD xs j hj, ← hr] at f
  refine ⟨⟨⟨(r * LB + xs.getD j 0) / d :: qs, ?_, Lim.cons hlt hq, by simp; omega, ?_⟩, f.2.symm⟩, hlt⟩
  · rw [e, set_head]
  · rw [f.1]
    show (r * LB + xs.getD j 0) / d + LB * val qs = _
    rw [hv, Nat.add_comm]
theorem DivI.done {xs : List Nat} {d : Nat} {out : List Nat} {r : Nat} (h : DivI xs d 0 out r) : trim out = dig (val xs / d) ∧ r = val xs % d := by
  obtain ⟨qs, e, hq, hl, hv⟩ := h.qs
  refine ⟨?_, h.r_eq⟩
  unfold trim
  rw [e]
  simp at hv ⊢
  rw [hv]
theorem dig_one (r : Nat) (h0 : r ≠ 0) (h : r < LB) : dig r = [r] := by
  rw [dig_pos r h0, Nat.mod_eq_of_lt h, Nat.div_eq_of_lt h, dig_zero]
end Go.Proofs.Ytpcpahgflkjnaaa.M2
