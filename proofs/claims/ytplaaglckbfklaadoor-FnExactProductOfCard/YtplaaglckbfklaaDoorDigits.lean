/- Proved: the digits of a long division by halves of a word are the true ones; no program in sight. -/
namespace Go.Proofs.YtplaaglckbfklaaDoor.M1
/-- what holds of a guessed digit q and what is left r of u over the high half y1, where the digit is of u, v over y1, y0 -/
structure Dig (u v y1 y0 q r : Nat) : Prop where
  eq : q * y1 + r = u
  ge : (u * 4294967296 + v) / (y1 * 4294967296 + y0) ≤ q
structure Half (u v y1 y0 : Nat) : Prop where
  y1lo : 2147483648 ≤ y1
  y1hi : y1 < 4294967296
  y0hi : y0 < 4294967296
  vhi : v < 4294967296
  ult : u < y1 * 4294967296 + y0
theorem div_lt_K (u v Y K : Nat) (hv : v < K) (hu : u < Y) : (u * K + v) / Y < K := by
  apply Nat.div_lt_of_lt_mul
  have : (u + 1) * K ≤ Y * K := Nat.mul_le_mul_right _ (by omega)
  rw [Nat.add_mul] at this
  omega
theorem Half.Qlt {u v y1 y0 : Nat} (h : Half u v y1 y0) : (u * 4294967296 + v) / (y1 * 4294967296 + y0) < 4294967296 :=
  div_lt_K u v _ 4294967296 h.vhi h.ult
theorem Dig.start {u v y1 y0 : Nat} (h : Half u v y1 y0) : Dig u v y1 y0 (u / y1) (u - u / y1 * y1) ∧ u / y1 * y1 ≤ u ∧ u - u / y1 * y1 < 4294967296 ∧ u / y1 ≤ 4294967297 := by
  obtain ⟨h1, h2, h3, h4, h5⟩ := h
  have e := Nat.div_add_mod u y1
  have m := Nat.mod_lt u (show y1 > 0 by omega)
  rw [Nat.mul_comm] at e
  refine ⟨⟨by omega, ?_⟩, by omega, by omega, ?_⟩
  · rw [Nat.le_div_iff_mul_le (by omega)]
    have hq := Nat.div_mul_le_self (u * 4294967296 + v) (y1 * 4294967296 + y0)
    generalize (u * 4294967296 + v) / (y1 * 4294967296 + y0) = Q at *
    have e2 : Q * (y1 * 4294967296 + y0) = Q * y1 * 4294967296 + Q * y0 := by grind
    generalize Q * y1 = a at *
    generalize Q * y0 = b at *
    omega
  · rw [Nat.div_le_iff_le_mul_add_pred (by omega)]
    omega
theorem Dig.more {u v y1 y0 q r : Nat} (h : Half u v y1 y0) (d : Dig u v y1 y0 q r) (hc : 4294967296 ≤ q ∨ 4294967296 * r + v < q * y0) : 1 ≤ q ∧ Dig u v y1 y0 (q - 1) (r + y1) := by
  have hQ := h.Qlt
  have hm : 1 ≤ q ∧ (q - 1) * y1 + (r + y1) = u ∧ (u * 4294967296 + v) / (y1 * 4294967296 + y0) ≤ q - 1 := ?_
  · exact ⟨hm.1, ⟨hm.2.1, hm.2.2⟩⟩
  obtain ⟨h1, h2, h3, h4, h5⟩ := h
  obtain ⟨e, g⟩ := d
  have hlt : (u * 4294967296 + v) / (y1 * 4294967296 + y0) < q := by
    rcases hc with hc | hc
    · omega
    · rw [Nat.div_lt_iff_lt_mul (by omega)]
      have e2 : q * (y1 * 4294967296 + y0) = q * y1 * 4294967296 + q * y0 := by grind
      rw [e2]
      generalize q * y1 = a at *
      generalize q * y0 = b at *
      omega
  generalize (u * 4294967296 + v) / (y1 * 4294967296 + y0) = Q at *
  refine ⟨by omega, ?_, by omega⟩
  obtain ⟨q', rfl⟩ : ∃ q', q = q' + 1 := ⟨q - 1, by omega⟩
  rw [Nat.add_sub_cancel, Nat.add_mul] at *
  omega
theorem Dig.done {u v y1 y0 q r : Nat} (h : Half u v y1 y0) (d : Dig u v y1 y0 q r) (hc : q * y0 ≤ 4294967296 * r + v) : q = (u * 4294967296 + v) / (y1 * 4294967296 + y0) := by
  obtain ⟨h1, h2, h3, h4, h5⟩ := h
  obtain ⟨e, g⟩ := d
  apply Nat.le_antisymm _ g
  rw [Nat.le_div_iff_mul_le (by omega)]
  have e2 : q * (y1 * 4294967296 + y0) = q * y1 * 4294967296 + q * y0 := by grind
  rw [e2]
  generalize q * y1 = a at *
  generalize q * y0 = b at *
  omega
theorem Dig.broke {u v y1 y0 q r : Nat} (h : Half u v y1 y0) (d : Dig u v y1 y0 q r) (hq : q ≤ 4294967296) (hr : 4294967296 ≤ r) : q = (u * 4294967296 + v) / (y1 * 4294967296 + y0) := by
  have h' := h
  obtain ⟨h1, h2, h3, h4, h5⟩ := h'
  apply d.done h
  have : q * y0 ≤ 4294967296 * y0 := Nat.mul_le_mul_right _ hq
  omega
/-- what is left behind a digit -/
theorem left_over (u v Y : Nat) : u * 4294967296 + v - (u * 4294967296 + v) / Y * Y = (u * 4294967296 + v) % Y ∧ (u * 4294967296 + v) / Y * Y ≤ u * 4294967296 + v := by
  have e := Nat.div_add_mod (u * 4294967296 + v) Y
  rw [Nat.mul_comm] at e
  generalize (u * 4294967296 + v) / Y * Y = a at *
  omega
theorem two_digits (u v1 v0 Y : Nat) : ((u * 4294967296 + v1) % Y * 4294967296 + v0) % Y = (u * 18446744073709551616 + (v1 * 4294967296 + v0)) % Y := by
  rw [Nat.add_mod, Nat.mul_mod, Nat.mod_mod, ← Nat.mul_mod, ← Nat.add_mod]
  have e2 : (u * 4294967296 + v1) * 4294967296 + v0 = u * 18446744073709551616 + (v1 * 4294967296 + v0) := by omega
  rw [e2]
end Go.Proofs.YtplaaglckbfklaaDoor.M1
