/- Proved: what a text of digits is worth, and what is told of a text. -/
import Derived.Test.YtjedpceiimceoaaDoorV17
import Derived.Test.YtjedpceiimceoaaDoorV15
import Derived.Test.YtjedpceiimceoaaDoorV08
import Derived.Test.YtjedpceiimceoaaDoorV07
namespace Go.Proofs.YtjedpceiimceoaaDoor
open Go.ChangeShapes Go.WideShapes Go.ChangeAt Go.RowKit
open M2
set_option linter.unusedVariables false
set_option linter.unusedSimpArgs false
def rdV (D : ByteArray) : Nat → Nat
  | 0 => 0
  | k + 1 => rdV D k * 10 + (byt D k - 48)
theorem rdV_mono (D : ByteArray) {k n : Nat} (h : k ≤ n) : rdV D k ≤ rdV D n := by
  induction n with
  | zero => have : k = 0 := by omega
            subst this; exact Nat.le_refl _
  | succ n ih =>
    rcases Nat.lt_or_ge k (n + 1) with h1 | h1
    · refine Nat.le_trans (ih (by omega)) ?_
      show rdV D n ≤ rdV D n * 10 + _
      omega
    · have : k = n + 1 := by omega
      subst this; exact Nat.le_refl _
theorem rdV_big (D : ByteArray) (h : 49 ≤ byt D 0) : ∀ k, 10 ^ k ≤ rdV D (k + 1)
  | 0 => by
    show 1 ≤ 0 * 10 + (byt D 0 - 48)
    omega
  | k + 1 => by
    have := rdV_big D h k
    show 10 ^ (k + 1) ≤ rdV D (k + 1) * 10 + _
    rw [Nat.pow_succ]
    omega
theorem rdV_zero (D : ByteArray) (h : 0 < D.size) (h0 : rdV D D.size = 0) (h1 : 48 ≤ byt D 0) : byt D 0 = 48 := by
  rcases Nat.lt_or_ge (byt D 0) 49 with h2 | h2
  · omega
  · have := rdV_big D h2 (D.size - 1)
    rw [show D.size - 1 + 1 = D.size by omega, h0] at this
    have := Nat.pow_pos (n := D.size - 1) (show 0 < 10 by omega)
    omega
theorem allDg_at (s : ByteArray) : ∀ n, n ≤ s.size → allDg s n = true → ∀ k, s.size - n ≤ k → k < s.size → isDg (byt s k) = true
  | 0, _, _, k, h1, h2 => by omega
  | n + 1, hn, h, k, h1, h2 => by
    have h' : (isDg (byt s (s.size - (n + 1))) && allDg s n) = true := h
    rw [Bool.and_eq_true] at h'
    rcases Nat.lt_or_ge k (s.size - n) with h3 | h3
    · rw [show k = s.size - (n + 1) by omega]
      exact h'.1
    · exact allDg_at s n (by omega) h'.2 k h3 h2
theorem numB_yes {D : ByteArray} (h : numB D = true) : 0 < D.size ∧ (byt D 0 = 48 → D.size = 1) ∧ ∀ k, k < D.size → 48 ≤ byt D k ∧ byt D k ≤ 57 := by
  unfold numB at h
  simp only [Bool.and_eq_true, decide_eq_true_eq, Bool.not_eq_true', Bool.and_eq_false_iff, beq_eq_false_iff_ne, ne_eq, decide_eq_false_iff_not] at h
  refine ⟨h.1.1, fun h48 => ?_, fun k hk => ?_⟩
  · rcases h.1.2 with h1 | h1
    · exact absurd h48 h1
    · have := h.1.1
      omega
  · have := allDg_at D D.size (Nat.le_refl _) h.2 k (by omega) hk
    unfold isDg at this
    simp only [Bool.and_eq_true, decide_eq_true_eq] at this
    exact this
theorem toList_one (D : ByteArray) : (D.toList == [48]) = (decide (D.size = 1) && (byt D 0 == 48)) := by
  by_cases h1 : D.size = 1
  · have hd : D.data.size = 1 := h1
    have e : D.toList = [D[0]'(by omega)] := by
      rw [ByteArray.toList_eq]
      apply List.ext_getElem
      · simp [hd]
      · intro i h2 h3
        simp at h3
        subst h3
        simp
        rfl
    rw [e, decide_eq_true h1, Bool.true_and]
    unfold byt
    rw [dif_pos (by omega)]
    generalize D[0] = x
    by_cases hx : x = 48
    · subst hx
      rfl
    · have h1 : ¬ x.toNat = 48 := fun h => hx (UInt8.toNat_inj.1 h)
      rw [show ([x] == [48]) = false by simpa using hx, show (x.toNat == 48) = false by simpa using h1]
  · rw [decide_eq_false h1, Bool.false_and]
    have : D.toList ≠ [48] := fun h => by
      rw [ByteArray.toList_eq] at h
      have h2 : D.data.toList.length = 1 := by rw [h]; rfl
      rw [Array.length_toList] at h2
      exact h1 h2
    simpa using this
def rdB (s : ByteArray) : Bool := numB (dgT s) && !(sgB s && ((dgT s).toList == [48]))
def rdW (s : ByteArray) : Bool × List Nat × Bool := if rdB s = true ∧ cnt (rdV (dgT s) (dgT s).size) ≤ 40 then (sgB s, dig (rdV (dgT s) (dgT s).size), true) else nought
theorem rdB_zero {s : ByteArray} (h : rdB s = true) (h0 : rdV (dgT s) (dgT s).size = 0) : sgB s = false := by
  unfold rdB at h
  rw [Bool.and_eq_true] at h
  obtain ⟨h1, h2, h3⟩ := numB_yes h.1
  have e := rdV_zero _ h1 h0 (h3 0 h1).1
  have e1 := h2 e
  have h4 := h.2
  rw [toList_one, decide_eq_true e1, e] at h4
  simpa using h4
theorem dgT_size (s : ByteArray) : (dgT s).size ≤ s.size := by
  unfold dgT
  split
  · rw [ByteArray.size_extract]
    omega
  · exact Nat.le_refl _
end Go.Proofs.YtjedpceiimceoaaDoor
