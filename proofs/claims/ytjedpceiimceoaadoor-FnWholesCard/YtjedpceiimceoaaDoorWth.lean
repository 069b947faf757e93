/- Proved: the text of a whole number is read as that number. -/
import Derived.Test.YtjedpceiimceoaaDoorV16
import Derived.Test.YtjedpceiimceoaaDoorRdd
namespace Go.Proofs.YtjedpceiimceoaaDoor
open Go.ChangeShapes Go.WideShapes Go.ChangeAt Go.RowKit
open M2
set_option linter.unusedVariables false
set_option linter.unusedSimpArgs false
theorem byt_list (l : List UInt8) (k : Nat) (h : k < l.length) : byt ⟨l.toArray⟩ k = (l[k]'h).toNat := by
  unfold byt
  rw [dif_pos (by rw [ba_size]; exact h)]
  rfl
theorem byt_snoc (l : List UInt8) (x : UInt8) (k : Nat) (h : k < l.length) : byt ⟨(l ++ [x]).toArray⟩ k = byt ⟨l.toArray⟩ k := by
  rw [byt_list _ k (by simp; omega), byt_list _ k h, List.getElem_append_left h]
theorem byt_last (l : List UInt8) (x : UInt8) : byt ⟨(l ++ [x]).toArray⟩ l.length = x.toNat := by
  rw [byt_list _ _ (by simp)]
  simp
theorem rdV_snoc (l : List UInt8) (x : UInt8) : ∀ k, k ≤ l.length → rdV ⟨(l ++ [x]).toArray⟩ k = rdV ⟨l.toArray⟩ k
  | 0, _ => rfl
  | k + 1, h => by
    show rdV _ k * 10 + (byt _ k - 48) = rdV _ k * 10 + (byt _ k - 48)
    rw [rdV_snoc l x k (by omega), byt_snoc l x k (by omega)]
theorem dig_byte {r : Nat} (h : r < 10) : (UInt8.ofNat (48 + r)).toNat = 48 + r := by
  simp
  omega
theorem dec_read (n : Nat) : rdV ⟨(Lib.decDigits n).toArray⟩ (Lib.decDigits n).length = n ∧ (∀ k, k < (Lib.decDigits n).length → 48 ≤ byt ⟨(Lib.decDigits n).toArray⟩ k ∧ byt ⟨(Lib.decDigits n).toArray⟩ k ≤ 57) ∧ (0 < n → 49 ≤ byt ⟨(Lib.decDigits n).toArray⟩ 0) := by
  induction n using Nat.strongRecOn with
  | ind n ih =>
    by_cases h10 : n < 10
    · have hb : byt ⟨[UInt8.ofNat (48 + n)].toArray⟩ 0 = 48 + n := by
        rw [byt_list _ 0 (by simp)]
        exact dig_byte h10
      rw [dec_lt h10]
      refine ⟨?_, fun k hk => ?_, fun h => ?_⟩
      · show 0 * 10 + (byt _ 0 - 48) = n
        rw [hb]
        omega
      · obtain rfl : k = 0 := by simpa using hk
        rw [hb]
        omega
      · rw [hb]
        omega
    · obtain ⟨i1, i2, i3⟩ := ih (n / 10) (by omega)
      have hx := dig_byte (show n % 10 < 10 by omega)
      rw [dec_ge h10]
      have hlp := dec_len_pos (n / 10)
      refine ⟨?_, fun k hk => ?_, fun h => ?_⟩
      · rw [List.length_append, List.length_singleton]
        show rdV _ _ * 10 + (byt _ _ - 48) = n
        rw [rdV_snoc _ _ _ (Nat.le_refl _), byt_last, i1, hx]
        omega
      · rcases Nat.lt_or_ge k (Lib.decDigits (n / 10)).length with h1 | h1
        · rw [byt_snoc _ _ k h1]
          exact i2 k h1
        · obtain rfl : k = (Lib.decDigits (n / 10)).length := by simp at hk; omega
          rw [byt_last, hx]
          omega
      · rw [byt_snoc _ _ 0 hlp]
        exact i3 (by omega)
theorem allDg_of (s : ByteArray) (h : ∀ k, k < s.size → 48 ≤ byt s k ∧ byt s k ≤ 57) : ∀ n, n ≤ s.size → allDg s n = true
  | 0, _ => rfl
  | n + 1, hn => by
    show (isDg (byt s (s.size - (n + 1))) && allDg s n) = true
    rw [allDg_of s h n (by omega), Bool.and_true]
    have := h (s.size - (n + 1)) (by omega)
    unfold isDg
    simp only [Bool.and_eq_true, decide_eq_true_eq]
    exact this
theorem dec_num (n : Nat) : numB ⟨(Lib.decDigits n).toArray⟩ = true := by
  obtain ⟨h1, h2, h3⟩ := dec_read n
  have hl := dec_len_pos n
  have hs : (⟨(Lib.decDigits n).toArray⟩ : ByteArray).size = (Lib.decDigits n).length := ba_size _
  unfold numB
  rw [allDg_of _ (fun k hk => h2 k (by omega)) _ (Nat.le_refl _), hs, decide_eq_true hl, Bool.and_true, Bool.true_and]
  by_cases h10 : n < 10
  · rw [dec_lt h10]
    simp
  · have := h3 (by omega)
    rw [show (byt ⟨(Lib.decDigits n).toArray⟩ 0 == 48) = false by rw [beq_eq_false_iff_ne]; omega]
    rfl
theorem good_pos {xs : List Int} (h : Good true xs) : 0 < val (nat xs) := by
  obtain ⟨ex, gx, lx⟩ := good_gw h
  rcases Nat.eq_zero_or_pos (val (nat xs)) with h0 | h0
  · exfalso
    have h1 := dig_val gx.1
    rw [h0, dig_zero] at h1
    have h2 : (nat xs).length = 0 := by rw [← h1]; rfl
    rw [nat_len] at h2
    exact h.2.1 ⟨h2, rfl⟩
  · exact h0
theorem read_text {n : Bool} {xs : List Int} {T : ByteArray} (hX : TxI n xs T) (hg : Good n xs) : rdW T = (n, nat xs, true) ∧ (T.toList == []) = false ∧ T.size ≤ 2000 := by
  obtain ⟨ex, gx, lx⟩ := good_gw hg
  obtain ⟨h1, h2, h3⟩ := dec_read (val (nat xs))
  have hl := dec_len_pos (val (nat xs))
  have hs := ba_size (Lib.decDigits (val (nat xs)))
  have hc : cnt (val (nat xs)) ≤ 40 := by rw [cnt_nrm gx.1]; exact lx
  have hln : (Lib.decDigits (val (nat xs))).length ≤ 1001 := dec_len_cnt (by omega)
  have hd : dig (val (nat xs)) = nat xs := dig_val gx.1
  have hN := dec_num (val (nat xs))
  cases n with
  | false =>
    have e := hX.pos hg rfl
    have hsg : sgB T = false := by
      rw [e]
      unfold sgB
      rw [show (byt ⟨(Lib.decDigits (val (nat xs))).toArray⟩ 0 == 45) = false by rw [beq_eq_false_iff_ne]; have := (h2 0 hl).1; omega, Bool.and_false]
    have hdg : dgT T = ⟨(Lib.decDigits (val (nat xs))).toArray⟩ := by unfold dgT; rw [hsg, ← e]; rfl
    refine ⟨?_, ?_, ?_⟩
    · have hB : rdB T = true := by unfold rdB; rw [hdg, hsg, hN]; rfl
      unfold rdW
      rw [hdg, hs, h1, if_pos ⟨hB, hc⟩, hsg, hd]
    · rw [toList_nil, e, hs]
      exact decide_eq_false (by omega)
    · rw [e, hs]; omega
  | true =>
    have e := hX.neg hg rfl
    have hT1 : T.size = (Lib.decDigits (val (nat xs))).length + 1 := by rw [e, ba_size]; rfl
    have hb0 : byt T 0 = 45 := by rw [e, byt_list _ 0 (by simp)]; rfl
    have hsg : sgB T = true := by
      unfold sgB
      rw [hb0, decide_eq_true (by omega)]
      rfl
    have hdg : dgT T = ⟨(Lib.decDigits (val (nat xs))).toArray⟩ := by
      unfold dgT
      rw [hsg, if_pos rfl, hT1, e]
      apply ByteArray.ext
      apply Array.toList_inj.1
      simp
    refine ⟨?_, ?_, ?_⟩
    · have hB : rdB T = true := by
        unfold rdB
        have hp := h3 (good_pos hg)
        rw [hdg, hsg, hN, toList_one, show (byt ⟨(Lib.decDigits (val (nat xs))).toArray⟩ 0 == 48) = false by rw [beq_eq_false_iff_ne]; omega, Bool.and_false]
        rfl
      unfold rdW
      rw [hdg, hs, h1, if_pos ⟨hB, hc⟩, hsg, hd]
    · rw [toList_nil]
      exact decide_eq_false (by omega)
    · omega
end Go.Proofs.YtjedpceiimceoaaDoor
