/- Proved: the contract of the program's DivWholes, of good numbers: the quotient downwards and what is left. -/
import Derived.Test.YtafcffnpobdhgaaImpDivC
import Derived.Test.YtafcffnpobdhgaaDzc
import Derived.Test.YtafcffnpobdhgaaKS
import Derived.Test.YtafcffnpobdhgaaKC
namespace Go.Proofs.Ytafcffnpobdhgaa
open M2
set_option linter.unusedVariables false
set_option linter.unusedSimpArgs false
theorem whole_anyD (neg : Bool) (k : Nat) (w : World) (hn : cnt k ≤ 80) :
    Calls Try.prog 47 #[.bool neg, .agg (szV k)] w fun e w' => ∃ v, e = .returned (.agg #[.bool (neg && decide (k ≠ 0)), v]) ∧ Old w w' ∧ Own w' w.heap.size v (toI (dig k)) := by
  by_cases h0 : k = 0
  · subst h0
    refine (whole_none neg w).mono ?_
    rintro e w' ⟨rfl, g⟩
    refine ⟨.slice none 0 0, by simp, g, ?_⟩
    rw [dig_zero]
    exact own_nilD _ _
  · refine (whole_some neg k w h0 hn).mono ?_
    rintro e w' ⟨v, rfl, g, o⟩
    exact ⟨v, by simp [h0], g, o⟩
theorem impl_div_good (n : Bool) (xs ys : List Int) (v u : Value) (w : World) (hv : Row w v xs) (hu : Row w u ys) (hga : Good n xs) (hgb : Good false ys) (h0 : ys.length ≠ 0) :
    Calls Try.prog 17 #[.agg #[.bool n, v], .agg #[.bool false, u]] w fun e w' => ∃ v1 v2, e = .returned (.tuple #[.agg #[.bool (ng (sv n (nat xs) / (val (nat ys) : Int))), v1], .agg #[.bool false, v2], .bool true]) ∧ Old w w' ∧ Own w' w.heap.size v1 (toI (dg (sv n (nat xs) / (val (nat ys) : Int)))) ∧ Own w' w.heap.size v2 (toI (dg (sv n (nat xs) % (val (nat ys) : Int)))) ∧ ∀ b, v1.ownBlock = some b → v2.ownBlock = some b → False := by
  obtain ⟨c0, cap0, rfl⟩ := hv.slice
  obtain ⟨c1, cap1, rfl⟩ := hu.slice
  obtain ⟨ex, gx, lx⟩ := good_gw hga
  obtain ⟨ey, gy, ly⟩ := good_gw hgb
  have ca := cnt_nrm gx.1
  have cb := cnt_nrm gy.1
  have hb : 0 < val (nat ys) := by
    rcases Nat.eq_zero_or_pos (val (nat ys)) with h | h
    · have := val_zero_of gy.1 h
      exact absurd (by rw [← nat_len, this]; rfl) h0
    · exact h
  have ha40 : cnt (val (nat xs)) ≤ 40 := by omega
  have hb40 : cnt (val (nat ys)) ≤ 40 := by omega
  have hq40 : cnt (val (nat xs) / val (nat ys)) ≤ 40 := Nat.le_trans (cnt_mono (Nat.div_le_self _ _)) ha40
  have hr40 : cnt (val (nat xs) % val (nat ys)) ≤ 40 := Nat.le_trans (cnt_mono (Nat.mod_le _ _)) ha40
  have cga := fun W (h : Row W (.slice c0 xs.length cap0) xs) => good_impl n xs _ W h (by rw [← nat_len]; omega)
  rw [decide_eq_true hga] at cga
  have cgb := fun W (h : Row W (.slice c1 ys.length cap1) ys) => good_impl false ys _ W h (by rw [← nat_len]; omega)
  rw [decide_eq_true hgb] at cgb
  have csa := fun W (h : Row W (.slice c0 xs.length cap0) xs) => sizeOf_sz n (nat xs) _ W (by rw [ex]; exact h) gx.1 (by omega)
  have csb := fun W (h : Row W (.slice c1 ys.length cap1) ys) => sizeOf_sz false (nat ys) _ W (by rw [ey]; exact h) gy.1 (by omega)
  have cl := fun W => divide_sz (val (nat xs)) (val (nat ys)) W ha40 hb40 hb
  generalize val (nat ys) = b at *
  have hsv : sv n (nat xs) = if n then -((val (nat xs) : Nat) : Int) else ((val (nat xs) : Nat) : Int) := rfl
  generalize sv n (nat xs) = z at *
  generalize val (nat xs) = a at *
  have hdm := Nat.div_add_mod a b
  have hml := Nat.mod_lt a hb
  by_cases hc : n = false ∨ a % b = 0
  · have hz : z / (b : Int) = (if n then -((a / b : Nat) : Int) else ((a / b : Nat) : Int)) ∧ z % (b : Int) = ((a % b : Nat) : Int) := by
      cases n with
      | false => simp at hsv; subst hsv; simp
      | true =>
        have hm : a % b = 0 := by rcases hc with h | h; cases h; exact h
        simp at hsv
        subst hsv
        have hd : (b : Int) ∣ (a : Int) := Int.ofNat_dvd.2 (Nat.dvd_of_mod_eq_zero hm)
        refine ⟨?_, ?_⟩
        · simp [Int.neg_ediv_of_dvd hd]
        · rw [hm]; simp [Int.emod_eq_zero_of_dvd (Int.dvd_neg.2 hd)]
    have e1 : ng (z / (b : Int)) = (n && decide (a / b ≠ 0)) := by
      rw [hz.1]
      clear hz hdm
      generalize a / b = q
      unfold ng
      cases n with
      | false => exact decide_eq_false (show ¬ ((q : Nat) : Int) < 0 by omega)
      | true =>
        rw [Bool.true_and]
        exact decide_eq_decide.2 (show (-((q : Nat) : Int) < 0 ↔ q ≠ 0) by omega)
    have e2 : dg (z / (b : Int)) = dig (a / b) := by
      rw [hz.1]; generalize a / b = q; unfold dg; cases n <;> simp
    have e3 : dg (z % (b : Int)) = dig (a % b) := by rw [hz.2]; rfl
    rw [e1, e2, e3]
    refine impl_div_low n _ xs ys _ _ c0 c1 cap0 cap1 _ _ _ _ _ _ _ _ w hv hu h0 (pad_len' hb40 (by omega)) (pad_len' hq40 (by omega)) (pad_len' hr40 (by omega)) cga cgb csa csb cl (fun W => whole_anyD n (a / b) W (by omega)) (fun W => ?_) ?_
    · have := whole_anyD false (a % b) W (by omega)
      simp only [Bool.false_and] at this
      exact this
    · rcases hc with h | h
      · exact Or.inl h
      · right; rw [h]; exact cnt_zero
  · have hn : n = true := by cases n with | false => exact absurd (Or.inl rfl) hc | true => rfl
    have hm : a % b ≠ 0 := fun h => hc (Or.inr h)
    subst hn
    simp at hsv
    have hz : z / (b : Int) = -((a / b + 1 : Nat) : Int) ∧ z % (b : Int) = ((b - a % b : Nat) : Int) := by
      have hcast : ((b - a % b : Nat) : Int) = (b : Int) - ((a % b : Nat) : Int) := by omega
      have hsum : (a : Int) = (b : Int) * ((a / b : Nat) : Int) + ((a % b : Nat) : Int) := by
        have := congrArg (fun k : Nat => (k : Int)) hdm
        simpa using this.symm
      have hkey : z = (b : Int) * (-((a / b + 1 : Nat) : Int)) + ((b - a % b : Nat) : Int) := by
        rw [hcast, hsv, hsum]
        rw [Int.natCast_add, Int.mul_neg, Int.mul_add]
        simp
        omega
      have hb' : (b : Int) ≠ 0 := by omega
      have h1 : (0 : Int) ≤ ((b - a % b : Nat) : Int) := by omega
      have h2 : ((b - a % b : Nat) : Int) < (b : Int) := by omega
      refine ⟨?_, ?_⟩
      · rw [hkey, Int.add_comm, Int.add_mul_ediv_left _ _ hb', Int.ediv_eq_zero_of_lt h1 h2, Int.zero_add]
      · rw [hkey, Int.add_comm, Int.add_mul_emod_self_left, Int.emod_eq_of_lt h1 h2]
    have e1 : ng (z / (b : Int)) = (true && decide (a / b + 1 ≠ 0)) := by
      rw [hz.1]; clear hz hdm; generalize a / b = q; unfold ng; simp
    have e2 : dg (z / (b : Int)) = dig (a / b + 1) := by
      rw [hz.1]; generalize a / b = q; unfold dg; rw [Int.natAbs_neg]; rfl
    have e3 : dg (z % (b : Int)) = dig (b - a % b) := by rw [hz.2]; rfl
    have hq41 : cnt (a / b + 1) ≤ 41 := Nat.le_trans (cnt_add (a / b) 1 hq40 (Nat.le_trans (cnt_word (by omega)) (by omega))) (Nat.le_refl _)
    have hrr : cnt (b - a % b) ≤ 40 := Nat.le_trans (cnt_mono (Nat.sub_le _ _)) hb40
    rw [e1, e2, e3]
    refine impl_div_up _ xs ys _ _ c0 c1 cap0 cap1 _ _ _ _ _ _ _ _ _ _ _ _ _ _ w hv hu h0 (pad_len' hb40 (by omega)) (pad_len' hq40 (by omega)) (pad_len' hr40 (by omega)) (pad_len' hq41 (by omega)) (pad_len' hrr (by omega)) cga cgb csa csb cl (fun W => ofWord_sz 1 W (by omega)) (fun W => add_sz (a / b) 1 W (by omega) (Nat.le_trans (cnt_word (by omega)) (by omega))) (fun W => less_sz b (a % b) W (by omega) (by omega)) (fun W => whole_anyD true (a / b + 1) W (by omega)) (fun W => ?_) ?_
    · have := whole_anyD false (b - a % b) W (by omega)
      simp only [Bool.false_and] at this
      exact this
    · have := cnt_pos hm
      omega
end Go.Proofs.Ytafcffnpobdhgaa
