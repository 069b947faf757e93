/- Proved: the contracts of the program's DivWholes and RoundWholes at any two whole numbers. -/
import Derived.Test.YtafcffnpobdhgaaImpDivD
import Derived.Test.YtafcffnpobdhgaaImpRound
import Derived.Test.YtafcffnpobdhgaaImpAdd
import Derived.Test.YtafcffnpobdhgaaImpOf
import Derived.Test.YtafcffnpobdhgaaExpE
import Derived.Test.YtafcffnpobdhgaaExpD
namespace Go.Proofs.Ytafcffnpobdhgaa
open M2
set_option linter.unusedVariables false
set_option linter.unusedSimpArgs false
theorem nat_toI (xs : List Nat) : nat (toI xs) = xs := by
  apply List.ext_getElem
  · simp [nat, toI]
  · intro i h1 h2
    simp [nat, toI]
theorem gw_good {n : Bool} {xs : List Nat} (h : Gw n xs) (hl : xs.length ≤ 40) : Good n (toI xs) := by
  refine ⟨by rw [toI_len]; exact hl, ?_, ?_⟩
  · rintro ⟨h0, hn⟩
    exact h.2 hn (List.length_eq_zero_iff.1 (by rw [← toI_len]; exact h0))
  · intro j hj
    rw [toI_len] at hj
    have hm : xs.getD j 0 ∈ xs := by simp [List.getD, hj]
    have hb := h.1.1 _ hm
    unfold LB at hb
    refine ⟨?_, ?_⟩
    · rw [toI_get]
      omega
    · rw [toI_get, toI_len]
      rintro ⟨h0, h1⟩
      have hne : xs ≠ [] := by rintro rfl; simp at hj
      apply h.1.2 hne
      rw [List.getLast_eq_getElem]
      have h2 : xs.getD j 0 = 0 := by omega
      have e : xs.length - 1 = j := by omega
      simp only [e]
      rw [← h2]
      simp [List.getD, hj]
theorem dg_div_len {n : Bool} {xs : List Nat} {D : Nat} (hx : Nrm xs) (hl : xs.length ≤ 40) (hD : 0 < D) : (dg (sv n xs / (D : Int))).length ≤ 40 := by
  have h1 : (sv n xs).natAbs = val xs := by cases n <;> simp [sv]
  have h2 : val xs < LB ^ 40 := by
    have := cnt_nrm hx
    have h3 := cnt_lt (val xs)
    exact Nat.lt_of_lt_of_le h3 (Nat.pow_le_pow_right (by decide) (by omega))
  have h4 : (sv n xs / (D : Int)).natAbs ≤ (sv n xs).natAbs := by
    generalize sv n xs = z
    have hd : (1 : Int) ≤ (D : Int) := by omega
    rcases Int.lt_or_le z 0 with hz | hz
    · have h5 : z / (D : Int) < 0 := Int.ediv_neg_of_neg_of_pos hz (by omega)
      have h6 : z ≤ z / (D : Int) := by
        rw [Int.le_ediv_iff_mul_le (by omega)]
        have := Int.mul_le_mul_of_nonpos_left (a := z) (Int.le_of_lt hz) hd
        rw [Int.mul_one] at this
        exact this
      omega
    · have h5 : 0 ≤ z / (D : Int) := Int.ediv_nonneg hz (by omega)
      have h6 : z / (D : Int) ≤ z := Int.ediv_le_self _ hz
      omega
  exact dg_len (by omega)
theorem impl_div_good2 (n : Bool) (xs ys : List Int) (v u : Value) (w : World) (hv : Row w v xs) (hu : Row w u ys) (hga : Good n xs) (hgb : Good false ys) (h0 : ys.length ≠ 0) :
    Calls Try.prog 17 #[.agg #[.bool n, v], .agg #[.bool false, u]] w fun e w' => ∃ v1 v2, e = .returned (.tuple #[.agg #[.bool (ng (sv n (nat xs) / (val (nat ys) : Int))), v1], .agg #[.bool false, v2], .bool true]) ∧ Old w w' ∧ Own w' w.heap.size v1 (toI (dg (sv n (nat xs) / (val (nat ys) : Int)))) ∧ Own w' w.heap.size v2 (toI (dg (sv n (nat xs) % (val (nat ys) : Int)))) :=
  (impl_div_good n xs ys v u w hv hu hga hgb h0).mono (fun e w' h => by
    obtain ⟨v1, v2, h, g, a, b, _⟩ := h
    exact ⟨v1, v2, h, g, a, b⟩)
theorem impl_div_bad (n m : Bool) (xs ys : List Int) (v u : Value) (w : World) (hv : Row w v xs) (hu : Row w u ys) (la : xs.length ≤ 1048576) (lb : ys.length ≤ 1048576) (h : ¬ Dv n m xs ys) :
    Calls Try.prog 17 #[.agg #[.bool n, v], .agg #[.bool m, u]] w fun e w' => ∃ v1 v2, e = .returned (.tuple #[.agg #[.bool false, v1], .agg #[.bool false, v2], .bool false]) ∧ Old w w' ∧ Own w' w.heap.size v1 [] ∧ Own w' w.heap.size v2 [] ∧ ∀ b, v1.ownBlock = some b → v2.ownBlock = some b → False := by
  obtain ⟨c0, cap0, rfl⟩ := hv.slice
  obtain ⟨c1, cap1, rfl⟩ := hu.slice
  have cga := fun W (h : Row W (.slice c0 xs.length cap0) xs) => good_impl n xs _ W h la
  have cgb := fun W (h : Row W (.slice c1 ys.length cap1) ys) => good_impl m ys _ W h lb
  by_cases hga : Good n xs
  · rw [decide_eq_true hga] at cga
    by_cases hgb : Good m ys
    · rw [decide_eq_true hgb] at cgb
      cases m with
      | true => exact impl_div_neg n xs ys c0 c1 cap0 cap1 w hv hu cga cgb
      | false =>
        have h0 : ys.length = 0 := by
          rcases Nat.eq_zero_or_pos ys.length with h1 | h1
          · exact h1
          · exact absurd ⟨⟨hga, hgb⟩, rfl, h1⟩ h
        exact impl_div_nil n xs ys c0 c1 cap0 cap1 w hv hu cga cgb h0
    · rw [decide_eq_false hgb] at cgb
      exact impl_div_no2 n m xs ys c0 c1 cap0 cap1 w hv hu cga cgb
  · rw [decide_eq_false hga] at cga
    exact impl_div_no1 n m xs ys c0 c1 cap0 cap1 w hv hu cga
theorem round_eq (X : Int) (Y : Nat) (hY : 0 < Y) : (2 * X + (Y : Int)) / (2 * (Y : Int)) = if 2 * (X % (Y : Int)) < (Y : Int) then X / (Y : Int) else X / (Y : Int) + 1 := by
  have h1 := Int.emod_add_mul_ediv X (Y : Int)
  have h2 := Int.emod_nonneg X (show (Y : Int) ≠ 0 by omega)
  have h3 := Int.emod_lt_of_pos X (show (0 : Int) < (Y : Int) by omega)
  generalize X % (Y : Int) = r at *
  generalize X / (Y : Int) = q at *
  have e : 2 * X + (Y : Int) = (2 * r + (Y : Int)) + 2 * (Y : Int) * q := by
    rw [← h1, Int.mul_assoc 2 (Y : Int) q]
    generalize (Y : Int) * q = t
    omega
  rw [e, Int.add_mul_ediv_left _ _ (by omega)]
  split
  · rename_i hlt
    rw [Int.ediv_eq_zero_of_lt (by omega) (by omega)]
    omega
  · rename_i hge
    have : (2 * r + (Y : Int)) / (2 * (Y : Int)) = 1 := by
      have e2 : 2 * r + (Y : Int) = (2 * r - (Y : Int)) + 2 * (Y : Int) * 1 := by omega
      rw [e2, Int.add_mul_ediv_left _ _ (by omega), Int.ediv_eq_zero_of_lt (by omega) (by omega)]
      rfl
    rw [this]
    omega
theorem len_round (n m : Bool) (xs ys : List Int) : (roundW n m xs ys).2.1.length ≤ 1000 := by
  unfold roundW told nought
  split
  · split
    · rename_i h
      exact Nat.le_trans h (by decide)
    · simp
  · simp
theorem impl_round (n m : Bool) (xs ys : List Int) (v u : Value) (w : World) (hv : Row w v xs) (hu : Row w u ys) (la : xs.length ≤ 1048576) (lb : ys.length ≤ 1048576) (R : Bool × List Nat × Bool) (hR : roundW n m xs ys = R) :
    Calls Try.prog 8 #[.agg #[.bool n, v], .agg #[.bool m, u]] w fun e w' => ∃ v', e = .returned (.tuple #[.agg #[.bool R.1, v'], .bool R.2.2]) ∧ Old w w' ∧ Own w' w.heap.size v' (toI R.2.1) := by
  obtain ⟨c0, cap0, rfl⟩ := hv.slice
  obtain ⟨c1, cap1, rfl⟩ := hu.slice
  by_cases hd : Dv n m xs ys
  · unfold roundW at hR
    rw [if_pos hd] at hR
    obtain ⟨⟨hga, hgb⟩, rfl, hy0⟩ := hd
    obtain ⟨ex, gx, lx⟩ := good_gw hga
    obtain ⟨ey, gy, ly⟩ := good_gw hgb
    have hne : nat ys ≠ [] := fun h => by rw [← nat_len, h] at hy0; simp at hy0
    have hD : 0 < val (nat ys) := nrm_pos gy.1 hne
    have cb := cnt_nrm gy.1
    have hq40 := dg_div_len (n := n) gx.1 lx hD
    have cd := fun W (h1 : Row W (.slice c0 xs.length cap0) xs) (h2 : Row W (.slice c1 ys.length cap1) ys) => impl_div_good2 n xs ys _ _ W h1 h2 hga hgb (by omega)
    have hr0 := Int.emod_nonneg (sv n (nat xs)) (show (val (nat ys) : Int) ≠ 0 by omega)
    have hr1 := Int.emod_lt_of_pos (sv n (nat xs)) (show (0 : Int) < (val (nat ys) : Int) by omega)
    have csy := fun W (h : Row W (.slice c1 ys.length cap1) ys) => sizeOf_sz false (nat ys) _ W (by rw [ey]; exact h) gy.1 (by omega)
    rw [round_eq _ _ hD] at hR
    clear ey hne gy hgb hga gx lx ex
    generalize val (nat ys) = Y at *
    generalize sv n (nat xs) = X at *
    obtain ⟨r, hr⟩ : ∃ r : Nat, X % (Y : Int) = (r : Int) := ⟨(X % (Y : Int)).toNat, by omega⟩
    rw [hr] at cd hR hr1
    generalize X / (Y : Int) = q at *
    have hY40 : cnt Y ≤ 40 := by omega
    have hr40 : cnt r ≤ 40 := Nat.le_trans (cnt_mono (by omega)) hY40
    have h2r : cnt (r * 2 + 0) ≤ 80 := by
      have h1 := cnt_lt r
      have : r * 2 + 0 < LB ^ 41 := by
        have h2 : r < LB ^ 40 := Nat.lt_of_lt_of_le h1 (Nat.pow_le_pow_right (by decide) hr40)
        have h3 : LB ^ 41 = LB ^ 40 * LB := Nat.pow_succ ..
        have h4 : LB ^ 40 * 2 ≤ LB ^ 40 * LB := Nat.mul_le_mul_left _ (by decide)
        omega
      exact Nat.le_trans (cnt_le this) (by decide)
    have edr : dg (r : Int) = dig r := rfl
    rw [edr] at cd
    have csr := fun a k W (h : Row W (.slice a (toI (dig r)).length k) (toI (dig r))) => sizeOf_sz false (dig r) _ W h (dig_nrm r) (by have : (dig r).length = cnt r := rfl; omega)
    rw [val_dig] at csr
    have csc := fun W => scaled_sz r 2 0 W (by omega) (by omega) (by omega)
    have ccm := fun W => cmp_sz (r * 2 + 0) Y W h2r (by omega)
    by_cases hlt : 2 * (r : Int) < (Y : Int)
    · rw [if_pos hlt] at hR
      unfold told at hR
      rw [if_pos hq40] at hR
      subst hR
      have hz : cmpN (r * 2 + 0) Y < 0 := by unfold cmpN; rw [if_pos (by omega)]; decide
      exact impl_round_near n false (ng q) xs ys _ _ c0 c1 cap0 cap1 _ _ _ _ _ _ w hv hu cd (pad_len' h2r (by omega)) csr csc csy _ ccm hz
    · rw [if_neg hlt] at hR
      have hz : ¬ cmpN (r * 2 + 0) Y < 0 := by
        unfold cmpN
        rw [if_neg (by omega)]
        split <;> decide
      have hg1 : Good (ng q) (toI (dg q)) := gw_good (gw_of q) hq40
      have hg2 : Good false (toI (dg 1)) := gw_good (gw_of 1) (told_word 1 (by decide) (by decide))
      have hA : addW (ng q) false (toI (dg q)) (toI (dg 1)) = R := by
        unfold addW
        rw [if_pos ⟨hg1, hg2⟩, nat_toI, nat_toI, sv_of]
        have := sv_of 1
        rw [show ng 1 = false from rfl] at this
        rw [this]
        exact hR
      have cwo := fun W => impl_of 1 W (by decide) (by decide)
      rw [show ng 1 = false from rfl] at cwo
      have cad := fun v u W (h1 : Row W v (toI (dg q))) (h2 : Row W u (toI (dg 1))) => impl_add (ng q) false (toI (dg q)) (toI (dg 1)) v u W h1 h2 (by rw [toI_len]; omega) (by rw [toI_len]; have := told_word 1 (by decide) (by decide); omega)
      rw [hA] at cad
      exact impl_round_up n false (ng q) xs ys _ _ c0 c1 cap0 cap1 _ _ _ _ _ _ w hv hu cd (pad_len' h2r (by omega)) csr csc csy _ ccm hz _ _ _ _ cwo cad
  · unfold roundW at hR
    rw [if_neg hd] at hR
    subst hR
    exact impl_round_no n m false xs ys [] [] c0 c1 cap0 cap1 [] [] [] 0 0 0 w hv hu (fun W h1 h2 => (impl_div_bad n m xs ys _ _ W h1 h2 la lb hd).mono (fun e w' h => by obtain ⟨v1, v2, h, g, a, b, _⟩ := h; exact ⟨v1, v2, h, g, a, b⟩))
end Go.Proofs.Ytafcffnpobdhgaa
