/- Proved: joining again and again gives the sums over the points. -/
import Derived.Test.YtfgooclnohnkmaaGreatDoorIvd
import Derived.Test.YtfgooclnohnkmaaGreatDoorSpInv
import Derived.Test.YtfgooclnohnkmaaGreatDoorMnttb
namespace Go.Proofs.YtfgooclnohnkmaaGreatDoor
set_option linter.unusedVariables false
set_option linter.unusedSimpArgs false
theorem jn_get (P w0 off hh : Nat) (fs : List Nat) (hl : off + 2 * hh ≤ fs.length) : ∀ i, i ≤ hh → ∀ m, (jnS P w0 off hh fs i).getD m 0 =
    if off ≤ m ∧ m < off + i then (fs.getD m 0 + fs.getD (m + hh) 0) % P else if off + hh ≤ m ∧ m < off + hh + i then (fs.getD (m - hh) 0 + P - fs.getD m 0) * w0 % P else fs.getD m 0
  | 0, _, m => by
    rw [if_neg (by omega), if_neg (by omega)]
    rfl
  | i + 1, hi, m => by
    have ih := jn_get P w0 off hh fs hl i (by omega)
    have hln := jnS_len P w0 off hh fs i
    have e1 : (jnS P w0 off hh fs i).getD (off + i) 0 = fs.getD (off + i) 0 := by rw [ih, if_neg (by omega), if_neg (by omega)]
    have e2 : (jnS P w0 off hh fs i).getD (off + hh + i) 0 = fs.getD (off + hh + i) 0 := by rw [ih, if_neg (by omega), if_neg (by omega)]
    rw [jnS, gset _ _ _ _ (by rw [List.length_set, hln]; omega), gset _ _ _ _ (by rw [hln]; omega), e1, e2, ih m]
    by_cases h1 : m = off + hh + i
    · subst h1
      rw [if_pos rfl, if_neg (by omega), if_pos (by omega), show off + hh + i - hh = off + i by omega]
    · rw [if_neg h1]
      by_cases h2 : m = off + i
      · subst h2
        rw [if_pos rfl, if_pos (by omega), show off + i + hh = off + hh + i by omega]
      · rw [if_neg h2]
        by_cases h3 : off ≤ m ∧ m < off + i
        · rw [if_pos h3, if_pos (by omega)]
        · rw [if_neg h3]
          by_cases h4 : off + hh ≤ m ∧ m < off + hh + i
          · rw [if_pos h4, if_neg (by omega), if_pos (by omega)]
          · rw [if_neg h4, if_neg (by omega), if_neg (by omega)]
/-- what a step's joins leave at each place -/
theorem ip_get (P N R t hh : Nat) (fs : List Nat) (hl : fs.length = N) (hD : 2 ^ t = hh) (hN : N / 2 ^ (t + 1) * (2 * hh) = N) (h0 : 0 < hh) : ∀ J, J ≤ N / 2 ^ (t + 1) → ∀ m, m < N → (ipS P N R t fs J).getD m 0 =
    if m / (2 * hh) < J then (if m % (2 * hh) < hh then (fs.getD m 0 + fs.getD (m + hh) 0) % P else (fs.getD (m - hh) 0 + P - fs.getD m 0) * (R ^ (2 * N - backN (lg N) (N / 2 ^ (t + 1) + m / (2 * hh)) 0) % P) % P) else fs.getD m 0
  | 0, _, m, _ => by rw [if_neg (Nat.not_lt_zero _)]; rfl
  | J + 1, hJ, m, hm => by
    have ih := ip_get P N R t hh fs hl hD hN h0 J (by omega)
    have hb : (J + 1) * (2 * hh) ≤ N := by
      have := Nat.mul_le_mul_right (2 * hh) hJ
      rw [hN] at this
      exact this
    have hb' : J * (2 * hh) + 2 * hh ≤ N := by rw [Nat.add_mul, Nat.one_mul] at hb; exact hb
    rw [ipS, hD, jn_get P _ _ hh _ (by rw [ipS_len, hl]; exact hb') hh (Nat.le_refl _) m]
    have hdl := dv_lo m (2 * hh) (by omega)
    by_cases hj : m / (2 * hh) = J
    · rw [hj] at hdl
      have hg : ∀ m', J * (2 * hh) ≤ m' → m' < J * (2 * hh) + 2 * hh → (ipS P N R t fs J).getD m' 0 = fs.getD m' 0 := fun m' a b => by
        rw [ih m' (by omega), dv a b, if_neg (by omega)]
      rw [if_pos (show m / (2 * hh) < J + 1 by omega), hj]
      clear ih
      by_cases hlo : m % (2 * hh) < hh
      · rw [if_pos (by omega), if_pos hlo, hg m (by omega) (by omega), hg (m + hh) (by omega) (by omega)]
      · rw [if_neg (by omega), if_pos (by omega), if_neg hlo, hg m (by omega) (by omega), hg (m - hh) (by omega) (by omega)]
    · have hne : ¬ (J * (2 * hh) ≤ m ∧ m < J * (2 * hh) + 2 * hh) := fun h => hj (dv h.1 h.2)
      rw [if_neg (by omega), if_neg (by omega), ih m hm]
      by_cases hlt : m / (2 * hh) < J
      · rw [if_pos hlt, if_pos (show m / (2 * hh) < J + 1 by omega)]
      · rw [if_neg hlt, if_neg (show ¬ m / (2 * hh) < J + 1 by omega)]
/-- a sum over n places from a on -/
def sumK (f : Nat → Int) (a : Nat) : Nat → Int
  | 0 => 0
  | n + 1 => sumK f a n + f (a + n)
theorem sumK_add (f : Nat → Int) (a n : Nat) : ∀ m, sumK f a (n + m) = sumK f a n + sumK f (a + n) m
  | 0 => by simp [sumK]
  | m + 1 => by rw [← Nat.add_assoc, sumK, sumK_add f a n m, sumK, Nat.add_assoc a n m]; omega
theorem sumK_cg {P : Int} {f g : Nat → Int} (a : Nat) : ∀ n, (∀ j, j < n → Cg P (f (a + j)) (g (a + j))) → Cg P (sumK f a n) (sumK g a n)
  | 0, _ => Cg.refl _ _
  | n + 1, h => (sumK_cg a n (fun j hj => h j (by omega))).add (h n (by omega))
theorem sumK_mul (f : Nat → Int) (c : Int) (a : Nat) : ∀ n, sumK (fun k => f k * c) a n = sumK f a n * c
  | 0 => by simp [sumK]
  | n + 1 => by rw [sumK, sumK_mul f c a n, sumK, Int.add_mul]
/-- a step joins the sums -/
theorem step_iv (P N hh Q : Nat) (fs gs : List Nat) (W : Nat → Nat) (X : Nat → Int) (B : Int) (e : Nat → Nat) (hP : 0 < P) (hN : Q * (2 * hh) = N) (h0 : 0 < hh) (hlt : ∀ m, fs.getD m 0 < P)
    (hg : ∀ m, m < N → gs.getD m 0 = if m % (2 * hh) < hh then (fs.getD m 0 + fs.getD (m + hh) 0) % P else (fs.getD (m - hh) 0 + P - fs.getD m 0) * W (m / (2 * hh)) % P)
    (hw : ∀ k, k < N → Cg P (B ^ (e k * hh)) (if k % (2 * hh) < hh then (W (k / (2 * hh)) : Int) else -(W (k / (2 * hh)) : Int)))
    (ih : ∀ J i, J * hh + hh ≤ N → i < hh → Cg P (fs.getD (J * hh + i) 0 : Nat) (sumK (fun k => X k * B ^ (e k * i)) (J * hh) hh))
    (J i : Nat) (hJ : J < Q) (hi : i < 2 * hh) : Cg P (gs.getD (J * (2 * hh) + i) 0 : Nat) (sumK (fun k => X k * B ^ (e k * i)) (J * (2 * hh)) (2 * hh)) := by
  have hb : J * (2 * hh) + 2 * hh ≤ N := by
    have := Nat.mul_le_mul_right (2 * hh) (show J + 1 ≤ Q by omega)
    rw [hN, Nat.add_mul, Nat.one_mul] at this
    exact this
  obtain ⟨off, eo⟩ : ∃ off, off = J * (2 * hh) := ⟨_, rfl⟩
  have eo1 : 2 * J * hh = off := by rw [eo, Nat.mul_comm 2 J, Nat.mul_assoc]
  have eo2 : (2 * J + 1) * hh = off + hh := by rw [Nat.add_mul, eo1, Nat.one_mul]
  have hgo : ∀ i, i < 2 * hh → (off + i) / (2 * hh) = J ∧ (off + i) % (2 * hh) = i := fun i hi => by
    have h1 : (off + i) / (2 * hh) = J := dv (by omega) (by omega)
    have h2 := dv_lo (off + i) (2 * hh) (by omega)
    rw [h1] at h2
    exact ⟨h1, by omega⟩
  have ia := fun i hi => ih (2 * J) i (by rw [eo1]; omega) hi
  have ib := fun i hi => ih (2 * J + 1) i (by rw [eo2]; omega) hi
  rw [eo1] at ia
  rw [eo2] at ib
  rw [← eo] at hb ⊢
  rw [show 2 * hh = hh + hh by omega, sumK_add, hg (off + i) (by omega), (hgo i hi).1, (hgo i hi).2]
  by_cases hlo : i < hh
  · rw [if_pos hlo]
    refine (Cg.mod P _).trans ?_
    push_cast
    have h2 := ib i hlo
    rw [show off + hh + i = off + i + hh by omega] at h2
    exact (ia i hlo).add h2
  · rw [if_neg hlo]
    obtain ⟨j, rfl⟩ : ∃ j, i = hh + j := ⟨i - hh, by omega⟩
    have hj : j < hh := by omega
    have h1 := ia j hj
    have h2 := ib j hj
    rw [show off + (hh + j) - hh = off + j by omega, show off + (hh + j) = off + hh + j by omega]
    refine (Cg.mod P _).trans ?_
    have hl1 := hlt (off + hh + j)
    have e1 : (((fs.getD (off + j) 0 + P - fs.getD (off + hh + j) 0) * W J : Nat) : Int) = ((fs.getD (off + j) 0 : Nat) : Int) * (W J : Int) + ((fs.getD (off + hh + j) 0 : Nat) : Int) * (-(W J : Int)) + (P : Int) * (W J : Int) := by
      rw [Int.natCast_mul, show ((fs.getD (off + j) 0 + P - fs.getD (off + hh + j) 0 : Nat) : Int) = ((fs.getD (off + j) 0 : Nat) : Int) + (P : Int) - ((fs.getD (off + hh + j) 0 : Nat) : Int) by omega]
      grind
    rw [e1]
    have s1 : Cg P (sumK (fun k => X k * B ^ (e k * (hh + j))) off hh) (sumK (fun k => X k * B ^ (e k * j)) off hh * (W J : Int)) := by
      rw [← sumK_mul]
      refine sumK_cg off hh (fun m hm => ?_)
      have := hw (off + m) (by omega)
      rw [(hgo m (by omega)).1, (hgo m (by omega)).2, if_pos hm] at this
      rw [Nat.mul_add, Int.pow_add, Int.mul_comm (B ^ (e (off + m) * hh)), ← Int.mul_assoc]
      exact (Cg.refl _ _).mul this
    have s2 : Cg P (sumK (fun k => X k * B ^ (e k * (hh + j))) (off + hh) hh) (sumK (fun k => X k * B ^ (e k * j)) (off + hh) hh * (-(W J : Int))) := by
      rw [← sumK_mul]
      refine sumK_cg (off + hh) hh (fun m hm => ?_)
      have := hw (off + hh + m) (by omega)
      rw [show off + hh + m = off + (hh + m) by omega, (hgo (hh + m) (by omega)).1, (hgo (hh + m) (by omega)).2, if_neg (by omega)] at this
      rw [show off + hh + m = off + (hh + m) by omega, Nat.mul_add, Int.pow_add, Int.mul_comm (B ^ (e (off + (hh + m)) * hh)), ← Int.mul_assoc]
      exact (Cg.refl _ _).mul this
    refine Cg.trans ?_ (s1.add s2).symm
    have h3 := (h1.mul (Cg.refl (P : Int) (W J : Int))).add (h2.mul (Cg.refl (P : Int) (-(W J : Int))))
    refine Cg.trans ?_ h3
    exact ⟨(W J : Int), rfl⟩
end Go.Proofs.YtfgooclnohnkmaaGreatDoor
