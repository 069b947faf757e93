/- Proved: after all steps of splitting there stands at each place the polynomial's value at the place's point. -/
import Derived.Test.YtfgooclnohnkmaaGreatDoorMntt
import Derived.Test.YtfgooclnohnkmaaGreatDoorKB
namespace Go.Proofs.YtfgooclnohnkmaaGreatDoor
set_option linter.unusedVariables false
/-- a step's first J parts split -/
def fpS (P N R s : Nat) (fs : List Nat) : Nat → List Nat
  | 0 => fs
  | j + 1 => spS P (R ^ (backN (lg N) (2 ^ s + j) 0) % P) (j * (N / 2 ^ s)) (N / 2 ^ s / 2) (fpS P N R s fs j) (N / 2 ^ s / 2)
/-- the first steps -/
def fsS (P N R : Nat) (xs : List Nat) : Nat → List Nat
  | 0 => xs
  | s + 1 => fpS P N R s (fsS P N R xs s) (2 ^ s)
theorem fpS_len (P N R s : Nat) (fs : List Nat) : ∀ j, (fpS P N R s fs j).length = fs.length
  | 0 => rfl
  | j + 1 => by rw [fpS, spS_len, fpS_len P N R s fs j]
theorem fsS_len (P N R : Nat) (xs : List Nat) : ∀ s, (fsS P N R xs s).length = xs.length
  | 0 => rfl
  | s + 1 => by rw [fsS, fpS_len, fsS_len P N R xs s]
theorem fpS_lt (P N R s : Nat) (fs : List Nat) (hP : 0 < P) (h : ∀ x ∈ fs, x < P) : ∀ j, ∀ x ∈ fpS P N R s fs j, x < P
  | 0 => h
  | j + 1 => by rw [fpS]; exact spS_lt _ _ _ _ _ hP (fpS_lt P N R s fs hP h j) _
theorem fsS_lt (P N R : Nat) (xs : List Nat) (hP : 0 < P) (h : ∀ x ∈ xs, x < P) : ∀ s, ∀ x ∈ fsS P N R xs s, x < P
  | 0 => h
  | s + 1 => by rw [fsS]; exact fpS_lt _ _ _ _ _ hP (fsS_lt P N R xs hP h s) _
theorem dv {m D J : Nat} (h1 : J * D ≤ m) (h2 : m < J * D + D) : m / D = J := by
  have hD : 0 < D := by omega
  apply Nat.div_eq_of_lt_le
  · exact h1
  · rw [Nat.add_mul, Nat.one_mul]; exact h2
theorem dv_lo (m D : Nat) (hD : 0 < D) : m / D * D ≤ m ∧ m < m / D * D + D ∧ m % D = m - m / D * D := by
  have h1 := Nat.div_add_mod m D
  have h2 := Nat.mod_lt m hD
  rw [Nat.mul_comm] at h1
  omega
/-- what a step's parts leave at each place -/
theorem fp_get (P N R s hh : Nat) (fs : List Nat) (hl : fs.length = N) (hD : N / 2 ^ s = 2 * hh) (hN : 2 ^ s * (2 * hh) = N) (h0 : 0 < hh) : ∀ J, J ≤ 2 ^ s → ∀ m, m < N → (fpS P N R s fs J).getD m 0 =
    if m / (2 * hh) < J then (if m % (2 * hh) < hh then (fs.getD m 0 + R ^ (backN (lg N) (2 ^ s + m / (2 * hh)) 0) % P * fs.getD (m + hh) 0 % P) % P else (fs.getD (m - hh) 0 + P - R ^ (backN (lg N) (2 ^ s + m / (2 * hh)) 0) % P * fs.getD m 0 % P) % P) else fs.getD m 0
  | 0, _, m, _ => by rw [if_neg (Nat.not_lt_zero _)]; rfl
  | J + 1, hJ, m, hm => by
    have ih := fp_get P N R s hh fs hl hD hN h0 J (by omega)
    have hb : (J + 1) * (2 * hh) ≤ N := by rw [← hN]; exact Nat.mul_le_mul_right _ hJ
    have hb' : J * (2 * hh) + 2 * hh ≤ N := by rw [Nat.add_mul, Nat.one_mul] at hb; exact hb
    rw [fpS, hD, show 2 * hh / 2 = hh by omega, sp_get P _ _ hh _ (by rw [fpS_len, hl]; exact hb') hh (Nat.le_refl _) m]
    have hdl := dv_lo m (2 * hh) (by omega)
    by_cases hj : m / (2 * hh) = J
    · rw [hj] at hdl
      have hg : ∀ m', J * (2 * hh) ≤ m' → m' < J * (2 * hh) + 2 * hh → (fpS P N R s fs J).getD m' 0 = fs.getD m' 0 := fun m' a b => by
        rw [ih m' (by omega), dv a b, if_neg (by omega)]
      rw [if_pos (show m / (2 * hh) < J + 1 by omega), hj]
      by_cases hlo : m % (2 * hh) < hh
      · rw [if_pos (by omega), if_pos hlo, hg m (by omega) (by omega), hg (m + hh) (by omega) (by omega)]
      · rw [if_neg (by omega), if_pos (by omega), if_neg hlo, hg m (by omega) (by omega), hg (m - hh) (by omega) (by omega)]
    · have hne : ¬ (J * (2 * hh) ≤ m ∧ m < J * (2 * hh) + 2 * hh) := fun h => hj (dv h.1 h.2)
      rw [if_neg (by omega), if_neg (by omega), ih m hm]
      by_cases hlt : m / (2 * hh) < J
      · rw [if_pos hlt, if_pos (show m / (2 * hh) < J + 1 by omega)]
      · rw [if_neg hlt, if_neg (show ¬ m / (2 * hh) < J + 1 by omega)]
theorem fact2 : ∀ s, s < 1 → ∀ k, k < 2 → ((2 * backN 1 k 0 + 1) * (2 / 2 ^ s / 2)) % 4 = if k % (2 / 2 ^ s) < 2 / 2 ^ s / 2 then backN 1 (2 ^ s + k / (2 / 2 ^ s)) 0 else backN 1 (2 ^ s + k / (2 / 2 ^ s)) 0 + 2 := by decide
theorem fact4 : ∀ s, s < 2 → ∀ k, k < 4 → ((2 * backN 2 k 0 + 1) * (4 / 2 ^ s / 2)) % 8 = if k % (4 / 2 ^ s) < 4 / 2 ^ s / 2 then backN 2 (2 ^ s + k / (4 / 2 ^ s)) 0 else backN 2 (2 ^ s + k / (4 / 2 ^ s)) 0 + 4 := by decide +kernel
theorem fact8 : ∀ s, s < 3 → ∀ k, k < 8 → ((2 * backN 3 k 0 + 1) * (8 / 2 ^ s / 2)) % 16 = if k % (8 / 2 ^ s) < 8 / 2 ^ s / 2 then backN 3 (2 ^ s + k / (8 / 2 ^ s)) 0 else backN 3 (2 ^ s + k / (8 / 2 ^ s)) 0 + 8 := by decide +kernel
theorem fact16 : ∀ s, s < 4 → ∀ k, k < 16 → ((2 * backN 4 k 0 + 1) * (16 / 2 ^ s / 2)) % 32 = if k % (16 / 2 ^ s) < 16 / 2 ^ s / 2 then backN 4 (2 ^ s + k / (16 / 2 ^ s)) 0 else backN 4 (2 ^ s + k / (16 / 2 ^ s)) 0 + 16 := by decide +kernel
theorem fact {N : Nat} (h : Sz4 N) (s : Nat) (hs : s < lg N) (k : Nat) (hk : k < N) : ((2 * backN (lg N) k 0 + 1) * (N / 2 ^ s / 2)) % (2 * N) = if k % (N / 2 ^ s) < N / 2 ^ s / 2 then backN (lg N) (2 ^ s + k / (N / 2 ^ s)) 0 else backN (lg N) (2 ^ s + k / (N / 2 ^ s)) 0 + N := by
  rcases h with rfl | rfl | rfl | rfl
  · exact fact2 s hs k hk
  · exact fact4 s hs k hk
  · exact fact8 s hs k hk
  · exact fact16 s hs k hk
theorem halves {N : Nat} (h : Sz4 N) (s : Nat) (hs : s < lg N) : ∃ hh, N / 2 ^ s = 2 * hh ∧ 2 ^ s * (2 * hh) = N ∧ 0 < hh ∧ N / 2 ^ (s + 1) = hh := by
  have key : ∀ M ∈ [2, 4, 8, 16], ∀ s, s < lg M → M / 2 ^ s = 2 * (M / 2 ^ (s + 1)) ∧ 2 ^ s * (2 * (M / 2 ^ (s + 1))) = M ∧ 0 < M / 2 ^ (s + 1) := by
    intro M hM s hs
    simp only [List.mem_cons, List.not_mem_nil, or_false] at hM
    have hs4 : s < 4 := by have := (lg_pow (N := M) (by omega)).2.2; omega
    rcases hM with rfl | rfl | rfl | rfl <;> (have : s = 0 ∨ s = 1 ∨ s = 2 ∨ s = 3 := by omega) <;> rcases this with rfl | rfl | rfl | rfl <;> revert hs <;> decide
  have := key N (by simp only [List.mem_cons, List.not_mem_nil, or_false]; omega) s hs
  exact ⟨N / 2 ^ (s + 1), this.1, this.2.1, this.2.2, rfl⟩
/-- the power of a root of 1 by what is left of the exponent -/
theorem pow_per {P N R : Nat} (h1 : Cg P ((R : Int) ^ (2 * N)) 1) (e b : Nat) (he : e % (2 * N) = b) : Cg P ((R : Int) ^ e) ((R : Int) ^ b) := by
  have h := Nat.div_add_mod e (2 * N)
  rw [he] at h
  rw [← h, Int.pow_add, Int.pow_mul]
  have := (h1.pow (e / (2 * N))).mul (Cg.refl (P : Int) ((R : Int) ^ b))
  rw [Int.one_pow, Int.one_mul] at this
  exact this
/-- a step keeps the values -/
theorem step_ev (P N R s hh : Nat) (fs : List Nat) (hS : Sz4 N) (hs : s < lg N) (hl : fs.length = N) (hP : 0 < P) (hlt : ∀ x ∈ fs, x < P) (hD : N / 2 ^ s = 2 * hh) (hN : 2 ^ s * (2 * hh) = N) (h0 : 0 < hh)
    (r1 : Cg P ((R : Int) ^ (2 * N)) 1) (r2 : Cg P ((R : Int) ^ N) (-1)) (k : Nat) (hk : k < N) (X A : Int) (hX : Cg P X ((R : Int) ^ (2 * backN (lg N) k 0 + 1)))
    (hA : Cg P (evI (fun i => ((fs.getD (k / (2 * hh) * (2 * hh) + i) 0 : Nat) : Int)) X (2 * hh)) A) :
    Cg P (evI (fun i => (((fpS P N R s fs (2 ^ s)).getD (k / hh * hh + i) 0 : Nat) : Int)) X hh) A := by
  have hf := fact hS s hs k hk
  rw [hD, show 2 * hh / 2 = hh by omega] at hf
  have hb := back_lt0 hS (2 ^ s + k / (2 * hh))
  have hdl := dv_lo k (2 * hh) (by omega)
  have hj : k / (2 * hh) < 2 ^ s := by
    rw [Nat.div_lt_iff_lt_mul (by omega), hN]
    exact hk
  have hjb : k / (2 * hh) * (2 * hh) + 2 * hh ≤ N := by
    have := Nat.mul_le_mul_right (2 * hh) (show k / (2 * hh) + 1 ≤ 2 ^ s by omega)
    rw [Nat.add_mul, Nat.one_mul, hN] at this
    exact this
  have hg := fp_get P N R s hh fs hl hD hN h0 (2 ^ s) (Nat.le_refl _)
  obtain ⟨b, eb⟩ : ∃ b, b = backN (lg N) (2 ^ s + k / (2 * hh)) 0 := ⟨_, rfl⟩
  obtain ⟨off, eo⟩ : ∃ off, off = k / (2 * hh) * (2 * hh) := ⟨_, rfl⟩
  have hgo : ∀ i, i < 2 * hh → (off + i) / (2 * hh) = k / (2 * hh) ∧ (off + i) % (2 * hh) = i := fun i hi => by
    have h1 : (off + i) / (2 * hh) = k / (2 * hh) := dv (by omega) (by omega)
    have h2 := dv_lo (off + i) (2 * hh) (by omega)
    rw [h1] at h2
    exact ⟨h1, by omega⟩
  rw [← eo] at hA hdl hjb
  rw [← eb] at hf hb
  have hsplit := evI_add (fun i => ((fs.getD (off + i) 0 : Nat) : Int)) X hh hh
  rw [show hh + hh = 2 * hh by omega] at hsplit
  rw [hsplit] at hA
  have hpw : Cg P (X ^ hh) ((R : Int) ^ ((2 * backN (lg N) k 0 + 1) * hh)) := by
    rw [Int.pow_mul]
    exact hX.pow hh
  have hmb : Cg P ((R ^ b % P : Nat) : Int) ((R : Int) ^ b) := by
    have := Cg.mod P (R ^ b)
    push_cast at this ⊢
    exact this
  have em : 2 * (k / (2 * hh)) * hh = off := by rw [eo, Nat.mul_comm 2, Nat.mul_assoc]
  by_cases hlo : k % (2 * hh) < hh
  · rw [if_pos hlo] at hf
    have hk2 : k / hh * hh = off := by
      have : k / hh = 2 * (k / (2 * hh)) := dv (by rw [em]; omega) (by rw [em]; omega)
      rw [this, em]
    rw [hk2]
    have hxw : Cg P (X ^ hh) ((R ^ b % P : Nat) : Int) := hpw.trans ((pow_per r1 _ _ hf).trans hmb.symm)
    have h1 : Cg P (evI (fun i => (((fpS P N R s fs (2 ^ s)).getD (off + i) 0 : Nat) : Int)) X hh) (evI (fun i => ((fs.getD (off + i) 0 : Nat) : Int) + ((R ^ b % P : Nat) : Int) * ((fs.getD (off + (hh + i)) 0 : Nat) : Int)) X hh) := by
      refine evI_cg X hh (fun i hi => ?_)
      rw [hg (off + i) (by omega), (hgo i (by omega)).1, (hgo i (by omega)).2, if_pos hj, if_pos hi, ← eb, show off + i + hh = off + (hh + i) by omega]
      refine (Cg.mod P _).trans ?_
      push_cast
      refine (Cg.refl _ _).add ?_
      have := Cg.mod P (R ^ b % P * fs.getD (off + (hh + i)) 0)
      push_cast at this ⊢
      exact this
    rw [evI_lin] at h1
    refine h1.trans (Cg.trans ?_ hA)
    exact (Cg.refl _ _).add (hxw.symm.mul (Cg.refl _ _))
  · rw [if_neg hlo] at hf
    have hk2 : k / hh * hh = off + hh := by
      have : k / hh = 2 * (k / (2 * hh)) + 1 := dv (by rw [Nat.add_mul, Nat.one_mul, em]; omega) (by rw [Nat.add_mul, Nat.one_mul, em]; omega)
      rw [this, Nat.add_mul, Nat.one_mul, em]
    rw [hk2]
    have hxw : Cg P (X ^ hh) (-((R ^ b % P : Nat) : Int)) := by
      refine hpw.trans ((pow_per r1 _ _ hf).trans ?_)
      rw [Int.pow_add]
      have := hmb.symm.mul r2
      refine this.trans ⟨0, by grind⟩
    have h1 : Cg P (evI (fun i => (((fpS P N R s fs (2 ^ s)).getD (off + hh + i) 0 : Nat) : Int)) X hh) (evI (fun i => ((fs.getD (off + i) 0 : Nat) : Int) + (-((R ^ b % P : Nat) : Int)) * ((fs.getD (off + (hh + i)) 0 : Nat) : Int)) X hh) := by
      refine evI_cg X hh (fun i hi => ?_)
      rw [show off + hh + i = off + (hh + i) by omega, hg (off + (hh + i)) (by omega), (hgo (hh + i) (by omega)).1, (hgo (hh + i) (by omega)).2, if_pos hj, if_neg (show ¬ hh + i < hh by omega), ← eb, show off + (hh + i) - hh = off + i by omega]
      refine (Cg.mod P _).trans ?_
      have hq : R ^ b % P * fs.getD (off + (hh + i)) 0 % P < P := Nat.mod_lt _ hP
      have hm := Cg.mod P (R ^ b % P * fs.getD (off + (hh + i)) 0)
      generalize hqq : R ^ b % P * fs.getD (off + (hh + i)) 0 % P = q at *
      have e : ((fs.getD (off + i) 0 + P - q : Nat) : Int) = ((fs.getD (off + i) 0 : Nat) : Int) + (P : Int) - (q : Int) := by omega
      rw [e]
      have h3 := (Cg.refl (P : Int) ((fs.getD (off + i) 0 : Nat) : Int)).add hm.neg
      refine Cg.trans ⟨1, ?_⟩ (h3.trans ⟨0, ?_⟩)
      · grind
      · push_cast; grind
    rw [evI_lin] at h1
    refine h1.trans (Cg.trans ?_ hA)
    exact (Cg.refl _ _).add (hxw.symm.mul (Cg.refl _ _))
end Go.Proofs.YtfgooclnohnkmaaGreatDoor
