/- Proved: primes: the least factor, Euclid's lemma, Fermat's little theorem, square roots of 1, and the roots of 1 of an order that is a power of 2; no program in sight. -/
namespace Go.Proofs.YtplaaglckbfklaaDoor.F1
set_option linter.unusedVariables false
/-- n is a prime -/
def Pr (n : Nat) : Prop := 2 ≤ n ∧ ∀ d, d ∣ n → d = 1 ∨ d = n
theorem least_factor (n : Nat) (hn : 2 ≤ n) : ∃ q, 2 ≤ q ∧ q ∣ n ∧ ∀ d, 2 ≤ d → d ∣ n → q ≤ d := by
  have key : ∀ k m, m ≤ k → 2 ≤ m → m ∣ n → ∃ q, 2 ≤ q ∧ q ∣ n ∧ ∀ d, 2 ≤ d → d ∣ n → q ≤ d := by
    intro k
    induction k with
    | zero => intro m h1 h2 _; omega
    | succ k ih =>
      intro m h1 h2 h3
      by_cases h : ∃ d, 2 ≤ d ∧ d ∣ n ∧ d < m
      · obtain ⟨d, hd1, hd2, hd3⟩ := h
        exact ih d (by omega) hd1 hd2
      · refine ⟨m, h2, h3, fun d hd1 hd2 => ?_⟩
        by_cases hlt : d < m
        · exact absurd ⟨d, hd1, hd2, hlt⟩ h
        · omega
  exact key n n (Nat.le_refl _) hn (Nat.dvd_refl _)
theorem pr_of_least {n q : Nat} (hn : 2 ≤ n) (h2 : 2 ≤ q) (hq : q ∣ n) (hl : ∀ d, 2 ≤ d → d ∣ n → q ≤ d) : Pr q := by
  refine ⟨h2, fun d hd => ?_⟩
  by_cases h1 : d = 1
  · exact Or.inl h1
  · have h0 : d ≠ 0 := by rintro rfl; have := Nat.eq_zero_of_zero_dvd hd; omega
    have := hl d (by omega) (Nat.dvd_trans hd hq)
    have := Nat.le_of_dvd (by omega) hd
    exact Or.inr (by omega)
/-- a number that is no prime has a prime q whose square is at most it -/
theorem not_pr {n : Nat} (hn : 2 ≤ n) (h : ¬ Pr n) : ∃ q m, Pr q ∧ n = q * m ∧ 2 ≤ m ∧ q * q ≤ n := by
  obtain ⟨q, h2, hq, hl⟩ := least_factor n hn
  obtain ⟨m, hm⟩ := hq
  have hp := pr_of_least hn h2 ⟨m, hm⟩ hl
  have hm0 : m ≠ 0 := by rintro rfl; omega
  have hm1 : m ≠ 1 := by
    rintro rfl
    rw [Nat.mul_one] at hm
    subst hm
    exact h hp
  have hqm : q ≤ m := hl m (by omega) ⟨q, by rw [hm, Nat.mul_comm]⟩
  exact ⟨q, m, hp, hm, by omega, by rw [hm]; exact Nat.mul_le_mul (Nat.le_refl _) hqm⟩
theorem Pr.cop {p a : Nat} (h : Pr p) (ha : ¬ p ∣ a) : Nat.Coprime p a := by
  rcases h.2 _ (Nat.gcd_dvd_left p a) with h1 | h1
  · exact h1
  · exact absurd (h1 ▸ Nat.gcd_dvd_right p a) ha
theorem Pr.euclid {p a b : Nat} (h : Pr p) (hd : p ∣ a * b) : p ∣ a ∨ p ∣ b := by
  by_cases ha : p ∣ a
  · exact Or.inl ha
  · exact Or.inr ((h.cop ha).dvd_of_dvd_mul_left hd)
theorem not_dvd_of_lt {p a : Nat} (h0 : 0 < a) (h1 : a < p) : ¬ p ∣ a := fun h => by have := Nat.le_of_dvd h0 h; omega
/-- a shorter list without doubles within a list, and not shorter: the same list in another order -/
theorem perm_of : ∀ (l1 l2 : List Nat), l1.Nodup → l1 ⊆ l2 → l2.length ≤ l1.length → l1.Perm l2
  | [], l2, _, _, h => by
    have : l2 = [] := List.length_eq_zero_iff.1 (by simpa using h)
    rw [this]
  | a :: l, l2, hn, hs, h => by
    have ha : a ∈ l2 := hs (List.mem_cons_self ..)
    have hp := List.perm_cons_erase ha
    have hn' := List.nodup_cons.1 hn
    have hsub : l ⊆ l2.erase a := by
      intro x hx
      have hne : x ≠ a := by rintro rfl; exact hn'.1 hx
      exact (List.mem_erase_of_ne hne).2 (hs (List.mem_cons_of_mem _ hx))
    have hlen : (l2.erase a).length ≤ l.length := by
      have e := hp.length_eq
      simp at e h ⊢
      omega
    exact (List.Perm.cons a (perm_of l (l2.erase a) hn'.2 hsub hlen)).trans hp.symm
theorem sub_dvd_of_mod {p a b : Nat} (h : a % p = b % p) (hab : a ≤ b) : p ∣ b - a := by
  have h1 := Nat.div_add_mod a p
  have h2 := Nat.div_add_mod b p
  rw [h] at h1
  refine ⟨b / p - a / p, ?_⟩
  rw [Nat.mul_sub]
  omega
theorem prod_map (a p : Nat) : ∀ l : List Nat, (l.map (fun i => a * i % p)).prod % p = a ^ l.length * l.prod % p
  | [] => by simp
  | x :: l => by
    have ih := prod_map a p l
    simp only [List.map_cons, List.prod_cons, List.length_cons]
    rw [Nat.mul_mod, ih, Nat.mod_mod, ← Nat.mul_mod, Nat.pow_succ]
    congr 1
    grind
theorem prod_not {p : Nat} (hp : Pr p) : ∀ l : List Nat, (∀ x ∈ l, ¬ p ∣ x) → ¬ p ∣ l.prod
  | [], _, h => by
    have := Nat.le_of_dvd (by simp) h
    have := hp.1
    simp at *
    omega
  | x :: l, hl, h => by
    rw [List.prod_cons] at h
    rcases hp.euclid h with h1 | h1
    · exact hl x (List.mem_cons_self ..) h1
    · exact prod_not hp l (fun y hy => hl y (List.mem_cons_of_mem _ hy)) h1
/-- Fermat -/
theorem Pr.fermat {p a : Nat} (hp : Pr p) (ha : ¬ p ∣ a) : a ^ (p - 1) % p = 1 := by
  have h2 := hp.1
  have hr : ∀ x ∈ List.range' 1 (p - 1), 0 < x ∧ x < p := by
    intro x hx
    simp [List.mem_range'_1] at hx
    omega
  have hnd : ((List.range' 1 (p - 1)).map (fun i => a * i % p)).Nodup := by
    unfold List.Nodup
    rw [List.pairwise_map]
    refine List.Pairwise.imp_of_mem ?_ (List.pairwise_lt_range' (s := 1) (n := p - 1))
    intro x y hx hy hxy he
    have h1 := sub_dvd_of_mod he (Nat.mul_le_mul (Nat.le_refl a) (Nat.le_of_lt hxy))
    rw [← Nat.mul_sub] at h1
    rcases hp.euclid h1 with h3 | h3
    · exact ha h3
    · exact not_dvd_of_lt (by omega) (by have := (hr y hy).2; omega) h3
  have hsub : (List.range' 1 (p - 1)).map (fun i => a * i % p) ⊆ List.range' 1 (p - 1) := by
    intro y hy
    obtain ⟨x, hx, rfl⟩ := List.mem_map.1 hy
    have hlt : a * x % p < p := Nat.mod_lt _ (by omega)
    have h0 : a * x % p ≠ 0 := by
      intro e
      rcases hp.euclid (Nat.dvd_of_mod_eq_zero e) with h3 | h3
      · exact ha h3
      · exact not_dvd_of_lt (hr x hx).1 (hr x hx).2 h3
    show a * x % p ∈ List.range' 1 (p - 1)
    rw [List.mem_range'_1]
    omega
  have hperm := perm_of _ _ hnd hsub (by simp)
  have e := prod_map a p (List.range' 1 (p - 1))
  rw [hperm.prod_nat, List.length_range'] at e
  have hno := prod_not hp (List.range' 1 (p - 1)) (fun x hx => not_dvd_of_lt (hr x hx).1 (hr x hx).2)
  generalize (List.range' 1 (p - 1)).prod = X at *
  have hapos : 0 < a := by
    rcases Nat.eq_zero_or_pos a with h | h
    · exact absurd (h ▸ Nat.dvd_zero p) ha
    · exact h
  have hpos : 1 ≤ a ^ (p - 1) := Nat.one_le_pow _ _ hapos
  have hle : X ≤ a ^ (p - 1) * X := by have := Nat.mul_le_mul hpos (Nat.le_refl X); omega
  have h1 := sub_dvd_of_mod e hle
  have h3 : a ^ (p - 1) * X - X = (a ^ (p - 1) - 1) * X := by rw [Nat.sub_mul, Nat.one_mul]
  rw [h3] at h1
  rcases hp.euclid h1 with h4 | h4
  · obtain ⟨c, hc⟩ := h4
    have : a ^ (p - 1) = 1 + p * c := by omega
    rw [this, Nat.add_mul_mod_self_left, Nat.mod_eq_of_lt (by omega)]
  · exact absurd h4 hno
/-- square roots of a square -/
theorem Pr.sq {p x y : Nat} (hp : Pr p) (h : x * x % p = y * y % p) : x % p = y % p ∨ (x + y) % p = 0 := by
  rcases Nat.le_total x y with hxy | hxy
  · have h1 := sub_dvd_of_mod h (Nat.mul_le_mul hxy hxy)
    have e : y * y - x * x = (y - x) * (x + y) := by
      rw [Nat.sub_mul, Nat.mul_add, Nat.mul_add, Nat.mul_comm y x]
      omega
    rw [e] at h1
    rcases hp.euclid h1 with h2 | h2
    · obtain ⟨c, hc⟩ := h2
      left
      have : y = x + p * c := by omega
      rw [this, Nat.add_mul_mod_self_left]
    · exact Or.inr (Nat.mod_eq_zero_of_dvd h2)
  · have h1 := sub_dvd_of_mod h.symm (Nat.mul_le_mul hxy hxy)
    have e : x * x - y * y = (x - y) * (x + y) := by
      rw [Nat.sub_mul, Nat.mul_add, Nat.mul_add, Nat.mul_comm x y]
      omega
    rw [e] at h1
    rcases hp.euclid h1 with h2 | h2
    · obtain ⟨c, hc⟩ := h2
      left
      have : x = y + p * c := by omega
      rw [this, Nat.add_mul_mod_self_left]
    · exact Or.inr (Nat.mod_eq_zero_of_dvd h2)
/-- of a number whose 2^j-th power is -1 the powers are all the 2^(j+1)-th roots of 1 -/
theorem Pr.roots {p : Nat} (hp : Pr p) : ∀ (j r h : Nat), (r ^ 2 ^ j + 1) % p = 0 → h ^ 2 ^ (j + 1) % p = 1 → ∃ k, h % p = r ^ k % p
  | 0, r, h, hr, hh => by
    have hh' : h * h % p = 1 * 1 % p := by
      have h2 := hp.1
      rw [Nat.one_mul, Nat.mod_eq_of_lt (show 1 < p by omega)]
      simpa [Nat.pow_succ] using hh
    rcases hp.sq hh' with h1 | h1
    · exact ⟨0, by simpa using h1⟩
    · refine ⟨1, ?_⟩
      simp at hr ⊢
      have e : (h + (r + 1)) % p = (r + (h + 1)) % p := by congr 1; omega
      have e1 : (h + (r + 1)) % p = h % p := by rw [Nat.add_mod, hr, Nat.add_zero, Nat.mod_mod]
      have e2 : (r + (h + 1)) % p = r % p := by rw [Nat.add_mod, h1, Nat.add_zero, Nat.mod_mod]
      rw [← e1, e, e2]
  | j + 1, r, h, hr, hh => by
    have hr2 : ((r * r) ^ 2 ^ j + 1) % p = 0 := by
      rw [← hr, Nat.pow_succ 2 j, Nat.mul_comm (2 ^ j) 2, Nat.pow_mul, Nat.pow_two]
    have hh2 : (h * h) ^ 2 ^ (j + 1) % p = 1 := by
      have e : h ^ 2 ^ (j + 1 + 1) = (h * h) ^ 2 ^ (j + 1) := by rw [Nat.pow_succ 2 (j + 1), Nat.mul_comm (2 ^ (j + 1)) 2, Nat.pow_mul, Nat.pow_two]
      rw [← e]; exact hh
    obtain ⟨k, hk⟩ := Pr.roots hp j (r * r) (h * h) hr2 hh2
    have hk' : h * h % p = r ^ k * r ^ k % p := by rw [hk, Nat.mul_pow]
    rcases hp.sq hk' with h1 | h1
    · exact ⟨k, h1⟩
    · refine ⟨k + 2 ^ (j + 1), ?_⟩
      have h3 : (r ^ k * (r ^ 2 ^ (j + 1) + 1)) % p = 0 := by rw [Nat.mul_mod, hr, Nat.mul_zero, Nat.zero_mod]
      rw [Nat.mul_add, Nat.mul_one, ← Nat.pow_add] at h3
      generalize r ^ (k + 2 ^ (j + 1)) = U at *
      generalize r ^ k = V at *
      have e1 : (h + (U + V)) % p = h % p := by rw [Nat.add_mod, h3, Nat.add_zero, Nat.mod_mod]
      have e2 : (U + (h + V)) % p = U % p := by rw [Nat.add_mod, h1, Nat.add_zero, Nat.mod_mod]
      rw [← e1, ← e2]
      congr 1
      omega
end Go.Proofs.YtplaaglckbfklaaDoor.F1
