/- Proved: several texts in one: what each proves is said ahead of it. -/
import Derived.Test.YtfgooclnohnkmaaGreatDoorWo05
/- Proved: contracts of RingOf, of the program and of the model: both answer one and the same ring at a prime modulus for whose size a root is there, and none otherwise. -/
namespace Go.Proofs.YtfgooclnohnkmaaGreatDoor
open Go.ChangeShapes Go.WideShapes Go.ChangeAt Go.RowKit
open M1
set_option linter.unusedVariables false
def rgB (n : Int) : Bool := inB n 2 16 && (bits BinOp.and IntKind.i64 n (n - 1) == 0)
theorem rg_four : ∀ n : Nat, n < 17 → 2 ≤ n → n &&& (n - 1) = 0 → n = 2 ∨ n = 4 ∨ n = 8 ∨ n = 16 := by decide
theorem rgB_yes {n : Int} (h : rgB n = true) : n = 2 ∨ n = 4 ∨ n = 8 ∨ n = 16 := by
  simp only [rgB, Bool.and_eq_true] at h
  obtain ⟨h1, h2⟩ := h
  obtain ⟨h3, h4⟩ := inB_out h1
  obtain ⟨m, rfl⟩ := Int.eq_ofNat_of_zero_le (show 0 ≤ n by omega)
  have e : (m : Int) - 1 = ((m - 1 : Nat) : Int) := by omega
  rw [e, and_nat m (m - 1) (by omega) (by omega)] at h2
  have h5 := beq_iff_eq.1 h2
  rcases rg_four m (by omega) (by omega) (by omega) with h | h | h | h <;> omega
theorem rgB_mk {n : Int} (h : n = 2 ∨ n = 4 ∨ n = 8 ∨ n = 16) : rgB n = true := by
  rcases h with rfl | rfl | rfl | rfl <;> decide +kernel
theorem ord2 {n : Int} (h : n = 2 ∨ n = 4 ∨ n = 8 ∨ n = 16) : ordB (2 * n) = true := by
  rcases h with rfl | rfl | rfl | rfl <;> decide +kernel
theorem impl_isSize (n : Int) (w : World) :
    Calls Tryz.prog 195 #[.int .i64 n] w fun e w' => e = .returned (.bool (rgB n)) ∧ w' = w := by
  cases h : inB n 2 16
  · have ho : rgB n = false := by simp [rgB, h]
    rw [ho]
    rcases inB_not h with h1 | ⟨h1, h2⟩
    · clear h ho
      have d : decide (2 ≤ n) = false := by simp; omega
      go_enter Tryz.func195, Tryz.ntmps195
      go_wp2
      go_ret
      exact ⟨rfl, rfl⟩
    · clear h ho
      have d : decide (n ≤ 16) = false := by simp; omega
      go_enter Tryz.func195, Tryz.ntmps195
      go_wp2
      go_ret
      exact ⟨rfl, rfl⟩
  · have ho : rgB n = (bits BinOp.and IntKind.i64 n (n - 1) == 0) := by simp [rgB, h]
    rw [ho]
    obtain ⟨h1, h2⟩ := inB_out h
    clear h ho
    have d : decide (n ≤ 16) = true := by simp; omega
    have d2 : decide (2 ≤ n) = true := by simp; omega
    go_enter Tryz.func195, Tryz.ntmps195
    go_wp2
    go_ret
    exact ⟨rfl, rfl⟩
theorem spec_isSize (n : Int) (w : World) :
    Calls Tryz.prog 183 #[.int .i64 n] w fun e w' => e = .returned (.bool (rgB n)) ∧ w' = w := by
  have c : ∀ W, Calls Tryz.prog 205 #[.int .i64 n, .int .i64 2, .int .i64 16] W fun e w' => e = .returned (.bool (rgB n)) ∧ w' = W := by
    intro w
    cases h : inB n 2 16
    · have ho : rgB n = false := by simp [rgB, h]
      rw [ho]
      clear ho
      go_enter Tryz.func205, Tryz.ntmps205
      go_wp2_with (go_at_call 121; refine (spec_in _ _ _ _).mono ?_; rintro e w' ⟨rfl, rfl⟩)
      go_ret
      exact ⟨rfl, rfl⟩
    · have ho : rgB n = (bits BinOp.and IntKind.i64 n (n - 1) == 0) := by simp [rgB, h]
      rw [ho]
      obtain ⟨h1, h2⟩ := inB_out h
      clear ho
      go_enter Tryz.func205, Tryz.ntmps205
      go_wp2_with (go_at_call 121; refine (spec_in _ _ _ _).mono ?_; rintro e w' ⟨rfl, rfl⟩)
      go_ret
      exact ⟨rfl, rfl⟩
  generalize rgB n = B at *
  go_enter Tryz.func183, Tryz.ntmps183
  go_wp2_with fail
  refine (c _).mono ?_
  rintro e w' ⟨rfl, rfl⟩
  go_wp2_with fail
  go_ret
  exact ⟨rfl, rfl⟩
/-- where RingOf answers -/
structure RingOk (p n : Int) : Prop where
  sz : n = 2 ∨ n = 4 ∨ n = 8 ∨ n = 16
  md : modB p = true
  pr : isP p.toNat = true
  dv : (p - 1) % (2 * n) = 0
theorem RingOk.root {p n : Int} (h : RingOk p n) : RootOk p (2 * n) := ⟨ord2 h.sz, h.md, h.pr, h.dv⟩
theorem RingOk.of_root {p n : Int} (hs : n = 2 ∨ n = 4 ∨ n = 8 ∨ n = 16) (h : RootOk p (2 * n)) : RingOk p n := ⟨hs, h.md, h.pr, h.dv⟩
abbrev ring0 : Array Value := #[.int .i64 0, .int .i64 0, .int .i64 0]
theorem impl_RingOf_no (p n : Int) (w : World) (hP : PrsW w) (hT : TabW w) (h : ¬ RingOk p n) :
    Calls Tryz.prog 163 #[.int .i64 p, .int .i64 n] w fun e w' => e = .returned (.tuple #[.agg ring0, .bool false]) ∧ Old w w' := by
  have c0 := fun W => impl_isSize n W
  cases hs : rgB n
  · rw [hs] at c0
    clear h hP hT hs
    go_enter Tryz.func163, Tryz.ntmps163
    go_wp2_with fail
    refine (c0 _).mono ?_
    rintro e w1 ⟨rfl, rfl⟩
    go_wp2_with fail
    exact bodyPost_ret (v := .tuple #[.agg ring0, .bool false]) (by simp [results, Tryz.results163, go_sem]) rfl ⟨rfl, by repeat (first | exact Old.refl _ | apply Old.alloc)⟩
  · rw [hs] at c0
    have hz := rgB_yes hs
    have hb : 2 ≤ n ∧ n ≤ 16 := by omega
    have c1 := fun W (h1 : PrsW W) (h2 : TabW W) => impl_RootOf_no p (2 * n) W h1 h2 (fun h3 => h (RingOk.of_root hz h3))
    have HP : Hid (PrsW w) := hP
    have HT : Hid (TabW w) := hT
    clear h hP hT hs hz
    go_enter Tryz.func163, Tryz.ntmps163
    go_wp2_with fail
    refine (c0 _).mono ?_
    rintro e w1 ⟨rfl, rfl⟩
    go_wp2_with fail
    refine (c1 _ (HP.out.old (Old.alloc (Old.refl _) _)) (HT.out.old (Old.alloc (Old.refl _) _))).mono ?_
    rintro e w1 ⟨rfl, k, rfl⟩
    go_wp2_with fail
    exact bodyPost_ret (v := .tuple #[.agg ring0, .bool false]) (by simp [results, Tryz.results163, go_sem]) rfl ⟨rfl, by repeat (first | exact Old.refl _ | apply Old.alloc | apply Old.drewN | (refine Old.own ?_ (Nat.le_refl _) _))⟩
theorem impl_RingOf_yes (p n R : Nat) (w : World) (hP : PrsW w) (hT : TabW w) (hz : (n : Int) = 2 ∨ (n : Int) = 4 ∨ (n : Int) = 8 ∨ (n : Int) = 16)
    (c1 : ∀ W, PrsW W → TabW W → Calls Tryz.prog 196 #[.int .i64 p, .int .i64 (2 * n)] W fun e w' => e = .returned (.tuple #[.int .i64 R, .bool true]) ∧ ∃ k, w' = W.drewN k) :
    Calls Tryz.prog 163 #[.int .i64 p, .int .i64 n] w fun e w' => e = .returned (.tuple #[.agg #[.int .i64 p, .int .i64 n, .int .i64 R], .bool true]) ∧ Old w w' := by
  have c0 := fun W => impl_isSize n W
  rw [rgB_mk hz] at c0
  have hb : 2 ≤ n ∧ n ≤ 16 := by omega
  have HP : Hid (PrsW w) := hP
  have HT : Hid (TabW w) := hT
  clear hP hT hz
  go_enter Tryz.func163, Tryz.ntmps163
  go_wp2_with fail
  refine (c0 _).mono ?_
  rintro e w1 ⟨rfl, rfl⟩
  go_wp2_with fail
  refine (c1 _ (HP.out.old (Old.alloc (Old.refl _) _)) (HT.out.old (Old.alloc (Old.refl _) _))).mono ?_
  rintro e w1 ⟨rfl, k, rfl⟩
  go_wp2_with fail
  exact bodyPost_ret (v := .tuple #[.agg #[.int .i64 p, .int .i64 n, .int .i64 R], .bool true]) (by simp [results, Tryz.results163, go_sem]) rfl ⟨rfl, by repeat (first | exact Old.refl _ | apply Old.alloc | apply Old.drewN | (refine Old.own ?_ (Nat.le_refl _) _))⟩
set_option maxHeartbeats 1000000 in
theorem spec_RingOf_yes (p n R : Nat) (w : World) (h : RingOk p n)
    (cl : ∀ W, Calls Tryz.prog 206 #[.int .i64 p, .int .i64 (2 * n)] W fun en w' => en = .returned (.int .i64 R) ∧ w' = W) :
    Calls Tryz.prog 185 #[.int .i64 p, .int .i64 n] w fun e w' => e = .returned (.tuple #[.agg #[.int .i64 p, .int .i64 n, .int .i64 R], .bool true]) ∧ Old w w' := by
  obtain ⟨hz, hm, hi, hd⟩ := h
  have c0 := fun W => spec_isSize n W
  rw [rgB_mk hz] at c0
  obtain ⟨m1, m2⟩ := modB_yes hm
  rw [Int.toNat_natCast] at hi
  have c := fun W => spec_IsPrime p W (by omega)
  rw [hi] at c
  have hd' : (((p : Int) - 1) % (2 * (n : Int)) != 0) = false := by simp [hd]
  have hb : 2 ≤ n ∧ n ≤ 16 := by omega
  have hnn : ¬ n = 0 := by omega
  have hnn2 : ¬ 2 * (n : Int) = 0 := by omega
  clear hi hd hz
  go_enter Tryz.func185, Tryz.ntmps185
  go_wp2_with (first | (go_at_call 135; refine (spec_modulus _ _).mono ?_; rintro en w' ⟨rfl, rfl⟩) | (go_at_call 183; refine (c0 _).mono ?_; rintro en w' ⟨rfl, rfl⟩))
  refine (c _).mono ?_
  rintro e w2 ⟨rfl, g2⟩
  have q0 : w2.cell? ⟨w.heap.size, 0, none⟩ = some (.int .i64 0) := (g2.cell (p := ⟨w.heap.size, 0, none⟩) (by simp)).trans (cell_at _ _ _ _ _ rfl)
  have f0 : w2.frozen? ⟨w.heap.size, 0, none⟩ = false := (g2.frozen (p := ⟨w.heap.size, 0, none⟩) (by simp)).trans (fro_at _ _ _ _ _ rfl)
  have q1 : w2.cell? ⟨w.heap.size, 1, none⟩ = some (.int .i64 0) := (g2.cell (p := ⟨w.heap.size, 1, none⟩) (by simp)).trans (cell_at _ _ _ _ _ rfl)
  have f1 : w2.frozen? ⟨w.heap.size, 1, none⟩ = false := (g2.frozen (p := ⟨w.heap.size, 1, none⟩) (by simp)).trans (fro_at _ _ _ _ _ rfl)
  have q2 : w2.cell? ⟨w.heap.size, 2, none⟩ = some (.int .i64 0) := (g2.cell (p := ⟨w.heap.size, 2, none⟩) (by simp)).trans (cell_at _ _ _ _ _ rfl)
  have f2 : w2.frozen? ⟨w.heap.size, 2, none⟩ = false := (g2.frozen (p := ⟨w.heap.size, 2, none⟩) (by simp)).trans (fro_at _ _ _ _ _ rfl)
  go_wp2_with fail
  refine (cl _).mono ?_
  rintro e w3 ⟨rfl, rfl⟩
  go_wp2_with fail
  exact bodyPost_ret (v := .tuple #[.agg #[.int .i64 p, .int .i64 n, .int .i64 R], .bool true]) (by simp [results, Tryz.results185, go_sem, q0, q1, q2]) rfl ⟨rfl, by repeat (first | exact Old.trans (Old.alloc (Old.refl _) _) g2 | apply Old.drewN | (refine Old.own ?_ (Nat.le_refl _) _))⟩
end Go.Proofs.YtfgooclnohnkmaaGreatDoor
/- Proved: primes: the least factor, Euclid's lemma, Fermat's little theorem, square roots of 1, and the roots of 1 of an order that is a power of 2; no program in sight. -/
namespace Go.Proofs.YtfgooclnohnkmaaGreatDoor.F1
set_option linter.unusedVariables false
/-- n is a prime -/
def Pr (n : Nat) : Prop := 2 ≤ n ∧ ∀ d, d ∣ n → d = 1 ∨ d = n
theorem least_factor (n : Nat) (hn : 2 ≤ n) : ∃ q, 2 ≤ q ∧ q ∣ n ∧ ∀ d, 2 ≤ d → d ∣ n → q ≤ d := by
  have key : ∀ k m, m ≤ k → 2 ≤ m → m ∣ n → ∃ q, 2 ≤ q ∧ q ∣ n ∧ ∀ d, 2 ≤ d → d ∣ n → q ≤ d := by
    intro k
    induction k with
    | zero => intro m h1 h2 _; omega
    | succ k ih =>
      intro m h1 h2 h3
      by_cases h : ∃ d, 2 ≤ d ∧ d ∣ n ∧ d < m
      · obtain ⟨d, hd1, hd2, hd3⟩ := h
        exact ih d (by omega) hd1 hd2
      · refine ⟨m, h2, h3, fun d hd1 hd2 => ?_⟩
        by_cases hlt : d < m
        · exact absurd ⟨d, hd1, hd2, hlt⟩ h
        · omega
  exact key n n (Nat.le_refl _) hn (Nat.dvd_refl _)
theorem pr_of_least {n q : Nat} (hn : 2 ≤ n) (h2 : 2 ≤ q) (hq : q ∣ n) (hl : ∀ d, 2 ≤ d → d ∣ n → q ≤ d) : Pr q := by
  refine ⟨h2, fun d hd => ?_⟩
  by_cases h1 : d = 1
  · exact Or.inl h1
  · have h0 : d ≠ 0 := by rintro rfl; have := Nat.eq_zero_of_zero_dvd hd; omega
    have := hl d (by omega) (Nat.dvd_trans hd hq)
    have := Nat.le_of_dvd (by omega) hd
    exact Or.inr (by omega)
/-- a number that is no prime has a prime q whose square is at most it -/
theorem not_pr {n : Nat} (hn : 2 ≤ n) (h : ¬ Pr n) : ∃ q m, Pr q ∧ n = q * m ∧ 2 ≤ m ∧ q * q ≤ n := by
  obtain ⟨q, h2, hq, hl⟩ := least_factor n hn
  obtain ⟨m, hm⟩ := hq
  have hp := pr_of_least hn h2 ⟨m, hm⟩ hl
  have hm0 : m ≠ 0 := by rintro rfl; omega
  have hm1 : m ≠ 1 := by
    rintro rfl
    rw [Nat.mul_one] at hm
    subst hm
    exact h hp
  have hqm : q ≤ m := hl m (by omega) ⟨q, by rw [hm, Nat.mul_comm]⟩
  exact ⟨q, m, hp, hm, by omega, by rw [hm]; exact Nat.mul_le_mul (Nat.le_refl _) hqm⟩
theorem Pr.cop {p a : Nat} (h : Pr p) (ha : ¬ p ∣ a) : Nat.Coprime p a := by
  rcases h.2 _ (Nat.gcd_dvd_left p a) with h1 | h1
  · exact h1
  · exact absurd (h1 ▸ Nat.gcd_dvd_right p a) ha
theorem Pr.euclid {p a b : Nat} (h : Pr p) (hd : p ∣ a * b) : p ∣ a ∨ p ∣ b := by
  by_cases ha : p ∣ a
  · exact Or.inl ha
  · exact Or.inr ((h.cop ha).dvd_of_dvd_mul_left hd)
theorem not_dvd_of_lt {p a : Nat} (h0 : 0 < a) (h1 : a < p) : ¬ p ∣ a := fun h => by have := Nat.le_of_dvd h0 h; omega
/-- a shorter list without doubles within a list, and not shorter: the same list in another order -/
theorem perm_of : ∀ (l1 l2 : List Nat), l1.Nodup → l1 ⊆ l2 → l2.length ≤ l1.length → l1.Perm l2
  | [], l2, _, _, h => by
    have : l2 = [] := List.length_eq_zero_iff.1 (by simpa using h)
    rw [this]
  | a :: l, l2, hn, hs, h => by
    have ha : a ∈ l2 := hs (List.mem_cons_self ..)
    have hp := List.perm_cons_erase ha
    have hn' := List.nodup_cons.1 hn
    have hsub : l ⊆ l2.erase a := by
      intro x hx
      have hne : x ≠ a := by rintro rfl; exact hn'.1 hx
      exact (List.mem_erase_of_ne hne).2 (hs (List.mem_cons_of_mem _ hx))
    have hlen : (l2.erase a).length ≤ l.length := by
      have e := hp.length_eq
      simp at e h ⊢
      omega
    exact (List.Perm.cons a (perm_of l (l2.erase a) hn'.2 hsub hlen)).trans hp.symm
theorem sub_dvd_of_mod {p a b : Nat} (h : a % p = b % p) (hab : a ≤ b) : p ∣ b - a := by
  have h1 := Nat.div_add_mod a p
  have h2 := Nat.div_add_mod b p
  rw [h] at h1
  refine ⟨b / p - a / p, ?_⟩
  rw [Nat.mul_sub]
  omega
theorem prod_map (a p : Nat) : ∀ l : List Nat, (l.map (fun i => a * i % p)).prod % p = a ^ l.length * l.prod % p
  | [] => by simp
  | x :: l => by
    have ih := prod_map a p l
    simp only [List.map_cons, List.prod_cons, List.length_cons]
    rw [Nat.mul_mod, ih, Nat.mod_mod, ← Nat.mul_mod, Nat.pow_succ]
    congr 1
    grind
theorem prod_not {p : Nat} (hp : Pr p) : ∀ l : List Nat, (∀ x ∈ l, ¬ p ∣ x) → ¬ p ∣ l.prod
  | [], _, h => by
    have := Nat.le_of_dvd (by simp) h
    have := hp.1
    simp at *
    omega
  | x :: l, hl, h => by
    rw [List.prod_cons] at h
    rcases hp.euclid h with h1 | h1
    · exact hl x (List.mem_cons_self ..) h1
    · exact prod_not hp l (fun y hy => hl y (List.mem_cons_of_mem _ hy)) h1
/-- Fermat -/
theorem Pr.fermat {p a : Nat} (hp : Pr p) (ha : ¬ p ∣ a) : a ^ (p - 1) % p = 1 := by
  have h2 := hp.1
  have hr : ∀ x ∈ List.range' 1 (p - 1), 0 < x ∧ x < p := by
    intro x hx
    simp [List.mem_range'_1] at hx
    omega
  have hnd : ((List.range' 1 (p - 1)).map (fun i => a * i % p)).Nodup := by
    unfold List.Nodup
    rw [List.pairwise_map]
    refine List.Pairwise.imp_of_mem ?_ (List.pairwise_lt_range' (s := 1) (n := p - 1))
    intro x y hx hy hxy he
    have h1 := sub_dvd_of_mod he (Nat.mul_le_mul (Nat.le_refl a) (Nat.le_of_lt hxy))
    rw [← Nat.mul_sub] at h1
    rcases hp.euclid h1 with h3 | h3
    · exact ha h3
    · exact not_dvd_of_lt (by omega) (by have := (hr y hy).2; omega) h3
  have hsub : (List.range' 1 (p - 1)).map (fun i => a * i % p) ⊆ List.range' 1 (p - 1) := by
    intro y hy
    obtain ⟨x, hx, rfl⟩ := List.mem_map.1 hy
    have hlt : a * x % p < p := Nat.mod_lt _ (by omega)
    have h0 : a * x % p ≠ 0 := by
      intro e
      rcases hp.euclid (Nat.dvd_of_mod_eq_zero e) with h3 | h3
      · exact ha h3
      · exact not_dvd_of_lt (hr x hx).1 (hr x hx).2 h3
    show a * x % p ∈ List.range' 1 (p - 1)
    rw [List.mem_range'_1]
    omega
  have hperm := perm_of _ _ hnd hsub (by simp)
  have e := prod_map a p (List.range' 1 (p - 1))
  rw [hperm.prod_nat, List.length_range'] at e
  have hno := prod_not hp (List.range' 1 (p - 1)) (fun x hx => not_dvd_of_lt (hr x hx).1 (hr x hx).2)
  generalize (List.range' 1 (p - 1)).prod = X at *
  have hapos : 0 < a := by
    rcases Nat.eq_zero_or_pos a with h | h
    · exact absurd (h ▸ Nat.dvd_zero p) ha
    · exact h
  have hpos : 1 ≤ a ^ (p - 1) := Nat.one_le_pow _ _ hapos
  have hle : X ≤ a ^ (p - 1) * X := by have := Nat.mul_le_mul hpos (Nat.le_refl X); omega
  have h1 := sub_dvd_of_mod e hle
  have h3 : a ^ (p - 1) * X - X = (a ^ (p - 1) - 1) * X := by rw [Nat.sub_mul, Nat.one_mul]
  rw [h3] at h1
  rcases hp.euclid h1 with h4 | h4
  · obtain ⟨c, hc⟩ := h4
    have : a ^ (p - 1) = 1 + p * c := by omega
    rw [this, Nat.add_mul_mod_self_left, Nat.mod_eq_of_lt (by omega)]
  · exact absurd h4 hno
/-- square roots of a square -/
theorem Pr.sq {p x y : Nat} (hp : Pr p) (h : x * x % p = y * y % p) : x % p = y % p ∨ (x + y) % p = 0 := by
  rcases Nat.le_total x y with hxy | hxy
  · have h1 := sub_dvd_of_mod h (Nat.mul_le_mul hxy hxy)
    have e : y * y - x * x = (y - x) * (x + y) := by
      rw [Nat.sub_mul, Nat.mul_add, Nat.mul_add, Nat.mul_comm y x]
      omega
    rw [e] at h1
    rcases hp.euclid h1 with h2 | h2
    · obtain ⟨c, hc⟩ := h2
      left
      have : y = x + p * c := by omega
      rw [this, Nat.add_mul_mod_self_left]
    · exact Or.inr (Nat.mod_eq_zero_of_dvd h2)
  · have h1 := sub_dvd_of_mod h.symm (Nat.mul_le_mul hxy hxy)
    have e : x * x - y * y = (x - y) * (x + y) := by
      rw [Nat.sub_mul, Nat.mul_add, Nat.mul_add, Nat.mul_comm x y]
      omega
    rw [e] at h1
    rcases hp.euclid h1 with h2 | h2
    · obtain ⟨c, hc⟩ := h2
      left
      have : x = y + p * c := by omega
      rw [this, Nat.add_mul_mod_self_left]
    · exact Or.inr (Nat.mod_eq_zero_of_dvd h2)
/-- of a number whose 2^j-th power is -1 the powers are all the 2^(j+1)-th roots of 1 -/
theorem Pr.roots {p : Nat} (hp : Pr p) : ∀ (j r h : Nat), (r ^ 2 ^ j + 1) % p = 0 → h ^ 2 ^ (j + 1) % p = 1 → ∃ k, h % p = r ^ k % p
  | 0, r, h, hr, hh => by
    have hh' : h * h % p = 1 * 1 % p := by
      have h2 := hp.1
      rw [Nat.one_mul, Nat.mod_eq_of_lt (show 1 < p by omega)]
      simpa [Nat.pow_succ] using hh
    rcases hp.sq hh' with h1 | h1
    · exact ⟨0, by simpa using h1⟩
    · refine ⟨1, ?_⟩
      simp at hr ⊢
      have e : (h + (r + 1)) % p = (r + (h + 1)) % p := by congr 1; omega
      have e1 : (h + (r + 1)) % p = h % p := by rw [Nat.add_mod, hr, Nat.add_zero, Nat.mod_mod]
      have e2 : (r + (h + 1)) % p = r % p := by rw [Nat.add_mod, h1, Nat.add_zero, Nat.mod_mod]
      rw [← e1, e, e2]
  | j + 1, r, h, hr, hh => by
    have hr2 : ((r * r) ^ 2 ^ j + 1) % p = 0 := by
      rw [← hr, Nat.pow_succ 2 j, Nat.mul_comm (2 ^ j) 2, Nat.pow_mul, Nat.pow_two]
    have hh2 : (h * h) ^ 2 ^ (j + 1) % p = 1 := by
      have e : h ^ 2 ^ (j + 1 + 1) = (h * h) ^ 2 ^ (j + 1) := by rw [Nat.pow_succ 2 (j + 1), Nat.mul_comm (2 ^ (j + 1)) 2, Nat.pow_mul, Nat.pow_two]
      rw [← e]; exact hh
    obtain ⟨k, hk⟩ := Pr.roots hp j (r * r) (h * h) hr2 hh2
    have hk' : h * h % p = r ^ k * r ^ k % p := by rw [hk, Nat.mul_pow]
    rcases hp.sq hk' with h1 | h1
    · exact ⟨k, h1⟩
    · refine ⟨k + 2 ^ (j + 1), ?_⟩
      have h3 : (r ^ k * (r ^ 2 ^ (j + 1) + 1)) % p = 0 := by rw [Nat.mul_mod, hr, Nat.mul_zero, Nat.zero_mod]
      rw [Nat.mul_add, Nat.mul_one, ← Nat.pow_add] at h3
      generalize r ^ (k + 2 ^ (j + 1)) = U at *
      generalize r ^ k = V at *
      have e1 : (h + (U + V)) % p = h % p := by rw [Nat.add_mod, h3, Nat.add_zero, Nat.mod_mod]
      have e2 : (U + (h + V)) % p = U % p := by rw [Nat.add_mod, h1, Nat.add_zero, Nat.mod_mod]
      rw [← e1, ← e2]
      congr 1
      omega
end Go.Proofs.YtfgooclnohnkmaaGreatDoor.F1
/- Proved: modulo a prime the least of the odd powers of a power of the first number that is no square is the least root of 1 of its order, a power of 2; no program in sight. -/
namespace Go.Proofs.YtfgooclnohnkmaaGreatDoor.F1
open Go.Proofs.YtfgooclnohnkmaaGreatDoor.M1
set_option linter.unusedVariables false
/-- f is a polynomial of degree m, led by c -/
def Poly : Nat → Int → (Int → Int) → Prop
  | 0, c, f => ∀ x, f x = c
  | m + 1, c, f => ∃ g d, Poly m c g ∧ ∀ x, f x = x * g x + d
theorem Poly.div : ∀ (m : Nat) (c : Int) (f : Int → Int), Poly (m + 1) c f → ∀ r, ∃ g, Poly m c g ∧ ∀ x, f x = (x - r) * g x + f r
  | 0, c, f, ⟨g, d, hg, hf⟩, r => by
    have hg' : ∀ x, g x = c := hg
    refine ⟨fun _ => c, fun _ => rfl, fun x => ?_⟩
    rw [hf x, hf r, hg' x, hg' r]
    grind
  | m + 1, c, f, ⟨g, d, hg, hf⟩, r => by
    obtain ⟨g1, h1, h2⟩ := Poly.div m c g hg r
    refine ⟨fun x => x * g1 x + g r, ⟨g1, g r, h1, fun x => rfl⟩, fun x => ?_⟩
    rw [hf x, hf r, h2 x]
    grind
theorem Pr.euclidI {p : Nat} (hp : Pr p) {a b : Int} (h : (p : Int) ∣ a * b) : (p : Int) ∣ a ∨ (p : Int) ∣ b := by
  rw [Int.ofNat_dvd_left, Int.natAbs_mul] at h
  rw [Int.ofNat_dvd_left, Int.ofNat_dvd_left]
  exact hp.euclid h
/-- a polynomial has no more roots than its degree -/
theorem Poly.roots {p : Nat} (hp : Pr p) : ∀ (m : Nat) (c : Int) (f : Int → Int), Poly m c f → ¬ (p : Int) ∣ c → ∀ l : List Nat, l.Nodup → (∀ x ∈ l, x < p ∧ (p : Int) ∣ f x) → l.length ≤ m
  | 0, c, f, hf, hc, l, hn, hl => by
    cases l with
    | nil => simp
    | cons r l =>
      have h1 := (hl r (List.mem_cons_self ..)).2
      have h2 : f r = c := hf r
      rw [h2] at h1
      exact absurd h1 hc
  | m + 1, c, f, hf, hc, l, hn, hl => by
    cases l with
    | nil => simp
    | cons r l =>
      obtain ⟨g, hg, hd⟩ := Poly.div m c f hf (r : Int)
      have hn' := List.nodup_cons.1 hn
      obtain ⟨hr1, hr2⟩ := hl r (List.mem_cons_self ..)
      have := Poly.roots hp m c g hg hc l hn'.2 (fun x hx => by
        obtain ⟨hx1, hx2⟩ := hl x (List.mem_cons_of_mem _ hx)
        refine ⟨hx1, ?_⟩
        have h3 : (p : Int) ∣ ((x : Int) - r) * g x := by
          have e : ((x : Int) - r) * g x = f x - f r := by rw [hd x]; omega
          rw [e]
          exact Int.dvd_sub hx2 hr2
        rcases hp.euclidI h3 with h4 | h4
        · exfalso
          have hne : x ≠ r := by rintro rfl; exact hn'.1 hx
          rw [Int.ofNat_dvd_left] at h4
          exact not_dvd_of_lt (a := ((x : Int) - r).natAbs) (by omega) (by omega) h4
        · exact h4)
      simp
      omega
theorem Poly.pow : ∀ m : Nat, Poly m 1 (fun x => x ^ m)
  | 0 => fun x => by simp
  | m + 1 => ⟨fun x => x ^ m, 0, Poly.pow m, fun x => by show x ^ (m + 1) = x * x ^ m + 0; rw [Int.pow_succ]; grind⟩
/-- not all numbers from 1 on have 1 for their m-th power -/
theorem Pr.non {p m : Nat} (hp : Pr p) (hm : 1 ≤ m) (hmp : m < p - 1) : ∃ b, 2 ≤ b ∧ b < p ∧ b ^ m % p ≠ 1 := by
  apply Classical.byContradiction
  intro hno
  have h2 := hp.1
  obtain ⟨k, rfl⟩ : ∃ k, m = k + 1 := ⟨m - 1, by omega⟩
  have hpoly : Poly (k + 1) 1 (fun x => x ^ (k + 1) - 1) := ⟨fun x => x ^ k, -1, Poly.pow k, fun x => by show x ^ (k + 1) - 1 = x * x ^ k + -1; rw [Int.pow_succ]; grind⟩
  have hc : ¬ (p : Int) ∣ 1 := by
    rw [Int.ofNat_dvd_left]
    exact not_dvd_of_lt (by omega) (by show 1 < p; omega)
  have := Poly.roots hp (k + 1) 1 _ hpoly hc (List.range' 1 (p - 1)) List.nodup_range' (fun x hx => by
    simp [List.mem_range'_1] at hx
    refine ⟨by omega, ?_⟩
    have h1 : x ^ (k + 1) % p = 1 := by
      by_cases hx1 : x = 1
      · subst hx1
        rw [Nat.one_pow, Nat.mod_eq_of_lt (by omega)]
      · apply Classical.byContradiction
        intro hne
        exact hno ⟨x, by omega, by omega, hne⟩
    have e := Nat.div_add_mod (x ^ (k + 1)) p
    rw [h1] at e
    refine ⟨((x ^ (k + 1) / p : Nat) : Int), ?_⟩
    have e2 : ((x : Int)) ^ (k + 1) = ((x ^ (k + 1) : Nat) : Int) := by simp
    show (x : Int) ^ (k + 1) - 1 = _
    rw [e2, ← Int.natCast_mul]
    omega)
  rw [List.length_range'] at this
  omega
theorem pow_one_mod {p : Nat} (hp : 2 ≤ p) (x k : Nat) (h : x % p = 1) : x ^ k % p = 1 := by
  rw [Nat.pow_mod, h, Nat.one_pow, Nat.mod_eq_of_lt (by omega)]
theorem mlx (a b p : Nat) : (a % p * b) % p = a * b % p := by rw [Nat.mul_mod, Nat.mod_mod, ← Nat.mul_mod]
theorem lr_le (p sq : Nat) : ∀ (k x b : Nat), lr p sq k x b ≤ b ∧ ∀ i, 1 ≤ i → i ≤ k → lr p sq k x b ≤ x * sq ^ i % p
  | 0, x, b => ⟨Nat.le_refl _, fun i h1 h2 => by omega⟩
  | k + 1, x, b => by
    obtain ⟨h1, h2⟩ := lr_le p sq k (x * sq % p) (min b (x * sq % p))
    have e : lr p sq (k + 1) x b = lr p sq k (x * sq % p) (min b (x * sq % p)) := rfl
    rw [e]
    refine ⟨by omega, fun i hi1 hi2 => ?_⟩
    by_cases h : i = 1
    · subst h
      rw [Nat.pow_one]
      omega
    · have h3 := h2 (i - 1) (by omega) (by omega)
      rw [mlx, Nat.mul_assoc, ← Nat.pow_succ', show (i - 1).succ = i by omega] at h3
      exact h3
theorem lr_mem (p sq : Nat) : ∀ (k x b : Nat), lr p sq k x b = b ∨ ∃ i, i ≤ k ∧ lr p sq k x b = x * sq ^ i % p
  | 0, x, b => Or.inl rfl
  | k + 1, x, b => by
    have e : lr p sq (k + 1) x b = lr p sq k (x * sq % p) (min b (x * sq % p)) := rfl
    rw [e]
    rcases lr_mem p sq k (x * sq % p) (min b (x * sq % p)) with h | ⟨i, hi, h⟩
    · rw [h]
      rcases Nat.le_total b (x * sq % p) with hb | hb
      · exact Or.inl (Nat.min_eq_left hb)
      · exact Or.inr ⟨1, by omega, by rw [Nat.pow_one]; exact Nat.min_eq_right hb⟩
    · refine Or.inr ⟨i + 1, by omega, ?_⟩
      rw [h, mlx, Nat.mul_assoc, ← Nat.pow_succ']
/-- the least root of 1 of the order n -/
theorem least_root {p n j A e : Nat} (hp : Pr p) (hp3 : 3 ≤ p) (hn : n = 2 ^ (j + 1)) (he : e * (n / 2) = (p - 1) / 2) (hpm : p = 2 * ((p - 1) / 2) + 1) (hA2 : 2 ≤ A) (hmin : ∀ b, 2 ≤ b → b < A → b ^ ((p - 1) / 2) % p = 1) (hA : A ^ ((p - 1) / 2) % p ≠ 1)
    (r R : Nat) (hr : r = A ^ e % p) (hR : R = lr p (r * r % p) (n / 2 - 1) r r) :
    R ^ n % p = 1 ∧ R ^ (n / 2) % p ≠ 1 ∧ 1 ≤ R ∧ ∀ h, h < R → ¬ (h ^ n % p = 1 ∧ h ^ (n / 2) % p ≠ 1) := by
  have hn2 : n / 2 = 2 ^ j := by rw [hn, Nat.pow_succ, Nat.mul_div_cancel _ (by omega)]
  have hnn : n = 2 ^ j * 2 := by rw [hn, Nat.pow_succ]
  have hj : 1 ≤ 2 ^ j := Nat.one_le_two_pow
  have hAp : A < p := by
    obtain ⟨b, hb1, hb2, hb3⟩ := hp.non (m := (p - 1) / 2) (by omega) (by omega)
    by_cases h : A ≤ b
    · omega
    · exact absurd (hmin b hb1 (by omega)) hb3
  have hfer := hp.fermat (not_dvd_of_lt (show 0 < A by omega) hAp)
  have hsq : A ^ ((p - 1) / 2) * A ^ ((p - 1) / 2) % p = 1 * 1 % p := by
    rw [← Nat.pow_add, show (p - 1) / 2 + (p - 1) / 2 = p - 1 by omega, hfer, Nat.one_mul, Nat.mod_eq_of_lt (by omega)]
  have hneg : (A ^ ((p - 1) / 2) + 1) % p = 0 := by
    rcases hp.sq hsq with h | h
    · rw [Nat.mod_eq_of_lt (show 1 < p by omega)] at h
      exact absurd h hA
    · exact h
  have hrp : r < p := by rw [hr]; exact Nat.mod_lt _ (by omega)
  have hrj : r ^ 2 ^ j % p = A ^ ((p - 1) / 2) % p := by rw [hr, ← Nat.pow_mod, ← Nat.pow_mul, ← hn2, he]
  have hr1 : (r ^ 2 ^ j + 1) % p = 0 := by rw [Nat.add_mod, hrj, ← Nat.add_mod]; exact hneg
  have hrn : r ^ n % p = 1 := by
    rw [hnn, Nat.pow_mul, Nat.pow_two, Nat.mul_mod, hrj, ← Nat.mul_mod, hsq, Nat.one_mul, Nat.mod_eq_of_lt (by omega)]
  have hodd : ∀ i, r * (r * r % p) ^ i % p = r ^ (2 * i + 1) % p := by
    intro i
    rw [Nat.mul_mod, ← Nat.pow_mod, ← Nat.mul_mod, ← Nat.pow_two, ← Nat.pow_mul, ← Nat.pow_succ']
  have hmem : ∃ i, R = r ^ (2 * i + 1) % p := by
    rcases lr_mem p (r * r % p) (n / 2 - 1) r r with h | ⟨i, _, h⟩
    · exact ⟨0, by rw [hR, h]; simp [Nat.mod_eq_of_lt hrp]⟩
    · exact ⟨i, by rw [hR, h, hodd]⟩
  have hle : ∀ i, i < 2 ^ j → R ≤ r ^ (2 * i + 1) % p := by
    intro i hi
    obtain ⟨h1, h2⟩ := lr_le p (r * r % p) (n / 2 - 1) r r
    rw [hR]
    by_cases h0 : i = 0
    · subst h0
      simp [Nat.mod_eq_of_lt hrp]
      exact h1
    · have := h2 i (by omega) (by omega)
      rw [hodd] at this
      exact this
  obtain ⟨i, hi⟩ := hmem
  have hRh : R ^ (n / 2) % p ≠ 1 := by
    rw [hi, ← Nat.pow_mod, ← Nat.pow_mul, hn2]
    have e1 : r ^ ((2 * i + 1) * 2 ^ j) = (r ^ n) ^ i * r ^ 2 ^ j := by
      rw [← Nat.pow_mul, ← Nat.pow_add, hnn]
      congr 1
      grind
    rw [e1, Nat.mul_mod, pow_one_mod (by omega) _ i hrn, Nat.one_mul, Nat.mod_mod, hrj]
    exact hA
  refine ⟨?_, hRh, ?_, ?_⟩
  · rw [hi, ← Nat.pow_mod, ← Nat.pow_mul, Nat.mul_comm, Nat.pow_mul]
    exact pow_one_mod (by omega) _ _ hrn
  · rcases Nat.eq_zero_or_pos R with h0 | h0
    · exfalso
      have h1 : r ^ (2 * i + 1) % p = 0 := by rw [← hi]; exact h0
      have h2 : (r ^ (2 * i + 1)) ^ n % p = 0 := by
        rw [Nat.pow_mod, h1, Nat.zero_pow (by omega), Nat.zero_mod]
      rw [← Nat.pow_mul, Nat.mul_comm, Nat.pow_mul, pow_one_mod (by omega) _ _ hrn] at h2
      omega
    · exact h0
  · rintro h hlt ⟨h1, h2⟩
    obtain ⟨k, hk⟩ := hp.roots j r h hr1 (by rw [← hn]; exact h1)
    rcases Nat.mod_two_eq_zero_or_one k with hk2 | hk2
    · refine h2 ?_
      obtain ⟨s, rfl⟩ : ∃ s, k = 2 * s := ⟨k / 2, by omega⟩
      rw [Nat.pow_mod, hk, ← Nat.pow_mod, ← Nat.pow_mul, show 2 * s * (n / 2) = n * s by rw [hn2, hnn]; grind, Nat.pow_mul]
      exact pow_one_mod (by omega) _ _ hrn
    · obtain ⟨s, rfl⟩ : ∃ s, k = 2 * s + 1 := ⟨k / 2, by omega⟩
      have e1 : r ^ (2 * s + 1) % p = r ^ (2 * (s % 2 ^ j) + 1) % p := by
        have e2 := Nat.div_add_mod s (2 ^ j)
        have e3 : r ^ (2 * s + 1) = (r ^ n) ^ (s / 2 ^ j) * r ^ (2 * (s % 2 ^ j) + 1) := by
          rw [← Nat.pow_mul, ← Nat.pow_add, hnn]
          congr 1
          generalize s / 2 ^ j = a at *
          generalize s % 2 ^ j = b at *
          rw [← e2]
          grind
        rw [e3, Nat.mul_mod, pow_one_mod (by omega) _ _ hrn, Nat.one_mul, Nat.mod_mod]
      have h4 := hle (s % 2 ^ j) (Nat.mod_lt _ hj)
      rw [← e1, ← hk] at h4
      have := Nat.mod_le h p
      omega
end Go.Proofs.YtfgooclnohnkmaaGreatDoor.F1
/- Proved: both RingOf answer one and the same ring, whose root is of the full order where the modulus is a prime; and whether a ring is good is told alike. -/
namespace Go.Proofs.YtfgooclnohnkmaaGreatDoor
open Go.ChangeShapes Go.WideShapes Go.ChangeAt Go.RowKit
open M1
set_option linter.unusedVariables false
theorem ord_pow : ∀ n : Nat, n < 65 → 2 ≤ n → n &&& (n - 1) = 0 → ∃ j, j < 6 ∧ n = 2 ^ (j + 1) := by decide
theorem ordB_pow (n : Nat) (h : ordB (n : Int) = true) : ∃ j, n = 2 ^ (j + 1) := by
  obtain ⟨b1, b2, b3⟩ := ordB_yes n h
  simp only [ordB, Bool.and_eq_true, beq_iff_eq] at h
  have e : (n : Int) - 1 = ((n - 1 : Nat) : Int) := by omega
  rw [e, and_nat n (n - 1) (by omega) (by omega)] at h
  obtain ⟨j, _, hj⟩ := ord_pow n (by omega) b1 (by omega)
  exact ⟨j, hj⟩
/-- the n-th power is 1, the half power the opposite of 1 -/
structure Rt (p n R : Nat) : Prop where
  pos : 1 ≤ R
  one : R ^ n % p = 1
  neg : R ^ (n / 2) % p = p - 1
theorem neg_of {p n R : Nat} (hp : F1.Pr p) (hp3 : 3 ≤ p) (hn : n = 2 * (n / 2)) (h1 : R ^ n % p = 1) (h2 : R ^ (n / 2) % p ≠ 1) : R ^ (n / 2) % p = p - 1 := by
  have e : R ^ (n / 2) * R ^ (n / 2) % p = 1 * 1 % p := by
    rw [← Nat.pow_add, show n / 2 + n / 2 = n by omega, h1, Nat.mod_eq_of_lt (by omega)]
  rcases F1.Pr.sq hp e with h | h
  · rw [Nat.mod_eq_of_lt (show 1 < p by omega)] at h
    exact absurd h h2
  · have h3 := Nat.mod_lt (R ^ (n / 2)) (show 0 < p by omega)
    rw [Nat.add_mod, Nat.mod_eq_of_lt (show 1 < p by omega)] at h
    generalize R ^ (n / 2) % p = x at *
    by_cases hx : x + 1 < p
    · rw [Nat.mod_eq_of_lt hx] at h
      omega
    · omega
theorem Root_both (p n : Nat) (h : RootOk p n) : ∃ R : Nat, R < p ∧ (F1.Pr p → Rt p n R)
    ∧ (∀ W, PrsW W → TabW W → Calls Tryz.prog 196 #[.int .i64 p, .int .i64 n] W fun e w' => e = .returned (.tuple #[.int .i64 R, .bool true]) ∧ ∃ k, w' = W.drewN k)
    ∧ (∀ W, Calls Tryz.prog 206 #[.int .i64 p, .int .i64 n] W fun en w' => en = .returned (.int .i64 R) ∧ w' = W) := by
  obtain ⟨j, hj⟩ := ordB_pow n h.ord
  obtain ⟨b1, b2, b3⟩ := ordB_yes n h.ord
  obtain ⟨m1, m2⟩ := modB_yes h.md
  have hdv : (p - 1) % n = 0 := by
    have h1 := h.dv
    have e : (p : Int) - 1 = ((p - 1 : Nat) : Int) := by omega
    rw [e] at h1
    have h2 : (((p - 1) % n : Nat) : Int) = 0 := by rw [← h1]; simp
    omega
  have en := Nat.div_add_mod (p - 1) n
  rw [hdv, Nat.add_zero] at en
  have hp3 : 3 ≤ p := by
    rcases Nat.lt_or_ge p 3 with hlt | hge
    · exfalso
      have h2 : p = 2 := by omega
      rw [h2, Nat.mod_eq_of_lt (by omega)] at hdv
      omega
    · exact hge
  obtain ⟨hh, ehh⟩ : ∃ hh, hh = n / 2 := ⟨_, rfl⟩
  have hn2 : n = 2 * hh := by omega
  have em : (p - 1) / n * hh = (p - 1) / 2 := by
    have h1 : 2 * ((p - 1) / n * hh) = p - 1 := by
      rw [← en, hn2]
      have := en
      rw [hn2] at this
      rw [this, ← this]
      grind
    omega
  have hpm : p = 2 * ((p - 1) / 2) + 1 := by
    have h1 : 2 * ((p - 1) / n * hh) = p - 1 := by
      have := en
      rw [hn2] at this
      rw [hn2, ← this]
      have e3 : (2 * hh * ((p - 1) / (2 * hh))) / (2 * hh) = (p - 1) / (2 * hh) := Nat.mul_div_cancel_left _ (by omega)
      rw [e3]
      grind
    omega
  obtain ⟨A, hA2, hAp, hmin, hA⟩ := first_ex p ((p - 1) / 2) (by omega) (by omega)
  have hr := powM_lt (A % p) ((p - 1) / n) p (by omega)
  refine ⟨_, ?_, ?_, fun W h1 h2 => impl_RootOf_yes p n _ _ W h1 h2 h hr (fun W => impl_someRoot p n _ _ A W hp3 (by omega) rfl rfl (by omega) b2 hA2 hAp hmin hA) (fun W => impl_leastRoot _ p n W (by omega) (by omega) hr b1 b2),
    fun W => spec_leastRoot p n _ _ hh A W hp3 (by omega) hpm hn2 (by omega) b2 rfl em hA2 hAp hmin hA⟩
  · exact lr_lt p _ (by omega) _ _ _ hr
  · intro hPr
    have facts := F1.least_root (p := p) (n := n) (j := j) (A := A) (e := (p - 1) / n) hPr hp3 hj (by rw [← ehh]; exact em) hpm hA2 (fun b hb1 hb2 => by have := hmin b hb1 hb2; rwa [powM_mod] at this) (by rwa [powM_mod] at hA) (powM (A % p) ((p - 1) / n) p) _ (powM_mod _ _ _) rfl
    exact ⟨facts.2.2.1, facts.1, neg_of hPr hp3 (by omega) facts.1 facts.2.1⟩
theorem Ring_both (p n : Nat) (h : RingOk p n) : ∃ R : Nat, R < p ∧ (F1.Pr p → Rt p (2 * n) R)
    ∧ (∀ W, PrsW W → TabW W → Calls Tryz.prog 163 #[.int .i64 p, .int .i64 n] W fun e w' => e = .returned (.tuple #[.agg #[.int .i64 p, .int .i64 n, .int .i64 R], .bool true]) ∧ Old W w')
    ∧ (∀ W, Calls Tryz.prog 185 #[.int .i64 p, .int .i64 n] W fun e w' => e = .returned (.tuple #[.agg #[.int .i64 p, .int .i64 n, .int .i64 R], .bool true]) ∧ Old W w') := by
  obtain ⟨R, h1, h2, h3, h4⟩ := Root_both p (2 * n) (by have := h.root; exact_mod_cast this)
  have e : ((2 * n : Nat) : Int) = 2 * (n : Int) := by omega
  rw [e] at h3 h4
  exact ⟨R, h1, h2, fun W a b => impl_RingOf_yes p n R W a b h.sz h3, fun W => spec_RingOf_yes p n R W h h4⟩
end Go.Proofs.YtfgooclnohnkmaaGreatDoor
/- Proved: what is carried through a statement on lists: a ring's cells, rows of the call's own; and a ring's copy. -/
namespace Go.Proofs.YtfgooclnohnkmaaGreatDoor
open Go.ChangeShapes Go.WideShapes Go.ChangeAt Go.RowKit
set_option linter.unusedVariables false
theorem Own.by_ {w w' : World} {base : Nat} {v : Value} {xs : List Int} {ob : Option Nat} (h : Own w base v xs) (g : w.grownBy w' ob) (hne : ∀ a b, v.ownBlock = some a → ob = some b → a ≠ b) : Own w' base v xs := by
  refine World.ownsRow.kept h g ?_
  cases hv : v.ownBlock with
  | none => exact Or.inl rfl
  | some a =>
    refine Or.inr (fun e => ?_)
    exact hne a a hv e.symm rfl
theorem Old.by_ {a w w' : World} {ob : Option Nat} (h : Old a w) (g : w.grownBy w' ob) (hb : ∀ b, ob = some b → a.heap.size ≤ b) : Old a w' := Below.grown h g h.size hb
/-- a ring's three cells in a block -/
structure Rc (w : World) (b : Nat) (p n r : Int) : Prop where
  lt : b < w.heap.size
  c0 : w.cell? ⟨b, 0, none⟩ = some (.int .i64 p)
  c1 : w.cell? ⟨b, 1, none⟩ = some (.int .i64 n)
  c2 : w.cell? ⟨b, 2, none⟩ = some (.int .i64 r)
theorem Rc.new (w : World) (p n r : Int) {t : TypeId} : Rc (w.alloc (.cells #[.int .i64 p, .int .i64 n, .int .i64 r] t)) w.heap.size p n r :=
  ⟨by simp, cell_at _ _ _ _ _ rfl, cell_at _ _ _ _ _ rfl, cell_at _ _ _ _ _ rfl⟩
theorem Rc.old {w w' : World} {b : Nat} {p n r : Int} (h : Rc w b p n r) (g : Old w w') : Rc w' b p n r :=
  ⟨Nat.lt_of_lt_of_le h.lt g.size, (g.cell (p := ⟨b, 0, none⟩) h.lt).trans h.c0, (g.cell (p := ⟨b, 1, none⟩) h.lt).trans h.c1, (g.cell (p := ⟨b, 2, none⟩) h.lt).trans h.c2⟩
theorem Rc.by_ {w w' : World} {b : Nat} {p n r : Int} {ob : Option Nat} (h : Rc w b p n r) (g : w.grownBy w' ob) (hne : ∀ k, ob = some k → k ≠ b) : Rc w' b p n r := by
  have hb := g.block b h.lt (fun e => hne b e.symm rfl)
  exact ⟨Nat.lt_of_lt_of_le h.lt g.size, (World.cell?_of_block (w := w) (a := ⟨b, 0, none⟩) hb).trans h.c0, (World.cell?_of_block (w := w) (a := ⟨b, 1, none⟩) hb).trans h.c1, (World.cell?_of_block (w := w) (a := ⟨b, 2, none⟩) hb).trans h.c2⟩
end Go.Proofs.YtfgooclnohnkmaaGreatDoor
/- Proved: whether a list is a basis, of the program and of the model. -/
namespace Go.Proofs.YtfgooclnohnkmaaGreatDoor
open Go.ChangeShapes Go.WideShapes Go.ChangeAt Go.RowKit
open M1
set_option linter.unusedVariables false
set_option linter.unusedSimpArgs false
/-- a prime modulus -/
def pmB (p : Int) : Bool := modB p && isP p.toNat
/-- what is asked of the number at place k: a prime modulus that is not ahead of it -/
def gbAt (xs : List Int) (k : Nat) : Bool := pmB (xs.getD k 0) && !((xs.take k).contains (xs.getD k 0))
/-- from place k on -/
def gb (xs : List Int) (k : Nat) : Bool := decide (∀ i, i < xs.length → k ≤ i → gbAt xs i = true)
/-- a basis -/
def basB (xs : List Int) : Bool := decide (1 ≤ xs.length ∧ xs.length ≤ 6) && gb xs 0
theorem gb_end {xs : List Int} {k : Nat} (h : xs.length ≤ k) : gb xs k = true := decide_eq_true (fun i h1 h2 => by omega)
theorem gb_no {xs : List Int} {k : Nat} (h : k < xs.length) (hk : gbAt xs k = false) : gb xs k = false :=
  decide_eq_false (fun hh => by have := hh k h (Nat.le_refl _); rw [hk] at this; cases this)
theorem gb_yes {xs : List Int} {k : Nat} (hk : gbAt xs k = true) : gb xs k = gb xs (k + 1) := by
  unfold gb
  congr 1
  refine propext ⟨fun h i h1 h2 => h i h1 (by omega), fun h i h1 h2 => ?_⟩
  rcases Nat.eq_or_lt_of_le h2 with e | e
  · rw [← e]; exact hk
  · exact h i h1 e
theorem has_none (xs : List Int) (p : Int) (h : ∀ j, j < xs.length → (p == xs.getD j 0) = false) : xs.contains p = false := by
  rw [Bool.eq_false_iff]
  intro hc
  have hm : p ∈ xs := by simpa using hc
  obtain ⟨j, hj, e⟩ := List.getElem_of_mem hm
  have := h j hj
  simp [List.getD, hj, e] at this
theorem has_at (xs : List Int) (p : Int) (j : Nat) (hj : j < xs.length) (h : (p == xs.getD j 0) = true) : xs.contains p = true := by
  have e : xs.getD j 0 = xs[j] := by simp [List.getD, hj]
  rw [e] at h
  have e2 := beq_iff_eq.1 h
  simp [e2]
set_option maxHeartbeats 1000000 in
theorem index_any (xs : List Int) (p : Int) (v : Value) (w : World) (hv : Row w v xs) (hl : xs.length ≤ 9223372036854775807) :
    Calls Tryz.prog 169 #[v, .int .i64 p] w fun e w' => (∃ z : Int, e = .returned (.int .i64 z) ∧ decide (0 ≤ z) = xs.contains p) ∧ Old w w' := by
  rcases hv with ⟨a, cap, rfl, rfl⟩ | ⟨b, o, cap, rfl, hb, h0, hc⟩
  · go_enter Tryz.func169, Tryz.ntmps169
    go_wp2_with fail
    refine wp_loop_rounds 1 ?_
    rw [rounds_succ]
    go_wp2_with fail
    go_ret
    exact ⟨⟨_, rfl, rfl⟩, Old.refl _⟩
  · have HC : Hid (∀ j, j < xs.length → w.cell? ⟨b, o + j, none⟩ = some (.int .i64 (xs.getD j 0))) := hc
    clear hc
    go_enter Tryz.func169, Tryz.ntmps169
    go_wp2_with fail
    go_loopw [5, 8] (fun x i W => ∃ k : Nat, k ≤ xs.length ∧ i = .int .i64 k ∧ Hid (∀ j, j < k → (p == xs.getD j 0) = false) ∧ Hid (Old w W)) (fun _ i _ => xs.length - (intOf i).toNat)
    case atStart => exact ⟨0, by omega, rfl, fun j hj => by omega, Old.refl _⟩
    case round =>
      obtain ⟨k, hk, rfl, H1, HG⟩ := hrel
      by_cases hlt : k < xs.length
      · have d1 : decide ((k : Int) < (xs.length : Int)) = true := by simp; omega
        have c1 : wr.cell? ⟨b, o + k, none⟩ = some (.int .i64 (xs.getD k 0)) := (HG.out.cell (p := ⟨b, o + k, none⟩) hb).trans (HC.out k hlt)
        cases hx : (p == xs.getD k 0)
        · have H2 : Hid (∀ j, j < k + 1 → (p == xs.getD j 0) = false) := fun j hj => by
            rcases Nat.lt_or_ge j k with h | h
            · exact H1.out j h
            · obtain rfl : j = k := by omega
              exact hx
          clear H1
          generalize xs.getD k 0 = x at *
          go_wp2_with fail
          exact ⟨⟨k + 1, by omega, by go_num, H2, HG⟩, by simp [intOf]; omega⟩
        · have H2 : Hid (decide (0 ≤ (k : Int)) = xs.contains p) := by
            show _ = _
            rw [has_at xs p k hlt hx]
            simp
          clear H1
          generalize xs.getD k 0 = x at *
          go_wp2_with fail
          go_ret
          exact ⟨⟨_, rfl, H2.out⟩, HG.out⟩
      · have d1 : decide ((k : Int) < (xs.length : Int)) = false := by simp; omega
        have H2 : Hid (decide (0 ≤ (-1 : Int)) = xs.contains p) := by
          show _ = _
          rw [has_none xs p (fun j hj => H1.out j (by omega))]
          rfl
        clear H1
        go_wp2_with fail
        go_ret
        exact ⟨⟨_, rfl, H2.out⟩, HG.out⟩
theorem contains_any (xs : List Int) (p : Int) (v : Value) (w : World) (hv : Row w v xs) (hl : xs.length ≤ 9223372036854775807) :
    Calls Tryz.prog 119 #[v, .int .i64 p] w fun e w' => e = .returned (.bool (xs.contains p)) ∧ Old w w' := by
  have c := index_any xs p v w hv hl
  generalize xs.contains p = B at *
  clear hv
  go_enter Tryz.func119, Tryz.ntmps119
  go_wp2_with fail
  refine c.mono ?_
  rintro e w1 ⟨⟨z, rfl, hz⟩, g1⟩
  have HG : Hid (Old w w1) := g1
  clear g1
  have HZ : Hid (decide (0 ≤ z) = B) := hz
  clear hz
  go_wp2_with fail
  go_ret
  exact ⟨by rw [← HZ.out]; rfl, HG.out⟩
theorem Row.take {w : World} {a : Option Addr} {n cap : Nat} {xs : List Int} (h : Row w (.slice a n cap) xs) (k : Nat) (hk : k ≤ xs.length) : Row w (.slice a k cap) (xs.take k) := by
  have el : (xs.take k).length = k := by rw [List.length_take, Nat.min_eq_left hk]
  rcases h with ⟨a', cap', e, e2⟩ | ⟨b, o, cap', e, hb, h0, hc⟩
  · subst e2
    simp at hk
    subst hk
    exact Or.inl ⟨a, cap, rfl, by simp⟩
  · simp only [Value.slice.injEq] at e
    obtain ⟨rfl, _, rfl⟩ := e
    rcases Nat.eq_zero_or_pos k with h1 | h1
    · subst h1
      exact Or.inl ⟨_, cap, rfl, by simp⟩
    · refine Or.inr ⟨b, o, cap, by rw [el], hb, by omega, fun j hj => ?_⟩
      rw [el] at hj
      rw [hc j (by omega)]
      simp [List.getD, List.getElem?_take, hj]
/-- a slice's length is at most its capacity -/
def Fit : Value → Prop
  | .slice _ n c => n ≤ c
  | _ => True
theorem ret_bb {a b : Bool} (h : a = b) : Ending.returned (.bool a) = .returned (.bool b) := by rw [h]
set_option maxRecDepth 100000 in
set_option maxHeartbeats 2000000 in
theorem impl_goodBasis (xs : List Int) (v : Value) (w : World) (hP : PrsW w) (hT : TabW w) (hv : Row w v xs) (hf : Fit v) (hl : xs.length ≤ 9223372036854775807) :
    Calls Tryz.prog 54 #[v] w fun e w' => e = .returned (.bool (basB xs)) ∧ Old w w' := by
  by_cases h0 : 1 ≤ xs.length ∧ xs.length ≤ 6
  · have HB : Hid (gb xs 0 = basB xs) := by
      show _ = _
      unfold basB
      rw [decide_eq_true h0, Bool.true_and]
    generalize basB xs = B at *
    have HP : Hid (PrsW w) := hP
    have HT : Hid (TabW w) := hT
    have HV : Hid (Row w v xs) := hv
    rcases hv with ⟨a, cap, rfl, rfl⟩ | ⟨b, o, cap, rfl, hb, h1, hc⟩
    · simp at h0
    have HC : Hid (∀ j, j < xs.length → w.cell? ⟨b, o + j, none⟩ = some (.int .i64 (xs.getD j 0))) := hc
    obtain ⟨h2, h3⟩ := h0
    have hcap : xs.length ≤ cap := hf
    clear hf
    have e1 : ((xs.length : Int) == 0) = false := beq_eq_false_iff_ne.2 (by omega)
    have e2 : decide ((6 : Int) < (xs.length : Int)) = false := by simp; omega
    clear hc hP hT
    go_enter Tryz.func54, Tryz.ntmps54
    go_wp2_with fail
    go_loopw [3, 4, 15] (fun x y i W => ∃ k : Nat, k ≤ xs.length ∧ i = .int .i64 k ∧ Hid (gb xs k = B) ∧ Hid (Old w W)) (fun _ _ i _ => xs.length - (intOf i).toNat)
    case atStart => exact ⟨0, by omega, rfl, HB, Old.refl _⟩
    case round =>
      obtain ⟨k, hk, rfl, H1, HG⟩ := hrel
      clear HB
      by_cases hlt : k < xs.length
      · have d1 : decide ((k : Int) < (xs.length : Int)) = true := by simp; omega
        have c1 : wr.cell? ⟨b, o + k, none⟩ = some (.int .i64 (xs.getD k 0)) := (HG.out.cell (p := ⟨b, o + k, none⟩) hb).trans (HC.out k hlt)
        have hkc : k ≤ cap := by omega
        have RT : Hid (Row wr (.slice (some ⟨b, o, none⟩) k cap) (xs.take k)) := (HV.out.old HG.out).take k (by omega)
        have hlk : (xs.take k).length ≤ 9223372036854775807 := by rw [List.length_take]; omega
        have HAT : Hid (gbAt xs k = (pmB (xs.getD k 0) && !((xs.take k).contains (xs.getD k 0)))) := rfl
        have cp := fun W (h1 : PrsW W) (h2 : TabW W) => impl_isPM (xs.getD k 0) W h1 h2
        have cc := fun W (h : Row W (.slice (some ⟨b, o, none⟩) k cap) (xs.take k)) => contains_any (xs.take k) (xs.getD k 0) _ W h hlk
        have HPM : Hid (pmB (xs.getD k 0) = (modB (xs.getD k 0) && isP (xs.getD k 0).toNat)) := rfl
        rw [← HPM.out] at cp
        clear HPM
        cases hpm : pmB (xs.getD k 0)
        · have H3 : Hid (false = B) := by
            have := H1.out
            rw [gb_no hlt (by rw [HAT.out, hpm]; rfl)] at this
            exact this
          rw [hpm] at cp
          clear HAT hpm H1 cc
          generalize xs.getD k 0 = x at *
          go_wp2_with fail
          refine (cp _ (HP.out.old HG.out) (HT.out.old HG.out)).mono ?_
          rintro e w2 ⟨rfl, n2, rfl⟩
          go_wp2_with fail
          go_ret
          exact ⟨ret_bb H3.out, HG.out.drewN _⟩
        · rw [hpm] at cp
          cases hct : (xs.take k).contains (xs.getD k 0)
          · have H3 : Hid (gb xs (k + 1) = B) := by
              have := H1.out
              rw [gb_yes (by rw [HAT.out, hpm, hct]; rfl)] at this
              exact this
            rw [hct] at cc
            clear HAT hpm H1 hct
            generalize xs.getD k 0 = x at *
            go_wp2_with fail
            refine (cp _ (HP.out.old HG.out) (HT.out.old HG.out)).mono ?_
            rintro e w2 ⟨rfl, n2, rfl⟩
            go_wp2_with fail
            refine (cc _ (RT.out.old ((Old.refl _).drewN _))).mono ?_
            rintro e w3 ⟨rfl, g3⟩
            have HG3 : Hid (Old w w3) := Old.trans (HG.out.drewN _) g3
            clear g3
            go_wp2_with fail
            exact ⟨⟨k + 1, by omega, by go_num, H3, HG3⟩, by simp [intOf]; omega⟩
          · have H3 : Hid (false = B) := by
              have := H1.out
              rw [gb_no hlt (by rw [HAT.out, hpm, hct]; rfl)] at this
              exact this
            rw [hct] at cc
            clear HAT hpm H1 hct
            generalize xs.getD k 0 = x at *
            go_wp2_with fail
            refine (cp _ (HP.out.old HG.out) (HT.out.old HG.out)).mono ?_
            rintro e w2 ⟨rfl, n2, rfl⟩
            go_wp2_with fail
            refine (cc _ (RT.out.old ((Old.refl _).drewN _))).mono ?_
            rintro e w3 ⟨rfl, g3⟩
            have HG3 : Hid (Old w w3) := Old.trans (HG.out.drewN _) g3
            clear g3
            go_wp2_with fail
            go_ret
            exact ⟨ret_bb H3.out, HG3.out⟩
      · have d1 : decide ((k : Int) < (xs.length : Int)) = false := by simp; omega
        have H3 : Hid (true = B) := by
          have := H1.out
          rw [gb_end (by omega)] at this
          exact this
        clear H1
        go_wp2_with fail
        go_ret
        exact ⟨ret_bb H3.out, HG.out⟩
  · have HB : Hid (false = basB xs) := by
      show _ = _
      unfold basB
      rw [decide_eq_false h0, Bool.false_and]
    generalize basB xs = B at *
    obtain ⟨a, cap, rfl⟩ := hv.slice
    clear hv hP hT hf
    by_cases hz : xs.length = 0
    · have e1 : ((xs.length : Int) == 0) = true := beq_iff_eq.2 (by omega)
      clear h0
      generalize xs.length = n at *
      clear hz
      go_enter Tryz.func54, Tryz.ntmps54
      go_wp2_with fail
      go_ret
      exact ⟨ret_bb HB.out, Old.refl _⟩
    · have e1 : ((xs.length : Int) == 0) = false := beq_eq_false_iff_ne.2 (by omega)
      have e2 : decide ((6 : Int) < (xs.length : Int)) = true := by simp; omega
      clear h0
      generalize xs.length = n at *
      clear hz
      go_enter Tryz.func54, Tryz.ntmps54
      go_wp2_with fail
      go_ret
      exact ⟨ret_bb HB.out, Old.refl _⟩
end Go.Proofs.YtfgooclnohnkmaaGreatDoor
/- Proved: whether a list is a basis, as the model tells it. -/
namespace Go.Proofs.YtfgooclnohnkmaaGreatDoor
open Go.ChangeShapes Go.WideShapes Go.ChangeAt Go.RowKit
open M1
set_option linter.unusedVariables false
set_option linter.unusedSimpArgs false
set_option maxRecDepth 100000 in
set_option maxHeartbeats 2000000 in
theorem spec_goodBasis (xs : List Int) (v : Value) (w : World) (hv : Row w v xs) (hf : Fit v) (hl : xs.length ≤ 9223372036854775807) (hx : ∀ x ∈ xs, -9223372036854775808 ≤ x ∧ x ≤ 9223372036854775807) :
    Calls Tryz.prog 66 #[v] w fun e w' => e = .returned (.bool (basB xs)) ∧ Old w w' := by
  have ci := fun W => spec_in (xs.length : Int) 1 6 W
  by_cases h0 : 1 ≤ xs.length ∧ xs.length ≤ 6
  · have HB : Hid (gb xs 0 = basB xs) := by
      show _ = _
      unfold basB
      rw [decide_eq_true h0, Bool.true_and]
    generalize basB xs = B at *
    have hin : inB (xs.length : Int) 1 6 = true := decide_eq_true (by omega)
    rw [hin] at ci
    have HV : Hid (Row w v xs) := hv
    rcases hv with ⟨a, cap, rfl, rfl⟩ | ⟨b, o, cap, rfl, hb, h1, hc⟩
    · simp at h0
    have HC : Hid (∀ j, j < xs.length → w.cell? ⟨b, o + j, none⟩ = some (.int .i64 (xs.getD j 0))) := hc
    have HX : Hid (∀ x ∈ xs, -9223372036854775808 ≤ x ∧ x ≤ 9223372036854775807) := hx
    obtain ⟨h2, h3⟩ := h0
    have hcap : xs.length ≤ cap := hf
    clear hc hf hx hin
    go_enter Tryz.func66, Tryz.ntmps66
    go_wp2_with (go_at_call 121; refine (ci _).mono ?_; rintro e w1 ⟨rfl, hw⟩; obtain rfl : w = w1 := hw.symm)
    clear ci
    go_loopw [13] (fun i W => ∃ k : Nat, k ≤ xs.length ∧ i = .int .i64 k ∧ Hid (gb xs k = B) ∧ Hid (Old w W)) (fun i _ => xs.length - (intOf i).toNat)
    case atStart => exact ⟨0, by omega, rfl, HB, Old.refl _⟩
    case round =>
      obtain ⟨k, hk, rfl, H1, HG⟩ := hrel
      clear HB
      by_cases hlt : k < xs.length
      · have d1 : decide ((k : Int) < (xs.length : Int)) = true := by simp; omega
        have c1 : wr.cell? ⟨b, o + k, none⟩ = some (.int .i64 (xs.getD k 0)) := (HG.out.cell (p := ⟨b, o + k, none⟩) hb).trans (HC.out k hlt)
        have hkc : k ≤ cap := by omega
        have hxm : xs.getD k 0 ∈ xs := by simp [List.getD, hlt]
        have hxb := HX.out _ hxm
        have HAT : Hid (gbAt xs k = (pmB (xs.getD k 0) && !((xs.take k).contains (xs.getD k 0)))) := rfl
        have HPM : Hid (pmB (xs.getD k 0) = (modB (xs.getD k 0) && isP (xs.getD k 0).toNat)) := rfl
        have HHN : Hid ((∀ j, j < k → (xs.getD k 0 == xs.getD j 0) = false) → (xs.take k).contains (xs.getD k 0) = false) := fun h => has_none _ _ (fun j hj => by
          rw [List.length_take] at hj
          have e : (xs.take k).getD j 0 = xs.getD j 0 := by simp [List.getD, List.getElem?_take, show j < k by omega]
          rw [e]
          exact h j (by omega))
        have HHY : Hid (∀ j, j < k → (xs.getD k 0 == xs.getD j 0) = true → (xs.take k).contains (xs.getD k 0) = true) := fun j hj h => has_at _ _ j (by rw [List.length_take]; omega) (by
          have e : (xs.take k).getD j 0 = xs.getD j 0 := by simp [List.getD, List.getElem?_take, hj]
          rw [e]
          exact h)
        have cm := fun W => spec_modulus (xs.getD k 0) W
        cases hm : modB (xs.getD k 0)
        · have H3 : Hid (false = B) := by
            have := H1.out
            rw [gb_no hlt (by rw [HAT.out, HPM.out, hm]; rfl)] at this
            exact this
          rw [hm] at cm
          clear HAT HPM HHN HHY hm H1 hxm
          generalize xs.getD k 0 = x at *
          go_wp2_with (go_at_call 135; refine (cm _).mono ?_; rintro e w' ⟨rfl, rfl⟩)
          go_ret
          exact ⟨ret_bb H3.out, HG.out⟩
        · rw [hm] at cm
          obtain ⟨m1, m2⟩ := modB_yes hm
          have cp := fun W => spec_IsPrime (xs.getD k 0).toNat W (by omega)
          rw [Int.toNat_of_nonneg (by omega)] at cp
          cases hp : isP (xs.getD k 0).toNat
          · have H3 : Hid (false = B) := by
              have := H1.out
              rw [gb_no hlt (by rw [HAT.out, HPM.out, hm, hp]; rfl)] at this
              exact this
            rw [hp] at cp
            clear HAT HPM HHN HHY hm hp H1 hxm
            generalize xs.getD k 0 = x at *
            go_wp2_with (go_at_call 135; refine (cm _).mono ?_; rintro e w' ⟨rfl, rfl⟩)
            refine (cp _).mono ?_
            rintro e w2 ⟨rfl, g2⟩
            have HG2 : Hid (Old w w2) := Old.trans HG.out g2
            clear g2
            go_wp2_with fail
            go_ret
            exact ⟨ret_bb H3.out, HG2.out⟩
          · have HY : Hid ((xs.take k).contains (xs.getD k 0) = false → gb xs (k + 1) = B) := fun hct => by
              have := H1.out
              rw [gb_yes (by rw [HAT.out, HPM.out, hm, hp, hct]; rfl)] at this
              exact this
            have HN : Hid ((xs.take k).contains (xs.getD k 0) = true → false = B) := fun hct => by
              have := H1.out
              rw [gb_no hlt (by rw [HAT.out, HPM.out, hm, hp, hct]; rfl)] at this
              exact this
            rw [hp] at cp
            have HY2 : Hid ((∀ j, j < k → (xs.getD k 0 == xs.getD j 0) = false) → gb xs (k + 1) = B) := fun h => HY.out (HHN.out h)
            have HN2 : Hid (∀ j, j < k → (xs.getD k 0 == xs.getD j 0) = true → false = B) := fun j hj h => HN.out (HHY.out j hj h)
            clear HAT HPM HHN HHY HY HN hm hp H1 hxm
            generalize xs.getD k 0 = x at *
            go_wp2_with (go_at_call 135; refine (cm _).mono ?_; rintro e w' ⟨rfl, rfl⟩)
            refine (cp _).mono ?_
            rintro e w2 ⟨rfl, g2⟩
            have HG2 : Hid (Old w w2) := Old.trans HG.out g2
            clear g2 HG c1 cp cm d1
            go_wp2_with fail
            go_loopw [31] (fun i W => ∃ j : Nat, j ≤ k ∧ i = .int .i64 j ∧ Hid (∀ i, i < j → (x == xs.getD i 0) = false) ∧ Hid (Old w W)) (fun i _ => k - (intOf i).toNat)
            case atStart => exact ⟨0, by omega, rfl, fun j hj => by omega, HG2⟩
            case round =>
              obtain ⟨j, hj, rfl, H4, HG4⟩ := hrel
              by_cases hjk : j < k
              · have d2 : decide ((j : Int) < (k : Int)) = true := by simp; omega
                have c2 : wr.cell? ⟨b, o + j, none⟩ = some (.int .i64 (xs.getD j 0)) := (HG4.out.cell (p := ⟨b, o + j, none⟩) hb).trans (HC.out j (by omega))
                cases hq : (x == xs.getD j 0)
                · have H5 : Hid (∀ i, i < j + 1 → (x == xs.getD i 0) = false) := fun i hi => by
                    rcases Nat.lt_or_ge i j with h | h
                    · exact H4.out i h
                    · obtain rfl : i = j := by omega
                      exact hq
                  clear H4
                  generalize xs.getD j 0 = y at *
                  go_wp2_with fail
                  exact ⟨⟨j + 1, by omega, by go_num, H5, HG4⟩, by simp [intOf]; omega⟩
                · have H5 : Hid (false = B) := HN2.out j hjk hq
                  clear H4
                  generalize xs.getD j 0 = y at *
                  go_wp2_with fail
                  go_ret
                  exact ⟨ret_bb H5.out, HG4.out⟩
              · have d2 : decide ((j : Int) < (k : Int)) = false := by simp; omega
                have H5 : Hid (gb xs (k + 1) = B) := HY2.out (fun i hi => H4.out i (by omega))
                clear H4
                go_wp2_with fail
                exact ⟨⟨k + 1, by omega, by go_num, H5, HG4⟩, by simp [intOf]; omega⟩
      · have d1 : decide ((k : Int) < (xs.length : Int)) = false := by simp; omega
        have H3 : Hid (true = B) := by
          have := H1.out
          rw [gb_end (by omega)] at this
          exact this
        clear H1
        go_wp2_with fail
        go_ret
        exact ⟨ret_bb H3.out, HG.out⟩
  · have HB : Hid (false = basB xs) := by
      show _ = _
      unfold basB
      rw [decide_eq_false h0, Bool.false_and]
    generalize basB xs = B at *
    have hin : inB (xs.length : Int) 1 6 = false := decide_eq_false (by omega)
    rw [hin] at ci
    obtain ⟨a, cap, rfl⟩ := hv.slice
    clear hv hf h0 hin hx
    go_enter Tryz.func66, Tryz.ntmps66
    go_wp2_with (go_at_call 121; refine (ci _).mono ?_; rintro e w1 ⟨rfl, hw⟩; obtain rfl : w = w1 := hw.symm)
    go_ret
    exact ⟨ret_bb HB.out, Old.refl _⟩
end Go.Proofs.YtfgooclnohnkmaaGreatDoor
