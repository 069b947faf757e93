/- Proved: both RingOf answer one and the same ring, whose root is of the full order where the modulus is a prime; and whether a ring is good is told alike. -/
import Derived.Test.YtplaaglckbfklaaDoorRing
import Derived.Test.YtplaaglckbfklaaDoorUnit
namespace Go.Proofs.YtplaaglckbfklaaDoor
open Go.ChangeShapes Go.WideShapes Go.ChangeAt Go.RowKit
open M1
set_option linter.unusedVariables false
theorem ord_pow : ∀ n : Nat, n < 65 → 2 ≤ n → n &&& (n - 1) = 0 → ∃ j, j < 6 ∧ n = 2 ^ (j + 1) := by decide
theorem ordB_pow (n : Nat) (h : ordB (n : Int) = true) : ∃ j, n = 2 ^ (j + 1) := by
  obtain ⟨b1, b2, b3⟩ := ordB_yes n h
  simp only [ordB, Bool.and_eq_true, beq_iff_eq] at h
  have e : (n : Int) - 1 = ((n - 1 : Nat) : Int) := by omega
  rw [e, and_nat n (n - 1) (by omega) (by omega)] at h
  obtain ⟨j, _, hj⟩ := ord_pow n (by omega) b1 (by omega)
  exact ⟨j, hj⟩
/-- the n-th power is 1, the half power the opposite of 1 -/
structure Rt (p n R : Nat) : Prop where
  pos : 1 ≤ R
  one : R ^ n % p = 1
  neg : R ^ (n / 2) % p = p - 1
theorem neg_of {p n R : Nat} (hp : F1.Pr p) (hp3 : 3 ≤ p) (hn : n = 2 * (n / 2)) (h1 : R ^ n % p = 1) (h2 : R ^ (n / 2) % p ≠ 1) : R ^ (n / 2) % p = p - 1 := by
  have e : R ^ (n / 2) * R ^ (n / 2) % p = 1 * 1 % p := by
    rw [← Nat.pow_add, show n / 2 + n / 2 = n by omega, h1, Nat.mod_eq_of_lt (by omega)]
  rcases F1.Pr.sq hp e with h | h
  · rw [Nat.mod_eq_of_lt (show 1 < p by omega)] at h
    exact absurd h h2
  · have h3 := Nat.mod_lt (R ^ (n / 2)) (show 0 < p by omega)
    rw [Nat.add_mod, Nat.mod_eq_of_lt (show 1 < p by omega)] at h
    generalize R ^ (n / 2) % p = x at *
    by_cases hx : x + 1 < p
    · rw [Nat.mod_eq_of_lt hx] at h
      omega
    · omega
theorem Root_both (p n : Nat) (h : RootOk p n) : ∃ R : Nat, R < p ∧ (F1.Pr p → Rt p n R)
    ∧ (∀ W, PrsW W → TabW W → Calls Tryd.prog 196 #[.int .i64 p, .int .i64 n] W fun e w' => e = .returned (.tuple #[.int .i64 R, .bool true]) ∧ ∃ k, w' = W.drewN k)
    ∧ (∀ W, Calls Tryd.prog 195 #[.int .i64 p, .int .i64 n] W fun en w' => en = .returned (.int .i64 R) ∧ w' = W) := by
  obtain ⟨j, hj⟩ := ordB_pow n h.ord
  obtain ⟨b1, b2, b3⟩ := ordB_yes n h.ord
  obtain ⟨m1, m2⟩ := modB_yes h.md
  have hdv : (p - 1) % n = 0 := by
    have h1 := h.dv
    have e : (p : Int) - 1 = ((p - 1 : Nat) : Int) := by omega
    rw [e] at h1
    have h2 : (((p - 1) % n : Nat) : Int) = 0 := by rw [← h1]; simp
    omega
  have en := Nat.div_add_mod (p - 1) n
  rw [hdv, Nat.add_zero] at en
  have hp3 : 3 ≤ p := by
    rcases Nat.lt_or_ge p 3 with hlt | hge
    · exfalso
      have h2 : p = 2 := by omega
      rw [h2, Nat.mod_eq_of_lt (by omega)] at hdv
      omega
    · exact hge
  obtain ⟨hh, ehh⟩ : ∃ hh, hh = n / 2 := ⟨_, rfl⟩
  have hn2 : n = 2 * hh := by omega
  have em : (p - 1) / n * hh = (p - 1) / 2 := by
    have h1 : 2 * ((p - 1) / n * hh) = p - 1 := by
      rw [← en, hn2]
      have := en
      rw [hn2] at this
      rw [this, ← this]
      grind
    omega
  have hpm : p = 2 * ((p - 1) / 2) + 1 := by
    have h1 : 2 * ((p - 1) / n * hh) = p - 1 := by
      have := en
      rw [hn2] at this
      rw [hn2, ← this]
      have e3 : (2 * hh * ((p - 1) / (2 * hh))) / (2 * hh) = (p - 1) / (2 * hh) := Nat.mul_div_cancel_left _ (by omega)
      rw [e3]
      grind
    omega
  obtain ⟨A, hA2, hAp, hmin, hA⟩ := first_ex p ((p - 1) / 2) (by omega) (by omega)
  have hr := powM_lt (A % p) ((p - 1) / n) p (by omega)
  refine ⟨_, ?_, ?_, fun W h1 h2 => impl_RootOf_yes p n _ _ W h1 h2 h hr (fun W => impl_someRoot p n _ _ A W hp3 (by omega) rfl rfl (by omega) b2 hA2 hAp hmin hA) (fun W => impl_leastRoot _ p n W (by omega) (by omega) hr b1 b2),
    fun W => spec_leastRoot p n _ _ hh A W hp3 (by omega) hpm hn2 (by omega) b2 rfl em hA2 hAp hmin hA⟩
  · exact lr_lt p _ (by omega) _ _ _ hr
  · intro hPr
    have facts := F1.least_root (p := p) (n := n) (j := j) (A := A) (e := (p - 1) / n) hPr hp3 hj (by rw [← ehh]; exact em) hpm hA2 (fun b hb1 hb2 => by have := hmin b hb1 hb2; rwa [powM_mod] at this) (by rwa [powM_mod] at hA) (powM (A % p) ((p - 1) / n) p) _ (powM_mod _ _ _) rfl
    exact ⟨facts.2.2.1, facts.1, neg_of hPr hp3 (by omega) facts.1 facts.2.1⟩
theorem Ring_both (p n : Nat) (h : RingOk p n) : ∃ R : Nat, R < p ∧ (F1.Pr p → Rt p (2 * n) R)
    ∧ (∀ W, PrsW W → TabW W → Calls Tryd.prog 153 #[.int .i64 p, .int .i64 n] W fun e w' => e = .returned (.tuple #[.agg #[.int .i64 p, .int .i64 n, .int .i64 R], .bool true]) ∧ Old W w')
    ∧ (∀ W, Calls Tryd.prog 151 #[.int .i64 p, .int .i64 n] W fun e w' => e = .returned (.tuple #[.agg #[.int .i64 p, .int .i64 n, .int .i64 R], .bool true]) ∧ Old W w') := by
  obtain ⟨R, h1, h2, h3, h4⟩ := Root_both p (2 * n) (by have := h.root; exact_mod_cast this)
  have e : ((2 * n : Nat) : Int) = 2 * (n : Int) := by omega
  rw [e] at h3 h4
  exact ⟨R, h1, h2, fun W a b => impl_RingOf_yes p n R W a b h.sz h3, fun W => spec_RingOf_yes p n R W h h4⟩
set_option maxHeartbeats 1000000 in
theorem isGood_of (p n r : Int) (q m s : Int) (ok g : Bool) (w : World) (hP : PrsW w) (hT : TabW w) (e : (ok && (p == q && (n == m && r == s))) = g)
    (c : ∀ W, PrsW W → TabW W → Calls Tryd.prog 153 #[.int .i64 p, .int .i64 n] W fun e w' => e = .returned (.tuple #[.agg #[.int .i64 q, .int .i64 m, .int .i64 s], .bool ok]) ∧ Old W w') :
    Calls Tryd.prog 95 #[.agg #[.int .i64 p, .int .i64 n, .int .i64 r]] w fun e w' => e = .returned (.bool g) ∧ Old w w' := by
  have HP : Hid (PrsW w) := hP
  have HT : Hid (TabW w) := hT
  have HE : Hid ((ok && (p == q && (n == m && r == s))) = g) := e
  clear hP hT e
  cases ok
  · go_enter Tryd.func95, Tryd.ntmps95
    go_wp2_with fail
    refine (c _ (HP.out.old (Old.alloc (Old.refl _) _)) (HT.out.old (Old.alloc (Old.refl _) _))).mono ?_
    rintro e w1 ⟨rfl, g1⟩
    go_wp2_with fail
    go_ret
    exact ⟨by rw [← HE.out]; rfl, Old.alloc (Old.trans (Old.alloc (Old.refl _) _) g1) _⟩
  · go_enter Tryd.func95, Tryd.ntmps95
    go_wp2_with fail
    refine (c _ (HP.out.old (Old.alloc (Old.refl _) _)) (HT.out.old (Old.alloc (Old.refl _) _))).mono ?_
    rintro e w1 ⟨rfl, g1⟩
    have hlt : w.heap.size < w1.heap.size := Nat.lt_of_lt_of_le (by simp) g1.size
    have q0 : (w1.alloc (.cells #[.int .i64 q, .int .i64 m, .int .i64 s] 39)).cell? ⟨w.heap.size, 0, none⟩ = some (.int .i64 p) := (cell_lt _ _ _ _ hlt).trans ((g1.cell (p := ⟨w.heap.size, 0, none⟩) (by simp)).trans (cell_at _ _ _ _ _ rfl))
    have q1 : (w1.alloc (.cells #[.int .i64 q, .int .i64 m, .int .i64 s] 39)).cell? ⟨w.heap.size, 1, none⟩ = some (.int .i64 n) := (cell_lt _ _ _ _ hlt).trans ((g1.cell (p := ⟨w.heap.size, 1, none⟩) (by simp)).trans (cell_at _ _ _ _ _ rfl))
    have q2 : (w1.alloc (.cells #[.int .i64 q, .int .i64 m, .int .i64 s] 39)).cell? ⟨w.heap.size, 2, none⟩ = some (.int .i64 r) := (cell_lt _ _ _ _ hlt).trans ((g1.cell (p := ⟨w.heap.size, 2, none⟩) (by simp)).trans (cell_at _ _ _ _ _ rfl))
    go_wp2_with fail
    all_goals
      go_ret
      refine ⟨?_, Old.alloc (Old.trans (Old.alloc (Old.refl _) _) g1) _⟩
      rw [← HE.out]
      clear HE q0 q1 q2
      simp_all
set_option maxHeartbeats 1000000 in
theorem l3Ring_of (p n r : Int) (q m s : Int) (ok g : Bool) (w : World) (e : (ok && (q == p && (m == n && s == r))) = g)
    (c : ∀ W, Calls Tryd.prog 151 #[.int .i64 p, .int .i64 n] W fun e w' => e = .returned (.tuple #[.agg #[.int .i64 q, .int .i64 m, .int .i64 s], .bool ok]) ∧ Old W w') :
    Calls Tryd.prog 100 #[.agg #[.int .i64 p, .int .i64 n, .int .i64 r]] w fun e w' => e = .returned (.bool g) ∧ Old w w' := by
  have HE : Hid ((ok && (q == p && (m == n && s == r))) = g) := e
  clear e
  cases ok
  · go_enter Tryd.func100, Tryd.ntmps100
    go_wp2_with fail
    refine (c _).mono ?_
    rintro e w1 ⟨rfl, g1⟩
    go_wp2_with fail
    go_ret
    exact ⟨by rw [← HE.out]; rfl, Old.alloc (Old.trans (Old.alloc (Old.refl _) _) g1) _⟩
  · go_enter Tryd.func100, Tryd.ntmps100
    go_wp2_with fail
    refine (c _).mono ?_
    rintro e w1 ⟨rfl, g1⟩
    have hlt : w.heap.size < w1.heap.size := Nat.lt_of_lt_of_le (by simp) g1.size
    have q0 : (w1.alloc (.cells #[.int .i64 q, .int .i64 m, .int .i64 s] 39)).cell? ⟨w.heap.size, 0, none⟩ = some (.int .i64 p) := (cell_lt _ _ _ _ hlt).trans ((g1.cell (p := ⟨w.heap.size, 0, none⟩) (by simp)).trans (cell_at _ _ _ _ _ rfl))
    have q1 : (w1.alloc (.cells #[.int .i64 q, .int .i64 m, .int .i64 s] 39)).cell? ⟨w.heap.size, 1, none⟩ = some (.int .i64 n) := (cell_lt _ _ _ _ hlt).trans ((g1.cell (p := ⟨w.heap.size, 1, none⟩) (by simp)).trans (cell_at _ _ _ _ _ rfl))
    have q2 : (w1.alloc (.cells #[.int .i64 q, .int .i64 m, .int .i64 s] 39)).cell? ⟨w.heap.size, 2, none⟩ = some (.int .i64 r) := (cell_lt _ _ _ _ hlt).trans ((g1.cell (p := ⟨w.heap.size, 2, none⟩) (by simp)).trans (cell_at _ _ _ _ _ rfl))
    go_wp2_with fail
    all_goals
      go_ret
      refine ⟨?_, Old.alloc (Old.trans (Old.alloc (Old.refl _) _) g1) _⟩
      rw [← HE.out]
      clear HE q0 q1 q2
      simp_all
/-- a good ring -/
structure GR (p n r : Int) (P N R : Nat) : Prop where
  ep : p = P
  en : n = N
  er : r = R
  ok : RingOk P N
  lt : R < P
  rt : F1.Pr P → Rt P (2 * N) R
/-- both tell alike whether a ring is good -/
theorem ring_any (p n r : Int) (hp : -9223372036854775808 ≤ p ∧ p ≤ 9223372036854775807) : ∃ g : Bool, (g = true → ∃ P N R, GR p n r P N R)
    ∧ (∀ W, PrsW W → TabW W → Calls Tryd.prog 95 #[.agg #[.int .i64 p, .int .i64 n, .int .i64 r]] W fun e w' => e = .returned (.bool g) ∧ Old W w')
    ∧ (∀ W, Calls Tryd.prog 100 #[.agg #[.int .i64 p, .int .i64 n, .int .i64 r]] W fun e w' => e = .returned (.bool g) ∧ Old W w') := by
  by_cases h : RingOk p n
  · obtain ⟨P, rfl⟩ := Int.eq_ofNat_of_zero_le (show 0 ≤ p by have := modB_yes h.md; omega)
    obtain ⟨N, rfl⟩ := Int.eq_ofNat_of_zero_le (show 0 ≤ n by have := h.sz; omega)
    obtain ⟨R, h1, h2, h3, h4⟩ := Ring_both P N h
    refine ⟨r == (R : Int), ?_, fun W a b => isGood_of _ _ _ _ _ _ true _ W a b (by simp) h3, fun W => l3Ring_of _ _ _ _ _ _ true _ W (by simp; exact Bool.eq_iff_iff.2 (by simp; exact eq_comm)) h4⟩
    intro e
    exact ⟨P, N, R, rfl, rfl, by simpa using e, h, h1, h2⟩
  · refine ⟨false, (fun e => Bool.noConfusion e), fun W a b => isGood_of _ _ _ _ _ _ false _ W a b rfl (fun W a b => impl_RingOf_no p n W a b h), fun W => l3Ring_of _ _ _ _ _ _ false _ W rfl (fun W => spec_RingOf_no p n W hp h)⟩
end Go.Proofs.YtplaaglckbfklaaDoor
