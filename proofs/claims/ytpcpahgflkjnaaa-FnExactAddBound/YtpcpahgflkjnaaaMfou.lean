/- Proved: long division by guessed digits to the base 2^28, as numbers: the guess is the digit or one too great; what taking away does to eighty limbs; no program in sight. -/
import Derived.Test.YtpcpahgflkjnaaaMthr
namespace Go.Proofs.Ytpcpahgflkjnaaa.M2
set_option linter.unusedVariables false
theorem dig_getD : ∀ (j n : Nat), (dig n).getD j 0 = n / LB ^ j % LB
  | 0, n => by
    by_cases h : n = 0
    · subst h; rw [dig_zero]; simp
    · rw [dig_pos n h]; simp
  | j + 1, n => by
    by_cases h : n = 0
    · subst h; rw [dig_zero]; simp
    · rw [dig_pos n h, List.getD_cons_succ, dig_getD j (n / LB), Nat.div_div_eq_div_mul, Nat.pow_succ, Nat.mul_comm LB]
theorem pad_at (n j : Nat) : (pad n).getD j 0 = n / LB ^ j % LB := by rw [pad_getD, dig_getD]
/-- a guess that is too great by what is seen is too great -/
theorem g_dec {U v P d r f s t q : Nat} (hP : 0 < P) (hv : (f * LB + s) * P ≤ v) (hU : U < ((d * f + r) * LB + t + 1) * P) (hq : q * v ≤ U) (ht : r * LB + t < d * s) : q < d := by
  apply Classical.byContradiction
  intro hn
  have hdq : d ≤ q := Nat.le_of_not_lt hn
  have h1 : d * v ≤ q * v := Nat.mul_le_mul_right _ hdq
  have h2 : d * ((f * LB + s) * P) ≤ d * v := Nat.mul_le_mul_left _ hv
  rw [← Nat.mul_assoc] at h2
  have h3 : d * (f * LB + s) * P < ((d * f + r) * LB + t + 1) * P := by omega
  have h4 := Nat.lt_of_mul_lt_mul_right h3
  have h5 : d * (f * LB + s) = d * f * LB + d * s := by rw [Nat.mul_add, Nat.mul_assoc]
  have h6 : (d * f + r) * LB = d * f * LB + r * LB := by rw [Nat.add_mul]
  omega
/-- one that is not is at most one too great -/
theorem g_a {U v P d r f s t q : Nat} (hd : d ≤ LB) (ht : d * s ≤ r * LB + t) (hv : v < (f * LB + s + 1) * P) (hU : ((d * f + r) * LB + t) * P ≤ U) (hP : LB * P ≤ v) (hq : U < (q + 1) * v) : d ≤ q + 1 := by
  have h1 : d * v ≤ d * ((f * LB + s + 1) * P) := Nat.mul_le_mul_left _ (Nat.le_of_lt hv)
  rw [← Nat.mul_assoc] at h1
  have h2 : d * (f * LB + s + 1) = d * f * LB + d * s + d := by rw [Nat.mul_add, Nat.mul_add, Nat.mul_assoc, Nat.mul_one]
  have h3 : (d * f + r) * LB = d * f * LB + r * LB := by rw [Nat.add_mul]
  have h4 : d * (f * LB + s + 1) * P ≤ ((d * f + r) * LB + t + d) * P := Nat.mul_le_mul_right _ (by omega)
  rw [Nat.add_mul ((d * f + r) * LB + t) d P] at h4
  have h5 : d * P ≤ LB * P := Nat.mul_le_mul_right _ hd
  have h6 : d * v < (q + 2) * v := by
    have : (q + 2) * v = (q + 1) * v + v := by rw [show q + 2 = (q + 1) + 1 from rfl, Nat.add_mul (q + 1) 1 v, Nat.one_mul]
    omega
  have := Nat.lt_of_mul_lt_mul_right h6
  omega
/-- where what is left of what is seen is great the guess is not too great -/
theorem g_b {U v P d r f s t q : Nat} (hd : d ≤ LB) (hr : LB ≤ r) (hs : s < LB) (hv : v < (f * LB + s + 1) * P) (hU : ((d * f + r) * LB + t) * P ≤ U) (hv0 : 0 < v) (hq : U < (q + 1) * v) : d ≤ q + 1 := by
  have h1 : d * v ≤ d * ((f * LB + s + 1) * P) := Nat.mul_le_mul_left _ (Nat.le_of_lt hv)
  rw [← Nat.mul_assoc] at h1
  have h2 : d * (f * LB + s + 1) ≤ d * (f * LB + LB) := Nat.mul_le_mul_left _ (by omega)
  have h3 : d * (f * LB + LB) = (d * f + d) * LB := by rw [Nat.mul_add, Nat.add_mul, Nat.mul_assoc]
  have h4 : (d * f + d) * LB ≤ (d * f + r) * LB := Nat.mul_le_mul_right _ (by omega)
  have h5 : d * (f * LB + s + 1) * P ≤ ((d * f + r) * LB + t) * P := Nat.mul_le_mul_right _ (by omega)
  have h6 : d * v < (q + 1) * v := by omega
  have := Nat.lt_of_mul_lt_mul_right h6
  omega
theorem div_lo (n k : Nat) : n / LB ^ k / LB = n / LB ^ (k + 1) := by rw [Nat.div_div_eq_div_mul, Nat.pow_succ]
theorem div_two (n k : Nat) : n / LB ^ (k + 1) * LB + n / LB ^ k % LB = n / LB ^ k := by
  rw [← div_lo, Nat.mul_comm]
  exact Nat.div_add_mod _ _
theorem pw (k : Nat) : 0 < LB ^ k := Nat.pow_pos LB_pos
theorem div_lb (n k : Nat) : n / LB ^ k * LB ^ k ≤ n := Nat.div_mul_le_self _ _
theorem div_ub (n k : Nat) : n < (n / LB ^ k + 1) * LB ^ k := by
  have := Nat.lt_div_mul_add (a := n) (pw k)
  rw [Nat.add_mul, Nat.one_mul]
  exact this
/-- a divisor of m + 2 limbs, its first one half of 2^28 or more, and a number below it so often -/
structure Long (L v p m : Nat) : Prop where
  hi : v < LB ^ (m + 2)
  lo : LB / 2 ≤ v / LB ^ (m + 1)
  lt : L < v * LB ^ (p + 1)
variable {L v p m : Nat}
theorem Long.first (h : Long L v p m) : v / LB ^ (m + 1) < LB := Nat.div_lt_of_lt_mul (by rw [← Nat.pow_succ]; exact h.hi)
theorem Long.pos (h : Long L v p m) : 0 < v := by
  rcases Nat.eq_zero_or_pos v with e | e
  · have := h.lo; rw [e, Nat.zero_div] at this; exact absurd this (by decide)
  · exact e
theorem Long.f0 (h : Long L v p m) : 0 < v / LB ^ (m + 1) := Nat.lt_of_lt_of_le (by decide) h.lo
theorem Long.big (h : Long L v p m) : L < LB ^ (p + m + 3) := by
  have h1 := h.lt
  have h2 : v * LB ^ (p + 1) ≤ LB ^ (m + 2) * LB ^ (p + 1) := Nat.mul_le_mul_right _ (Nat.le_of_lt h.hi)
  rw [← Nat.pow_add, show m + 2 + (p + 1) = p + m + 3 by omega] at h2
  omega
theorem Long.top (h : Long L v p m) : L / LB ^ (p + m + 2) % LB = L / LB ^ (p + m + 2) := Nat.mod_eq_of_lt (Nat.div_lt_of_lt_mul (by rw [← Nat.pow_succ]; exact h.big))
theorem Long.seen (h : Long L v p m) : L / LB ^ (p + m + 2) % LB * LB + L / LB ^ (p + m + 1) % LB = L / LB ^ (p + m + 1) := by
  rw [h.top]; exact div_two _ _
theorem Long.V0 (h : Long L v p m) : 0 < v * LB ^ p := Nat.mul_pos h.pos (pw p)
theorem Long.q_lt (h : Long L v p m) : L / (v * LB ^ p) < LB := by
  refine Nat.div_lt_of_lt_mul ?_
  have := h.lt
  rw [Nat.pow_succ, ← Nat.mul_assoc] at this
  exact this
theorem Long.A1 (h : Long L v p m) : (v / LB ^ (m + 1) * LB + v / LB ^ m % LB) * LB ^ (p + m) ≤ v * LB ^ p := by
  rw [div_two, Nat.pow_add, Nat.mul_comm (LB ^ p), ← Nat.mul_assoc]
  exact Nat.mul_le_mul_right _ (div_lb v m)
theorem Long.A2 (h : Long L v p m) : v * LB ^ p < (v / LB ^ (m + 1) * LB + v / LB ^ m % LB + 1) * LB ^ (p + m) := by
  rw [div_two, Nat.pow_add, Nat.mul_comm (LB ^ p), ← Nat.mul_assoc]
  exact Nat.mul_lt_mul_of_pos_right (div_ub v m) (pw p)
theorem Long.A3 (h : Long L v p m) : (L / LB ^ (p + m + 1) * LB + L / LB ^ (p + m) % LB) * LB ^ (p + m) ≤ L := by
  rw [div_two]; exact div_lb _ _
theorem Long.A4 (h : Long L v p m) : L < (L / LB ^ (p + m + 1) * LB + L / LB ^ (p + m) % LB + 1) * LB ^ (p + m) := by
  rw [div_two]; exact div_ub _ _
theorem Long.A5 (h : Long L v p m) : LB * LB ^ (p + m) ≤ v * LB ^ p := by
  refine Nat.le_trans ?_ h.A1
  refine Nat.mul_le_mul_right _ ?_
  have : 1 * LB ≤ v / LB ^ (m + 1) * LB := Nat.mul_le_mul_right _ h.f0
  omega
theorem Long.q1 (h : Long L v p m) : L / (v * LB ^ p) * (v * LB ^ p) ≤ L := Nat.div_mul_le_self _ _
theorem Long.q2 (h : Long L v p m) : L < (L / (v * LB ^ p) + 1) * (v * LB ^ p) := by
  have := Nat.lt_div_mul_add (a := L) h.V0
  rw [Nat.add_mul, Nat.one_mul]
  exact this
/-- a digit that is guessed, and what is left of what is seen -/
structure Gs (L v p m d r : Nat) : Prop where
  eq : d * (v / LB ^ (m + 1)) + r = L / LB ^ (p + m + 1)
  ge : L / (v * LB ^ p) ≤ d
  le : d ≤ LB + 1
theorem Gs.start (h : Long L v p m) : Gs L v p m (L / LB ^ (p + m + 1) / (v / LB ^ (m + 1))) (L / LB ^ (p + m + 1) % (v / LB ^ (m + 1))) := by
  have hf := h.f0
  refine ⟨by rw [Nat.mul_comm]; exact Nat.div_add_mod _ _, ?_, ?_⟩
  · refine (Nat.le_div_iff_mul_le hf).2 ((Nat.le_div_iff_mul_le (pw _)).2 ?_)
    refine Nat.le_trans ?_ h.q1
    rw [Nat.mul_assoc]
    refine Nat.mul_le_mul_left _ (Nat.le_trans ?_ h.A1)
    generalize v / LB ^ (m + 1) = f
    generalize v / LB ^ m % LB = s
    rw [show p + m + 1 = (p + m) + 1 from rfl, Nat.pow_succ, Nat.mul_comm (LB ^ (p + m)) LB, ← Nat.mul_assoc]
    exact Nat.mul_le_mul_right _ (Nat.le_add_right _ _)
  · have h1 : L / LB ^ (p + m + 1) < (v / LB ^ (m + 1) + 1) * LB := by
      refine Nat.div_lt_of_lt_mul ?_
      have a := h.lt
      have b := div_ub v (m + 1)
      have c := Nat.mul_lt_mul_of_pos_right b (pw (p + 1))
      have e : (v / LB ^ (m + 1) + 1) * LB ^ (m + 1) * LB ^ (p + 1) = LB ^ (p + m + 1) * ((v / LB ^ (m + 1) + 1) * LB) := by
        generalize v / LB ^ (m + 1) + 1 = f
        rw [Nat.mul_assoc, ← Nat.pow_add, show m + 1 + (p + 1) = (p + m + 1) + 1 by omega, Nat.pow_succ, Nat.mul_comm (LB ^ (p + m + 1)) LB, ← Nat.mul_assoc, Nat.mul_comm]
      omega
    have h2 := h.lo
    generalize v / LB ^ (m + 1) = f at *
    generalize L / LB ^ (p + m + 1) = S at *
    refine Nat.le_of_lt_succ ((Nat.div_lt_iff_lt_mul hf).2 ?_)
    have e1 : (LB + 1 + 1) * f = f * LB + 2 * f := by rw [Nat.add_assoc, Nat.add_mul, Nat.mul_comm LB f]
    have e2 : (f + 1) * LB = f * LB + LB := by rw [Nat.add_mul, Nat.one_mul]
    have e3 : LB ≤ 2 * f := by
      have : LB / 2 * 2 = LB := by decide
      omega
    show S < (LB + 1 + 1) * f
    omega
theorem Gs.big {d r : Nat} (g : Gs L v p m d r) (h : Long L v p m) (hd : LB ≤ d) : Gs L v p m (d - 1) (r + v / LB ^ (m + 1)) ∧ d - 1 ≤ LB := by
  have hq := h.q_lt
  have e := g.eq
  have l := g.le
  have hd0 : 0 < d := Nat.lt_of_lt_of_le (by decide) hd
  refine ⟨⟨?_, by omega, by omega⟩, by omega⟩
  obtain ⟨c, rfl⟩ : ∃ c, d = c + 1 := ⟨d - 1, by omega⟩
  rw [Nat.add_mul, Nat.one_mul] at e
  simp only [Nat.add_sub_cancel]
  omega
theorem Gs.dec {d r : Nat} (g : Gs L v p m d r) (h : Long L v p m) (ht : r * LB + L / LB ^ (p + m) % LB < d * (v / LB ^ m % LB)) : Gs L v p m (d - 1) (r + v / LB ^ (m + 1)) ∧ d - 1 ≤ LB := by
  have a4 := h.A4
  have e := g.eq
  rw [← e] at a4
  have hq := g_dec (pw _) h.A1 a4 h.q1 ht
  have hd0 : 0 < d := Nat.lt_of_le_of_lt (Nat.zero_le _) hq
  have l := g.le
  refine ⟨⟨?_, by omega, by omega⟩, by omega⟩
  obtain ⟨c, rfl⟩ : ∃ c, d = c + 1 := ⟨d - 1, by omega⟩
  rw [Nat.add_mul, Nat.one_mul] at e
  simp only [Nat.add_sub_cancel]
  omega
theorem Gs.enda {d r : Nat} (g : Gs L v p m d r) (h : Long L v p m) (hd : d < LB) (ht : d * (v / LB ^ m % LB) ≤ r * LB + L / LB ^ (p + m) % LB) : d ≤ L / (v * LB ^ p) + 1 := by
  have a3 := h.A3
  rw [← g.eq] at a3
  exact g_a (Nat.le_of_lt hd) ht h.A2 a3 h.A5 h.q2
theorem Gs.endb {d r : Nat} (g : Gs L v p m d r) (h : Long L v p m) (hd : d ≤ LB) (hr : LB ≤ r) : d ≤ L / (v * LB ^ p) + 1 := by
  have a3 := h.A3
  rw [← g.eq] at a3
  exact g_b hd hr (Nat.mod_lt _ LB_pos) h.A2 a3 h.V0 h.q2
/-- the next place -/
theorem Long.next {q : Nat} (h : Long L v p m) (p' : Nat) (hp : p = p' + 1) (hq : q = L / (v * LB ^ p)) : Long (L - q * (v * LB ^ p)) v p' m := by
  refine ⟨h.hi, h.lo, ?_⟩
  subst hp
  have h1 := h.q1
  have h2 := h.q2
  rw [← hq] at h1 h2
  rw [Nat.add_mul, Nat.one_mul] at h2
  omega
theorem Long.last {q : Nat} (h : Long L v 0 m) (hq : q = L / (v * LB ^ 0)) : L - q * (v * LB ^ 0) < v := by
  have h1 := h.q1
  have h2 := h.q2
  rw [← hq] at h1 h2
  rw [Nat.add_mul, Nat.one_mul, Nat.pow_zero, Nat.mul_one] at h2
  rw [Nat.pow_zero, Nat.mul_one] at *
  omega
/-- taking a divisor away often times at a place, i limbs far -/
structure TkI (M : Nat) (ds : List Nat) (o : Int) (p i : Nat) (cur : List Nat) (c : Int) : Prop where
  lim : Lim cur
  len : cur.length = 80
  eq : (val cur : Int) + (LB ^ (p + i) : Nat) * c = (M : Int) - o * ((LB ^ p * val (ds.take i) : Nat) : Int)
  lo : -((LB : Int) + 2) ≤ c
  hi : c ≤ 1
  up : ∀ j, p + i ≤ j → cur.getD j 0 = M / LB ^ j % LB
theorem TkI.start (M : Nat) (ds : List Nat) (o : Int) (p : Nat) (hM : cnt M ≤ 80) : TkI M ds o p 0 (pad M) 0 :=
  ⟨pad_lim M, pad_len hM, by rw [pad_val]; simp [val], by decide, by decide, fun j _ => pad_at M j⟩
theorem LBi : (LB : Int) = 268435456 := rfl
theorem TkI.step {M : Nat} {ds : List Nat} {o : Int} {p i : Nat} {cur : List Nat} {c : Int} (h : TkI M ds o p i cur c) (hd : Lim ds) (ho1 : -1 ≤ o) (ho2 : o ≤ (LB : Int) + 1) (hp : p + i < 80) :
    TkI M ds o p (i + 1) (cur.set (p + i) ((c + (cur.getD (p + i) 0 : Int) - o * (ds.getD i 0 : Int)) % 268435456).toNat) ((c + (cur.getD (p + i) 0 : Int) - o * (ds.getD i 0 : Int)) / 268435456) := by
  have hl := h.lim.getD (p + i)
  have hx := hd.getD i
  have hlo := h.lo
  have hhi := h.hi
  have hlen := h.len
  have hxl : LB = 268435456 := rfl
  have hoLo : -(ds.getD i 0 : Int) ≤ o * (ds.getD i 0 : Int) := by
    have := Int.mul_le_mul_of_nonneg_right ho1 (Int.natCast_nonneg (ds.getD i 0))
    omega
  have hoHi : o * (ds.getD i 0 : Int) ≤ ((LB : Int) + 1) * ((LB : Int) - 1) := by
    have h1 := Int.mul_le_mul_of_nonneg_right ho2 (Int.natCast_nonneg (ds.getD i 0))
    have h2 : ((LB : Int) + 1) * (ds.getD i 0 : Int) ≤ ((LB : Int) + 1) * ((LB : Int) - 1) := Int.mul_le_mul_of_nonneg_left (by omega) (by omega)
    omega
  have hLL : ((LB : Int) + 1) * ((LB : Int) - 1) = 72057594037927935 := by decide
  rw [hLL] at hoHi
  have hnn : 0 ≤ (c + (cur.getD (p + i) 0 : Int) - o * (ds.getD i 0 : Int)) % 268435456 := Int.emod_nonneg _ (by decide)
  have hlt : (c + (cur.getD (p + i) 0 : Int) - o * (ds.getD i 0 : Int)) % 268435456 < 268435456 := Int.emod_lt_of_pos _ (by decide)
  have hdm := Int.mul_ediv_add_emod (c + (cur.getD (p + i) 0 : Int) - o * (ds.getD i 0 : Int)) 268435456
  have heq := h.eq
  have hvs := val_set cur (p + i) ((c + (cur.getD (p + i) 0 : Int) - o * (ds.getD i 0 : Int)) % 268435456).toNat (by omega)
  have hts := val_take_succ ds i
  refine ⟨h.lim.set _ _ (by omega), by rw [List.length_set, hlen], ?_, by omega, by omega, ?_⟩
  · have hY : ((((c + (cur.getD (p + i) 0 : Int) - o * (ds.getD i 0 : Int)) % 268435456).toNat : Nat) : Int) = (c + (cur.getD (p + i) 0 : Int) - o * (ds.getD i 0 : Int)) % 268435456 := Int.toNat_of_nonneg hnn
    rw [hts, show p + (i + 1) = (p + i) + 1 from rfl, Nat.pow_succ]
    have e1 : ((val (cur.set (p + i) ((c + (cur.getD (p + i) 0 : Int) - o * (ds.getD i 0 : Int)) % 268435456).toNat) : Nat) : Int) + ((LB ^ (p + i) : Nat) : Int) * (cur.getD (p + i) 0 : Int) = (val cur : Int) + ((LB ^ (p + i) : Nat) : Int) * ((c + (cur.getD (p + i) 0 : Int) - o * (ds.getD i 0 : Int)) % 268435456) := by
      have := congrArg (fun z : Nat => (z : Int)) hvs
      simp only [Int.natCast_add, Int.natCast_mul] at this
      rw [hY] at this
      exact this
    have e2 : ((LB ^ p * (val (ds.take i) + LB ^ i * ds.getD i 0) : Nat) : Int) = ((LB ^ p * val (ds.take i) : Nat) : Int) + ((LB ^ (p + i) : Nat) : Int) * (ds.getD i 0 : Int) := by
      rw [Nat.mul_add, ← Nat.mul_assoc, ← Nat.pow_add]
      simp only [Int.natCast_add, Int.natCast_mul]
    rw [e2]
    have e3 : ((LB ^ (p + i) * LB : Nat) : Int) = ((LB ^ (p + i) : Nat) : Int) * 268435456 := by rw [Int.natCast_mul, LBi]
    rw [e3]
    generalize ((LB ^ (p + i) : Nat) : Int) = B at *
    generalize ((LB ^ p * val (ds.take i) : Nat) : Int) = W at *
    generalize (ds.getD i 0 : Int) = x at *
    generalize (cur.getD (p + i) 0 : Int) = y at *
    generalize ((val (cur.set (p + i) ((c + y - o * x) % 268435456).toNat) : Nat) : Int) = A at *
    generalize (val cur : Int) = C at *
    generalize (c + y - o * x) % 268435456 = R at *
    generalize (c + y - o * x) / 268435456 = Q at *
    have e4 : B * 268435456 * Q + B * R = B * (c + y - o * x) := by rw [← hdm, Int.mul_add, Int.mul_assoc]
    have e5 : B * (c + y - o * x) = B * c + B * y - o * (B * x) := by rw [Int.mul_sub, Int.mul_add, Int.mul_left_comm]
    rw [Int.mul_add o]
    omega
  · intro j hj
    rw [← h.up j (by omega)]
    simp [List.getD, show ¬ p + i = j by omega]
/-- the topmost limb: what is left, and whether that much was there -/
theorem TkI.done {M : Nat} {ds : List Nat} {o : Int} {p n : Nat} {cur : List Nat} {c : Int} {v : Nat} (h : TkI M ds o p n cur c) (hv : val (ds.take n) = v) (hM : M < LB ^ (p + n + 1)) (hp : p + n < 80) :
    (0 ≤ c + (cur.getD (p + n) 0 : Int) ↔ 0 ≤ (M : Int) - o * ((LB ^ p * v : Nat) : Int)) ∧
    cur.set (p + n) ((c + (cur.getD (p + n) 0 : Int)) % 268435456).toNat = pad (((M : Int) - o * ((LB ^ p * v : Nat) : Int)) % ((LB ^ (p + n + 1) : Nat) : Int)).toNat := by
  have hlen := h.len
  have heq := h.eq
  rw [hv] at heq
  have hup : ∀ j, p + n + 1 ≤ j → cur.getD j 0 = 0 := fun j hj => by
    rw [h.up j (by omega), Nat.div_eq_of_lt (Nat.lt_of_lt_of_le hM (Nat.pow_le_pow_right LB_pos hj)), Nat.zero_mod]
  -- the limbs below the topmost one
  have hz : ∀ k : Nat, ∀ ls : List Nat, (∀ j, k ≤ j → ls.getD j 0 = 0) → val (ls.take k) = val ls := by
    intro k
    induction k with
    | zero =>
      intro ls
      induction ls with
      | nil => intro _; rfl
      | cons x xs ih =>
        intro hj
        have h0 : x = 0 := hj 0 (by omega)
        have h1 : val xs = 0 := by
          have := ih (fun j hj2 => by have := hj (j + 1) (by omega); simpa using this)
          rw [← this]; simp [val]
        simp [val, h0, h1]
    | succ k ih =>
      intro ls hj
      cases ls with
      | nil => simp [val]
      | cons x xs =>
        have := ih xs (fun j hj2 => by have := hj (j + 1) (by omega); simpa using this)
        simp [val, this]
  have hcur : val cur = val (cur.take (p + n)) + LB ^ (p + n) * cur.getD (p + n) 0 := by
    rw [← val_take_succ, hz (p + n + 1) cur hup]
  have hlow : val (cur.take (p + n)) < LB ^ (p + n) := by
    have := val_lt (h.lim.take (p + n))
    rw [List.length_take, hlen, Nat.min_eq_left (by omega)] at this
    exact this
  have hnn : 0 ≤ (c + (cur.getD (p + n) 0 : Int)) % 268435456 := Int.emod_nonneg _ (by decide)
  have hlt : (c + (cur.getD (p + n) 0 : Int)) % 268435456 < 268435456 := Int.emod_lt_of_pos _ (by decide)
  have hdm := Int.mul_ediv_add_emod (c + (cur.getD (p + n) 0 : Int)) 268435456
  have hT : (M : Int) - o * ((LB ^ p * v : Nat) : Int) = (val (cur.take (p + n)) : Int) + ((LB ^ (p + n) : Nat) : Int) * (c + (cur.getD (p + n) 0 : Int)) := by
    rw [← heq, hcur, Int.natCast_add, Int.natCast_mul, Int.mul_add]
    omega
  have hB : 0 < ((LB ^ (p + n) : Nat) : Int) := Int.ofNat_lt.2 (pw _)
  refine ⟨?_, ?_⟩
  · rw [hT]
    constructor
    · intro h0
      have := Int.mul_nonneg (Int.le_of_lt hB) h0
      omega
    · intro h0
      apply Classical.byContradiction
      intro hn
      have h1 : c + (cur.getD (p + n) 0 : Int) ≤ -1 := by omega
      have h2 := Int.mul_le_mul_of_nonneg_left h1 (Int.le_of_lt hB)
      omega
  · have hset := val_set cur (p + n) ((c + (cur.getD (p + n) 0 : Int)) % 268435456).toNat (by omega)
    have hval : ((val (cur.set (p + n) ((c + (cur.getD (p + n) 0 : Int)) % 268435456).toNat) : Nat) : Int) = ((M : Int) - o * ((LB ^ p * v : Nat) : Int)) % ((LB ^ (p + n + 1) : Nat) : Int) := by
      have e1 : val (cur.set (p + n) ((c + (cur.getD (p + n) 0 : Int)) % 268435456).toNat) = val (cur.take (p + n)) + LB ^ (p + n) * ((c + (cur.getD (p + n) 0 : Int)) % 268435456).toNat := by omega
      have hY : ((((c + (cur.getD (p + n) 0 : Int)) % 268435456).toNat : Nat) : Int) = (c + (cur.getD (p + n) 0 : Int)) % 268435456 := Int.toNat_of_nonneg hnn
      have e2 : ((val (cur.set (p + n) ((c + (cur.getD (p + n) 0 : Int)) % 268435456).toNat) : Nat) : Int) = (val (cur.take (p + n)) : Int) + ((LB ^ (p + n) : Nat) : Int) * ((c + (cur.getD (p + n) 0 : Int)) % 268435456) := by
        rw [e1, Int.natCast_add, Int.natCast_mul, hY]
      have e3 : ((LB ^ (p + n + 1) : Nat) : Int) = ((LB ^ (p + n) : Nat) : Int) * 268435456 := by rw [Nat.pow_succ, Int.natCast_mul, LBi]
      have e4 : (M : Int) - o * ((LB ^ p * v : Nat) : Int) = (val (cur.set (p + n) ((c + (cur.getD (p + n) 0 : Int)) % 268435456).toNat) : Int) + ((LB ^ (p + n + 1) : Nat) : Int) * ((c + (cur.getD (p + n) 0 : Int)) / 268435456) := by
        rw [hT, e2, e3]
        have e5 : ((LB ^ (p + n) : Nat) : Int) * (c + (cur.getD (p + n) 0 : Int)) = ((LB ^ (p + n) : Nat) : Int) * 268435456 * ((c + (cur.getD (p + n) 0 : Int)) / 268435456) + ((LB ^ (p + n) : Nat) : Int) * ((c + (cur.getD (p + n) 0 : Int)) % 268435456) := by
          rw [Int.mul_assoc, ← Int.mul_add, hdm]
        omega
      have e6 : val (cur.set (p + n) ((c + (cur.getD (p + n) 0 : Int)) % 268435456).toNat) < LB ^ (p + n + 1) := by
        have h1 : ((c + (cur.getD (p + n) 0 : Int)) % 268435456).toNat + 1 ≤ LB := by have : LB = 268435456 := rfl; omega
        have h2 := Nat.mul_le_mul_left (LB ^ (p + n)) h1
        rw [Nat.mul_add, Nat.mul_one] at h2
        rw [e1, Nat.pow_succ]
        omega
      rw [e4, Int.add_mul_emod_self_left, Int.emod_eq_of_lt (Int.natCast_nonneg _) (Int.ofNat_lt.2 e6)]
    have hx := pad_of (h.lim.set (p + n) ((c + (cur.getD (p + n) 0 : Int)) % 268435456).toNat (by have : LB = 268435456 := rfl; omega)) (by rw [List.length_set, hlen])
    rw [hx]
    congr 1
    rw [← hval, Int.toNat_natCast]
end Go.Proofs.Ytpcpahgflkjnaaa.M2
