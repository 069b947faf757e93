/- Proved: several texts in one: what each proves is said ahead of it. -/
import Derived.Deep.WholeRow
import Derived.Laws.ResultCell
import Derived.Deep.LoopGhost
import Derived.Laws.BitsLemmas
import Derived.Laws.CopyOwn
import Derived.Deep.RegionLaw
import Derived.Test.YtfgooclnohnkmaaGreatDoorWo08
/- Proved: long division by guessed digits to the base 2^28, as numbers: the guess is the digit or one too great; what taking away does to eighty limbs; no program in sight. -/
namespace Go.Proofs.YtfgooclnohnkmaaGreatDoor.M2
set_option linter.unusedVariables false
theorem dig_getD : ∀ (j n : Nat), (dig n).getD j 0 = n / LB ^ j % LB
  | 0, n => by
    by_cases h : n = 0
    · subst h; rw [dig_zero]; simp
    · rw [dig_pos n h]; simp
  | j + 1, n => by
    by_cases h : n = 0
    · subst h; rw [dig_zero]; simp
    · rw [dig_pos n h, List.getD_cons_succ, dig_getD j (n / LB), Nat.div_div_eq_div_mul, Nat.pow_succ, Nat.mul_comm LB]
theorem pad_at (n j : Nat) : (pad n).getD j 0 = n / LB ^ j % LB := by rw [pad_getD, dig_getD]
/-- a guess that is too great by what is seen is too great -/
theorem g_dec {U v P d r f s t q : Nat} (hP : 0 < P) (hv : (f * LB + s) * P ≤ v) (hU : U < ((d * f + r) * LB + t + 1) * P) (hq : q * v ≤ U) (ht : r * LB + t < d * s) : q < d := by
  apply Classical.byContradiction
  intro hn
  have hdq : d ≤ q := Nat.le_of_not_lt hn
  have h1 : d * v ≤ q * v := Nat.mul_le_mul_right _ hdq
  have h2 : d * ((f * LB + s) * P) ≤ d * v := Nat.mul_le_mul_left _ hv
  rw [← Nat.mul_assoc] at h2
  have h3 : d * (f * LB + s) * P < ((d * f + r) * LB + t + 1) * P := by omega
  have h4 := Nat.lt_of_mul_lt_mul_right h3
  have h5 : d * (f * LB + s) = d * f * LB + d * s := by rw [Nat.mul_add, Nat.mul_assoc]
  have h6 : (d * f + r) * LB = d * f * LB + r * LB := by rw [Nat.add_mul]
  omega
/-- one that is not is at most one too great -/
theorem g_a {U v P d r f s t q : Nat} (hd : d ≤ LB) (ht : d * s ≤ r * LB + t) (hv : v < (f * LB + s + 1) * P) (hU : ((d * f + r) * LB + t) * P ≤ U) (hP : LB * P ≤ v) (hq : U < (q + 1) * v) : d ≤ q + 1 := by
  have h1 : d * v ≤ d * ((f * LB + s + 1) * P) := Nat.mul_le_mul_left _ (Nat.le_of_lt hv)
  rw [← Nat.mul_assoc] at h1
  have h2 : d * (f * LB + s + 1) = d * f * LB + d * s + d := by rw [Nat.mul_add, Nat.mul_add, Nat.mul_assoc, Nat.mul_one]
  have h3 : (d * f + r) * LB = d * f * LB + r * LB := by rw [Nat.add_mul]
  have h4 : d * (f * LB + s + 1) * P ≤ ((d * f + r) * LB + t + d) * P := Nat.mul_le_mul_right _ (by omega)
  rw [Nat.add_mul ((d * f + r) * LB + t) d P] at h4
  have h5 : d * P ≤ LB * P := Nat.mul_le_mul_right _ hd
  have h6 : d * v < (q + 2) * v := by
    have : (q + 2) * v = (q + 1) * v + v := by rw [show q + 2 = (q + 1) + 1 from rfl, Nat.add_mul (q + 1) 1 v, Nat.one_mul]
    omega
  have := Nat.lt_of_mul_lt_mul_right h6
  omega
/-- where what is left of what is seen is great the guess is not too great -/
theorem g_b {U v P d r f s t q : Nat} (hd : d ≤ LB) (hr : LB ≤ r) (hs : s < LB) (hv : v < (f * LB + s + 1) * P) (hU : ((d * f + r) * LB + t) * P ≤ U) (hv0 : 0 < v) (hq : U < (q + 1) * v) : d ≤ q + 1 := by
  have h1 : d * v ≤ d * ((f * LB + s + 1) * P) := Nat.mul_le_mul_left _ (Nat.le_of_lt hv)
  rw [← Nat.mul_assoc] at h1
  have h2 : d * (f * LB + s + 1) ≤ d * (f * LB + LB) := Nat.mul_le_mul_left _ (by omega)
  have h3 : d * (f * LB + LB) = (d * f + d) * LB := by rw [Nat.mul_add, Nat.add_mul, Nat.mul_assoc]
  have h4 : (d * f + d) * LB ≤ (d * f + r) * LB := Nat.mul_le_mul_right _ (by omega)
  have h5 : d * (f * LB + s + 1) * P ≤ ((d * f + r) * LB + t) * P := Nat.mul_le_mul_right _ (by omega)
  have h6 : d * v < (q + 1) * v := by omega
  have := Nat.lt_of_mul_lt_mul_right h6
  omega
theorem div_lo (n k : Nat) : n / LB ^ k / LB = n / LB ^ (k + 1) := by rw [Nat.div_div_eq_div_mul, Nat.pow_succ]
theorem div_two (n k : Nat) : n / LB ^ (k + 1) * LB + n / LB ^ k % LB = n / LB ^ k := by
  rw [← div_lo, Nat.mul_comm]
  exact Nat.div_add_mod _ _
theorem pw (k : Nat) : 0 < LB ^ k := Nat.pow_pos LB_pos
theorem div_lb (n k : Nat) : n / LB ^ k * LB ^ k ≤ n := Nat.div_mul_le_self _ _
theorem div_ub (n k : Nat) : n < (n / LB ^ k + 1) * LB ^ k := by
  have := Nat.lt_div_mul_add (a := n) (pw k)
  rw [Nat.add_mul, Nat.one_mul]
  exact this
/-- a divisor of m + 2 limbs, its first one half of 2^28 or more, and a number below it so often -/
structure Long (L v p m : Nat) : Prop where
  hi : v < LB ^ (m + 2)
  lo : LB / 2 ≤ v / LB ^ (m + 1)
  lt : L < v * LB ^ (p + 1)
variable {L v p m : Nat}
theorem Long.first (h : Long L v p m) : v / LB ^ (m + 1) < LB := Nat.div_lt_of_lt_mul (by rw [← Nat.pow_succ]; exact h.hi)
theorem Long.pos (h : Long L v p m) : 0 < v := by
  rcases Nat.eq_zero_or_pos v with e | e
  · have := h.lo; rw [e, Nat.zero_div] at this; exact absurd this (by decide)
  · exact e
theorem Long.f0 (h : Long L v p m) : 0 < v / LB ^ (m + 1) := Nat.lt_of_lt_of_le (by decide) h.lo
theorem Long.big (h : Long L v p m) : L < LB ^ (p + m + 3) := by
  have h1 := h.lt
  have h2 : v * LB ^ (p + 1) ≤ LB ^ (m + 2) * LB ^ (p + 1) := Nat.mul_le_mul_right _ (Nat.le_of_lt h.hi)
  rw [← Nat.pow_add, show m + 2 + (p + 1) = p + m + 3 by omega] at h2
  omega
theorem Long.top (h : Long L v p m) : L / LB ^ (p + m + 2) % LB = L / LB ^ (p + m + 2) := Nat.mod_eq_of_lt (Nat.div_lt_of_lt_mul (by rw [← Nat.pow_succ]; exact h.big))
theorem Long.seen (h : Long L v p m) : L / LB ^ (p + m + 2) % LB * LB + L / LB ^ (p + m + 1) % LB = L / LB ^ (p + m + 1) := by
  rw [h.top]; exact div_two _ _
theorem Long.V0 (h : Long L v p m) : 0 < v * LB ^ p := Nat.mul_pos h.pos (pw p)
theorem Long.q_lt (h : Long L v p m) : L / (v * LB ^ p) < LB := by
  refine Nat.div_lt_of_lt_mul ?_
  have := h.lt
  rw [Nat.pow_succ, ← Nat.mul_assoc] at this
  exact this
theorem Long.A1 (h : Long L v p m) : (v / LB ^ (m + 1) * LB + v / LB ^ m % LB) * LB ^ (p + m) ≤ v * LB ^ p := by
  rw [div_two, Nat.pow_add, Nat.mul_comm (LB ^ p), ← Nat.mul_assoc]
  exact Nat.mul_le_mul_right _ (div_lb v m)
theorem Long.A2 (h : Long L v p m) : v * LB ^ p < (v / LB ^ (m + 1) * LB + v / LB ^ m % LB + 1) * LB ^ (p + m) := by
  rw [div_two, Nat.pow_add, Nat.mul_comm (LB ^ p), ← Nat.mul_assoc]
  exact Nat.mul_lt_mul_of_pos_right (div_ub v m) (pw p)
theorem Long.A3 (h : Long L v p m) : (L / LB ^ (p + m + 1) * LB + L / LB ^ (p + m) % LB) * LB ^ (p + m) ≤ L := by
  rw [div_two]; exact div_lb _ _
theorem Long.A4 (h : Long L v p m) : L < (L / LB ^ (p + m + 1) * LB + L / LB ^ (p + m) % LB + 1) * LB ^ (p + m) := by
  rw [div_two]; exact div_ub _ _
theorem Long.A5 (h : Long L v p m) : LB * LB ^ (p + m) ≤ v * LB ^ p := by
  refine Nat.le_trans ?_ h.A1
  refine Nat.mul_le_mul_right _ ?_
  have : 1 * LB ≤ v / LB ^ (m + 1) * LB := Nat.mul_le_mul_right _ h.f0
  omega
theorem Long.q1 (h : Long L v p m) : L / (v * LB ^ p) * (v * LB ^ p) ≤ L := Nat.div_mul_le_self _ _
theorem Long.q2 (h : Long L v p m) : L < (L / (v * LB ^ p) + 1) * (v * LB ^ p) := by
  have := Nat.lt_div_mul_add (a := L) h.V0
  rw [Nat.add_mul, Nat.one_mul]
  exact this
/-- a digit that is guessed, and what is left of what is seen -/
structure Gs (L v p m d r : Nat) : Prop where
  eq : d * (v / LB ^ (m + 1)) + r = L / LB ^ (p + m + 1)
  ge : L / (v * LB ^ p) ≤ d
  le : d ≤ LB + 1
theorem Gs.start (h : Long L v p m) : Gs L v p m (L / LB ^ (p + m + 1) / (v / LB ^ (m + 1))) (L / LB ^ (p + m + 1) % (v / LB ^ (m + 1))) := by
  have hf := h.f0
  refine ⟨by rw [Nat.mul_comm]; exact Nat.div_add_mod _ _, ?_, ?_⟩
  · refine (Nat.le_div_iff_mul_le hf).2 ((Nat.le_div_iff_mul_le (pw _)).2 ?_)
    refine Nat.le_trans ?_ h.q1
    rw [Nat.mul_assoc]
    refine Nat.mul_le_mul_left _ (Nat.le_trans ?_ h.A1)
    generalize v / LB ^ (m + 1) = f
    generalize v / LB ^ m % LB = s
    rw [show p + m + 1 = (p + m) + 1 from rfl, Nat.pow_succ, Nat.mul_comm (LB ^ (p + m)) LB, ← Nat.mul_assoc]
    exact Nat.mul_le_mul_right _ (Nat.le_add_right _ _)
  · have h1 : L / LB ^ (p + m + 1) < (v / LB ^ (m + 1) + 1) * LB := by
      refine Nat.div_lt_of_lt_mul ?_
      have a := h.lt
      have b := div_ub v (m + 1)
      have c := Nat.mul_lt_mul_of_pos_right b (pw (p + 1))
      have e : (v / LB ^ (m + 1) + 1) * LB ^ (m + 1) * LB ^ (p + 1) = LB ^ (p + m + 1) * ((v / LB ^ (m + 1) + 1) * LB) := by
        generalize v / LB ^ (m + 1) + 1 = f
        rw [Nat.mul_assoc, ← Nat.pow_add, show m + 1 + (p + 1) = (p + m + 1) + 1 by omega, Nat.pow_succ, Nat.mul_comm (LB ^ (p + m + 1)) LB, ← Nat.mul_assoc, Nat.mul_comm]
      omega
    have h2 := h.lo
    generalize v / LB ^ (m + 1) = f at *
    generalize L / LB ^ (p + m + 1) = S at *
    refine Nat.le_of_lt_succ ((Nat.div_lt_iff_lt_mul hf).2 ?_)
    have e1 : (LB + 1 + 1) * f = f * LB + 2 * f := by rw [Nat.add_assoc, Nat.add_mul, Nat.mul_comm LB f]
    have e2 : (f + 1) * LB = f * LB + LB := by rw [Nat.add_mul, Nat.one_mul]
    have e3 : LB ≤ 2 * f := by
      have : LB / 2 * 2 = LB := by decide
      omega
    show S < (LB + 1 + 1) * f
    omega
theorem Gs.big {d r : Nat} (g : Gs L v p m d r) (h : Long L v p m) (hd : LB ≤ d) : Gs L v p m (d - 1) (r + v / LB ^ (m + 1)) ∧ d - 1 ≤ LB := by
  have hq := h.q_lt
  have e := g.eq
  have l := g.le
  have hd0 : 0 < d := Nat.lt_of_lt_of_le (by decide) hd
  refine ⟨⟨?_, by omega, by omega⟩, by omega⟩
  obtain ⟨c, rfl⟩ : ∃ c, d = c + 1 := ⟨d - 1, by omega⟩
  rw [Nat.add_mul, Nat.one_mul] at e
  simp only [Nat.add_sub_cancel]
  omega
theorem Gs.dec {d r : Nat} (g : Gs L v p m d r) (h : Long L v p m) (ht : r * LB + L / LB ^ (p + m) % LB < d * (v / LB ^ m % LB)) : Gs L v p m (d - 1) (r + v / LB ^ (m + 1)) ∧ d - 1 ≤ LB := by
  have a4 := h.A4
  have e := g.eq
  rw [← e] at a4
  have hq := g_dec (pw _) h.A1 a4 h.q1 ht
  have hd0 : 0 < d := Nat.lt_of_le_of_lt (Nat.zero_le _) hq
  have l := g.le
  refine ⟨⟨?_, by omega, by omega⟩, by omega⟩
  obtain ⟨c, rfl⟩ : ∃ c, d = c + 1 := ⟨d - 1, by omega⟩
  rw [Nat.add_mul, Nat.one_mul] at e
  simp only [Nat.add_sub_cancel]
  omega
theorem Gs.enda {d r : Nat} (g : Gs L v p m d r) (h : Long L v p m) (hd : d < LB) (ht : d * (v / LB ^ m % LB) ≤ r * LB + L / LB ^ (p + m) % LB) : d ≤ L / (v * LB ^ p) + 1 := by
  have a3 := h.A3
  rw [← g.eq] at a3
  exact g_a (Nat.le_of_lt hd) ht h.A2 a3 h.A5 h.q2
theorem Gs.endb {d r : Nat} (g : Gs L v p m d r) (h : Long L v p m) (hd : d ≤ LB) (hr : LB ≤ r) : d ≤ L / (v * LB ^ p) + 1 := by
  have a3 := h.A3
  rw [← g.eq] at a3
  exact g_b hd hr (Nat.mod_lt _ LB_pos) h.A2 a3 h.V0 h.q2
/-- the next place -/
theorem Long.next {q : Nat} (h : Long L v p m) (p' : Nat) (hp : p = p' + 1) (hq : q = L / (v * LB ^ p)) : Long (L - q * (v * LB ^ p)) v p' m := by
  refine ⟨h.hi, h.lo, ?_⟩
  subst hp
  have h1 := h.q1
  have h2 := h.q2
  rw [← hq] at h1 h2
  rw [Nat.add_mul, Nat.one_mul] at h2
  omega
theorem Long.last {q : Nat} (h : Long L v 0 m) (hq : q = L / (v * LB ^ 0)) : L - q * (v * LB ^ 0) < v := by
  have h1 := h.q1
  have h2 := h.q2
  rw [← hq] at h1 h2
  rw [Nat.add_mul, Nat.one_mul, Nat.pow_zero, Nat.mul_one] at h2
  rw [Nat.pow_zero, Nat.mul_one] at *
  omega
/-- taking a divisor away often times at a place, i limbs far -/
structure TkI (M : Nat) (ds : List Nat) (o : Int) (p i : Nat) (cur : List Nat) (c : Int) : Prop where
  lim : Lim cur
  len : cur.length = 80
  eq : (val cur : Int) + (LB ^ (p + i) : Nat) * c = (M : Int) - o * ((LB ^ p * val (ds.take i) : Nat) : Int)
  lo : -((LB : Int) + 2) ≤ c
  hi : c ≤ 1
  up : ∀ j, p + i ≤ j → cur.getD j 0 = M / LB ^ j % LB
theorem TkI.start (M : Nat) (ds : List Nat) (o : Int) (p : Nat) (hM : cnt M ≤ 80) : TkI M ds o p 0 (pad M) 0 :=
  ⟨pad_lim M, pad_len hM, by rw [pad_val]; simp [val], by decide, by decide, fun j _ => pad_at M j⟩
theorem LBi : (LB : Int) = 268435456 := rfl
theorem TkI.step {M : Nat} {ds : List Nat} {o : Int} {p i : Nat} {cur : List Nat} {c : Int} (h : TkI M ds o p i cur c) (hd : Lim ds) (ho1 : -1 ≤ o) (ho2 : o ≤ (LB : Int) + 1) (hp : p + i < 80) :
    TkI M ds o p (i + 1) (cur.set (p + i) ((c + (cur.getD (p + i) 0 : Int) - o * (ds.getD i 0 : Int)) % 268435456).toNat) ((c + (cur.getD (p + i) 0 : Int) - o * (ds.getD i 0 : Int)) / 268435456) := by
  have hl := h.lim.getD (p + i)
  have hx := hd.getD i
  have hlo := h.lo
  have hhi := h.hi
  have hlen := h.len
  have hxl : LB = 268435456 := rfl
  have hoLo : -(ds.getD i 0 : Int) ≤ o * (ds.getD i 0 : Int) := by
    have := Int.mul_le_mul_of_nonneg_right ho1 (Int.natCast_nonneg (ds.getD i 0))
    omega
  have hoHi : o * (ds.getD i 0 : Int) ≤ ((LB : Int) + 1) * ((LB : Int) - 1) := by
    have h1 := Int.mul_le_mul_of_nonneg_right ho2 (Int.natCast_nonneg (ds.getD i 0))
    have h2 : ((LB : Int) + 1) * (ds.getD i 0 : Int) ≤ ((LB : Int) + 1) * ((LB : Int) - 1) := Int.mul_le_mul_of_nonneg_left (by omega) (by omega)
    omega
  have hLL : ((LB : Int) + 1) * ((LB : Int) - 1) = 72057594037927935 := by decide
  rw [hLL] at hoHi
  have hnn : 0 ≤ (c + (cur.getD (p + i) 0 : Int) - o * (ds.getD i 0 : Int)) % 268435456 := Int.emod_nonneg _ (by decide)
  have hlt : (c + (cur.getD (p + i) 0 : Int) - o * (ds.getD i 0 : Int)) % 268435456 < 268435456 := Int.emod_lt_of_pos _ (by decide)
  have hdm := Int.mul_ediv_add_emod (c + (cur.getD (p + i) 0 : Int) - o * (ds.getD i 0 : Int)) 268435456
  have heq := h.eq
  have hvs := val_set cur (p + i) ((c + (cur.getD (p + i) 0 : Int) - o * (ds.getD i 0 : Int)) % 268435456).toNat (by omega)
  have hts := val_take_succ ds i
  refine ⟨h.lim.set _ _ (by omega), by rw [List.length_set, hlen], ?_, by omega, by omega, ?_⟩
  · have hY : ((((c + (cur.getD (p + i) 0 : Int) - o * (ds.getD i 0 : Int)) % 268435456).toNat : Nat) : Int) = (c + (cur.getD (p + i) 0 : Int) - o * (ds.getD i 0 : Int)) % 268435456 := Int.toNat_of_nonneg hnn
    rw [hts, show p + (i + 1) = (p + i) + 1 from rfl, Nat.pow_succ]
    have e1 : ((val (cur.set (p + i) ((c + (cur.getD (p + i) 0 : Int) - o * (ds.getD i 0 : Int)) % 268435456).toNat) : Nat) : Int) + ((LB ^ (p + i) : Nat) : Int) * (cur.getD (p + i) 0 : Int) = (val cur : Int) + ((LB ^ (p + i) : Nat) : Int) * ((c + (cur.getD (p + i) 0 : Int) - o * (ds.getD i 0 : Int)) % 268435456) := by
      have := congrArg (fun z : Nat => (z : Int)) hvs
      simp only [Int.natCast_add, Int.natCast_mul] at this
      rw [hY] at this
      exact this
    have e2 : ((LB ^ p * (val (ds.take i) + LB ^ i * ds.getD i 0) : Nat) : Int) = ((LB ^ p * val (ds.take i) : Nat) : Int) + ((LB ^ (p + i) : Nat) : Int) * (ds.getD i 0 : Int) := by
      rw [Nat.mul_add, ← Nat.mul_assoc, ← Nat.pow_add]
      simp only [Int.natCast_add, Int.natCast_mul]
    rw [e2]
    have e3 : ((LB ^ (p + i) * LB : Nat) : Int) = ((LB ^ (p + i) : Nat) : Int) * 268435456 := by rw [Int.natCast_mul, LBi]
    rw [e3]
    generalize ((LB ^ (p + i) : Nat) : Int) = B at *
    generalize ((LB ^ p * val (ds.take i) : Nat) : Int) = W at *
    generalize (ds.getD i 0 : Int) = x at *
    generalize (cur.getD (p + i) 0 : Int) = y at *
    generalize ((val (cur.set (p + i) ((c + y - o * x) % 268435456).toNat) : Nat) : Int) = A at *
    generalize (val cur : Int) = C at *
    generalize (c + y - o * x) % 268435456 = R at *
    generalize (c + y - o * x) / 268435456 = Q at *
    have e4 : B * 268435456 * Q + B * R = B * (c + y - o * x) := by rw [← hdm, Int.mul_add, Int.mul_assoc]
    have e5 : B * (c + y - o * x) = B * c + B * y - o * (B * x) := by rw [Int.mul_sub, Int.mul_add, Int.mul_left_comm]
    rw [Int.mul_add o]
    omega
  · intro j hj
    rw [← h.up j (by omega)]
    simp [List.getD, show ¬ p + i = j by omega]
/-- the topmost limb: what is left, and whether that much was there -/
theorem TkI.done {M : Nat} {ds : List Nat} {o : Int} {p n : Nat} {cur : List Nat} {c : Int} {v : Nat} (h : TkI M ds o p n cur c) (hv : val (ds.take n) = v) (hM : M < LB ^ (p + n + 1)) (hp : p + n < 80) :
    (0 ≤ c + (cur.getD (p + n) 0 : Int) ↔ 0 ≤ (M : Int) - o * ((LB ^ p * v : Nat) : Int)) ∧
    cur.set (p + n) ((c + (cur.getD (p + n) 0 : Int)) % 268435456).toNat = pad (((M : Int) - o * ((LB ^ p * v : Nat) : Int)) % ((LB ^ (p + n + 1) : Nat) : Int)).toNat := by
  have hlen := h.len
  have heq := h.eq
  rw [hv] at heq
  have hup : ∀ j, p + n + 1 ≤ j → cur.getD j 0 = 0 := fun j hj => by
    rw [h.up j (by omega), Nat.div_eq_of_lt (Nat.lt_of_lt_of_le hM (Nat.pow_le_pow_right LB_pos hj)), Nat.zero_mod]
  -- the limbs below the topmost one
  have hz : ∀ k : Nat, ∀ ls : List Nat, (∀ j, k ≤ j → ls.getD j 0 = 0) → val (ls.take k) = val ls := by
    intro k
    induction k with
    | zero =>
      intro ls
      induction ls with
      | nil => intro _; rfl
      | cons x xs ih =>
        intro hj
        have h0 : x = 0 := hj 0 (by omega)
        have h1 : val xs = 0 := by
          have := ih (fun j hj2 => by have := hj (j + 1) (by omega); simpa using this)
          rw [← this]; simp [val]
        simp [val, h0, h1]
    | succ k ih =>
      intro ls hj
      cases ls with
      | nil => simp [val]
      | cons x xs =>
        have := ih xs (fun j hj2 => by have := hj (j + 1) (by omega); simpa using this)
        simp [val, this]
  have hcur : val cur = val (cur.take (p + n)) + LB ^ (p + n) * cur.getD (p + n) 0 := by
    rw [← val_take_succ, hz (p + n + 1) cur hup]
  have hlow : val (cur.take (p + n)) < LB ^ (p + n) := by
    have := val_lt (h.lim.take (p + n))
    rw [List.length_take, hlen, Nat.min_eq_left (by omega)] at this
    exact this
  have hnn : 0 ≤ (c + (cur.getD (p + n) 0 : Int)) % 268435456 := Int.emod_nonneg _ (by decide)
  have hlt : (c + (cur.getD (p + n) 0 : Int)) % 268435456 < 268435456 := Int.emod_lt_of_pos _ (by decide)
  have hdm := Int.mul_ediv_add_emod (c + (cur.getD (p + n) 0 : Int)) 268435456
  have hT : (M : Int) - o * ((LB ^ p * v : Nat) : Int) = (val (cur.take (p + n)) : Int) + ((LB ^ (p + n) : Nat) : Int) * (c + (cur.getD (p + n) 0 : Int)) := by
    rw [← heq, hcur, Int.natCast_add, Int.natCast_mul, Int.mul_add]
    omega
  have hB : 0 < ((LB ^ (p + n) : Nat) : Int) := Int.ofNat_lt.2 (pw _)
  refine ⟨?_, ?_⟩
  · rw [hT]
    constructor
    · intro h0
      have := Int.mul_nonneg (Int.le_of_lt hB) h0
      omega
    · intro h0
      apply Classical.byContradiction
      intro hn
      have h1 : c + (cur.getD (p + n) 0 : Int) ≤ -1 := by omega
      have h2 := Int.mul_le_mul_of_nonneg_left h1 (Int.le_of_lt hB)
      omega
  · have hset := val_set cur (p + n) ((c + (cur.getD (p + n) 0 : Int)) % 268435456).toNat (by omega)
    have hval : ((val (cur.set (p + n) ((c + (cur.getD (p + n) 0 : Int)) % 268435456).toNat) : Nat) : Int) = ((M : Int) - o * ((LB ^ p * v : Nat) : Int)) % ((LB ^ (p + n + 1) : Nat) : Int) := by
      have e1 : val (cur.set (p + n) ((c + (cur.getD (p + n) 0 : Int)) % 268435456).toNat) = val (cur.take (p + n)) + LB ^ (p + n) * ((c + (cur.getD (p + n) 0 : Int)) % 268435456).toNat := by omega
      have hY : ((((c + (cur.getD (p + n) 0 : Int)) % 268435456).toNat : Nat) : Int) = (c + (cur.getD (p + n) 0 : Int)) % 268435456 := Int.toNat_of_nonneg hnn
      have e2 : ((val (cur.set (p + n) ((c + (cur.getD (p + n) 0 : Int)) % 268435456).toNat) : Nat) : Int) = (val (cur.take (p + n)) : Int) + ((LB ^ (p + n) : Nat) : Int) * ((c + (cur.getD (p + n) 0 : Int)) % 268435456) := by
        rw [e1, Int.natCast_add, Int.natCast_mul, hY]
      have e3 : ((LB ^ (p + n + 1) : Nat) : Int) = ((LB ^ (p + n) : Nat) : Int) * 268435456 := by rw [Nat.pow_succ, Int.natCast_mul, LBi]
      have e4 : (M : Int) - o * ((LB ^ p * v : Nat) : Int) = (val (cur.set (p + n) ((c + (cur.getD (p + n) 0 : Int)) % 268435456).toNat) : Int) + ((LB ^ (p + n + 1) : Nat) : Int) * ((c + (cur.getD (p + n) 0 : Int)) / 268435456) := by
        rw [hT, e2, e3]
        have e5 : ((LB ^ (p + n) : Nat) : Int) * (c + (cur.getD (p + n) 0 : Int)) = ((LB ^ (p + n) : Nat) : Int) * 268435456 * ((c + (cur.getD (p + n) 0 : Int)) / 268435456) + ((LB ^ (p + n) : Nat) : Int) * ((c + (cur.getD (p + n) 0 : Int)) % 268435456) := by
          rw [Int.mul_assoc, ← Int.mul_add, hdm]
        omega
      have e6 : val (cur.set (p + n) ((c + (cur.getD (p + n) 0 : Int)) % 268435456).toNat) < LB ^ (p + n + 1) := by
        have h1 : ((c + (cur.getD (p + n) 0 : Int)) % 268435456).toNat + 1 ≤ LB := by have : LB = 268435456 := rfl; omega
        have h2 := Nat.mul_le_mul_left (LB ^ (p + n)) h1
        rw [Nat.mul_add, Nat.mul_one] at h2
        rw [e1, Nat.pow_succ]
        omega
      rw [e4, Int.add_mul_emod_self_left, Int.emod_eq_of_lt (Int.natCast_nonneg _) (Int.ofNat_lt.2 e6)]
    have hx := pad_of (h.lim.set (p + n) ((c + (cur.getD (p + n) 0 : Int)) % 268435456).toNat (by have : LB = 268435456 := rfl; omega)) (by rw [List.length_set, hlen])
    rw [hx]
    congr 1
    rw [← hval, Int.toNat_natCast]
end Go.Proofs.YtfgooclnohnkmaaGreatDoor.M2
/- Proved: sizes (arrays of eighty limbs and a count) as values and in memory: how they are read, written, loaded and stored whole; no function of the program. -/
namespace Go.Proofs.YtfgooclnohnkmaaGreatDoor
open Go.ChangeShapes Go.WideShapes Go.ChangeAt Go.RowKit
open M2
set_option linter.unusedVariables false
set_option linter.unusedSimpArgs false
/-- the lowest 28 bits -/
theorem and_low (n : Int) : bits .and .i64 n 268435455 = n % 268435456 := by
  have h127 : (BitVec.ofInt 64 268435455).toNat = 2 ^ 28 - 1 := by decide
  have key : (BitVec.ofInt 64 n &&& BitVec.ofInt 64 268435455).toNat = (n % ((2 ^ 64 : Nat) : Int)).toNat % 2 ^ 28 := by
    rw [BitVec.toNat_and, BitVec.toNat_ofInt, h127, Nat.and_two_pow_sub_one_eq_mod]
  show IntKind.i64.wrap ((BitVec.ofInt 64 n &&& BitVec.ofInt 64 268435455).toNat : Nat) = n % 268435456
  rw [key, IntKind.wrap_i64]
  omega
/-- the cells of a size: its limbs, then its count -/
def szA (ls : List Nat) (c : Nat) : Array Value := (ls.map (fun n : Nat => Value.int .i64 (n : Int)) ++ [Value.int .i64 (c : Int)]).toArray
theorem szA_size {ls : List Nat} (h : ls.length = 80) (c : Nat) : (szA ls c).size = 81 := by simp [szA, h]
theorem szA_at {ls : List Nat} (h : ls.length = 80) (c : Nat) {j : Nat} (hj : j < 80) : (szA ls c)[j]? = some (.int .i64 ((ls.getD j 0 : Nat) : Int)) := by
  simp [szA, List.getElem?_append, h, hj, List.getD]
theorem szA_cnt {ls : List Nat} (h : ls.length = 80) (c : Nat) : (szA ls c)[80]? = some (.int .i64 (c : Int)) := by
  simp [szA, List.getElem?_append, h]
theorem szA_set {ls : List Nat} (h : ls.length = 80) (c : Nat) {j : Nat} (hj : j < 80) (y : Nat) : (szA ls c).setIfInBounds j (.int .i64 (y : Int)) = szA (ls.set j y) c := by
  simp only [szA, List.setIfInBounds_toArray]
  rw [List.set_append_left _ _ (by simp [h, hj])]
  congr 1
  simp [List.map_set]
theorem szA_setc {ls : List Nat} (h : ls.length = 80) (c k : Nat) : (szA ls c).setIfInBounds 80 (.int .i64 (k : Int)) = szA ls k := by
  simp only [szA, List.setIfInBounds_toArray]
  rw [List.set_append_right _ _ (by simp [h])]
  simp [h]
theorem szA_one (ls : List Nat) (c : Nat) : (szA ls c).all (·.oneCell') = true := by
  simp [szA, Value.oneCell']
/-- the size of a number -/
def szV (n : Nat) : Array Value := szA (pad n) (cnt n)
theorem szZero : Tryz.zeroCells95 = szA (ext []) 0 := by kernel_rfl
theorem infoSz : (Tryz.prog.info? 95).map (·.size) = some 81 := by kernel_rfl
/-- a size lies at block g -/
structure Sz (w : World) (g : Nat) (ls : List Nat) (c : Nat) : Prop where
  blk : w.heap[g]? = some (.cells (szA ls c) 95 (0, 0))
  len : ls.length = 80
theorem Sz.lt {w : World} {g : Nat} {ls : List Nat} {c : Nat} (h : Sz w g ls c) : g < w.heap.size := (Array.getElem?_eq_some_iff.1 h.blk).1
theorem Sz.at {w : World} {g : Nat} {ls : List Nat} {c : Nat} (h : Sz w g ls c) {j : Nat} (hj : j < 80) : w.cell? ⟨g, j, none⟩ = some (.int .i64 ((ls.getD j 0 : Nat) : Int)) := by
  rw [cell_of_row _ _ _ _ _ _ h.blk, szA_at h.len c hj]
theorem Sz.cnt {w : World} {g : Nat} {ls : List Nat} {c : Nat} (h : Sz w g ls c) : w.cell? ⟨g, 80, none⟩ = some (.int .i64 (c : Int)) := by
  rw [cell_of_row _ _ _ _ _ _ h.blk, szA_cnt h.len c]
theorem Sz.fro {w : World} {g : Nat} {ls : List Nat} {c : Nat} (h : Sz w g ls c) (j : Nat) : w.frozen? ⟨g, j, none⟩ = false := frozen_of_row _ _ _ _ _ h.blk
theorem Sz.old {w w' : World} {g : Nat} {ls : List Nat} {c : Nat} (h : Sz w g ls c) (o : Old w w') : Sz w' g ls c := ⟨by rw [o.block g h.lt]; exact h.blk, h.len⟩
theorem Sz.set {w : World} {g : Nat} {ls : List Nat} {c : Nat} (h : Sz w g ls c) {j : Nat} (hj : j < 80) (y : Nat) : Sz (w.setCell ⟨g, j, none⟩ (.int .i64 (y : Int))) g (ls.set j y) c :=
  ⟨by rw [heap_setCell_same w g j _ _ _ h.blk, szA_set h.len c hj y], by rw [List.length_set, h.len]⟩
theorem Sz.setc {w : World} {g : Nat} {ls : List Nat} {c : Nat} (h : Sz w g ls c) (k : Nat) : Sz (w.setCell ⟨g, 80, none⟩ (.int .i64 (k : Int))) g ls k :=
  ⟨by rw [heap_setCell_same w g 80 _ _ _ h.blk, szA_setc h.len c k], h.len⟩
theorem Sz.other {w : World} {g : Nat} {ls : List Nat} {c : Nat} (h : Sz w g ls c) (p : Addr) (hp : g ≠ p.block) (v : Value) : Sz (w.setCell p v) g ls c :=
  ⟨by rw [heap_setCell_other w p g v hp]; exact h.blk, h.len⟩
theorem Sz.row {w : World} {g : Nat} {ls : List Nat} {c : Nat} (h : Sz w g ls c) (ls' : List Nat) (c' : Nat) (hl : ls'.length = 80) : Sz (w.setRow g (szA ls' c')) g ls' c' :=
  ⟨setRow_heap w g _ _ _ _ h.blk, hl⟩
theorem Sz.otherRow {w : World} {g : Nat} {ls : List Nat} {c : Nat} (h : Sz w g ls c) {g' : Nat} (hg : g ≠ g') (cs : Array Value) : Sz (w.setRow g' cs) g ls c :=
  ⟨by rw [setRow_other w g' g cs hg]; exact h.blk, h.len⟩
theorem Sz.drew {w : World} {g : Nat} {ls : List Nat} {c : Nat} (h : Sz w g ls c) (n : Nat) : Sz (w.drewN n) g ls c := ⟨h.blk, h.len⟩
theorem Sz.alloc {w : World} {g : Nat} {ls : List Nat} {c : Nat} (h : Sz w g ls c) (o : Obj) : Sz (w.alloc o) g ls c := ⟨by rw [show (w.alloc o).heap[g]? = w.heap[g]? from heap_alloc_old w o h.lt]; exact h.blk, h.len⟩
theorem Sz.new (w : World) (ls : List Nat) (c : Nat) (hl : ls.length = 80) : Sz (w.alloc (.cells (szA ls c) 95)) w.heap.size ls c := ⟨heap_alloc_new w _, hl⟩
theorem Sz.new' (w : World) (ls : List Nat) (c g : Nat) (hl : ls.length = 80) (hg : g = w.heap.size) : Sz (w.alloc (.cells (szA ls c) 95)) g ls c := by subst hg; exact Sz.new w ls c hl
theorem Sz.zero (w : World) (g : Nat) (hg : g = w.heap.size) : Sz (w.alloc (.cells Tryz.zeroCells95 95)) g (ext []) 0 := by
  rw [szZero]; exact Sz.new' w _ _ g (ext_len (by simp)) hg
theorem Old.row {a b : World} (h : Old a b) {g : Nat} (hg : a.heap.size ≤ g) (cs : Array Value) : Old a (b.setRow g cs) :=
  ⟨h.os, h.tape, h.output, by rw [setRow_size]; exact h.size, fun k hk => by rw [setRow_other b g k cs (by omega)]; exact h.block k hk⟩
section
variable {ops : Array Oper} {rest : List Oper} {a : Act} {w : World} {Q : Exit → Act → World → Prop} {ty : TypeId} {pos : String} {d : Option Tmp} {x y : Operand}
/-- a whole size is loaded -/
theorem load_sz {af : Array Edge} {g : Nat} {ls : List Nat} {c : Nat} (hs : Sz w g ls c) (hx : a.eval x = .pointer (some ⟨g, 0, none⟩))
    (h : wpList Tryz.prog ops Q rest (a.put d (.agg (szA ls c))) w) : wpList Tryz.prog ops Q (⟨d, .load 95 x, ty, pos, af, none⟩ :: rest) a w :=
  wpList_load_row rfl 95 x rfl g hx 95 (szA ls c) (0, 0) _ hs.blk Tryz.underlying95 rfl (by rw [szA_size hs.len]; exact infoSz) h
/-- a whole size is stored -/
theorem store_sz {af : Array Edge} {g : Nat} {ls : List Nat} {c : Nat} (hs : Sz w g ls c) (ls' : List Nat) (c' : Nat) (hl : ls'.length = 80) (hx : a.eval x = .pointer (some ⟨g, 0, none⟩)) (hy : a.eval y = .agg (szA ls' c'))
    (h : wpList Tryz.prog ops Q rest (a.put d undef) (w.setRow g (szA ls' c'))) : wpList Tryz.prog ops Q (⟨d, .store 95 x y, ty, pos, af, none⟩ :: rest) a w := by
  refine wpList_store_row rfl 95 x y rfl g (szA ls' c') hx hy 95 (szA ls c) hs.blk (by rw [szA_size hl]; exact infoSz) (by rw [szA_size hs.len, szA_size hl]) (szA_one _ _) h
end
/-- a size that is answered -/
theorem ret_sz {fn : Func} {p : Tmp} (h : fn.results = #[.cell p 95]) (tmps : Array Value) (w : World) {g : Nat} {ls : List Nat} {c : Nat} (hp : tmps.getD p undef = .pointer (some ⟨g, 0, none⟩)) (hs : Sz w g ls c) :
    (results fn tmps).run Tryz.prog w = .ok (.agg (szA ls c)) w :=
  results_cell_row h tmps w g 95 (szA ls c) (0, 0) _ hp hs.blk Tryz.underlying95 rfl (by rw [szA_size hs.len]; exact infoSz)
/-- a size and a word that are answered -/
theorem ret_szi {fn : Func} {p u : Tmp} (h : fn.results = #[.cell p 95, .tmp u]) (tmps : Array Value) (w : World) {g : Nat} {ls : List Nat} {c : Nat} {y : Value} (hp : tmps.getD p undef = .pointer (some ⟨g, 0, none⟩)) (hu : tmps.getD u undef = y) (hs : Sz w g ls c) :
    (results fn tmps).run Tryz.prog w = .ok (.tuple #[.agg (szA ls c), y]) w := by
  have hld := run_loadVar_row (P := Tryz.prog) w g 95 95 (szA ls c) (0, 0) _ hs.blk Tryz.underlying95 rfl (by rw [szA_size hs.len]; exact infoSz)
  rw [results_cell_tmp h, hp, hu]
  simp [asAddr, Result.andThen, hld]
/-- two sizes that are answered -/
theorem ret_sz2 {fn : Func} {p u : Tmp} (h : fn.results = #[.cell p 95, .cell u 95]) (tmps : Array Value) (w : World) {g g' : Nat} {ls ls' : List Nat} {c c' : Nat} (hp : tmps.getD p undef = .pointer (some ⟨g, 0, none⟩)) (hu : tmps.getD u undef = .pointer (some ⟨g', 0, none⟩)) (hs : Sz w g ls c) (hs' : Sz w g' ls' c') :
    (results fn tmps).run Tryz.prog w = .ok (.tuple #[.agg (szA ls c), .agg (szA ls' c')]) w := by
  have hld := run_loadVar_row (P := Tryz.prog) w g 95 95 (szA ls c) (0, 0) _ hs.blk Tryz.underlying95 rfl (by rw [szA_size hs.len]; exact infoSz)
  have hld' := run_loadVar_row (P := Tryz.prog) w g' 95 95 (szA ls' c') (0, 0) _ hs'.blk Tryz.underlying95 rfl (by rw [szA_size hs'.len]; exact infoSz)
  have hp' : tmps[p]?.getD undef = .pointer (some ⟨g, 0, none⟩) := by simpa using hp
  have hu' : tmps[u]?.getD undef = .pointer (some ⟨g', 0, none⟩) := by simpa using hu
  simp [results, h, hp', hu', asAddr, Sem.run_bind, Result.andThen, hld, hld']
end Go.Proofs.YtfgooclnohnkmaaGreatDoor
/- Proved: the contract of the program's trimmed. -/
namespace Go.Proofs.YtfgooclnohnkmaaGreatDoor
open Go.ChangeShapes Go.WideShapes Go.ChangeAt Go.RowKit
open M2
set_option linter.unusedVariables false
set_option linter.unusedSimpArgs false
set_option maxHeartbeats 1000000 in
theorem trimmed_any (ls : List Nat) (c most : Nat) (w : World) (hl : ls.length = 80) (hlim : Lim ls) (hm : most ≤ 80) (hv : val (ls.take most) = val ls) :
    Calls Tryz.prog 173 #[.agg (szA ls c), .int .i64 (most : Int)] w fun e w' => e = .returned (.agg (szA ls (cnt (val ls)))) ∧ Old w w' := by
  have HV : Hid (val (ls.take most) = val ls) := hv
  have HL : Hid (ls.length = 80) := hl
  have c80 := szA_cnt hl c
  clear hv hl
  go_enter Tryz.func173, Tryz.ntmps173
  go_wp2_with fail
  clear c80
  rw [szA_setc HL.out]
  go_loopw [] (fun W => ∃ k : Nat, k ≤ 80 ∧ Hid (Sz W w.heap.size ls k) ∧ Hid (Sz W (w.heap.size + 1) (ext []) 0) ∧ Hid (val (ls.take k) = val ls) ∧ Hid (Old w W)) (fun W => match W.cell? ⟨w.heap.size, 80, none⟩ with | some v => (intOf v).toNat | _ => 0)
  case atStart => exact ⟨most, hm, (Sz.new w ls most HL.out).alloc _, Sz.zero _ _ (by simp), HV, ((Old.refl w).alloc _).alloc _⟩
  case round =>
    obtain ⟨k, hk, HS, HZ, HV, HG⟩ := hrel
    have c80 := HS.out.cnt
    have f80 := HS.out.fro 80
    rcases Nat.eq_zero_or_pos k with hk0 | hk0
    · subst hk0
      have e : cnt (val ls) = 0 := cnt_at hlim 0 (by omega) HV.out (Or.inl rfl)
      have HE : Hid (cnt (val ls) = 0) := e
      clear e
      go_wp2_with (first | ((with_reducible refine load_sz HS.out ?_ ?_); exact rfl; simp only [Act.put, List.setIfInBounds_toArray, List.set_cons_succ, List.set_cons_zero]) | ((with_reducible refine store_sz HZ.out ls 0 HL.out ?_ ?_ ?_); exact rfl; exact rfl; simp only [Act.put]) | ((with_reducible refine bodyPost_ret (ret_sz Tryz.results173 _ _ ?_ (HZ.out.row ls 0 HL.out)) ?_ ?_); exact rfl; exact rfl; exact ⟨by rw [HE.out], HG.out.row (by omega) _⟩))
    · obtain ⟨m, rfl⟩ : ∃ m, k = m + 1 := ⟨k - 1, by omega⟩
      have c1 := HS.out.at (j := m) (by omega)
      by_cases hx : ls.getD m 0 = 0
      · have HV2 : Hid (val (ls.take m) = val ls) := take_zero_step m HV.out hx
        rw [hx] at c1
        clear HV hx
        go_wp2_with fail
        refine ⟨⟨m, by omega, HS.out.setc m, HZ.out.other _ (by simp) _, HV2, HG.out.own (by simp) _⟩, ?_⟩
        rw [(HS.out.setc m).cnt, c80]
        simp [intOf]
      · have e : cnt (val ls) = m + 1 := cnt_at hlim (m + 1) (by rw [HL.out]; exact hk) HV.out (Or.inr hx)
        have HE : Hid (cnt (val ls) = m + 1) := e
        clear e
        have d1 := beq0 _ hx
        generalize ls.getD m 0 = x at *
        go_wp2_with (first | ((with_reducible refine load_sz HS.out ?_ ?_); exact rfl; simp only [Act.put, List.setIfInBounds_toArray, List.set_cons_succ, List.set_cons_zero]) | ((with_reducible refine store_sz HZ.out ls (m + 1) HL.out ?_ ?_ ?_); exact rfl; exact rfl; simp only [Act.put]) | ((with_reducible refine bodyPost_ret (ret_sz Tryz.results173 _ _ ?_ (HZ.out.row ls (m + 1) HL.out)) ?_ ?_); exact rfl; exact rfl; exact ⟨by rw [HE.out], HG.out.row (by omega) _⟩))
end Go.Proofs.YtfgooclnohnkmaaGreatDoor
/- Proved: the contract of the program's addSizes. -/
namespace Go.Proofs.YtfgooclnohnkmaaGreatDoor
open Go.ChangeShapes Go.WideShapes Go.ChangeAt Go.RowKit
open M2
set_option linter.unusedVariables false
set_option linter.unusedSimpArgs false

/-- trimmed, of the eighty limbs of a number -/
theorem trimmed_pad (n c most : Nat) (w : World) (hn : cnt n ≤ most) (hm : most ≤ 80) :
    Calls Tryz.prog 173 #[.agg (szA (pad n) c), .int .i64 (most : Int)] w fun e w' => e = .returned (.agg (szV n)) ∧ Old w w' := by
  have := trimmed_any (pad n) c most w (pad_len (by unfold cnt at hn; omega)) (pad_lim n) hm (by rw [pad_val]; unfold pad; rw [ext_take most hn hm, val_dig])
  rw [pad_val] at this
  exact this
theorem pad_len' {n k : Nat} (h : cnt n ≤ k) (hk : k ≤ 80) : (pad n).length = 80 := pad_len (by unfold cnt at h; omega)
theorem take_cnt (n k : Nat) (h : cnt n ≤ k) : (dig n).take k = dig n := List.take_of_length_le h
theorem add_done {a b k : Nat} {out : List Nat} {c : Nat} (h : AddI (dig a) (dig b) k out c) (ha : cnt a ≤ k) (hb : cnt b ≤ k) (hk : k ≤ 79) : ext (out ++ [c]) = pad (a + b) ∧ cnt (a + b) ≤ k + 1 := by
  have e := h.eq
  rw [take_cnt a k ha, take_cnt b k hb, val_dig, val_dig] at e
  have hl : Lim (out ++ [c]) := h.lim.append (Lim.cons (by have := h.c1; have : LB = 268435456 := rfl; omega) Lim.nil)
  have hv : val (out ++ [c]) = a + b := by rw [val_snoc, h.len, e]
  have hlen : (out ++ [c]).length = k + 1 := by simp [h.len]
  refine ⟨?_, ?_⟩
  · rw [pad_of (ext_lim hl) (ext_len (by rw [hlen]; omega)), ext_val, hv]
  · have := val_lt hl
    rw [hv, hlen] at this
    exact cnt_le this
set_option maxHeartbeats 2000000 in
theorem add_sz (a b : Nat) (w : World) (ha : cnt a ≤ 79) (hb : cnt b ≤ 79) :
    Calls Tryz.prog 145 #[.agg (szV a), .agg (szV b)] w fun e w' => e = .returned (.agg (szV (a + b))) ∧ Old w w' := by
  have HLA := pad_len' ha (by omega)
  have HLB := pad_len' hb (by omega)
  have a80 := szA_cnt HLA (cnt a)
  have b80 := szA_cnt HLB (cnt b)
  have HPA : Hid ((pad a).length = 80) := HLA
  have HPB : Hid ((pad b).length = 80) := HLB
  clear HLA HLB
  unfold szV
  go_enter Tryz.func145, Tryz.ntmps145
  go_wp2_with fail
  · clear a80 b80
    have hA : cnt a ≤ cnt b := by omega
    have hB : cnt b ≤ cnt b := Nat.le_refl _
    have hM : cnt b ≤ 79 := by omega
    go_loopw [7, 15] (fun cy i W => ∃ (k : Nat) (out : List Nat) (c : Nat), k ≤ cnt b ∧ i = .int .i64 (k : Int) ∧ cy = .int .i64 (c : Int) ∧ c ≤ 1 ∧ Hid (AddI (dig a) (dig b) k out c) ∧ Hid (Sz W w.heap.size (pad a) (cnt a)) ∧ Hid (Sz W (w.heap.size + 1) (pad b) (cnt b)) ∧ Hid (Sz W (w.heap.size + 1 + 1) (ext []) 0) ∧ Hid (Sz W (w.heap.size + 1 + 1 + 1) (ext out) 0) ∧ Hid (Old w W)) (fun _ i _ => cnt b - (intOf i).toNat)
    case atStart => exact ⟨0, [], 0, by omega, rfl, rfl, by omega, AddI.start _ _, (((Sz.new w _ _ HPA.out).alloc _).alloc _).alloc _, (((Sz.new' _ _ _ _ HPB.out (by simp)).alloc _).alloc _), ((Sz.zero _ _ (by simp)).alloc _), Sz.zero _ _ (by simp), ((((Old.refl w).alloc _).alloc _).alloc _).alloc _⟩
    case round =>
      obtain ⟨k, out, c, hk, rfl, rfl, hc, HI, HSA, HSB, HR, HO, HG⟩ := hrel
      by_cases hlt : k < cnt b
      · have i1 : (k : Int) < 80 := by omega
        have c1 := HSA.out.at (j := k) (by omega)
        have c2 := HSB.out.at (j := k) (by omega)
        have f1 := HO.out.fro k
        have c3 := HO.out.at (j := k) (by omega)
        rw [pad_getD] at c1 c2
        have l1 := (dig_lim a).getD k
        have l2 := (dig_lim b).getD k
        have HN := HI.out.step (dig_lim a) (dig_lim b)
        have HL : Hid (out.length = k) := HI.out.len
        have HN' : Hid (AddI (dig a) (dig b) (k + 1) (out ++ [(c + (dig a).getD k 0 + (dig b).getD k 0) % LB]) ((c + (dig a).getD k 0 + (dig b).getD k 0) / LB)) := HN
        have hc1 : (c + (dig a).getD k 0 + (dig b).getD k 0) / LB ≤ 1 := HN.c1
        clear HN
        generalize (dig a).getD k 0 = x at *
        generalize (dig b).getD k 0 = y at *
        generalize (ext out).getD k 0 = z at *
        have hx : x < 268435456 := l1
        have hy : y < 268435456 := l2
        clear l1 l2
        go_wp2_with fail
        go_quiet (fail)
        have e1 : ((c : Int) + ((x : Int) + (y : Int))) % 268435456 = (((c + x + y) % LB : Nat) : Int) := by unfold LB; omega
        have e2 : ((c : Int) + ((x : Int) + (y : Int))) / 268435456 = (((c + x + y) / LB : Nat) : Int) := by unfold LB; omega
        generalize (c + x + y) % LB = u at *
        generalize (c + x + y) / LB = c' at *
        go_wp2_with fail
        refine ⟨⟨k + 1, out ++ [u], c', by omega, by go_num, by first | rfl | rw [e2], hc1, HN', (HSA.out.drew _).other _ (by first | (simp; done) | (simp; omega)) _, (HSB.out.drew _).other _ (by first | (simp; done) | (simp; omega)) _, (HR.out.drew _).other _ (by simp) _, ?_, (HG.out.drewN _).own (by simp; omega) _⟩, by simp [intOf]; omega⟩
        have := (HO.out.drew nq).set (j := k) (by omega) u
        rw [← HL.out, ext_set (by rw [HL.out]; omega)] at this
        rw [← HL.out]
        exact this
      · obtain rfl : k = cnt b := by omega
        have i1 : ((cnt b : Nat) : Int) < 80 := by omega
        have f1 := HO.out.fro (cnt b)
        have c3 := HO.out.at (j := cnt b) (by omega)
        obtain ⟨HE1, HE2⟩ := add_done HI.out hA hB hM
        have HE : Hid (cnt (a + b) ≤ cnt b + 1) := HE2
        have HPS : Hid ((pad (a + b)).length = 80) := pad_len' HE2 (by omega)
        have HD : Hid (Sz (wr.setCell ⟨w.heap.size + 1 + 1 + 1, cnt b, none⟩ (.int .i64 (c : Int))) (w.heap.size + 1 + 1 + 1) (pad (a + b)) 0) := by
          have := HO.out.set (j := cnt b) (by omega) c
          rw [show (ext out).set (cnt b) c = pad (a + b) by rw [← HE1, ← ext_set (by rw [HI.out.len]; omega), HI.out.len]] at this
          exact this
        have HR0 := HR
        clear HR
        have HR : Hid (Sz (wr.setCell ⟨w.heap.size + 1 + 1 + 1, cnt b, none⟩ (.int .i64 (c : Int))) (w.heap.size + 1 + 1) (ext []) 0) := HR0.out.other _ (by simp) _
        have HG0 := HG
        clear HG
        have HG : Hid (Old w (wr.setCell ⟨w.heap.size + 1 + 1 + 1, cnt b, none⟩ (.int .i64 (c : Int)))) := HG0.out.own (by simp; omega) _
        clear HE1 HE2 HR0 HG0 HI HO HSA HSB
        generalize (ext out).getD (cnt b) 0 = z at *
        go_wp2_with (first | ((with_reducible refine load_sz HD.out ?_ ?_); exact rfl; simp only [Act.put, List.setIfInBounds_toArray, List.set_cons_succ, List.set_cons_zero]) | (go_at_call 173; refine (trimmed_pad (a + b) 0 (cnt b + 1) _ HE.out (by omega)).mono ?_; rintro e w5 ⟨rfl, g5⟩; have HR5 : Hid (Sz w5 (w.heap.size + 1 + 1) (ext []) 0) := HR.out.old g5; have HG5 : Hid (Old w w5) := Old.trans HG.out g5) | ((with_reducible refine store_sz HR5.out (pad (a + b)) (cnt (a + b)) HPS.out ?_ ?_ ?_); exact rfl; exact rfl; simp only [Act.put]) | ((with_reducible refine bodyPost_ret (ret_sz Tryz.results145 _ _ ?_ (HR5.out.row (pad (a + b)) (cnt (a + b)) HPS.out)) ?_ ?_); exact rfl; exact rfl; exact ⟨rfl, HG5.out.row (by omega) _⟩))

  · clear a80 b80
    have hA : cnt a ≤ cnt a := Nat.le_refl _
    have hB : cnt b ≤ cnt a := by omega
    have hM : cnt a ≤ 79 := by omega
    go_loopw [7, 15] (fun cy i W => ∃ (k : Nat) (out : List Nat) (c : Nat), k ≤ cnt a ∧ i = .int .i64 (k : Int) ∧ cy = .int .i64 (c : Int) ∧ c ≤ 1 ∧ Hid (AddI (dig a) (dig b) k out c) ∧ Hid (Sz W w.heap.size (pad a) (cnt a)) ∧ Hid (Sz W (w.heap.size + 1) (pad b) (cnt b)) ∧ Hid (Sz W (w.heap.size + 1 + 1) (ext []) 0) ∧ Hid (Sz W (w.heap.size + 1 + 1 + 1) (ext out) 0) ∧ Hid (Old w W)) (fun _ i _ => cnt a - (intOf i).toNat)
    case atStart => exact ⟨0, [], 0, by omega, rfl, rfl, by omega, AddI.start _ _, (((Sz.new w _ _ HPA.out).alloc _).alloc _).alloc _, (((Sz.new' _ _ _ _ HPB.out (by simp)).alloc _).alloc _), ((Sz.zero _ _ (by simp)).alloc _), Sz.zero _ _ (by simp), ((((Old.refl w).alloc _).alloc _).alloc _).alloc _⟩
    case round =>
      obtain ⟨k, out, c, hk, rfl, rfl, hc, HI, HSA, HSB, HR, HO, HG⟩ := hrel
      by_cases hlt : k < cnt a
      · have i1 : (k : Int) < 80 := by omega
        have c1 := HSA.out.at (j := k) (by omega)
        have c2 := HSB.out.at (j := k) (by omega)
        have f1 := HO.out.fro k
        have c3 := HO.out.at (j := k) (by omega)
        rw [pad_getD] at c1 c2
        have l1 := (dig_lim a).getD k
        have l2 := (dig_lim b).getD k
        have HN := HI.out.step (dig_lim a) (dig_lim b)
        have HL : Hid (out.length = k) := HI.out.len
        have HN' : Hid (AddI (dig a) (dig b) (k + 1) (out ++ [(c + (dig a).getD k 0 + (dig b).getD k 0) % LB]) ((c + (dig a).getD k 0 + (dig b).getD k 0) / LB)) := HN
        have hc1 : (c + (dig a).getD k 0 + (dig b).getD k 0) / LB ≤ 1 := HN.c1
        clear HN
        generalize (dig a).getD k 0 = x at *
        generalize (dig b).getD k 0 = y at *
        generalize (ext out).getD k 0 = z at *
        have hx : x < 268435456 := l1
        have hy : y < 268435456 := l2
        clear l1 l2
        go_wp2_with fail
        go_quiet (fail)
        have e1 : ((c : Int) + ((x : Int) + (y : Int))) % 268435456 = (((c + x + y) % LB : Nat) : Int) := by unfold LB; omega
        have e2 : ((c : Int) + ((x : Int) + (y : Int))) / 268435456 = (((c + x + y) / LB : Nat) : Int) := by unfold LB; omega
        generalize (c + x + y) % LB = u at *
        generalize (c + x + y) / LB = c' at *
        go_wp2_with fail
        refine ⟨⟨k + 1, out ++ [u], c', by omega, by go_num, by first | rfl | rw [e2], hc1, HN', (HSA.out.drew _).other _ (by first | (simp; done) | (simp; omega)) _, (HSB.out.drew _).other _ (by first | (simp; done) | (simp; omega)) _, (HR.out.drew _).other _ (by simp) _, ?_, (HG.out.drewN _).own (by simp; omega) _⟩, by simp [intOf]; omega⟩
        have := (HO.out.drew nq).set (j := k) (by omega) u
        rw [← HL.out, ext_set (by rw [HL.out]; omega)] at this
        rw [← HL.out]
        exact this
      · obtain rfl : k = cnt a := by omega
        have i1 : ((cnt a : Nat) : Int) < 80 := by omega
        have f1 := HO.out.fro (cnt a)
        have c3 := HO.out.at (j := cnt a) (by omega)
        obtain ⟨HE1, HE2⟩ := add_done HI.out hA hB hM
        have HE : Hid (cnt (a + b) ≤ cnt a + 1) := HE2
        have HPS : Hid ((pad (a + b)).length = 80) := pad_len' HE2 (by omega)
        have HD : Hid (Sz (wr.setCell ⟨w.heap.size + 1 + 1 + 1, cnt a, none⟩ (.int .i64 (c : Int))) (w.heap.size + 1 + 1 + 1) (pad (a + b)) 0) := by
          have := HO.out.set (j := cnt a) (by omega) c
          rw [show (ext out).set (cnt a) c = pad (a + b) by rw [← HE1, ← ext_set (by rw [HI.out.len]; omega), HI.out.len]] at this
          exact this
        have HR0 := HR
        clear HR
        have HR : Hid (Sz (wr.setCell ⟨w.heap.size + 1 + 1 + 1, cnt a, none⟩ (.int .i64 (c : Int))) (w.heap.size + 1 + 1) (ext []) 0) := HR0.out.other _ (by simp) _
        have HG0 := HG
        clear HG
        have HG : Hid (Old w (wr.setCell ⟨w.heap.size + 1 + 1 + 1, cnt a, none⟩ (.int .i64 (c : Int)))) := HG0.out.own (by simp; omega) _
        clear HE1 HE2 HR0 HG0 HI HO HSA HSB
        generalize (ext out).getD (cnt a) 0 = z at *
        go_wp2_with (first | ((with_reducible refine load_sz HD.out ?_ ?_); exact rfl; simp only [Act.put, List.setIfInBounds_toArray, List.set_cons_succ, List.set_cons_zero]) | (go_at_call 173; refine (trimmed_pad (a + b) 0 (cnt a + 1) _ HE.out (by omega)).mono ?_; rintro e w5 ⟨rfl, g5⟩; have HR5 : Hid (Sz w5 (w.heap.size + 1 + 1) (ext []) 0) := HR.out.old g5; have HG5 : Hid (Old w w5) := Old.trans HG.out g5) | ((with_reducible refine store_sz HR5.out (pad (a + b)) (cnt (a + b)) HPS.out ?_ ?_ ?_); exact rfl; exact rfl; simp only [Act.put]) | ((with_reducible refine bodyPost_ret (ret_sz Tryz.results145 _ _ ?_ (HR5.out.row (pad (a + b)) (cnt (a + b)) HPS.out)) ?_ ?_); exact rfl; exact rfl; exact ⟨rfl, HG5.out.row (by omega) _⟩))
end Go.Proofs.YtfgooclnohnkmaaGreatDoor
/- Proved: the contract of the program's scaledSize. -/
namespace Go.Proofs.YtfgooclnohnkmaaGreatDoor
open Go.ChangeShapes Go.WideShapes Go.ChangeAt Go.RowKit
open M2
set_option linter.unusedVariables false
set_option linter.unusedSimpArgs false

/-- scaling, k limbs far: what is done lies ahead, what is not behind -/
structure ScI (a f m k : Nat) (cur : List Nat) (c : Nat) : Prop where
  lim : Lim cur
  len : cur.length = 80
  eq : val cur + LB ^ k * c + val ((dig a).take k) = val ((dig a).take k) * f + m + a
  up : ∀ j, k ≤ j → cur.getD j 0 = (dig a).getD j 0
  c1 : c ≤ LB
theorem ScI.start (a f m : Nat) (hm : m ≤ LB) (ha : cnt a ≤ 80) : ScI a f m 0 (pad a) m :=
  ⟨pad_lim a, pad_len ha, by rw [pad_val]; simp [val]; omega, fun j _ => pad_getD a j, hm⟩
theorem ScI.step {a f m k : Nat} {cur : List Nat} {c : Nat} (h : ScI a f m k cur c) (hf : f ≤ LB) (hk : k < 80) :
    ScI a f m (k + 1) (cur.set k ((c + (dig a).getD k 0 * f) % LB)) ((c + (dig a).getD k 0 * f) / LB) := by
  have hl := (dig_lim a).getD k
  have h1 := h.c1
  have hlen := h.len
  refine ⟨h.lim.set _ _ (Nat.mod_lt _ LB_pos), by rw [List.length_set, hlen], ?_, ?_, ?_⟩
  · have e := h.eq
    have hs := val_set cur k ((c + (dig a).getD k 0 * f) % LB) (by omega)
    rw [h.up k (Nat.le_refl _)] at hs
    rw [val_take_succ]
    have h2 := split_pow k (c + (dig a).getD k 0 * f)
    rw [Nat.mul_add (LB ^ k) c] at h2
    rw [Nat.add_mul (val ((dig a).take k)) (LB ^ k * (dig a).getD k 0) f, Nat.mul_assoc]
    omega
  · intro j hj
    rw [← h.up j (by omega)]
    simp [List.getD, show ¬ k = j by omega]
  · have h3 : (dig a).getD k 0 * f ≤ (LB - 1) * LB := Nat.mul_le_mul (by omega) hf
    have h4 : c + (dig a).getD k 0 * f ≤ LB * LB := by
      have : (LB - 1) * LB + LB = LB * LB := by decide
      omega
    exact Nat.div_le_of_le_mul h4
theorem ScI.done {a f m : Nat} {cur : List Nat} {c : Nat} (h : ScI a f m (cnt a) cur c) (ha : cnt a ≤ 79) (hc : c < LB) : cur.set (cnt a) c = pad (a * f + m) ∧ cnt (a * f + m) ≤ cnt a + 1 := by
  have e := h.eq
  rw [take_cnt a _ (Nat.le_refl _), val_dig] at e
  have hs := val_set cur (cnt a) c (by rw [h.len]; omega)
  have hz : cur.getD (cnt a) 0 = 0 := by
    rw [h.up _ (Nat.le_refl _)]
    unfold cnt
    simp [List.getD]
  rw [hz, Nat.mul_zero, Nat.add_zero] at hs
  have hv : val (cur.set (cnt a) c) = a * f + m := by omega
  have hlim := h.lim.set (cnt a) c hc
  refine ⟨by rw [← hv]; exact pad_of hlim (by rw [List.length_set, h.len]), ?_⟩
  rw [← hv]
  have hz2 : ∀ j, cnt a + 1 ≤ j → (cur.set (cnt a) c).getD j 0 = 0 := fun j hj => by
    have h1 : (cur.set (cnt a) c).getD j 0 = cur.getD j 0 := by simp [List.getD, show ¬ cnt a = j by omega]
    rw [h1, h.up j (by omega)]
    simp [List.getD, show (dig a).length ≤ j by unfold cnt at hj; omega]
  have ht := val_top (cnt a + 1) (cur.set (cnt a) c) hz2
  rw [← ht]
  have := val_lt (hlim.take (cnt a + 1))
  rw [List.length_take, List.length_set, h.len, Nat.min_eq_left (by omega)] at this
  exact cnt_le this
theorem ScI.last {a f m : Nat} {cur : List Nat} {c : Nat} (h : ScI a f m (cnt a) cur c) (hf : f ≤ LB) (hm : m < LB) : c < LB := by
  have e := h.eq
  rw [take_cnt a _ (Nat.le_refl _), val_dig] at e
  apply Classical.byContradiction
  intro hn
  have h1 := cnt_lt a
  have h2 : LB ^ cnt a * LB ≤ LB ^ cnt a * c := Nat.mul_le_mul_left _ (by omega)
  have h3 : (a + 1) * LB ≤ LB ^ cnt a * LB := Nat.mul_le_mul_right _ h1
  have h4 : a * f ≤ a * LB := Nat.mul_le_mul_left _ hf
  rw [Nat.add_mul, Nat.one_mul] at h3
  omega
set_option maxHeartbeats 2000000 in
theorem scaled_sz (a f m : Nat) (w : World) (ha : cnt a ≤ 79) (hf : f ≤ 268435456) (hm : m < 268435456) :
    Calls Tryz.prog 133 #[.agg (szV a), .int .i64 (f : Int), .int .i64 (m : Int)] w fun e w' => e = .returned (.agg (szV (a * f + m))) ∧ Old w w' := by
  have HLA := pad_len' ha (by omega)
  have a80 := szA_cnt HLA (cnt a)
  have HPA : Hid ((pad a).length = 80) := HLA
  clear HLA
  unfold szV
  go_enter Tryz.func133, Tryz.ntmps133
  go_wp2_with fail
  clear a80
  go_loopw [7, 12] (fun cy i W => ∃ (k : Nat) (cur : List Nat) (c : Nat), k ≤ cnt a ∧ i = .int .i64 (k : Int) ∧ cy = .int .i64 (c : Int) ∧ c ≤ 268435456 ∧ Hid (ScI a f m k cur c) ∧ Hid (Sz W w.heap.size cur (cnt a)) ∧ Hid (Sz W (w.heap.size + 1) (ext []) 0) ∧ Hid (Old w W)) (fun _ i _ => cnt a - (intOf i).toNat)
  case atStart => exact ⟨0, pad a, m, by omega, rfl, rfl, by omega, ScI.start _ _ _ (by unfold LB; omega) (by omega), (Sz.new w _ _ HPA.out).alloc _, Sz.zero _ _ (by simp), ((Old.refl w).alloc _).alloc _⟩
  case round =>
      obtain ⟨k, cur, c, hk, rfl, rfl, hc, HI, HS, HR, HG⟩ := hrel
      by_cases hlt : k < cnt a
      · have i1 : (k : Int) < 80 := by omega
        have c1 := HS.out.at (j := k) (by omega)
        rw [HI.out.up k (Nat.le_refl _)] at c1
        have f1 := HS.out.fro k
        have l1 := (dig_lim a).getD k
        have HN := HI.out.step hf (by omega)
        have HN' : Hid (ScI a f m (k + 1) (cur.set k ((c + (dig a).getD k 0 * f) % LB)) ((c + (dig a).getD k 0 * f) / LB)) := HN
        have hc1 : (c + (dig a).getD k 0 * f) / LB ≤ 268435456 := HN.c1
        clear HN
        generalize (dig a).getD k 0 = x at *
        have hx : x < 268435456 := l1
        clear l1
        have hp : x * f ≤ 268435455 * 268435456 := Nat.mul_le_mul (by omega) hf
        have b1 : (x : Int) * (f : Int) ≤ 72057593769492480 := by
          have := Int.ofNat_le.2 hp
          rw [Int.natCast_mul] at this
          exact this
        have b0 : 0 ≤ (x : Int) * (f : Int) := Int.mul_nonneg (Int.natCast_nonneg _) (Int.natCast_nonneg _)
        have e0 : (x : Int) * (f : Int) = ((x * f : Nat) : Int) := (Int.natCast_mul _ _).symm
        have E0 : Hid ((x : Int) * (f : Int) = ((x * f : Nat) : Int)) := e0
        clear e0 hp
        have e1 : ((c : Int) + (x : Int) * (f : Int)) % 268435456 = (((c + x * f) % LB : Nat) : Int) := by rw [E0.out]; unfold LB; omega
        have e2 : ((c : Int) + (x : Int) * (f : Int)) / 268435456 = (((c + x * f) / LB : Nat) : Int) := by rw [E0.out]; unfold LB; omega
        generalize (c + x * f) % LB = u at *
        generalize (c + x * f) / LB = c' at *
        go_wp2_with fail
        exact ⟨⟨k + 1, cur.set k u, c', by omega, by go_num, by first | rfl | rw [e2], hc1, HN', HS.out.set (by omega) u, HR.out.other _ (by simp) _, HG.out.own (by simp) _⟩, by simp [intOf]; omega⟩
      · obtain rfl : k = cnt a := by omega
        have i1 : ((cnt a : Nat) : Int) < 80 := by omega
        have f1 := HS.out.fro (cnt a)
        have c1 := HS.out.cnt
        have c3 := HS.out.at (j := cnt a) (by omega)
        have hcl := HI.out.last hf hm
        obtain ⟨HE1, HE2⟩ := HI.out.done ha hcl
        have HE : Hid (cnt (a * f + m) ≤ cnt a + 1) := HE2
        have HPS : Hid ((pad (a * f + m)).length = 80) := pad_len' HE2 (by omega)
        have HD : Hid (Sz (wr.setCell ⟨w.heap.size, cnt a, none⟩ (.int .i64 (c : Int))) w.heap.size (pad (a * f + m)) (cnt a)) := by
          have := HS.out.set (j := cnt a) (by omega) c
          rw [HE1] at this
          exact this
        have c2 := HD.out.cnt
        have HR0 := HR
        clear HR
        have HR : Hid (Sz (wr.setCell ⟨w.heap.size, cnt a, none⟩ (.int .i64 (c : Int))) (w.heap.size + 1) (ext []) 0) := HR0.out.other _ (by simp) _
        have HG0 := HG
        clear HG
        have HG : Hid (Old w (wr.setCell ⟨w.heap.size, cnt a, none⟩ (.int .i64 (c : Int)))) := HG0.out.own (by simp) _
        clear HE1 HE2 HR0 HG0 HI HS
        generalize cur.getD (cnt a) 0 = z at *
        go_wp2_with (first | ((with_reducible refine load_sz HD.out ?_ ?_); exact rfl; simp only [Act.put, List.setIfInBounds_toArray, List.set_cons_succ, List.set_cons_zero]) | (go_at_call 173; refine (trimmed_pad (a * f + m) (cnt a) (cnt a + 1) _ HE.out (by omega)).mono ?_; rintro e w5 ⟨rfl, g5⟩; have HR5 : Hid (Sz w5 (w.heap.size + 1) (ext []) 0) := HR.out.old g5; have HG5 : Hid (Old w w5) := Old.trans HG.out g5) | ((with_reducible refine store_sz HR5.out (pad (a * f + m)) (cnt (a * f + m)) HPS.out ?_ ?_ ?_); exact rfl; exact rfl; simp only [Act.put]) | ((with_reducible refine bodyPost_ret (ret_sz Tryz.results133 _ _ ?_ (HR5.out.row (pad (a * f + m)) (cnt (a * f + m)) HPS.out)) ?_ ?_); exact rfl; exact rfl; exact ⟨rfl, HG5.out.row (by omega) _⟩))
end Go.Proofs.YtfgooclnohnkmaaGreatDoor
/- Proved: the contract of the program's sizeOfWord. -/
namespace Go.Proofs.YtfgooclnohnkmaaGreatDoor
open Go.ChangeShapes Go.WideShapes Go.ChangeAt Go.RowKit
open M2
set_option linter.unusedVariables false
set_option linter.unusedSimpArgs false

theorem cnt_word {n : Nat} (h : n < 18446744073709551616) : cnt n ≤ 3 := cnt_le (Nat.lt_of_lt_of_le h (by decide))
set_option maxHeartbeats 2000000 in
theorem ofWord_sz (n : Nat) (w : World) (hn : n < 18446744073709551616) :
    Calls Tryz.prog 143 #[.int .u64 (n : Int)] w fun e w' => e = .returned (.agg (szV n)) ∧ Old w w' := by
  have hc3 := cnt_word hn
  unfold szV
  go_enter Tryz.func143, Tryz.ntmps143
  go_wp2_with fail
  go_loopw [0] (fun v W => ∃ (m : Nat) (out : List Nat), v = .int .u64 (m : Int) ∧ m < 18446744073709551616 ∧ out.length + cnt m ≤ 3 ∧ Hid (dig n = out ++ dig m) ∧ Hid (Sz W w.heap.size (ext []) 0) ∧ Hid (Sz W (w.heap.size + 1) (ext out) out.length) ∧ Hid (Old w W)) (fun v _ => (intOf v).toNat)
  case atStart => exact ⟨n, [], rfl, hn, by simpa using hc3, rfl, (Sz.zero _ _ (by simp)).alloc _, Sz.zero _ _ (by simp), ((Old.refl w).alloc _).alloc _⟩
  case round =>
      obtain ⟨m, out, rfl, hm, hl, HD0, HR, HS, HG⟩ := hrel
      rcases Nat.eq_zero_or_pos m with hm0 | hm0
      · subst hm0
        have e1 : out = dig n := by
          have := HD0.out
          rw [dig_zero, List.append_nil] at this
          exact this.symm
        have HPS : Hid ((pad n).length = 80) := pad_len' hc3 (by omega)
        have HD : Hid (Sz wr (w.heap.size + 1) (pad n) (cnt n)) := by
          have := HS.out
          rw [e1] at this
          exact this
        clear e1 HD0 HS
        go_wp2_with (first | ((with_reducible refine load_sz HD.out ?_ ?_); exact rfl; simp only [Act.put, List.setIfInBounds_toArray, List.set_cons_succ, List.set_cons_zero]) | ((with_reducible refine store_sz HR.out (pad n) (cnt n) HPS.out ?_ ?_ ?_); exact rfl; exact rfl; simp only [Act.put]) | ((with_reducible refine bodyPost_ret (ret_sz Tryz.results143 _ _ ?_ (HR.out.row (pad n) (cnt n) HPS.out)) ?_ ?_); exact rfl; exact rfl; exact ⟨rfl, HG.out.row (by omega) _⟩))
      · have hd : decide ((0 : Int) < (m : Int)) = true := by simp; omega
        have hcp := cnt_pos (show m ≠ 0 by omega)
        have c1 := HS.out.cnt
        have f1 := HS.out.fro out.length
        have f2 := HS.out.fro 80
        have c2 := HS.out.at (j := out.length) (by omega)
        have i1 : ((out.length : Nat) : Int) < 80 := by omega
        have hcm : cnt m = 1 + cnt (m / LB) := by unfold cnt; rw [dig_pos m (by omega), List.length_cons, Nat.add_comm]
        have HN : Hid (dig n = (out ++ [m % LB]) ++ dig (m / LB)) := dig_snoc HD0.out (by omega)
        have HX : Hid (ext (out ++ [m % LB]) = (ext out).set out.length (m % LB)) := (ext_set (by omega) _).symm
        have e1 : (m : Int) % 268435456 = ((m % LB : Nat) : Int) := by unfold LB; omega
        have e2 : (m : Int) / 268435456 = ((m / LB : Nat) : Int) := by unfold LB; omega
        have hu : m % LB < 268435456 := Nat.mod_lt _ LB_pos
        have hq : m / LB < m := Nat.div_lt_self (by omega) (by decide)
        have hq2 : m / LB < 18446744073709551616 := by omega
        generalize m % LB = u at *
        generalize hq0 : m / LB = q at *
        clear hq0
        have c4 : (wr.setCell ⟨w.heap.size + 1, out.length, none⟩ (.int .i64 (u : Int))).cell? ⟨w.heap.size + 1, 80, none⟩ = some (.int .i64 (out.length : Int)) := (HS.out.set (j := out.length) (by omega) u).cnt
        generalize (ext out).getD out.length 0 = z at *
        go_wp2_with fail
        refine ⟨⟨q, out ++ [u], by first | rfl | rw [e2], hq2, by simp; omega, HN, (HR.out.other _ (by simp) _).other _ (by simp) _, ?_, (HG.out.own (by simp) _).own (by simp) _⟩, by first | (simp [intOf]; done) | (simp [intOf]; omega)⟩
        have := (HS.out.set (j := out.length) (by omega) u).setc (out.length + 1)
        rw [← HX.out] at this
        show Sz _ _ _ _
        simpa using this
end Go.Proofs.YtfgooclnohnkmaaGreatDoor
/- Proved: the contract of the program's sizeOf: the size of a whole number's limbs. -/
namespace Go.Proofs.YtfgooclnohnkmaaGreatDoor
open Go.ChangeShapes Go.WideShapes Go.ChangeAt Go.RowKit
open M2
set_option linter.unusedVariables false
set_option linter.unusedSimpArgs false

theorem infoIntSizeW : (Tryz.prog.info? 3).map (·.size) = some 1 := by kernel_rfl
theorem one_ints (xs : List Nat) : ∀ v ∈ xs.map (fun n : Nat => Value.int .i64 (n : Int)), v.oneCell' = true := by
  intro v hv
  obtain ⟨n, _, rfl⟩ := List.mem_map.1 hv
  rfl
end Go.Proofs.YtfgooclnohnkmaaGreatDoor
