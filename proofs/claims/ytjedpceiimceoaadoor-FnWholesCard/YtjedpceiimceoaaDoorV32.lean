/- Proved: several texts in one: what each proves is said ahead of it. -/
import Derived.Test.YtjedpceiimceoaaDoorV31
import Derived.Test.YtjedpceiimceoaaDoorV15
import Derived.Test.YtjedpceiimceoaaDoorV12
import Derived.Test.YtjedpceiimceoaaDoorLenW
import Derived.Test.YtjedpceiimceoaaDoorV27
import Derived.Test.YtjedpceiimceoaaDoorV09
import Derived.Test.YtjedpceiimceoaaDoorSzLong
import Derived.Test.YtjedpceiimceoaaDoorV28
import Derived.Test.YtjedpceiimceoaaDoorV24
import Derived.Test.YtjedpceiimceoaaDoorV26
import Derived.Test.YtjedpceiimceoaaDoorV13
import Derived.Test.YtjedpceiimceoaaDoorV33
import Derived.Deep.DeepCutAuto
/- Proved: the contract of the program's BitsOf (and of the library's bits.Len below 2 to the 32). -/
namespace Go.Proofs.YtjedpceiimceoaaDoor
open Go.ChangeShapes Go.WideShapes Go.ChangeAt Go.RowKit
open M2
set_option linter.unusedVariables false
set_option linter.unusedSimpArgs false
theorem bits_Len_small (x : Nat) (w : World) (h1 : x < 268435456) :
    Calls Tryd.prog 51 #[.int .u64 (x : Int)] w fun e w' => e = .returned (.int .i64 (Lib.bitLen x)) ∧ w' = w := by
  have c := bits_Len64_small (x : Int) w (by omega) (by omega)
  rw [Int.toNat_natCast] at c
  have HC : Hid (Calls Tryd.prog 68 #[.int .u64 (x : Int)] w fun e w' => e = .returned (.int .i64 (Lib.bitLen x)) ∧ w' = w) := c
  clear c
  go_enter Tryd.func51, Tryd.ntmps51
  go_wp2_with (go_at_call 68; refine HC.out.mono ?_; rintro e w' ⟨rfl, rfl⟩)
  go_ret
  exact ⟨rfl, rfl⟩
end Go.Proofs.YtjedpceiimceoaaDoor
/- Proved: the contract of the program's divideSizes where the divisor has two limbs or more. -/
namespace Go.Proofs.YtjedpceiimceoaaDoor
open Go.ChangeShapes Go.WideShapes Go.ChangeAt Go.RowKit
open M2
set_option linter.unusedVariables false
set_option linter.unusedSimpArgs false
theorem pad_top {b m : Nat} (h : cnt b = m + 2) : (pad b).getD (m + 1) 0 = b / LB ^ (m + 1) ∧ b / LB ^ (m + 1) < 268435456 ∧ b / LB ^ (m + 1) ≠ 0 := by
  have hl := cnt_lt b
  rw [h] at hl
  have h0 : b ≠ 0 := fun e => by rw [e, cnt_zero] at h; omega
  have hg := cnt_ge h0
  rw [h, show m + 2 - 1 = m + 1 by omega] at hg
  have h1 : b / LB ^ (m + 1) < 268435456 := Nat.div_lt_of_lt_mul (show b < LB ^ (m + 1) * LB by rw [← Nat.pow_succ]; exact hl)
  refine ⟨?_, h1, ?_⟩
  · rw [pad_at]
    exact Nat.mod_eq_of_lt h1
  · have := (Nat.le_div_iff_mul_le (pw (m + 1))).2 (show 1 * LB ^ (m + 1) ≤ b by rw [Nat.one_mul]; exact hg)
    omega
theorem wrap_small (s : Nat) (h : s ≤ 134217728) : wrap64 (s : Int) = (s : Int) := by unfold wrap64; omega
set_option maxRecDepth 100000 in
set_option maxHeartbeats 8000000 in
theorem div_long (a b m p0 : Nat) (w : World) (ha : cnt a ≤ 40) (hb2 : cnt b = m + 2) (ha2 : cnt a = p0 + m + 2) (hge : b ≤ a) :
    Calls Tryd.prog 23 #[.agg (szV a), .agg (szV b)] w fun e w' => e = .returned (.tuple #[.agg (szV (a / b)), .agg (szV (a % b))]) ∧ Old w w' := by
  have hb : cnt b ≤ 40 := by omega
  have HPA : Hid ((pad a).length = 80) := pad_len' ha (by omega)
  have HPB : Hid ((pad b).length = 80) := pad_len' hb (by omega)
  have HA0 : Hid (Sz ((((w.alloc (.cells (szA (pad a) (cnt a)) 50)).alloc (.cells (szA (pad b) (cnt b)) 50)).alloc (.cells Tryd.zeroCells50 50)).alloc (.cells Tryd.zeroCells50 50)) w.heap.size (pad a) (cnt a)) := (((Sz.new w _ _ HPA.out).alloc _).alloc _).alloc _
  have HB0 : Hid (Sz ((((w.alloc (.cells (szA (pad a) (cnt a)) 50)).alloc (.cells (szA (pad b) (cnt b)) 50)).alloc (.cells Tryd.zeroCells50 50)).alloc (.cells Tryd.zeroCells50 50)) (w.heap.size + 1) (pad b) (cnt b)) := ((Sz.new' _ _ _ _ HPB.out (by simp)).alloc _).alloc _
  have HX0 : Hid (Sz ((((w.alloc (.cells (szA (pad a) (cnt a)) 50)).alloc (.cells (szA (pad b) (cnt b)) 50)).alloc (.cells Tryd.zeroCells50 50)).alloc (.cells Tryd.zeroCells50 50)) (w.heap.size + 1 + 1) (ext []) 0) := (Sz.zero _ _ (by simp)).alloc _
  have HY0 : Hid (Sz ((((w.alloc (.cells (szA (pad a) (cnt a)) 50)).alloc (.cells (szA (pad b) (cnt b)) 50)).alloc (.cells Tryd.zeroCells50 50)).alloc (.cells Tryd.zeroCells50 50)) (w.heap.size + 1 + 1 + 1) (ext []) 0) := Sz.zero _ _ (by simp)
  have HO0 : Hid (Old w ((((w.alloc (.cells (szA (pad a) (cnt a)) 50)).alloc (.cells (szA (pad b) (cnt b)) 50)).alloc (.cells Tryd.zeroCells50 50)).alloc (.cells Tryd.zeroCells50 50))) := ((((Old.refl w).alloc _).alloc _).alloc _).alloc _
  have cc := fun W => cmp_sz a b W (by omega) (by omega)
  have hz : ¬ cmpN a b < 0 := by unfold cmpN; rw [if_neg (by omega)]; split <;> omega
  obtain ⟨z, hze⟩ : ∃ z, cmpN a b = z := ⟨_, rfl⟩
  rw [hze] at cc hz
  have dz : decide (z < 0) = false := decide_eq_false hz
  obtain ⟨x1, x2, x3⟩ := pad_top hb2
  obtain ⟨L1, V1, s1, s2⟩ := stretch_long (s := stretch (b / LB ^ (m + 1))) hb2 ha2 rfl
  obtain ⟨D1, D2⟩ := stretch_div a b (stretch (b / LB ^ (m + 1))) s1
  obtain ⟨l1, l2⟩ := bitLen_p (b / LB ^ (m + 1)) x2
  have cl0 := fun W => bits_Len_small (b / LB ^ (m + 1)) W x2
  have hst : stretch (b / LB ^ (m + 1)) = 2 ^ (28 - Lib.bitLen (b / LB ^ (m + 1))) := rfl
  have HX1 : Hid ((pad b).getD (m + 1) 0 = b / LB ^ (m + 1)) := x1
  generalize b / LB ^ (m + 1) = x at *
  generalize Lib.bitLen x = l at *
  obtain ⟨k, hk⟩ : ∃ k, 28 - l = k := ⟨_, rfl⟩
  have ek : (28 : Int) - (l : Int) = (k : Int) := by omega
  rw [hk] at hst
  have hkb : k ≤ 28 := by omega
  have HST : Hid (stretch x = 2 ^ k) := hst
  generalize stretch x = s at *
  have i1 : ((m + 2 : Nat) : Int) - 1 = ((m + 1 : Nat) : Int) := by omega
  have i2 : ((m + 1 : Nat) : Int) < 80 := by omega
  have HM : Hid (cnt b = m + 2) := hb2
  have db1 : ((cnt b : Int) == 1) = false := beq_eq_false_iff_ne.2 (by omega)
  have eb : (cnt b : Int) - 1 = ((m + 1 : Nat) : Int) := by omega
  have hm40 : m + 2 ≤ 40 ∧ p0 + m + 2 ≤ 40 := by omega
  have HAE : Hid (cnt a = p0 + m + 2) := ha2
  have HL1 : Hid (Long (a * s) (b * s) p0 m) := L1
  have HV1 : Hid (cnt (b * s) = m + 2) := V1
  have HD1 : Hid (a * s / (b * s) = a / b) := D1
  have HD2 : Hid (a * s % (b * s) / s = a % b) := D2
  clear ha2 hb2 L1 V1 D1 D2
  clear hst hk l2
  have HP0 : Hid (IntKind.i64.wrap ((cnt a : Int) - (cnt b : Int)) = (p0 : Int)) := by
    show _ = _
    have h1 := HAE.out
    have h2 := HM.out
    rw [IntKind.wrap_i64]
    omega
  have ca := fun W => scaled_sz a s 0 W (Nat.le_trans ha (by decide)) (Nat.le_trans s2 (by decide)) (by decide)
  rw [Nat.add_zero] at ca
  have cb := fun W => scaled_sz b s 0 W (Nat.le_trans hb (by decide)) (Nat.le_trans s2 (by decide)) (by decide)
  rw [Nat.add_zero] at cb
  have cl := fun W => long_sz (a * s) (b * s) p0 m (cnt (a * s)) W HL1.out HV1.out (Nat.le_trans hm40.2 (by decide))
  have hvp : 0 < b * s := HL1.out.pos
  have HCR : Hid (cnt (a * s % (b * s)) ≤ 40) := Nat.le_trans (cnt_mono (Nat.le_of_lt (Nat.mod_lt _ hvp))) (by rw [HV1.out]; exact hm40.1)
  have cw := fun W => word_sz (a * s % (b * s)) s W (Nat.le_trans HCR.out (by decide)) s1 (Nat.le_trans s2 (by decide))
  rw [HD2.out] at cw
  rw [HD1.out] at cl
  have HLQ : Hid ((pad (a / b)).length = 80) := pad_len' (Nat.le_trans (cnt_mono (Nat.div_le_self _ _)) ha) (by omega)
  have HLR : Hid ((pad (a * s % (b * s))).length = 80) := pad_len' HCR.out (by omega)
  have HLM : Hid ((pad (a % b)).length = 80) := pad_len' (Nat.le_trans (cnt_mono (Nat.mod_le _ _)) ha) (by omega)
  have e2 : (2 : Int) ^ k = (s : Int) := by rw [HST.out]; simp
  have ew : wrap64 ((2 : Int) ^ k) = (s : Int) := by rw [e2]; exact wrap_small s s2
  clear e2
  unfold szV at *
  generalize a * s % (b * s) = lr at *
  generalize a * s = A at *
  generalize b * s = V at *
  generalize a % b = r at *
  generalize a / b = q at *
  generalize lr % s = r2 at *
  clear hz hze hge x1
  go_enter Tryd.func23, Tryd.ntmps23
  go_wp2_with (first | ((with_reducible refine load_sz HA0.out ?_ ?_); exact rfl; simp only [Act.put, List.setIfInBounds_toArray, List.set_cons_succ, List.set_cons_zero]) | ((with_reducible refine load_sz HB0.out ?_ ?_); exact rfl; simp only [Act.put, List.setIfInBounds_toArray, List.set_cons_succ, List.set_cons_zero]))
  refine (cc _).mono ?_
  rintro e w2 ⟨rfl, g2⟩
  have HA2 : Hid (Sz w2 w.heap.size (pad a) (cnt a)) := HA0.out.old g2
  have HB2 : Hid (Sz w2 (w.heap.size + 1) (pad b) (cnt b)) := HB0.out.old g2
  have HX2 : Hid (Sz w2 (w.heap.size + 1 + 1) (ext []) 0) := HX0.out.old g2
  have HY2 : Hid (Sz w2 (w.heap.size + 1 + 1 + 1) (ext []) 0) := HY0.out.old g2
  have HO2 : Hid (Old w w2) := Old.trans HO0.out g2
  have hs2 : w.heap.size + 1 + 1 + 1 < w2.heap.size := HY2.out.lt
  clear g2 HA0 HB0 HX0 HY0 HO0 cc
  have c1 := HB2.out.cnt
  have c2 : w2.cell? ⟨w.heap.size + 1, m + 1, none⟩ = some (.int .i64 (x : Int)) := by rw [HB2.out.at (j := m + 1) (by omega), HX1.out]
  go_wp2_with (go_at_call 51; refine (cl0 _).mono ?_; rintro e w3 ⟨rfl, hw3⟩; obtain rfl : w2 = w3 := hw3.symm)
  clear c1 c2
  rw [ew]
  refine reg_d7 (pad a) (pad b) (pad A) (pad V) (pad q) (pad lr) (cnt a) (cnt b) (cnt A) (cnt V) (cnt q) (cnt lr) s p0 w w2 (by omega) HA2 HB2 HLQ HLR HP0.out ca cb cl _ _ _ _ _ _ _ _ _ _ _ _ _ _ _ _ _ _ _ _ _ _ _ _ _ _ _ _ _ _ _ _ _ _ _ _ _ _ _ _ _ _ _ _ _ _ _ _ _ _ _ _ _ _ _ _ _ _ _ _ _ _ _ _ _ ?_
  intro p9 p10 W u45 u46 u47 u48 u49 u50 u51 u52 u53 u54 u55 u56 u57 u58 u59 MD
  have HX3 : Hid (Sz W (w.heap.size + 1 + 1) (ext []) 0) := HX2.out.old MD.old
  have HY3 : Hid (Sz W (w.heap.size + 1 + 1 + 1) (ext []) 0) := HY2.out.old MD.old
  have HO3 : Hid (Old w W) := Old.trans HO2.out MD.old
  have H9 : Hid (Sz W p9 (pad q) (cnt q)) := MD.z9
  have H10 : Hid (Sz W p10 (pad lr) (cnt lr)) := MD.z10
  have hp9 : w2.heap.size ≤ p9 := MD.lo9
  have hW := H9.out.lt
  have hs3 := MD.old.size
  clear MD ca cb cl
  go_wp2_with (first | ((with_reducible refine load_sz H10.out ?_ ?_); exact rfl; simp only [Act.put, List.setIfInBounds_toArray, List.set_cons_succ, List.set_cons_zero]) | (go_at_call 50; refine (cw _).mono ?_; rintro e w4 ⟨rfl, g4⟩; have HX4 : Hid (Sz (w4.alloc (.cells Tryd.zeroCells50 50)) (w.heap.size + 1 + 1) (ext []) 0) := (HX3.out.old g4).alloc _; have HY4 : Hid (Sz (w4.alloc (.cells Tryd.zeroCells50 50)) (w.heap.size + 1 + 1 + 1) (ext []) 0) := (HY3.out.old g4).alloc _; have H94 : Hid (Sz (w4.alloc (.cells Tryd.zeroCells50 50)) p9 (pad q) (cnt q)) := (H9.out.old g4).alloc _; have HO4 : Hid (Old w (w4.alloc (.cells Tryd.zeroCells50 50))) := (Old.trans HO3.out g4).alloc _; have HZ4 : Hid (Sz (w4.alloc (.cells Tryd.zeroCells50 50)) w4.heap.size (ext []) 0) := Sz.zero w4 _ rfl; have hs4 : W.heap.size ≤ w4.heap.size := g4.size; clear g4) | ((with_reducible refine store_sz HZ4.out (pad r) (cnt r) HLM.out ?_ ?_ ?_); exact rfl; exact rfl; simp only [Act.put]))
  refine reg_d9 (pad q) (pad r) (cnt q) (cnt r) p9 w4.heap.size w _ (by omega) (by omega) (H94.out.otherRow (by omega) _) (HZ4.out.row (pad r) (cnt r) HLM.out) (HX4.out.otherRow (by omega) _) (HY4.out.otherRow (by omega) _) (HO4.out.row (by omega) _) _ _ _ _ _ _ _ _ _ _ _ _ _ _ _ _ _ _ _ _ _ _ _ _ _ _ _ _ _ _ _ _ _ _ _ _ _ _ _ _ _ _ _ _ _ _ _ _ _ _ _ _ _ _ _ _ _ _ _ _ _ _ _ _ ?_
  intro W5 u66 u67 hz1 hz2 ho
  go_wp2_with fail
  exact bodyPost_ret (ret_sz2 Tryd.results23 _ _ rfl rfl hz1 hz2) rfl ⟨rfl, ho⟩
end Go.Proofs.YtjedpceiimceoaaDoor
/- Proved: the contract of the program's divideSizes: the quotient and what is left. -/
namespace Go.Proofs.YtjedpceiimceoaaDoor
open M2
theorem divide_sz (a b : Nat) (w : World) (ha : cnt a ≤ 40) (hb : cnt b ≤ 40) (hpos : 0 < b) :
    Calls Tryd.prog 23 #[.agg (szV a), .agg (szV b)] w fun e w' => e = .returned (.tuple #[.agg (szV (a / b)), .agg (szV (a % b))]) ∧ Old w w' := by
  by_cases h : a < b
  · exact div_lt a b w ha hb h
  · have h1 := cnt_pos (show b ≠ 0 by omega)
    by_cases h2 : cnt b = 1
    · exact div_one a b w ha h2 (by omega)
    · have h3 : cnt b ≤ cnt a := cnt_mono (by omega)
      exact div_long a b (cnt b - 2) (cnt a - cnt b) w ha (by omega) (by omega) (by omega)
end Go.Proofs.YtjedpceiimceoaaDoor
/- Proved: the contract of the program's DivWholes, of good numbers: the quotient downwards and what is left. -/
namespace Go.Proofs.YtjedpceiimceoaaDoor
open M2
set_option linter.unusedVariables false
set_option linter.unusedSimpArgs false
theorem whole_anyD (neg : Bool) (k : Nat) (w : World) (hn : cnt k ≤ 80) :
    Calls Tryd.prog 27 #[.bool neg, .agg (szV k)] w fun e w' => ∃ v, e = .returned (.agg #[.bool (neg && decide (k ≠ 0)), v]) ∧ Old w w' ∧ Own w' w.heap.size v (toI (dig k)) := by
  by_cases h0 : k = 0
  · subst h0
    refine (whole_none neg w).mono ?_
    rintro e w' ⟨rfl, g⟩
    refine ⟨.slice none 0 0, by simp, g, ?_⟩
    rw [dig_zero]
    exact own_nilD _ _
  · refine (whole_some neg k w h0 hn).mono ?_
    rintro e w' ⟨v, rfl, g, o⟩
    exact ⟨v, by simp [h0], g, o⟩
theorem impl_div_good (n : Bool) (xs ys : List Int) (v u : Value) (w : World) (hv : Row w v xs) (hu : Row w u ys) (hga : Good n xs) (hgb : Good false ys) (h0 : ys.length ≠ 0) :
    Calls Tryd.prog 6 #[.agg #[.bool n, v], .agg #[.bool false, u]] w fun e w' => ∃ v1 v2, e = .returned (.tuple #[.agg #[.bool (ng (sv n (nat xs) / (val (nat ys) : Int))), v1], .agg #[.bool false, v2], .bool true]) ∧ Old w w' ∧ Own w' w.heap.size v1 (toI (dg (sv n (nat xs) / (val (nat ys) : Int)))) ∧ Own w' w.heap.size v2 (toI (dg (sv n (nat xs) % (val (nat ys) : Int)))) ∧ ∀ b, v1.ownBlock = some b → v2.ownBlock = some b → False := by
  obtain ⟨c0, cap0, rfl⟩ := hv.slice
  obtain ⟨c1, cap1, rfl⟩ := hu.slice
  obtain ⟨ex, gx, lx⟩ := good_gw hga
  obtain ⟨ey, gy, ly⟩ := good_gw hgb
  have ca := cnt_nrm gx.1
  have cb := cnt_nrm gy.1
  have hb : 0 < val (nat ys) := by
    rcases Nat.eq_zero_or_pos (val (nat ys)) with h | h
    · have := val_zero_of gy.1 h
      exact absurd (by rw [← nat_len, this]; rfl) h0
    · exact h
  have ha40 : cnt (val (nat xs)) ≤ 40 := by omega
  have hb40 : cnt (val (nat ys)) ≤ 40 := by omega
  have hq40 : cnt (val (nat xs) / val (nat ys)) ≤ 40 := Nat.le_trans (cnt_mono (Nat.div_le_self _ _)) ha40
  have hr40 : cnt (val (nat xs) % val (nat ys)) ≤ 40 := Nat.le_trans (cnt_mono (Nat.mod_le _ _)) ha40
  have cga := fun W (h : Row W (.slice c0 xs.length cap0) xs) => good_impl n xs _ W h (by rw [← nat_len]; omega)
  rw [decide_eq_true hga] at cga
  have cgb := fun W (h : Row W (.slice c1 ys.length cap1) ys) => good_impl false ys _ W h (by rw [← nat_len]; omega)
  rw [decide_eq_true hgb] at cgb
  have csa := fun W (h : Row W (.slice c0 xs.length cap0) xs) => sizeOf_sz n (nat xs) _ W (by rw [ex]; exact h) gx.1 (by omega)
  have csb := fun W (h : Row W (.slice c1 ys.length cap1) ys) => sizeOf_sz false (nat ys) _ W (by rw [ey]; exact h) gy.1 (by omega)
  have cl := fun W => divide_sz (val (nat xs)) (val (nat ys)) W ha40 hb40 hb
  generalize val (nat ys) = b at *
  have hsv : sv n (nat xs) = if n then -((val (nat xs) : Nat) : Int) else ((val (nat xs) : Nat) : Int) := rfl
  generalize sv n (nat xs) = z at *
  generalize val (nat xs) = a at *
  have hdm := Nat.div_add_mod a b
  have hml := Nat.mod_lt a hb
  by_cases hc : n = false ∨ a % b = 0
  · have hz : z / (b : Int) = (if n then -((a / b : Nat) : Int) else ((a / b : Nat) : Int)) ∧ z % (b : Int) = ((a % b : Nat) : Int) := by
      cases n with
      | false => simp at hsv; subst hsv; simp
      | true =>
        have hm : a % b = 0 := by rcases hc with h | h; cases h; exact h
        simp at hsv
        subst hsv
        have hd : (b : Int) ∣ (a : Int) := Int.ofNat_dvd.2 (Nat.dvd_of_mod_eq_zero hm)
        refine ⟨?_, ?_⟩
        · simp [Int.neg_ediv_of_dvd hd]
        · rw [hm]; simp [Int.emod_eq_zero_of_dvd (Int.dvd_neg.2 hd)]
    have e1 : ng (z / (b : Int)) = (n && decide (a / b ≠ 0)) := by
      rw [hz.1]
      clear hz hdm
      generalize a / b = q
      unfold ng
      cases n with
      | false => exact decide_eq_false (show ¬ ((q : Nat) : Int) < 0 by omega)
      | true =>
        rw [Bool.true_and]
        exact decide_eq_decide.2 (show (-((q : Nat) : Int) < 0 ↔ q ≠ 0) by omega)
    have e2 : dg (z / (b : Int)) = dig (a / b) := by
      rw [hz.1]; generalize a / b = q; unfold dg; cases n <;> simp
    have e3 : dg (z % (b : Int)) = dig (a % b) := by rw [hz.2]; rfl
    rw [e1, e2, e3]
    refine impl_div_low n _ xs ys _ _ c0 c1 cap0 cap1 _ _ _ _ _ _ _ _ w hv hu h0 (pad_len' hb40 (by omega)) (pad_len' hq40 (by omega)) (pad_len' hr40 (by omega)) cga cgb csa csb cl (fun W => whole_anyD n (a / b) W (by omega)) (fun W => ?_) ?_
    · have := whole_anyD false (a % b) W (by omega)
      simp only [Bool.false_and] at this
      exact this
    · rcases hc with h | h
      · exact Or.inl h
      · right; rw [h]; exact cnt_zero
  · have hn : n = true := by cases n with | false => exact absurd (Or.inl rfl) hc | true => rfl
    have hm : a % b ≠ 0 := fun h => hc (Or.inr h)
    subst hn
    simp at hsv
    have hz : z / (b : Int) = -((a / b + 1 : Nat) : Int) ∧ z % (b : Int) = ((b - a % b : Nat) : Int) := by
      have hcast : ((b - a % b : Nat) : Int) = (b : Int) - ((a % b : Nat) : Int) := by omega
      have hsum : (a : Int) = (b : Int) * ((a / b : Nat) : Int) + ((a % b : Nat) : Int) := by
        have := congrArg (fun k : Nat => (k : Int)) hdm
        simpa using this.symm
      have hkey : z = (b : Int) * (-((a / b + 1 : Nat) : Int)) + ((b - a % b : Nat) : Int) := by
        rw [hcast, hsv, hsum]
        rw [Int.natCast_add, Int.mul_neg, Int.mul_add]
        simp
        omega
      have hb' : (b : Int) ≠ 0 := by omega
      have h1 : (0 : Int) ≤ ((b - a % b : Nat) : Int) := by omega
      have h2 : ((b - a % b : Nat) : Int) < (b : Int) := by omega
      refine ⟨?_, ?_⟩
      · rw [hkey, Int.add_comm, Int.add_mul_ediv_left _ _ hb', Int.ediv_eq_zero_of_lt h1 h2, Int.zero_add]
      · rw [hkey, Int.add_comm, Int.add_mul_emod_self_left, Int.emod_eq_of_lt h1 h2]
    have e1 : ng (z / (b : Int)) = (true && decide (a / b + 1 ≠ 0)) := by
      rw [hz.1]; clear hz hdm; generalize a / b = q; unfold ng; simp
    have e2 : dg (z / (b : Int)) = dig (a / b + 1) := by
      rw [hz.1]; generalize a / b = q; unfold dg; rw [Int.natAbs_neg]; rfl
    have e3 : dg (z % (b : Int)) = dig (b - a % b) := by rw [hz.2]; rfl
    have hq41 : cnt (a / b + 1) ≤ 41 := Nat.le_trans (cnt_add (a / b) 1 hq40 (Nat.le_trans (cnt_word (by omega)) (by omega))) (Nat.le_refl _)
    have hrr : cnt (b - a % b) ≤ 40 := Nat.le_trans (cnt_mono (Nat.sub_le _ _)) hb40
    rw [e1, e2, e3]
    refine impl_div_up _ xs ys _ _ c0 c1 cap0 cap1 _ _ _ _ _ _ _ _ _ _ _ _ _ _ w hv hu h0 (pad_len' hb40 (by omega)) (pad_len' hq40 (by omega)) (pad_len' hr40 (by omega)) (pad_len' hq41 (by omega)) (pad_len' hrr (by omega)) cga cgb csa csb cl (fun W => ofWord_sz 1 W (by omega)) (fun W => add_sz (a / b) 1 W (by omega) (Nat.le_trans (cnt_word (by omega)) (by omega))) (fun W => less_sz b (a % b) W (by omega) (by omega)) (fun W => whole_anyD true (a / b + 1) W (by omega)) (fun W => ?_) ?_
    · have := whole_anyD false (b - a % b) W (by omega)
      simp only [Bool.false_and] at this
      exact this
    · have := cnt_pos hm
      omega
end Go.Proofs.YtjedpceiimceoaaDoor
/- Proved: the contracts of the program's DivWholes and RoundWholes at any two whole numbers. -/
namespace Go.Proofs.YtjedpceiimceoaaDoor
open M2
set_option linter.unusedVariables false
set_option linter.unusedSimpArgs false
theorem nat_toI (xs : List Nat) : nat (toI xs) = xs := by
  apply List.ext_getElem
  · simp [nat, toI]
  · intro i h1 h2
    simp [nat, toI]
theorem gw_good {n : Bool} {xs : List Nat} (h : Gw n xs) (hl : xs.length ≤ 40) : Good n (toI xs) := by
  refine ⟨by rw [toI_len]; exact hl, ?_, ?_⟩
  · rintro ⟨h0, hn⟩
    exact h.2 hn (List.length_eq_zero_iff.1 (by rw [← toI_len]; exact h0))
  · intro j hj
    rw [toI_len] at hj
    have hm : xs.getD j 0 ∈ xs := by simp [List.getD, hj]
    have hb := h.1.1 _ hm
    unfold LB at hb
    refine ⟨?_, ?_⟩
    · rw [toI_get]
      omega
    · rw [toI_get, toI_len]
      rintro ⟨h0, h1⟩
      have hne : xs ≠ [] := by rintro rfl; simp at hj
      apply h.1.2 hne
      rw [List.getLast_eq_getElem]
      have h2 : xs.getD j 0 = 0 := by omega
      have e : xs.length - 1 = j := by omega
      simp only [e]
      rw [← h2]
      simp [List.getD, hj]
theorem dg_div_len {n : Bool} {xs : List Nat} {D : Nat} (hx : Nrm xs) (hl : xs.length ≤ 40) (hD : 0 < D) : (dg (sv n xs / (D : Int))).length ≤ 40 := by
  have h1 : (sv n xs).natAbs = val xs := by cases n <;> simp [sv]
  have h2 : val xs < LB ^ 40 := by
    have := cnt_nrm hx
    have h3 := cnt_lt (val xs)
    exact Nat.lt_of_lt_of_le h3 (Nat.pow_le_pow_right (by decide) (by omega))
  have h4 : (sv n xs / (D : Int)).natAbs ≤ (sv n xs).natAbs := by
    generalize sv n xs = z
    have hd : (1 : Int) ≤ (D : Int) := by omega
    rcases Int.lt_or_le z 0 with hz | hz
    · have h5 : z / (D : Int) < 0 := Int.ediv_neg_of_neg_of_pos hz (by omega)
      have h6 : z ≤ z / (D : Int) := by
        rw [Int.le_ediv_iff_mul_le (by omega)]
        have := Int.mul_le_mul_of_nonpos_left (a := z) (Int.le_of_lt hz) hd
        rw [Int.mul_one] at this
        exact this
      omega
    · have h5 : 0 ≤ z / (D : Int) := Int.ediv_nonneg hz (by omega)
      have h6 : z / (D : Int) ≤ z := Int.ediv_le_self _ hz
      omega
  exact dg_len (by omega)
theorem impl_div_bad (n m : Bool) (xs ys : List Int) (v u : Value) (w : World) (hv : Row w v xs) (hu : Row w u ys) (la : xs.length ≤ 1048576) (lb : ys.length ≤ 1048576) (h : ¬ Dv n m xs ys) :
    Calls Tryd.prog 6 #[.agg #[.bool n, v], .agg #[.bool m, u]] w fun e w' => ∃ v1 v2, e = .returned (.tuple #[.agg #[.bool false, v1], .agg #[.bool false, v2], .bool false]) ∧ Old w w' ∧ Own w' w.heap.size v1 [] ∧ Own w' w.heap.size v2 [] ∧ ∀ b, v1.ownBlock = some b → v2.ownBlock = some b → False := by
  obtain ⟨c0, cap0, rfl⟩ := hv.slice
  obtain ⟨c1, cap1, rfl⟩ := hu.slice
  have cga := fun W (h : Row W (.slice c0 xs.length cap0) xs) => good_impl n xs _ W h la
  have cgb := fun W (h : Row W (.slice c1 ys.length cap1) ys) => good_impl m ys _ W h lb
  by_cases hga : Good n xs
  · rw [decide_eq_true hga] at cga
    by_cases hgb : Good m ys
    · rw [decide_eq_true hgb] at cgb
      cases m with
      | true => exact impl_div_neg n xs ys c0 c1 cap0 cap1 w hv hu cga cgb
      | false =>
        have h0 : ys.length = 0 := by
          rcases Nat.eq_zero_or_pos ys.length with h1 | h1
          · exact h1
          · exact absurd ⟨⟨hga, hgb⟩, rfl, h1⟩ h
        exact impl_div_nil n xs ys c0 c1 cap0 cap1 w hv hu cga cgb h0
    · rw [decide_eq_false hgb] at cgb
      exact impl_div_no2 n m xs ys c0 c1 cap0 cap1 w hv hu cga cgb
  · rw [decide_eq_false hga] at cga
    exact impl_div_no1 n m xs ys c0 c1 cap0 cap1 w hv hu cga
end Go.Proofs.YtjedpceiimceoaaDoor
/- Proved: the contract of the model's DivWholes: what it answers, as a function of the numbers. -/
namespace Go.Proofs.YtjedpceiimceoaaDoor
open Go.ChangeShapes Go.WideShapes Go.ChangeAt Go.RowKit
open M2
set_option linter.unusedVariables false
set_option linter.unusedSimpArgs false
def divW (n m : Bool) (xs ys : List Int) : Bool × List Nat × List Nat × Bool := if Dv n m xs ys then (ng (sv n (nat xs) / (val (nat ys) : Int)), dg (sv n (nat xs) / (val (nat ys) : Int)), dg (sv n (nat xs) % (val (nat ys) : Int)), true) else (false, [], [], false)
structure MadeD (w0 : World) (rb : Bool) (rl sl : List Nat) (W : World) (k : Nat) (a a' : Option Addr) (c c' : Nat) : Prop where
  old : Old w0 W
  st : StW W k (.bool rb) (.slice a rl.length c) 59
  own : Own W w0.heap.size (.slice a rl.length c) (toI rl)
  own' : Own W w0.heap.size (.slice a' sl.length c') (toI sl)
theorem made_last {w0 w5 : World} {rb : Bool} {rl sl : List Nat} {a a' : Option Addr} {c c' base : Nat} (g : Old w0 w5) (o : Own w5 base (.slice a rl.length c) (toI rl)) (o' : Own w5 base (.slice a' sl.length c') (toI sl)) (hb : w0.heap.size ≤ base) :
    MadeD w0 rb rl sl (w5.alloc (.cells #[.bool rb, .slice a rl.length c] 59)) w5.heap.size a a' c c' :=
  ⟨g.alloc _, StW.new _ _ _ _, (Own.low o hb).alloc _, (Own.low o' hb).alloc _⟩
theorem made_set {w0 w5 : World} {rb : Bool} {rl sl : List Nat} {a a' : Option Addr} {c c' base k : Nat} (g : Old w0 w5) (o : Own w5 base (.slice a rl.length c) (toI rl)) (o' : Own w5 base (.slice a' sl.length c') (toI sl)) (s : StW w5 k (.bool false) (.slice none 0 0) 59) (hb : w0.heap.size ≤ base) (hk : w0.heap.size ≤ k) (hne : k < base) :
    MadeD w0 rb rl sl ((w5.setCell ⟨k, 0, none⟩ (.bool rb)).setCell ⟨k, 1, none⟩ (.slice a rl.length c)) k a a' c c' :=
  ⟨(g.own (p := ⟨k, 0, none⟩) hk _).own (p := ⟨k, 1, none⟩) hk _, StW.set2 s _ _, Own.low (own_set2 o hne _ _) hb, Own.low (own_set2 o' hne _ _) hb⟩
set_option maxRecDepth 100000 in
set_option maxHeartbeats 8000000 in
theorem spec_div (n m : Bool) (xs ys : List Int) (v u : Value) (w : World) (hv : Row w v xs) (hu : Row w u ys) (la : xs.length ≤ 1048576) (lb : ys.length ≤ 1048576) (R : Bool × List Nat × List Nat × Bool) (hR : divW n m xs ys = R) :
    Calls Tryd.prog 7 #[.agg #[.bool n, v], .agg #[.bool m, u]] w fun e w' => ∃ v1 v2, e = .returned (.tuple #[.agg #[.bool R.1, v1], .agg #[.bool false, v2], .bool R.2.2.2]) ∧ Old w w' ∧ Own w' w.heap.size v1 (toI R.2.1) ∧ Own w' w.heap.size v2 (toI R.2.2.1) := by
  have HV : Hid (Row w v xs) := hv
  have HU : Hid (Row w u ys) := hu
  obtain ⟨c0, cap0, rfl⟩ := hv.slice
  obtain ⟨c1, cap1, rfl⟩ := hu.slice
  clear hv hu
  have HA : Hid (Old w ((((w.alloc (.cells #[.bool n, .slice c0 xs.length cap0] 25)).alloc (.cells #[.bool m, .slice c1 ys.length cap1] 25)).alloc (.cells #[.bool false, .slice none 0 0] 25)).alloc (.cells #[.bool false, .slice none 0 0] 25))) := ((((Old.refl w).alloc _).alloc _).alloc _).alloc _
  have SA0 : Hid (StW ((((w.alloc (.cells #[.bool n, .slice c0 xs.length cap0] 25)).alloc (.cells #[.bool m, .slice c1 ys.length cap1] 25)).alloc (.cells #[.bool false, .slice none 0 0] 25)).alloc (.cells #[.bool false, .slice none 0 0] 25)) w.heap.size (.bool n) (.slice c0 xs.length cap0) 25) := (StW.at1 w _ _ _ _ _ _).old (((Old.refl _).alloc _).alloc _)
  have SB0 : Hid (StW ((((w.alloc (.cells #[.bool n, .slice c0 xs.length cap0] 25)).alloc (.cells #[.bool m, .slice c1 ys.length cap1] 25)).alloc (.cells #[.bool false, .slice none 0 0] 25)).alloc (.cells #[.bool false, .slice none 0 0] 25)) (w.heap.size + 1) (.bool m) (.slice c1 ys.length cap1) 25) := (StW.at2 w _ _ _ _ _ _).old (((Old.refl _).alloc _).alloc _)
  have SC0 : Hid (StW ((((w.alloc (.cells #[.bool n, .slice c0 xs.length cap0] 25)).alloc (.cells #[.bool m, .slice c1 ys.length cap1] 25)).alloc (.cells #[.bool false, .slice none 0 0] 25)).alloc (.cells #[.bool false, .slice none 0 0] 25)) (w.heap.size + 1 + 1) (.bool false) (.slice none 0 0) 25) := by
    have h := (StW.new ((w.alloc (.cells #[.bool n, .slice c0 xs.length cap0] 25)).alloc (.cells #[.bool m, .slice c1 ys.length cap1] 25)) (.bool false) (.slice none 0 0) 25).old ((Old.refl _).alloc (.cells #[.bool false, .slice none 0 0] 25))
    rw [show ((w.alloc (.cells #[.bool n, .slice c0 xs.length cap0] 25)).alloc (.cells #[.bool m, .slice c1 ys.length cap1] 25)).heap.size = w.heap.size + 1 + 1 by simp] at h
    exact h
  have SD0 : Hid (StW ((((w.alloc (.cells #[.bool n, .slice c0 xs.length cap0] 25)).alloc (.cells #[.bool m, .slice c1 ys.length cap1] 25)).alloc (.cells #[.bool false, .slice none 0 0] 25)).alloc (.cells #[.bool false, .slice none 0 0] 25)) (w.heap.size + 1 + 1 + 1) (.bool false) (.slice none 0 0) 25) := by
    have h := StW.new (((w.alloc (.cells #[.bool n, .slice c0 xs.length cap0] 25)).alloc (.cells #[.bool m, .slice c1 ys.length cap1] 25)).alloc (.cells #[.bool false, .slice none 0 0] 25)) (.bool false) (.slice none 0 0) 25
    rw [show (((w.alloc (.cells #[.bool n, .slice c0 xs.length cap0] 25)).alloc (.cells #[.bool m, .slice c1 ys.length cap1] 25)).alloc (.cells #[.bool false, .slice none 0 0] 25)).heap.size = w.heap.size + 1 + 1 + 1 by simp] at h
    exact h
  have cd := fun W (h : Row W (.slice c0 xs.length cap0) xs) (k : Row W (.slice c1 ys.length cap1) ys) => divides_any n m xs ys _ _ W h k la lb
  by_cases hd : Dv n m xs ys
  · rw [decide_eq_true hd] at cd
    unfold divW at hR
    rw [if_pos hd] at hR
    obtain ⟨⟨hga, hgb⟩, hm, hy0⟩ := hd
    obtain ⟨ex, gx, lx⟩ := good_gw hga
    obtain ⟨ey, gy, ly⟩ := good_gw hgb
    have hne : nat ys ≠ [] := fun h => by rw [← nat_len, h] at hy0; simp at hy0
    have hD := nrm_pos gy.1 hne
    obtain ⟨q, hq⟩ : ∃ q, sv n (nat xs) / (val (nat ys) : Int) = q := ⟨_, rfl⟩
    obtain ⟨r, hr⟩ : ∃ r : Nat, (sv n (nat xs) % (val (nat ys) : Int)).toNat = r := ⟨_, rfl⟩
    have hr0 := Int.emod_nonneg (sv n (nat xs)) (show (val (nat ys) : Int) ≠ 0 by omega)
    have hr1 := Int.emod_lt_of_pos (sv n (nat xs)) (show (0 : Int) < (val (nat ys) : Int) by omega)
    have hq40 : (dg q).length ≤ 40 := by rw [← hq]; exact dg_div_len gx.1 lx hD
    have hr40 : (dig r).length ≤ 40 := by
      have h1 : cnt r ≤ cnt (val (nat ys)) := cnt_mono (by omega)
      have h2 := cnt_nrm gy.1
      have h3 : (dig r).length = cnt r := rfl
      omega
    have HRR : Hid (R = (ng q, dg q, dig r, true)) := by
      rw [← hR, hq]
      show _ = _
      congr 3
      unfold dg
      rw [show (sv n (nat xs) % (val (nat ys) : Int)).natAbs = r by omega]
    have HQ : Hid (sv n (nat xs) / (val (nat ys) : Int) = q) := hq
    have HR : Hid ((sv n (nat xs) % (val (nat ys) : Int)).toNat = r) := hr
    have HV2 : Hid (Row w (.slice c0 xs.length cap0) (toI (nat xs))) := by rw [ex]; exact HV.out
    have HU2 : Hid (Row w (.slice c1 ys.length cap1) (toI (nat ys))) := by rw [ey]; exact HU.out
    have HGX : Hid (Gw n (nat xs) ∧ (nat xs).length ≤ 40) := ⟨gx, lx⟩
    have HGY : Hid (Gw m (nat ys) ∧ nat ys ≠ [] ∧ (nat ys).length ≤ 40) := ⟨gy, hne, ly⟩
    clear hga hgb ex ey gx gy lx ly hR hq hr hm hne hy0 hD hr0 hr1
    go_enter Tryd.func7, Tryd.ntmps7
    go_wp2_with fail
    refine (cd _ (HV.out.old HA.out) (HU.out.old HA.out)).mono ?_
    rintro e w1 ⟨rfl, g1⟩
    have SA1 : Hid (StW w1 w.heap.size (.bool n) (.slice c0 xs.length cap0) 25) := SA0.out.old g1
    have SB1 : Hid (StW w1 (w.heap.size + 1) (.bool m) (.slice c1 ys.length cap1) 25) := SB0.out.old g1
    have SC1 : Hid (StW w1 (w.heap.size + 1 + 1) (.bool false) (.slice none 0 0) 25) := SC0.out.old g1
    have SD1 : Hid (StW w1 (w.heap.size + 1 + 1 + 1) (.bool false) (.slice none 0 0) 25) := SD0.out.old g1
    have HG1 : Hid (Old w w1) := Old.trans HA.out g1
    have hs1 : w.heap.size + 4 ≤ w1.heap.size := by have := SD1.out.lt; omega
    clear g1 HA SA0 SB0 SC0 SD0
    have a0 := SA1.out.c0
    have a1 := SA1.out.c1
    have b0 := SB1.out.c0
    have b1 := SB1.out.c1
    have HAS : Hid (∀ W', Old w1 W' → (W'.cell? ⟨w.heap.size, 0, none⟩ = some (.bool n) ∧ W'.cell? ⟨w.heap.size, 1, none⟩ = some (.slice c0 xs.length cap0) ∧ W'.cell? ⟨w.heap.size + 1, 0, none⟩ = some (.bool m) ∧ W'.cell? ⟨w.heap.size + 1, 1, none⟩ = some (.slice c1 ys.length cap1))) := fun W' g => ⟨(SA1.out.old g).c0, (SA1.out.old g).c1, (SB1.out.old g).c0, (SB1.out.old g).c1⟩
    go_upto_region 3 with fail
    go_cut [7, 8] (fun s7 s8 W => ∃ k a c a' c', s7 = .pointer (some ⟨k, 0, none⟩) ∧ s8 = .slice a' (dig r).length c' ∧ MadeD w1 (ng q) (dg q) (dig r) W k a a' c c')
    case first =>
      have tok : True := trivial
      go_region_held3 (fun W' => W'.cell? ⟨w.heap.size, 0, none⟩ = some (.bool n) ∧ W'.cell? ⟨w.heap.size, 1, none⟩ = some (.slice c0 xs.length cap0) ∧ W'.cell? ⟨w.heap.size + 1, 0, none⟩ = some (.bool m) ∧ W'.cell? ⟨w.heap.size + 1, 1, none⟩ = some (.slice c1 ys.length cap1)) (first | with_reducible exact HAS.out _ K5.out | exact HAS.out _ (K5.out.alloc _) | with_reducible exact HAS.out _ K3.out | exact HAS.out _ (K3.out.alloc _) | exact HAS.out _ ((Below.drew (Old.refl w1)).alloc (Nat.le_refl _) _) | with_reducible exact HAS.out _ (Below.drew (Old.refl w1)) | with_reducible exact HAS.out _ (Old.refl w1) | exact HAS.out _ ((K5.out.own (p := ⟨w1.heap.size, 0, none⟩) (Nat.le_refl _) _).own (p := ⟨w1.heap.size, 1, none⟩) (Nat.le_refl _) _) | exact HAS.out _ ((K5.out.own (p := ⟨w3.heap.size, 0, none⟩) (K3.out.size) _).own (p := ⟨w3.heap.size, 1, none⟩) (K3.out.size) _) | fail) (first
        | (go_at_call 30; refine (in_anyW n c0 xs.length cap0 _).mono ?_; rintro e w3 ⟨rfl, g3⟩; have K3 : Hid (Old w1 w3) := Old.trans (((Old.refl w1).drewN 1).alloc (.cells #[.bool false, .slice none 0 0] 59)) g3; have KA : Hid (StW w3 w1.heap.size (.bool false) (.slice none 0 0) 59) := StW.old (w := ((w1.drewN 1).alloc (.cells #[.bool false, .slice none 0 0] 59))) (StW.new (w1.drewN 1) _ _ _) g3; have k0_ := KA.out.c0; have k1_ := KA.out.c1; have l0_ := KA.out.f0; have l1_ := KA.out.f1; clear g3)
        | (go_at_call 30; refine (in_anyW n c0 xs.length cap0 _).mono ?_; rintro e w3 ⟨rfl, g3⟩; have K3 : Hid (Old w1 w3) := Old.trans ((Old.refl w1).drewN 1) g3; clear g3)
        | (go_at_call 29; refine (down_any n (nat xs) (nat ys) _ _ _ (HV2.out.old (Old.trans HG1.out (K3.out))) (HU2.out.old (Old.trans HG1.out (K3.out))) HGX.out.1.1.1 HGY.out.1.1 HGY.out.2.1 (by have := HGX.out.2; omega) (by have := HGY.out.2.2; omega)).mono ?_; rw [HQ.out, HR.out]; rintro e w5 ⟨v5, v6, rfl, g5, o5, o6⟩; obtain ⟨a5, c5, rfl⟩ := (Own.row o5).sliceN; obtain ⟨a6, c6, rfl⟩ := (Own.row o6).sliceN; have K5 : Hid (Old w1 w5) := Old.trans K3.out g5; have O5 : Hid (Own w5 w3.heap.size (.slice a5 (dg q).length c5) (toI (dg q))) := o5; have O6 : Hid (Own w5 w3.heap.size (.slice a6 (dig r).length c6) (toI (dig r))) := o6; have KB : Hid (StW w5 w1.heap.size (.bool false) (.slice none 0 0) 59) := KA.out.old g5; have hlt_ : Hid (w1.heap.size < w3.heap.size) := KA.out.lt; have k0_ := KB.out.c0; have k1_ := KB.out.c1; have l0_ := KB.out.f0; have l1_ := KB.out.f1; clear g5 o5 o6)
        | (go_at_call 29; refine (down_any n (nat xs) (nat ys) _ _ _ (HV2.out.old (Old.trans HG1.out (K3.out))) (HU2.out.old (Old.trans HG1.out (K3.out))) HGX.out.1.1.1 HGY.out.1.1 HGY.out.2.1 (by have := HGX.out.2; omega) (by have := HGY.out.2.2; omega)).mono ?_; rw [HQ.out, HR.out]; rintro e w5 ⟨v5, v6, rfl, g5, o5, o6⟩; obtain ⟨a5, c5, rfl⟩ := (Own.row o5).sliceN; obtain ⟨a6, c6, rfl⟩ := (Own.row o6).sliceN; have K5 : Hid (Old w1 w5) := Old.trans K3.out g5; have O5 : Hid (Own w5 w3.heap.size (.slice a5 (dg q).length c5) (toI (dg q))) := o5; have O6 : Hid (Own w5 w3.heap.size (.slice a6 (dig r).length c6) (toI (dig r))) := o6; clear g5 o5 o6)
        | (go_at_call 29; refine (down_any n (nat xs) (nat ys) _ _ _ (HV2.out.old (Old.trans HG1.out (K3.out.alloc (.cells #[.bool false, .slice none 0 0] 59)))) (HU2.out.old (Old.trans HG1.out (K3.out.alloc (.cells #[.bool false, .slice none 0 0] 59)))) HGX.out.1.1.1 HGY.out.1.1 HGY.out.2.1 (by have := HGX.out.2; omega) (by have := HGY.out.2.2; omega)).mono ?_; rw [HQ.out, HR.out]; rintro e w5 ⟨v5, v6, rfl, g5, o5, o6⟩; obtain ⟨a5, c5, rfl⟩ := (Own.row o5).sliceN; obtain ⟨a6, c6, rfl⟩ := (Own.row o6).sliceN; have K5 : Hid (Old w1 w5) := Old.trans (K3.out.alloc (.cells #[.bool false, .slice none 0 0] 59)) g5; have O5 : Hid (Own w5 (w3.heap.size + 1) (.slice a5 (dg q).length c5) (toI (dg q))) := Own.low o5 (by simp); have O6 : Hid (Own w5 (w3.heap.size + 1) (.slice a6 (dig r).length c6) (toI (dig r))) := Own.low o6 (by simp); have KC_ : Hid (StW w5 w3.heap.size (.bool false) (.slice none 0 0) 59) := StW.old (w := (w3.alloc (.cells #[.bool false, .slice none 0 0] 59))) (StW.new w3 _ _ _) g5; have k0_ := KC_.out.c0; have k1_ := KC_.out.c1; have l0_ := KC_.out.f0; have l1_ := KC_.out.f1; clear g5 o5 o6)
        | fail)
      all_goals (go_wp2_with fail; go_meet; first | (exact ⟨w1.heap.size, a5, c5, a6, c6, rfl, rfl, made_set K5.out O5.out O6.out KB.out K3.out.size (Nat.le_refl _) (by have := hlt_.out; omega)⟩) | (exact ⟨w3.heap.size, a5, c5, a6, c6, rfl, rfl, made_set K5.out O5.out O6.out KC_.out (by have := K3.out.size; omega) K3.out.size (by omega)⟩) | (exact ⟨w5.heap.size, a5, c5, a6, c6, rfl, rfl, made_last K5.out O5.out O6.out K3.out.size⟩))
    case rest =>
    obtain ⟨k7, a5, c5, a6, c6, rfl, rfl, MD⟩ := hcut
    clear a0 a1 b0 b1 HAS SA1 SB1
    have HG2 : Hid (Old w wc) := Old.trans HG1.out MD.old
    have SC2 : Hid (StW wc (w.heap.size + 1 + 1) (.bool false) (.slice none 0 0) 25) := SC1.out.old MD.old
    have SD2 : Hid (StW wc (w.heap.size + 1 + 1 + 1) (.bool false) (.slice none 0 0) 25) := SD1.out.old MD.old
    have R5 : Hid (Row wc (.slice a5 (dg q).length c5) (toI (dg q))) := Own.row MD.own
    have R6 : Hid (Row wc (.slice a6 (dig r).length c6) (toI (dig r))) := Own.row MD.own'
    have hs2 : w.heap.size + 4 ≤ wc.heap.size := by have := SD2.out.lt; omega
    have q0 := MD.st.c0
    have q1 := MD.st.c1
    clear MD SC1 SD1 HG1 HGX HGY HV2 HU2 HQ HR
    go_wp2_with fail
    refine (out_any (ng q) (dg q) _ _ R5.out hq40).mono ?_
    rintro e w7 ⟨v7, rfl, g7, o7⟩
    obtain ⟨a7, c7, rfl⟩ := (Own.row o7).sliceN
    clear q0 q1
    have HG3 : Hid (Old w (w7.alloc (.cells #[.bool (ng q), .slice a7 (dg q).length c7] 25))) := Old.trans HG2.out (g7.alloc _)
    have SC3 : Hid (StW (w7.alloc (.cells #[.bool (ng q), .slice a7 (dg q).length c7] 25)) (w.heap.size + 1 + 1) (.bool false) (.slice none 0 0) 25) := SC2.out.old (g7.alloc _)
    have SD3 : Hid (StW (w7.alloc (.cells #[.bool (ng q), .slice a7 (dg q).length c7] 25)) (w.heap.size + 1 + 1 + 1) (.bool false) (.slice none 0 0) 25) := SD2.out.old (g7.alloc _)
    have SX3 : Hid (StW (w7.alloc (.cells #[.bool (ng q), .slice a7 (dg q).length c7] 25)) w7.heap.size (.bool (ng q)) (.slice a7 (dg q).length c7) 25) := StW.new w7 _ _ _
    have R8 : Hid (Row (w7.alloc (.cells #[.bool (ng q), .slice a7 (dg q).length c7] 25)) (.slice a6 (dig r).length c6) (toI (dig r))) := R6.out.old (g7.alloc _)
    have O7 : Hid (Own (w7.alloc (.cells #[.bool (ng q), .slice a7 (dg q).length c7] 25)) wc.heap.size (.slice a7 (dg q).length c7) (toI (dg q))) := o7.alloc _
    have hs3 := g7.size
    clear g7 o7 SC2 SD2 HG2 R5 R6
    go_wp2_with fail
    refine (out_any false (dig r) _ _ R8.out hr40).mono ?_
    rintro e w8 ⟨v8, rfl, g8, o8⟩
    obtain ⟨a8, c8, rfl⟩ := (Own.row o8).sliceN
    have hs8 : w7.heap.size + 1 ≤ w8.heap.size := by have := g8.size; simp at this; omega
    obtain ⟨w9, e9⟩ : ∃ W, W = (w8.alloc (.cells #[.bool false, .slice a8 (dig r).length c8] 25)) := ⟨_, rfl⟩
    have gg : Old w8 w9 := by rw [e9]; exact (Old.refl _).alloc _
    have HG4 : Hid (Old w w9) := Old.trans HG3.out (Old.trans g8 gg)
    have SC4 : Hid (StW w9 (w.heap.size + 1 + 1) (.bool false) (.slice none 0 0) 25) := SC3.out.old (Old.trans g8 gg)
    have SD4 : Hid (StW w9 (w.heap.size + 1 + 1 + 1) (.bool false) (.slice none 0 0) 25) := SD3.out.old (Old.trans g8 gg)
    have SX4 : Hid (StW w9 w7.heap.size (.bool (ng q)) (.slice a7 (dg q).length c7) 25) := SX3.out.old (Old.trans g8 gg)
    have SY4 : Hid (StW w9 w8.heap.size (.bool false) (.slice a8 (dig r).length c8) 25) := by rw [e9]; exact StW.new w8 _ _ _
    have O9 : Hid (Own w9 wc.heap.size (.slice a7 (dg q).length c7) (toI (dg q))) := O7.out.old (Old.trans g8 gg)
    have O10 : Hid (Own w9 (w7.heap.size + 1) (.slice a8 (dig r).length c8) (toI (dig r))) := (Own.low o8 (by simp)).old gg
    clear g8 gg o8 SC3 SD3 SX3 HG3 O7 R8
    have E9 : Hid (w9 = (w8.alloc (.cells #[.bool false, .slice a8 (dig r).length c8] 25))) := e9
    clear e9
    go_upto_region 8 with fail
    rw [← E9.out]
    have x0 := SX4.out.c0
    have x1 := SX4.out.c1
    have y0 := SY4.out.c0
    have y1 := SY4.out.c1
    have q0 := SC4.out.c0
    have q1 := SC4.out.c1
    have f0 := SC4.out.f0
    have f1 := SC4.out.f1
    have q2 := SD4.out.c0
    have q3 := SD4.out.c1
    have f2 := SD4.out.f0
    have f3 := SD4.out.f1
    have T4 : Hid (StW ((((w9.setCell ⟨w.heap.size + 1 + 1, 0, none⟩ (.bool (ng q))).setCell ⟨w.heap.size + 1 + 1, 1, none⟩ (.slice a7 (dg q).length c7)).setCell ⟨w.heap.size + 1 + 1 + 1, 0, none⟩ (.bool false)).setCell ⟨w.heap.size + 1 + 1 + 1, 1, none⟩ (.slice a8 (dig r).length c8)) (w.heap.size + 1 + 1) (.bool (ng q)) (.slice a7 (dg q).length c7) 25) := set_two _ _ (StW.set2 SC4.out _ _) (by omega)
    have T5 : Hid (StW ((((w9.setCell ⟨w.heap.size + 1 + 1, 0, none⟩ (.bool (ng q))).setCell ⟨w.heap.size + 1 + 1, 1, none⟩ (.slice a7 (dg q).length c7)).setCell ⟨w.heap.size + 1 + 1 + 1, 0, none⟩ (.bool false)).setCell ⟨w.heap.size + 1 + 1 + 1, 1, none⟩ (.slice a8 (dig r).length c8)) (w.heap.size + 1 + 1 + 1) (.bool false) (.slice a8 (dig r).length c8) 25) := StW.set2 (x := .bool false) (y := .slice none 0 0) (set_two _ _ SD4.out (by omega)) _ _
    have HO : Hid (Old w ((((w9.setCell ⟨w.heap.size + 1 + 1, 0, none⟩ (.bool (ng q))).setCell ⟨w.heap.size + 1 + 1, 1, none⟩ (.slice a7 (dg q).length c7)).setCell ⟨w.heap.size + 1 + 1 + 1, 0, none⟩ (.bool false)).setCell ⟨w.heap.size + 1 + 1 + 1, 1, none⟩ (.slice a8 (dig r).length c8))) := (((HG4.out.own (p := ⟨w.heap.size + 1 + 1, 0, none⟩) (by simp; omega) _).own (p := ⟨w.heap.size + 1 + 1, 1, none⟩) (by simp; omega) _).own (p := ⟨w.heap.size + 1 + 1 + 1, 0, none⟩) (by simp; omega) _).own (p := ⟨w.heap.size + 1 + 1 + 1, 1, none⟩) (by simp; omega) _
    have H1 : Hid (Own ((((w9.setCell ⟨w.heap.size + 1 + 1, 0, none⟩ (.bool (ng q))).setCell ⟨w.heap.size + 1 + 1, 1, none⟩ (.slice a7 (dg q).length c7)).setCell ⟨w.heap.size + 1 + 1 + 1, 0, none⟩ (.bool false)).setCell ⟨w.heap.size + 1 + 1 + 1, 1, none⟩ (.slice a8 (dig r).length c8)) w.heap.size (.slice a7 (dg q).length c7) (toI (dg q))) := Own.low (own_set2 (own_set2 O9.out (by omega) _ _) (by omega) _ _) (by omega)
    have H2 : Hid (Own ((((w9.setCell ⟨w.heap.size + 1 + 1, 0, none⟩ (.bool (ng q))).setCell ⟨w.heap.size + 1 + 1, 1, none⟩ (.slice a7 (dg q).length c7)).setCell ⟨w.heap.size + 1 + 1 + 1, 0, none⟩ (.bool false)).setCell ⟨w.heap.size + 1 + 1 + 1, 1, none⟩ (.slice a8 (dig r).length c8)) w.heap.size (.slice a8 (dig r).length c8) (toI (dig r))) := Own.low (own_set2 (own_set2 O10.out (by omega) _ _) (by omega) _ _) (by omega)
    go_region
    all_goals
      go_wp2_with fail
      have hRR := HRR.out
      subst hRR
      exact bodyPost_ret (ret_three Tryd.results7 _ _ rfl rfl rfl T4.out T5.out) rfl ⟨_, _, rfl, Below.drew HO.out, H1.out, H2.out⟩
  · rw [decide_eq_false hd] at cd
    unfold divW at hR
    rw [if_neg hd] at hR
    subst hR
    go_enter Tryd.func7, Tryd.ntmps7
    go_wp2_with fail
    refine (cd _ (HV.out.old HA.out) (HU.out.old HA.out)).mono ?_
    rintro e w1 ⟨rfl, g1⟩
    have SC1 : Hid (StW w1 (w.heap.size + 1 + 1) (.bool false) (.slice none 0 0) 25) := SC0.out.old g1
    have SD1 : Hid (StW w1 (w.heap.size + 1 + 1 + 1) (.bool false) (.slice none 0 0) 25) := SD0.out.old g1
    have HG1 : Hid (Old w w1) := Old.trans HA.out g1
    have q0 := SC1.out.c0
    have q1 := SC1.out.c1
    have f0 := SC1.out.f0
    have f1 := SC1.out.f1
    have q2 := SD1.out.c0
    have q3 := SD1.out.c1
    have f2 := SD1.out.f0
    have f3 := SD1.out.f1
    clear g1 HA SA0 SB0 SC0 SD0 cd
    have T4 : Hid (StW ((((w1.setCell ⟨w.heap.size + 1 + 1, 0, none⟩ (.bool false)).setCell ⟨w.heap.size + 1 + 1, 1, none⟩ (.slice none 0 0)).setCell ⟨w.heap.size + 1 + 1 + 1, 0, none⟩ (.bool false)).setCell ⟨w.heap.size + 1 + 1 + 1, 1, none⟩ (.slice none 0 0)) (w.heap.size + 1 + 1) (.bool false) (.slice none 0 0) 25) := set_two _ _ (StW.set2 SC1.out (.bool false) (.slice none 0 0)) (by omega)
    have T5 : Hid (StW ((((w1.setCell ⟨w.heap.size + 1 + 1, 0, none⟩ (.bool false)).setCell ⟨w.heap.size + 1 + 1, 1, none⟩ (.slice none 0 0)).setCell ⟨w.heap.size + 1 + 1 + 1, 0, none⟩ (.bool false)).setCell ⟨w.heap.size + 1 + 1 + 1, 1, none⟩ (.slice none 0 0)) (w.heap.size + 1 + 1 + 1) (.bool false) (.slice none 0 0) 25) := StW.set2 (x := .bool false) (y := .slice none 0 0) (set_two _ _ SD1.out (by omega)) (.bool false) (.slice none 0 0)
    have HO : Hid (Old w ((((w1.setCell ⟨w.heap.size + 1 + 1, 0, none⟩ (.bool false)).setCell ⟨w.heap.size + 1 + 1, 1, none⟩ (.slice none 0 0)).setCell ⟨w.heap.size + 1 + 1 + 1, 0, none⟩ (.bool false)).setCell ⟨w.heap.size + 1 + 1 + 1, 1, none⟩ (.slice none 0 0))) := (((HG1.out.own (p := ⟨w.heap.size + 1 + 1, 0, none⟩) (by simp; omega) _).own (p := ⟨w.heap.size + 1 + 1, 1, none⟩) (by simp; omega) _).own (p := ⟨w.heap.size + 1 + 1 + 1, 0, none⟩) (by simp; omega) _).own (p := ⟨w.heap.size + 1 + 1 + 1, 1, none⟩) (by simp; omega) _
    go_wp2_with fail
    exact bodyPost_ret (ret_three Tryd.results7 _ _ rfl rfl rfl T4.out T5.out) rfl ⟨_, _, rfl, HO.out, own_nilD _ _, own_nilD _ _⟩
end Go.Proofs.YtjedpceiimceoaaDoor
