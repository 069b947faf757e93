/- Proved: several texts in one: what each proves is said ahead of it. -/
import Derived.Test.YtihjndakgncdaaaGreatDoorFd12
import Derived.Test.YtihjndakgncdaaaGreatDoorFd06
import Derived.Test.YtihjndakgncdaaaGreatDoorFd00
import Derived.Test.YtihjndakgncdaaaGreatDoorLenW
import Derived.Test.YtihjndakgncdaaaGreatDoorFd11
import Derived.Test.YtihjndakgncdaaaGreatDoorFd09
/- Proved: the contract of the program's BitsOf (and of the library's bits.Len below 2 to the 32). -/
namespace Go.Proofs.YtihjndakgncdaaaGreatDoor
open Go.ChangeShapes Go.WideShapes Go.ChangeAt Go.RowKit
open M2
set_option linter.unusedVariables false
set_option linter.unusedSimpArgs false
theorem bits_Len_small (x : Nat) (w : World) (h1 : x < 268435456) :
    Calls Tryz.prog 60 #[.int .u64 (x : Int)] w fun e w' => e = .returned (.int .i64 (Lib.bitLen x)) ∧ w' = w := by
  have c := bits_Len64_small (x : Int) w (by omega) (by omega)
  rw [Int.toNat_natCast] at c
  have HC : Hid (Calls Tryz.prog 82 #[.int .u64 (x : Int)] w fun e w' => e = .returned (.int .i64 (Lib.bitLen x)) ∧ w' = w) := c
  clear c
  go_enter Tryz.func60, Tryz.ntmps60
  go_wp2_with (go_at_call 82; refine HC.out.mono ?_; rintro e w' ⟨rfl, rfl⟩)
  go_ret
  exact ⟨rfl, rfl⟩
set_option maxHeartbeats 4000000 in
theorem impl_bitsOf (n : Bool) (xs : List Int) (v : Value) (w : World) (hv : Row w v xs) (la : xs.length ≤ 1048576) :
    Calls Tryz.prog 30 #[.agg #[.bool n, v]] w fun e w' => e = .returned (.int .i64 (bitsW n xs)) ∧ Old w w' := by
  have HV : Hid (Row w v xs) := hv
  obtain ⟨a0, cap0, rfl⟩ := hv.slice
  clear hv
  have HA : Hid (Old w (w.alloc (.cells #[.bool n, .slice a0 xs.length cap0] 30))) := (Old.refl w).alloc _
  have SA0 : Hid (StW (w.alloc (.cells #[.bool n, .slice a0 xs.length cap0] 30)) w.heap.size (.bool n) (.slice a0 xs.length cap0) 30) := StW.new w _ _ _
  by_cases hga : Good n xs
  · have cga := fun W (h : Row W (.slice a0 xs.length cap0) xs) => good_impl n xs _ W h la
    rw [decide_eq_true hga] at cga
    have hR : bitsW n xs = ((lenB (nat xs) : Nat) : Int) := by unfold bitsW; rw [if_pos hga]
    rw [hR]
    obtain ⟨ex, gx, lx⟩ := good_gw hga
    rcases Nat.eq_zero_or_pos xs.length with hx0 | hx0
    · have HE : Hid (((lenB (nat xs) : Nat) : Int) = 0) := by
        have h1 : (nat xs).length = 0 := by rw [nat_len]; exact hx0
        show ((lenB (nat xs) : Nat) : Int) = 0
        unfold lenB
        rw [if_pos h1]; rfl
      have hx0' : (xs.length : Int) = 0 := by omega
      have d0 : ((xs.length : Int) == 0) = true := by rw [hx0']; rfl
      clear hga ex gx lx hR hx0'
      obtain rfl := List.length_eq_zero_iff.1 hx0
      clear hx0
      go_enter Tryz.func30, Tryz.ntmps30
      go_wp2_with fail
      refine (cga _ (HV.out.old HA.out)).mono ?_
      rintro e w1 ⟨rfl, g1⟩
      have HG1 : Hid (Old w w1) := Old.trans HA.out g1
      clear g1
      go_wp2_with fail
      go_ret
      exact ⟨congrArg (fun z => Ending.returned (.int .i64 z)) HE.out.symm, HG1.out⟩
    · have HV2 : Hid (Row w (.slice a0 xs.length cap0) (toI (nat xs))) := by rw [ex]; exact HV.out
      obtain ⟨b, o, rfl, hb, hc⟩ := Row.at HV2.out (by rw [nat_len]; exact hx0)
      obtain ⟨k, hk⟩ : ∃ k, xs.length = k + 1 := ⟨xs.length - 1, by omega⟩
      have HL : Hid ((nat xs).length = k + 1) := by show (nat xs).length = k + 1; rw [nat_len]; exact hk
      have cl := hc k (by rw [HL.out]; omega)
      have l1 := gx.1.1.getD k
      have HE : Hid (((lenB (nat xs) : Nat) : Int) = (k : Int) * 28 + (Lib.bitLen ((nat xs).getD k 0) : Int)) := by
        show ((lenB (nat xs) : Nat) : Int) = _
        unfold lenB
        rw [if_neg (by rw [HL.out]; omega), HL.out, Nat.add_sub_cancel]
        omega
      have lb := bitLen_p ((nat xs).getD k 0) l1
      generalize (nat xs).getD k 0 = x at *
      have hx : x < 268435456 := l1
      have hb28 : Lib.bitLen x ≤ 28 := lb.1
      have CL := fun W => bits_Len_small x W hx
      clear hc lb l1 hga ex gx lx hR
      have hk40 : k ≤ 1048576 := by omega
      have d0 : ((xs.length : Int) == 0) = false := beq_eq_false_iff_ne.2 (by omega)
      have i1 : (xs.length : Int) - 1 = (k : Int) := by omega
      have i2 : (k : Int) < (xs.length : Int) := by omega
      have i3 : k < xs.length := by omega
      clear hk
      have HB : Hid (b < w.heap.size) := hb
      clear hx0 hb
      generalize Lib.bitLen x = l at *
      go_enter Tryz.func30, Tryz.ntmps30
      go_wp2_with fail
      refine (cga _ (HV.out.old HA.out)).mono ?_
      rintro e w1 ⟨rfl, g1⟩
      have HG1 : Hid (Old w w1) := Old.trans HA.out g1
      have S1 := SA0.out.old g1
      have s0 := S1.c0
      have s1 := S1.c1
      have c1 : w1.cell? ⟨b, o + k, none⟩ = some (.int .i64 (x : Int)) := (HG1.out.cell (p := ⟨b, o + k, none⟩) HB.out).trans cl
      clear g1 S1 cl
      go_wp2_with (go_at_call 60; refine (CL _).mono ?_; rintro e w' ⟨rfl, rfl⟩)
      go_ret
      exact ⟨congrArg (fun z => Ending.returned (.int .i64 z)) HE.out.symm, HG1.out⟩
  · have cga := fun W (h : Row W (.slice a0 xs.length cap0) xs) => good_impl n xs _ W h la
    rw [decide_eq_false hga] at cga
    have hR : bitsW n xs = 0 := by unfold bitsW; rw [if_neg hga]
    rw [hR]
    clear hga hR
    go_enter Tryz.func30, Tryz.ntmps30
    go_wp2_with fail
    refine (cga _ (HV.out.old HA.out)).mono ?_
    rintro e w1 ⟨rfl, g1⟩
    have HG1 : Hid (Old w w1) := Old.trans HA.out g1
    clear g1
    go_wp2_with fail
    go_ret
    exact ⟨rfl, HG1.out⟩
end Go.Proofs.YtihjndakgncdaaaGreatDoor
/- Proved: the contract of the program's divideSizes where the divisor has two limbs or more. -/
namespace Go.Proofs.YtihjndakgncdaaaGreatDoor
open Go.ChangeShapes Go.WideShapes Go.ChangeAt Go.RowKit
open M2
set_option linter.unusedVariables false
set_option linter.unusedSimpArgs false
theorem pad_top {b m : Nat} (h : cnt b = m + 2) : (pad b).getD (m + 1) 0 = b / LB ^ (m + 1) ∧ b / LB ^ (m + 1) < 268435456 ∧ b / LB ^ (m + 1) ≠ 0 := by
  have hl := cnt_lt b
  rw [h] at hl
  have h0 : b ≠ 0 := fun e => by rw [e, cnt_zero] at h; omega
  have hg := cnt_ge h0
  rw [h, show m + 2 - 1 = m + 1 by omega] at hg
  have h1 : b / LB ^ (m + 1) < 268435456 := Nat.div_lt_of_lt_mul (show b < LB ^ (m + 1) * LB by rw [← Nat.pow_succ]; exact hl)
  refine ⟨?_, h1, ?_⟩
  · rw [pad_at]
    exact Nat.mod_eq_of_lt h1
  · have := (Nat.le_div_iff_mul_le (pw (m + 1))).2 (show 1 * LB ^ (m + 1) ≤ b by rw [Nat.one_mul]; exact hg)
    omega
theorem wrap_small (s : Nat) (h : s ≤ 134217728) : wrap64 (s : Int) = (s : Int) := by unfold wrap64; omega
set_option maxRecDepth 100000 in
set_option maxHeartbeats 8000000 in
theorem div_long (a b m p0 : Nat) (w : World) (ha : cnt a ≤ 40) (hb2 : cnt b = m + 2) (ha2 : cnt a = p0 + m + 2) (hge : b ≤ a) :
    Calls Tryz.prog 63 #[.agg (szV a), .agg (szV b)] w fun e w' => e = .returned (.tuple #[.agg (szV (a / b)), .agg (szV (a % b))]) ∧ Old w w' := by
  have hb : cnt b ≤ 40 := by omega
  have HPA := hidP (pad_len' ha (by omega))
  have HPB := hidP (pad_len' hb (by omega))
  have HA0 : Hid (Sz ((((w.alloc (.cells (szA (pad a) (cnt a)) 53)).alloc (.cells (szA (pad b) (cnt b)) 53)).alloc (.cells Tryz.zeroCells53 53)).alloc (.cells Tryz.zeroCells53 53)) w.heap.size (pad a) (cnt a)) := (((Sz.new w _ _ HPA.out).alloc _).alloc _).alloc _
  have HB0 : Hid (Sz ((((w.alloc (.cells (szA (pad a) (cnt a)) 53)).alloc (.cells (szA (pad b) (cnt b)) 53)).alloc (.cells Tryz.zeroCells53 53)).alloc (.cells Tryz.zeroCells53 53)) (w.heap.size + 1) (pad b) (cnt b)) := ((Sz.new' _ _ _ _ HPB.out (by simp)).alloc _).alloc _
  have HX0 : Hid (Sz ((((w.alloc (.cells (szA (pad a) (cnt a)) 53)).alloc (.cells (szA (pad b) (cnt b)) 53)).alloc (.cells Tryz.zeroCells53 53)).alloc (.cells Tryz.zeroCells53 53)) (w.heap.size + 1 + 1) (ext []) 0) := (Sz.zero _ _ (by simp)).alloc _
  have HY0 : Hid (Sz ((((w.alloc (.cells (szA (pad a) (cnt a)) 53)).alloc (.cells (szA (pad b) (cnt b)) 53)).alloc (.cells Tryz.zeroCells53 53)).alloc (.cells Tryz.zeroCells53 53)) (w.heap.size + 1 + 1 + 1) (ext []) 0) := Sz.zero _ _ (by simp)
  have HO0 : Hid (Old w ((((w.alloc (.cells (szA (pad a) (cnt a)) 53)).alloc (.cells (szA (pad b) (cnt b)) 53)).alloc (.cells Tryz.zeroCells53 53)).alloc (.cells Tryz.zeroCells53 53))) := ((((Old.refl w).alloc _).alloc _).alloc _).alloc _
  have cc := fun W => cmp_sz a b W (by omega) (by omega)
  have hz : ¬ cmpN a b < 0 := by unfold cmpN; rw [if_neg (by omega)]; split <;> omega
  obtain ⟨z, hze⟩ : ∃ z, cmpN a b = z := ⟨_, rfl⟩
  rw [hze] at cc hz
  have dz := decide_eq_false hz
  obtain ⟨x1, x2, x3⟩ := pad_top hb2
  obtain ⟨L1, V1, s1, s2⟩ := stretch_long (s := stretch (b / LB ^ (m + 1))) hb2 ha2 rfl
  obtain ⟨D1, D2⟩ := stretch_div a b (stretch (b / LB ^ (m + 1))) s1
  obtain ⟨l1, l2⟩ := bitLen_p (b / LB ^ (m + 1)) x2
  have cl0 := fun W => bits_Len_small (b / LB ^ (m + 1)) W x2
  have hst : stretch (b / LB ^ (m + 1)) = 2 ^ (28 - Lib.bitLen (b / LB ^ (m + 1))) := rfl
  have HX1 := hidP x1
  generalize b / LB ^ (m + 1) = x at *
  generalize Lib.bitLen x = l at *
  obtain ⟨k, hk⟩ : ∃ k, 28 - l = k := ⟨_, rfl⟩
  have ek : (28 : Int) - (l : Int) = (k : Int) := by omega
  rw [hk] at hst
  have HST := hidP hst
  generalize stretch x = s at *
  have i2 : ((m + 1 : Nat) : Int) < 80 := by omega
  have HM := hidP hb2
  have db1 : ((cnt b : Int) == 1) = false := beq_eq_false_iff_ne.2 (by omega)
  have eb : (cnt b : Int) - 1 = ((m + 1 : Nat) : Int) := by omega
  have hm40 : m + 2 ≤ 40 ∧ p0 + m + 2 ≤ 40 := by omega
  have HAE := hidP ha2
  have HL1 := hidP L1
  have HV1 := hidP V1
  have HD1 := hidP D1
  have HD2 := hidP D2
  clear ha2 hb2 L1 V1 D1 D2
  clear hst hk l2
  have HP0 : Hid (IntKind.i64.wrap ((cnt a : Int) - (cnt b : Int)) = (p0 : Int)) := by
    show _ = _
    have h1 := HAE.out
    rw [IntKind.wrap_i64]
    omega
  have ca := fun W => scaled_sz a s 0 W (Nat.le_trans ha (by decide)) (Nat.le_trans s2 (by decide)) (by decide)
  rw [Nat.add_zero] at ca
  have cb := fun W => scaled_sz b s 0 W (Nat.le_trans hb (by decide)) (Nat.le_trans s2 (by decide)) (by decide)
  rw [Nat.add_zero] at cb
  have cl := fun W => long_sz (a * s) (b * s) p0 m (cnt (a * s)) W HL1.out HV1.out (Nat.le_trans hm40.2 (by decide))
  have hvp := HL1.out.pos
  have HCR : Hid (cnt (a * s % (b * s)) ≤ 40) := Nat.le_trans (cnt_mono (Nat.le_of_lt (Nat.mod_lt _ hvp))) (by rw [HV1.out]; exact hm40.1)
  have cw := fun W => word_sz (a * s % (b * s)) s W (Nat.le_trans HCR.out (by decide)) s1 (Nat.le_trans s2 (by decide))
  rw [HD2.out] at cw
  rw [HD1.out] at cl
  have HLQ : Hid ((pad (a / b)).length = 80) := pad_len' (Nat.le_trans (cnt_mono (Nat.div_le_self _ _)) ha) (by omega)
  have HLR := hidP (pad_len' HCR.out (by omega))
  have HLM : Hid ((pad (a % b)).length = 80) := pad_len' (Nat.le_trans (cnt_mono (Nat.mod_le _ _)) ha) (by omega)
  have e2 : (2 : Int) ^ k = (s : Int) := by rw [HST.out]; simp
  have ew : wrap64 ((2 : Int) ^ k) = (s : Int) := by rw [e2]; exact wrap_small s s2
  clear e2
  unfold szV at *
  generalize a * s % (b * s) = lr at *
  generalize a * s = A at *
  generalize b * s = V at *
  generalize a % b = r at *
  generalize a / b = q at *
  generalize lr % s = r2 at *
  clear hz hze hge x1
  go_enter Tryz.func63, Tryz.ntmps63
  go_wp2_with (first | ((with_reducible refine load_sz HA0.out ?_ ?_); exact rfl; simp only [Act.put, List.setIfInBounds_toArray, List.set_cons_succ, List.set_cons_zero]) | ((with_reducible refine load_sz HB0.out ?_ ?_); exact rfl; simp only [Act.put, List.setIfInBounds_toArray, List.set_cons_succ, List.set_cons_zero]))
  refine (cc _).mono ?_
  rintro e w2 ⟨rfl, g2⟩
  have HA2 := hidP (HA0.out.old g2)
  have HB2 := hidP (HB0.out.old g2)
  have HX2 := hidP (HX0.out.old g2)
  have HY2 := hidP (HY0.out.old g2)
  have HO2 := hidP (Old.trans HO0.out g2)
  have hs2 := HY2.out.lt
  clear g2 HA0 HB0 HX0 HY0 HO0 cc
  have c1 := HB2.out.cnt
  have c2 : w2.cell? ⟨w.heap.size + 1, m + 1, none⟩ = some (.int .i64 (x : Int)) := by rw [HB2.out.at (j := m + 1) (by omega), HX1.out]
  go_wp2_with (go_at_call 60; refine (cl0 _).mono ?_; rintro e w3 ⟨rfl, hw3⟩; obtain rfl : w2 = w3 := hw3.symm)
  clear c1 c2
  rw [ew]
  refine reg_d7 (pad a) (pad b) (pad A) (pad V) (pad q) (pad lr) (cnt a) (cnt b) (cnt A) (cnt V) (cnt q) (cnt lr) s p0 w w2 (by omega) HA2 HB2 HLQ HLR HP0.out ca cb cl _ _ _ _ _ _ _ _ _ _ _ _ _ _ _ _ _ _ _ _ _ _ _ _ _ _ _ _ _ _ _ _ _ _ _ _ _ _ _ _ _ _ _ _ _ _ _ _ _ _ _ _ _ _ _ _ _ _ _ _ _ _ _ _ _ ?_
  intro p9 p10 W u45 u46 u47 u48 u49 u50 u51 u52 u53 u54 u55 u56 u57 u58 u59 MD
  have HX3 := hidP (HX2.out.old MD.old)
  have HY3 := hidP (HY2.out.old MD.old)
  have HO3 := hidP (Old.trans HO2.out MD.old)
  have H9 := hidP MD.z9
  have H10 := hidP MD.z10
  have hp9 := MD.lo9
  have hW := H9.out.lt
  clear MD ca cb cl
  go_wp2_with (first | ((with_reducible refine load_sz H10.out ?_ ?_); exact rfl; simp only [Act.put, List.setIfInBounds_toArray, List.set_cons_succ, List.set_cons_zero]) | (go_at_call 41; refine (cw _).mono ?_; rintro e w4 ⟨rfl, g4⟩; have HX4 : Hid (Sz (w4.alloc (.cells Tryz.zeroCells53 53)) (w.heap.size + 1 + 1) (ext []) 0) := (HX3.out.old g4).alloc _; have HY4 : Hid (Sz (w4.alloc (.cells Tryz.zeroCells53 53)) (w.heap.size + 1 + 1 + 1) (ext []) 0) := (HY3.out.old g4).alloc _; have H94 : Hid (Sz (w4.alloc (.cells Tryz.zeroCells53 53)) p9 (pad q) (cnt q)) := (H9.out.old g4).alloc _; have HO4 : Hid (Old w (w4.alloc (.cells Tryz.zeroCells53 53))) := (Old.trans HO3.out g4).alloc _; have HZ4 := hidP (Sz.zero w4 _ rfl); have hs4 := g4.size; clear g4) | ((with_reducible refine store_sz HZ4.out (pad r) (cnt r) HLM.out ?_ ?_ ?_); exact rfl; exact rfl; simp only [Act.put]))
  refine reg_d9 (pad q) (pad r) (cnt q) (cnt r) p9 w4.heap.size w _ (by omega) (by omega) (H94.out.otherRow (by omega) _) (HZ4.out.row (pad r) (cnt r) HLM.out) (HX4.out.otherRow (by omega) _) (HY4.out.otherRow (by omega) _) (HO4.out.row (by omega) _) _ _ _ _ _ _ _ _ _ _ _ _ _ _ _ _ _ _ _ _ _ _ _ _ _ _ _ _ _ _ _ _ _ _ _ _ _ _ _ _ _ _ _ _ _ _ _ _ _ _ _ _ _ _ _ _ _ _ _ _ _ _ _ _ ?_
  intro W5 u66 u67 hz1 hz2 ho
  go_wp2_with fail
  exact bodyPost_ret (ret_sz2 Tryz.results63 _ _ rfl rfl hz1 hz2) rfl ⟨rfl, ho⟩
end Go.Proofs.YtihjndakgncdaaaGreatDoor
/- Proved: the contract of the program's divideSizes: the quotient and what is left. -/
namespace Go.Proofs.YtihjndakgncdaaaGreatDoor
open M2
theorem divide_sz (a b : Nat) (w : World) (ha : cnt a ≤ 40) (hb : cnt b ≤ 40) (hpos : 0 < b) :
    Calls Tryz.prog 63 #[.agg (szV a), .agg (szV b)] w fun e w' => e = .returned (.tuple #[.agg (szV (a / b)), .agg (szV (a % b))]) ∧ Old w w' := by
  by_cases h : a < b
  · exact div_lt a b w ha hb h
  · have h1 := cnt_pos (show b ≠ 0 by omega)
    by_cases h2 : cnt b = 1
    · exact div_one a b w ha h2 (by omega)
    · have h3 : cnt b ≤ cnt a := cnt_mono (by omega)
      exact div_long a b (cnt b - 2) (cnt a - cnt b) w ha (by omega) (by omega) (by omega)
end Go.Proofs.YtihjndakgncdaaaGreatDoor
