/- Proved: several texts in one: what each proves is said ahead of it. -/
import Derived.Test.YtfgooclnohnkmaaGreatDoorWp22
import Derived.Test.YtfgooclnohnkmaaGreatDoorWp23
import Derived.Test.YtfgooclnohnkmaaGreatDoorWp24
import Derived.Test.YtfgooclnohnkmaaGreatDoorWp10
import Derived.Test.YtfgooclnohnkmaaGreatDoorWp03
import Derived.Test.YtfgooclnohnkmaaGreatDoorWp11
import Derived.Test.YtfgooclnohnkmaaGreatDoorWp13
import Derived.Test.YtfgooclnohnkmaaGreatDoorWp18
import Derived.Deep.RegionHeld3
import Derived.Test.YtfgooclnohnkmaaGreatDoorWp12
import Derived.Test.YtfgooclnohnkmaaGreatDoorWp09
import Derived.Test.YtfgooclnohnkmaaGreatDoorWp06
import Derived.Test.YtfgooclnohnkmaaGreatDoorWp04
/- Proved: the contract of the program's divideSizes where the divisor has two limbs or more. -/
namespace Go.Proofs.YtfgooclnohnkmaaGreatDoor
open Go.ChangeShapes Go.WideShapes Go.ChangeAt Go.RowKit
open M2
set_option linter.unusedVariables false
set_option linter.unusedSimpArgs false
theorem pad_top {b m : Nat} (h : cnt b = m + 2) : (pad b).getD (m + 1) 0 = b / LB ^ (m + 1) ∧ b / LB ^ (m + 1) < 268435456 ∧ b / LB ^ (m + 1) ≠ 0 := by
  have hl := cnt_lt b
  rw [h] at hl
  have h0 : b ≠ 0 := fun e => by rw [e, cnt_zero] at h; omega
  have hg := cnt_ge h0
  rw [h, show m + 2 - 1 = m + 1 by omega] at hg
  have h1 : b / LB ^ (m + 1) < 268435456 := Nat.div_lt_of_lt_mul (show b < LB ^ (m + 1) * LB by rw [← Nat.pow_succ]; exact hl)
  refine ⟨?_, h1, ?_⟩
  · rw [pad_at]
    exact Nat.mod_eq_of_lt h1
  · have := (Nat.le_div_iff_mul_le (pw (m + 1))).2 (show 1 * LB ^ (m + 1) ≤ b by rw [Nat.one_mul]; exact hg)
    omega
theorem wrap_small (s : Nat) (h : s ≤ 134217728) : wrap64 (s : Int) = (s : Int) := by unfold wrap64; omega
set_option maxRecDepth 100000 in
set_option maxHeartbeats 8000000 in
theorem div_long (a b m p0 : Nat) (w : World) (ha : cnt a ≤ 40) (hb2 : cnt b = m + 2) (ha2 : cnt a = p0 + m + 2) (hge : b ≤ a) :
    Calls Tryz.prog 77 #[.agg (szV a), .agg (szV b)] w fun e w' => e = .returned (.tuple #[.agg (szV (a / b)), .agg (szV (a % b))]) ∧ Old w w' := by
  have hb : cnt b ≤ 40 := by omega
  have HPA : Hid ((pad a).length = 80) := pad_len' ha (by omega)
  have HPB : Hid ((pad b).length = 80) := pad_len' hb (by omega)
  have HA0 : Hid (Sz ((((w.alloc (.cells (szA (pad a) (cnt a)) 95)).alloc (.cells (szA (pad b) (cnt b)) 95)).alloc (.cells Tryz.zeroCells95 95)).alloc (.cells Tryz.zeroCells95 95)) w.heap.size (pad a) (cnt a)) := (((Sz.new w _ _ HPA.out).alloc _).alloc _).alloc _
  have HB0 : Hid (Sz ((((w.alloc (.cells (szA (pad a) (cnt a)) 95)).alloc (.cells (szA (pad b) (cnt b)) 95)).alloc (.cells Tryz.zeroCells95 95)).alloc (.cells Tryz.zeroCells95 95)) (w.heap.size + 1) (pad b) (cnt b)) := ((Sz.new' _ _ _ _ HPB.out (by simp)).alloc _).alloc _
  have HX0 : Hid (Sz ((((w.alloc (.cells (szA (pad a) (cnt a)) 95)).alloc (.cells (szA (pad b) (cnt b)) 95)).alloc (.cells Tryz.zeroCells95 95)).alloc (.cells Tryz.zeroCells95 95)) (w.heap.size + 1 + 1) (ext []) 0) := (Sz.zero _ _ (by simp)).alloc _
  have HY0 : Hid (Sz ((((w.alloc (.cells (szA (pad a) (cnt a)) 95)).alloc (.cells (szA (pad b) (cnt b)) 95)).alloc (.cells Tryz.zeroCells95 95)).alloc (.cells Tryz.zeroCells95 95)) (w.heap.size + 1 + 1 + 1) (ext []) 0) := Sz.zero _ _ (by simp)
  have HO0 : Hid (Old w ((((w.alloc (.cells (szA (pad a) (cnt a)) 95)).alloc (.cells (szA (pad b) (cnt b)) 95)).alloc (.cells Tryz.zeroCells95 95)).alloc (.cells Tryz.zeroCells95 95))) := ((((Old.refl w).alloc _).alloc _).alloc _).alloc _
  have cc := fun W => cmp_sz a b W (by omega) (by omega)
  have hz : ¬ cmpN a b < 0 := by unfold cmpN; rw [if_neg (by omega)]; split <;> omega
  obtain ⟨z, hze⟩ : ∃ z, cmpN a b = z := ⟨_, rfl⟩
  rw [hze] at cc hz
  have dz : decide (z < 0) = false := decide_eq_false hz
  obtain ⟨x1, x2, x3⟩ := pad_top hb2
  obtain ⟨L1, V1, s1, s2⟩ := stretch_long (s := stretch (b / LB ^ (m + 1))) hb2 ha2 rfl
  obtain ⟨D1, D2⟩ := stretch_div a b (stretch (b / LB ^ (m + 1))) s1
  obtain ⟨l1, l2⟩ := bitLen_p (b / LB ^ (m + 1)) x2
  have cl0 := fun W => bits_Len_small (b / LB ^ (m + 1)) W x2
  have hst : stretch (b / LB ^ (m + 1)) = 2 ^ (28 - Lib.bitLen (b / LB ^ (m + 1))) := rfl
  have HX1 : Hid ((pad b).getD (m + 1) 0 = b / LB ^ (m + 1)) := x1
  generalize b / LB ^ (m + 1) = x at *
  generalize Lib.bitLen x = l at *
  obtain ⟨k, hk⟩ : ∃ k, 28 - l = k := ⟨_, rfl⟩
  have ek : (28 : Int) - (l : Int) = (k : Int) := by omega
  rw [hk] at hst
  have hkb : k ≤ 28 := by omega
  have HST : Hid (stretch x = 2 ^ k) := hst
  generalize stretch x = s at *
  have i1 : ((m + 2 : Nat) : Int) - 1 = ((m + 1 : Nat) : Int) := by omega
  have i2 : ((m + 1 : Nat) : Int) < 80 := by omega
  have HM : Hid (cnt b = m + 2) := hb2
  have db1 : ((cnt b : Int) == 1) = false := beq_eq_false_iff_ne.2 (by omega)
  have eb : (cnt b : Int) - 1 = ((m + 1 : Nat) : Int) := by omega
  have hm40 : m + 2 ≤ 40 ∧ p0 + m + 2 ≤ 40 := by omega
  have HAE : Hid (cnt a = p0 + m + 2) := ha2
  have HL1 : Hid (Long (a * s) (b * s) p0 m) := L1
  have HV1 : Hid (cnt (b * s) = m + 2) := V1
  have HD1 : Hid (a * s / (b * s) = a / b) := D1
  have HD2 : Hid (a * s % (b * s) / s = a % b) := D2
  clear ha2 hb2 L1 V1 D1 D2
  clear hst hk l2
  have HP0 : Hid (IntKind.i64.wrap ((cnt a : Int) - (cnt b : Int)) = (p0 : Int)) := by
    show _ = _
    have h1 := HAE.out
    have h2 := HM.out
    rw [IntKind.wrap_i64]
    omega
  have ca := fun W => scaled_sz a s 0 W (Nat.le_trans ha (by decide)) (Nat.le_trans s2 (by decide)) (by decide)
  rw [Nat.add_zero] at ca
  have cb := fun W => scaled_sz b s 0 W (Nat.le_trans hb (by decide)) (Nat.le_trans s2 (by decide)) (by decide)
  rw [Nat.add_zero] at cb
  have cl := fun W => long_sz (a * s) (b * s) p0 m (cnt (a * s)) W HL1.out HV1.out (Nat.le_trans hm40.2 (by decide))
  have hvp : 0 < b * s := HL1.out.pos
  have HCR : Hid (cnt (a * s % (b * s)) ≤ 40) := Nat.le_trans (cnt_mono (Nat.le_of_lt (Nat.mod_lt _ hvp))) (by rw [HV1.out]; exact hm40.1)
  have cw := fun W => word_sz (a * s % (b * s)) s W (Nat.le_trans HCR.out (by decide)) s1 (Nat.le_trans s2 (by decide))
  rw [HD2.out] at cw
  rw [HD1.out] at cl
  have HLQ : Hid ((pad (a / b)).length = 80) := pad_len' (Nat.le_trans (cnt_mono (Nat.div_le_self _ _)) ha) (by omega)
  have HLR : Hid ((pad (a * s % (b * s))).length = 80) := pad_len' HCR.out (by omega)
  have HLM : Hid ((pad (a % b)).length = 80) := pad_len' (Nat.le_trans (cnt_mono (Nat.mod_le _ _)) ha) (by omega)
  have e2 : (2 : Int) ^ k = (s : Int) := by rw [HST.out]; simp
  have ew : wrap64 ((2 : Int) ^ k) = (s : Int) := by rw [e2]; exact wrap_small s s2
  clear e2
  unfold szV at *
  generalize a * s % (b * s) = lr at *
  generalize a * s = A at *
  generalize b * s = V at *
  generalize a % b = r at *
  generalize a / b = q at *
  generalize lr % s = r2 at *
  clear hz hze hge x1
  go_enter Tryz.func77, Tryz.ntmps77
  go_wp2_with (first | ((with_reducible refine load_sz HA0.out ?_ ?_); exact rfl; simp only [Act.put, List.setIfInBounds_toArray, List.set_cons_succ, List.set_cons_zero]) | ((with_reducible refine load_sz HB0.out ?_ ?_); exact rfl; simp only [Act.put, List.setIfInBounds_toArray, List.set_cons_succ, List.set_cons_zero]))
  refine (cc _).mono ?_
  rintro e w2 ⟨rfl, g2⟩
  have HA2 : Hid (Sz w2 w.heap.size (pad a) (cnt a)) := HA0.out.old g2
  have HB2 : Hid (Sz w2 (w.heap.size + 1) (pad b) (cnt b)) := HB0.out.old g2
  have HX2 : Hid (Sz w2 (w.heap.size + 1 + 1) (ext []) 0) := HX0.out.old g2
  have HY2 : Hid (Sz w2 (w.heap.size + 1 + 1 + 1) (ext []) 0) := HY0.out.old g2
  have HO2 : Hid (Old w w2) := Old.trans HO0.out g2
  have hs2 : w.heap.size + 1 + 1 + 1 < w2.heap.size := HY2.out.lt
  clear g2 HA0 HB0 HX0 HY0 HO0 cc
  have c1 := HB2.out.cnt
  have c2 : w2.cell? ⟨w.heap.size + 1, m + 1, none⟩ = some (.int .i64 (x : Int)) := by rw [HB2.out.at (j := m + 1) (by omega), HX1.out]
  go_wp2_with (go_at_call 70; refine (cl0 _).mono ?_; rintro e w3 ⟨rfl, hw3⟩; obtain rfl : w2 = w3 := hw3.symm)
  clear c1 c2
  rw [ew]
  refine reg_d7 (pad a) (pad b) (pad A) (pad V) (pad q) (pad lr) (cnt a) (cnt b) (cnt A) (cnt V) (cnt q) (cnt lr) s p0 w w2 (by omega) HA2 HB2 HLQ HLR HP0.out ca cb cl _ _ _ _ _ _ _ _ _ _ _ _ _ _ _ _ _ _ _ _ _ _ _ _ _ _ _ _ _ _ _ _ _ _ _ _ _ _ _ _ _ _ _ _ _ _ _ _ _ _ _ _ _ _ _ _ _ _ _ _ _ _ _ _ _ ?_
  intro p9 p10 W u45 u46 u47 u48 u49 u50 u51 u52 u53 u54 u55 u56 u57 u58 u59 MD
  have HX3 : Hid (Sz W (w.heap.size + 1 + 1) (ext []) 0) := HX2.out.old MD.old
  have HY3 : Hid (Sz W (w.heap.size + 1 + 1 + 1) (ext []) 0) := HY2.out.old MD.old
  have HO3 : Hid (Old w W) := Old.trans HO2.out MD.old
  have H9 : Hid (Sz W p9 (pad q) (cnt q)) := MD.z9
  have H10 : Hid (Sz W p10 (pad lr) (cnt lr)) := MD.z10
  have hp9 : w2.heap.size ≤ p9 := MD.lo9
  have hW := H9.out.lt
  have hs3 := MD.old.size
  clear MD ca cb cl
  go_wp2_with (first | ((with_reducible refine load_sz H10.out ?_ ?_); exact rfl; simp only [Act.put, List.setIfInBounds_toArray, List.set_cons_succ, List.set_cons_zero]) | (go_at_call 129; refine (cw _).mono ?_; rintro e w4 ⟨rfl, g4⟩; have HX4 : Hid (Sz (w4.alloc (.cells Tryz.zeroCells95 95)) (w.heap.size + 1 + 1) (ext []) 0) := (HX3.out.old g4).alloc _; have HY4 : Hid (Sz (w4.alloc (.cells Tryz.zeroCells95 95)) (w.heap.size + 1 + 1 + 1) (ext []) 0) := (HY3.out.old g4).alloc _; have H94 : Hid (Sz (w4.alloc (.cells Tryz.zeroCells95 95)) p9 (pad q) (cnt q)) := (H9.out.old g4).alloc _; have HO4 : Hid (Old w (w4.alloc (.cells Tryz.zeroCells95 95))) := (Old.trans HO3.out g4).alloc _; have HZ4 : Hid (Sz (w4.alloc (.cells Tryz.zeroCells95 95)) w4.heap.size (ext []) 0) := Sz.zero w4 _ rfl; have hs4 : W.heap.size ≤ w4.heap.size := g4.size; clear g4) | ((with_reducible refine store_sz HZ4.out (pad r) (cnt r) HLM.out ?_ ?_ ?_); exact rfl; exact rfl; simp only [Act.put]))
  refine reg_d9 (pad q) (pad r) (cnt q) (cnt r) p9 w4.heap.size w _ (by omega) (by omega) (H94.out.otherRow (by omega) _) (HZ4.out.row (pad r) (cnt r) HLM.out) (HX4.out.otherRow (by omega) _) (HY4.out.otherRow (by omega) _) (HO4.out.row (by omega) _) _ _ _ _ _ _ _ _ _ _ _ _ _ _ _ _ _ _ _ _ _ _ _ _ _ _ _ _ _ _ _ _ _ _ _ _ _ _ _ _ _ _ _ _ _ _ _ _ _ _ _ _ _ _ _ _ _ _ _ _ _ _ _ _ ?_
  intro W5 u66 u67 hz1 hz2 ho
  go_wp2_with fail
  exact bodyPost_ret (ret_sz2 Tryz.results77 _ _ rfl rfl hz1 hz2) rfl ⟨rfl, ho⟩
end Go.Proofs.YtfgooclnohnkmaaGreatDoor
/- Proved: the contract of the program's divideSizes: the quotient and what is left. -/
namespace Go.Proofs.YtfgooclnohnkmaaGreatDoor
open M2
theorem divide_sz (a b : Nat) (w : World) (ha : cnt a ≤ 40) (hb : cnt b ≤ 40) (hpos : 0 < b) :
    Calls Tryz.prog 77 #[.agg (szV a), .agg (szV b)] w fun e w' => e = .returned (.tuple #[.agg (szV (a / b)), .agg (szV (a % b))]) ∧ Old w w' := by
  by_cases h : a < b
  · exact div_lt a b w ha hb h
  · have h1 := cnt_pos (show b ≠ 0 by omega)
    by_cases h2 : cnt b = 1
    · exact div_one a b w ha h2 (by omega)
    · have h3 : cnt b ≤ cnt a := cnt_mono (by omega)
      exact div_long a b (cnt b - 2) (cnt a - cnt b) w ha (by omega) (by omega) (by omega)
end Go.Proofs.YtfgooclnohnkmaaGreatDoor
/- Proved: whether numbers are residues of a basis, of the program and of the model. -/
namespace Go.Proofs.YtfgooclnohnkmaaGreatDoor
open Go.ChangeShapes Go.WideShapes Go.ChangeAt Go.RowKit
set_option linter.unusedVariables false
set_option linter.unusedSimpArgs false
theorem Row.cells {w : World} {v : Value} {xs : List Int} (h : Row w v xs) (h0 : 0 < xs.length) : ∃ b o cap, v = .slice (some ⟨b, o, none⟩) xs.length cap ∧ b < w.heap.size ∧ ∀ j, j < xs.length → w.cell? ⟨b, o + j, none⟩ = some (.int .i64 (xs.getD j 0)) := by
  rcases h with ⟨a, cap, rfl, rfl⟩ | ⟨b, o, cap, e, hb, _, hc⟩
  · simp at h0
  · exact ⟨b, o, cap, e, hb, hc⟩
end Go.Proofs.YtfgooclnohnkmaaGreatDoor
/- Proved: residues of a basis opened; no function of the program. -/
namespace Go.Proofs.YtfgooclnohnkmaaGreatDoor
open Go.ChangeShapes Go.WideShapes Go.ChangeAt Go.RowKit
open M2
set_option linter.unusedVariables false
set_option linter.unusedSimpArgs false
/-- the number that has the residues -/
def coN (rs ps : List Nat) : Nat := sumN rs ps ps.length % prodN ps
/-- residues of a basis -/
structure Res (rs ps : List Nat) : Prop where
  bas : Bas ps
  len : rs.length = ps.length
  lt : ∀ i, i < ps.length → rs.getD i 0 < ps.getD i 0
theorem coN_cnt {rs ps : List Nat} (h : Res rs ps) : cnt (coN rs ps) ≤ 7 := Nat.le_trans (cnt_mono (Nat.mod_le _ _)) (sumN_cnt h.bas _ (Nat.le_refl _))
end Go.Proofs.YtfgooclnohnkmaaGreatDoor
/- Proved: contracts of the program's composedSize and ComposeWhole. -/
namespace Go.Proofs.YtfgooclnohnkmaaGreatDoor
open Go.ChangeShapes Go.WideShapes Go.ChangeAt Go.RowKit
open M2
set_option linter.unusedVariables false
set_option linter.unusedSimpArgs false
theorem wholeF_any (n : Nat) (w : World) (hn : cnt n ≤ 80) :
    Calls Tryz.prog 56 #[.bool false, .agg (szV n)] w fun e w' => ∃ v, e = .returned (.agg #[.bool false, v]) ∧ Old w w' ∧ Own w' w.heap.size v (toI (dig n)) := by
  by_cases h0 : n = 0
  · subst h0
    refine (whole_none false w).mono ?_
    rintro e w1 ⟨rfl, g1⟩
    refine ⟨_, rfl, g1, ?_⟩
    rw [dig_zero]
    exact nil_own _ _
  · exact whole_some false n w h0 hn
set_option maxRecDepth 100000 in
set_option maxHeartbeats 4000000 in
theorem composed_any (rs ps : List Nat) (v u : Value) (w : World) (hv : Row w v (toZ rs)) (hu : Row w u (toZ ps)) (hf : Fit u) (h : Res rs ps) :
    Calls Tryz.prog 57 #[v, u] w fun e w' => e = .returned (.agg (szV (coN rs ps))) ∧ Old w w' := by
  have hb := h.bas
  have c1 := fun W h1 h2 => sum_any rs ps v u W h1 h2 hf hb h.len h.lt
  have c2 := fun W h2 => productSize_sz ps u W h2 hb.len6 hb.hi
  have hpos : 0 < prodN ps := Nat.pos_of_ne_zero hb.pos
  have c3 := fun W => divide_sz (sumN rs ps ps.length) (prodN ps) W (Nat.le_trans (sumN_cnt hb _ (Nat.le_refl _)) (by omega)) (Nat.le_trans hb.cnt (by omega)) hpos
  have HE : Hid (sumN rs ps ps.length % prodN ps = coN rs ps) := rfl
  rw [HE.out] at c3
  have HLQ : Hid ((pad (sumN rs ps ps.length / prodN ps)).length = 80) := pad_len' (Nat.le_trans (cnt_mono (Nat.div_le_self _ _)) (sumN_cnt hb _ (Nat.le_refl _))) (by omega)
  have HLR : Hid ((pad (coN rs ps)).length = 80) := pad_len' (coN_cnt h) (by omega)
  have HV : Hid (Row w v (toZ rs)) := hv
  have HU : Hid (Row w u (toZ ps)) := hu
  obtain ⟨va, vc, rfl⟩ : ∃ a c, v = .slice a rs.length c := by have := hv.slice; rwa [toZ_len] at this
  obtain ⟨ua, uc, rfl⟩ : ∃ a c, u = .slice a ps.length c := by have := hu.slice; rwa [toZ_len] at this
  have HZ : Hid (Sz (w.alloc (.cells Tryz.zeroCells95 95)) w.heap.size (ext []) 0) := Sz.zero _ _ rfl
  unfold szV at *
  clear hv hu hf h hb hpos HE
  generalize coN rs ps = r at *
  generalize sumN rs ps ps.length / prodN ps = q at *
  generalize sumN rs ps ps.length = S at *
  generalize prodN ps = P at *
  go_enter Tryz.func57, Tryz.ntmps57
  go_wp2_with fail
  refine (c1 _ (HV.out.old ((Old.refl w).alloc _)) (HU.out.old ((Old.refl w).alloc _))).mono ?_
  rintro e w1 ⟨rfl, g1⟩
  have HG1 : Hid (Old w w1) := Old.trans ((Old.refl w).alloc _) g1
  have HZ1 : Hid (Sz w1 w.heap.size (ext []) 0) := HZ.out.old g1
  clear g1
  go_wp2_with fail
  refine (c2 _ (HU.out.old HG1.out)).mono ?_
  rintro e w2 ⟨rfl, g2⟩
  have HG2 : Hid (Old w w2) := Old.trans HG1.out g2
  have HZ2 : Hid (Sz w2 w.heap.size (ext []) 0) := HZ1.out.old g2
  clear g2
  go_wp2_with fail
  refine (c3 _).mono ?_
  rintro e w3 ⟨rfl, g3⟩
  have HG3 : Hid (Old w ((w3.alloc (.cells Tryz.zeroCells95 95)).alloc (.cells Tryz.zeroCells95 95))) := ((Old.trans HG2.out g3).alloc _).alloc _
  have HZ3 : Hid (Sz ((w3.alloc (.cells Tryz.zeroCells95 95)).alloc (.cells Tryz.zeroCells95 95)) w.heap.size (ext []) 0) := ((HZ2.out.old g3).alloc _).alloc _
  have HA3 : Hid (Sz ((w3.alloc (.cells Tryz.zeroCells95 95)).alloc (.cells Tryz.zeroCells95 95)) w3.heap.size (ext []) 0) := (Sz.zero _ _ rfl).alloc _
  have HB3 : Hid (Sz ((w3.alloc (.cells Tryz.zeroCells95 95)).alloc (.cells Tryz.zeroCells95 95)) (w3.heap.size + 1) (ext []) 0) := Sz.zero _ _ (by simp)
  have hs3 : w.heap.size < w3.heap.size := (HZ2.out.old g3).lt
  have HB4 : Hid (Sz (((w3.alloc (.cells Tryz.zeroCells95 95)).alloc (.cells Tryz.zeroCells95 95)).setRow w3.heap.size (szA (pad q) (cnt q))) (w3.heap.size + 1) (ext []) 0) := HB3.out.otherRow (by omega) _
  have HB5 : Hid (Sz ((((w3.alloc (.cells Tryz.zeroCells95 95)).alloc (.cells Tryz.zeroCells95 95)).setRow w3.heap.size (szA (pad q) (cnt q))).setRow (w3.heap.size + 1) (szA (pad r) (cnt r))) (w3.heap.size + 1) (pad r) (cnt r)) := HB4.out.row (pad r) (cnt r) HLR.out
  have HZ5 : Hid (Sz ((((w3.alloc (.cells Tryz.zeroCells95 95)).alloc (.cells Tryz.zeroCells95 95)).setRow w3.heap.size (szA (pad q) (cnt q))).setRow (w3.heap.size + 1) (szA (pad r) (cnt r))) w.heap.size (ext []) 0) := (HZ3.out.otherRow (by omega) _).otherRow (by omega) _
  clear g3
  go_wp2_with (first | ((with_reducible refine store_sz HA3.out (pad q) (cnt q) HLQ.out ?_ ?_ ?_); exact rfl; exact rfl; simp only [Act.put]) | ((with_reducible refine store_sz HB4.out (pad r) (cnt r) HLR.out ?_ ?_ ?_); exact rfl; exact rfl; simp only [Act.put]) | ((with_reducible refine load_sz HB5.out ?_ ?_); exact rfl; simp only [Act.put, List.setIfInBounds_toArray, List.set_cons_succ, List.set_cons_zero]) | ((with_reducible refine store_sz HZ5.out (pad r) (cnt r) HLR.out ?_ ?_ ?_); exact rfl; exact rfl; simp only [Act.put]) | ((with_reducible refine bodyPost_ret (ret_sz Tryz.results57 _ _ ?_ (HZ5.out.row (pad r) (cnt r) HLR.out)) ?_ ?_); exact rfl; exact rfl; exact ⟨rfl, ((HG3.out.row (by omega) _).row (by omega) _).row (Nat.le_refl _) _⟩))
end Go.Proofs.YtfgooclnohnkmaaGreatDoor
/- Proved: the drawn region of centredWhole in which twice the number is held against the product. -/
namespace Go.Proofs.YtfgooclnohnkmaaGreatDoor
open Go.ChangeShapes Go.WideShapes Go.ChangeAt Go.RowKit
open M2
set_option linter.unusedVariables false
set_option linter.unusedSimpArgs false
set_option maxRecDepth 1000000 in
set_option maxHeartbeats 16000000 in
theorem reg_c4 (la lq lA : List Nat) (na nq nA p6 p7 : Nat) (z : Int) (B : Bool) (dz : decide (z < 0) = B) (w2 : World) (HA : Hid (Sz w2 p6 la na)) (HQ : Hid (Sz w2 p7 lq nq))
    (cs : ∀ W, Calls Tryz.prog 133 #[.agg (szA la na), .int .i64 2, .int .i64 0] W fun e w' => e = .returned (.agg (szA lA nA)) ∧ Old W w')
    (cc : ∀ W, Calls Tryz.prog 132 #[.agg (szA lA nA), .agg (szA lq nq)] W fun e w' => e = .returned (.int .i64 z) ∧ Old W w')
    (Q : Exit → Act → World → Prop) (K : Act → World → Prop) (s0 s1 s2 s3 s4 s7 s8 s9 s10 s11 s12 s13 s14 s15 s16 s17 s18 s19 s20 s21 s22 : Value)
    (HK : Hid (∀ (W : World) (u12 u13 u14 u15 : Value), Old w2 W → K ⟨#[s0, s1, s2, s3, s4, .pointer (some ⟨p6, 0, none⟩), .pointer (some ⟨p7, 0, none⟩), s7, s8, s9, s10, s11, u12, u13, u14, u15, .bool B, s17, s18, s19, s20, s21, s22], []⟩ W)) :
    Code.wp Tryz.prog ((Tryz.f63.body.bind (regionAtSum 2)).getD .skip) (Exit.then K Q) ⟨#[s0, s1, s2, s3, s4, .pointer (some ⟨p6, 0, none⟩), .pointer (some ⟨p7, 0, none⟩), s7, s8, s9, s10, s11, s12, s13, s14, s15, s16, s17, s18, s19, s20, s21, s22], []⟩ w2 := by
  conv => arg 2; whnf
  obtain ⟨N, hN, HN9⟩ : ∃ N, (∀ W, Sem.run Tryz.prog (Go.sizeOf 95) W = .ok N W) ∧ Hid (N = 81) := ⟨81, Tryz.sizeOf95, rfl⟩
  have HPA : Hid (la.length = 80) := HA.out.len
  have HPQ : Hid (lq.length = 80) := HQ.out.len
  have hR1 : ∀ W : World, W.heap[p6]? = some (.cells (szA la na) 95 (0, 0)) → Sem.run Tryz.prog (loadCellsFrom ⟨p6, 0, none⟩ 0 N #[]) W = .ok (szA la na) W := fun W h => by rw [HN9.out]; exact run_loadCells_sz h (szA_size HPA.out _)
  have hR2 : ∀ W : World, W.heap[p7]? = some (.cells (szA lq nq) 95 (0, 0)) → Sem.run Tryz.prog (loadCellsFrom ⟨p7, 0, none⟩ 0 N #[]) W = .ok (szA lq nq) W := fun W h => by rw [HN9.out]; exact run_loadCells_sz h (szA_size HPQ.out _)
  have HAS : Hid (∀ W' : World, Old w2 W' → (W'.heap[p6]? = some (.cells (szA la na) 95 (0, 0)) ∧ W'.heap[p7]? = some (.cells (szA lq nq) 95 (0, 0)))) := fun W' g => ⟨(HA.out.old g).blk, (HQ.out.old g).blk⟩
  go_region_held3 (fun W' => W'.heap[p6]? = some (.cells (szA la na) 95 (0, 0)) ∧ W'.heap[p7]? = some (.cells (szA lq nq) 95 (0, 0))) (first | exact HAS.out _ G2.out | exact HAS.out _ G1.out | exact HAS.out _ (Below.drew (Old.refl w2)) | exact HAS.out _ (Old.refl w2) | fail) (first
    | (go_at_call 133; refine (cs _).mono ?_; rintro e w3 ⟨rfl, g3⟩; have G1 : Hid (Old w2 w3) := Old.trans (Below.drew (Old.refl w2)) g3; clear g3)
    | (go_at_call 132; refine (cc _).mono ?_; rintro e w4 ⟨rfl, g4⟩; have G2 : Hid (Old w2 w4) := Old.trans G1.out g4; clear g4)
    | fail)
  all_goals
    go_wp2_with fail
    exact HK.out _ _ _ _ _ G2.out
end Go.Proofs.YtfgooclnohnkmaaGreatDoor
/- Proved: contracts of the program's CentredWhole. -/
namespace Go.Proofs.YtfgooclnohnkmaaGreatDoor
open Go.ChangeShapes Go.WideShapes Go.ChangeAt Go.RowKit
open M2
set_option linter.unusedVariables false
set_option linter.unusedSimpArgs false
theorem ret_w1 {fn : Func} {p : Tmp} (h : fn.results = #[.cell p 27]) (tmps : Array Value) (w : World) {g : Nat} {x y : Value} (hp : tmps.getD p undef = .pointer (some ⟨g, 0, none⟩)) (hs : StW w g x y 27) :
    (results fn tmps).run Tryz.prog w = .ok (.agg #[x, y]) w :=
  results_cell_row h tmps w g 27 #[x, y] (0, 0) _ hp hs Tryz.underlying27 rfl infoWh
set_option maxRecDepth 100000 in
set_option maxHeartbeats 4000000 in
theorem centred_low (rs ps : List Nat) (v u : Value) (w : World) (hv : Row w v (toZ rs)) (hu : Row w u (toZ ps)) (hf : Fit u) (hR : Res rs ps) (hcase : coN rs ps * 2 < prodN ps) :
    Calls Tryz.prog 63 #[v, u] w fun e w' => ∃ v', e = .returned (.agg #[.bool false, v']) ∧ Old w w' ∧ Own w' w.heap.size v' (toI (dig (coN rs ps))) := by
  have hb := hR.bas
  have hl6 := hb.len6
  have c4 := fun W h1 h2 => composed_any rs ps v u W h1 h2 hf hR
  have c5 := fun W h2 => productSize_sz ps u W h2 hb.len6 hb.hi
  have c6 := fun W => scaled_sz (coN rs ps) 2 0 W (Nat.le_trans (coN_cnt hR) (by omega)) (by omega) (by omega)
  rw [Nat.add_zero] at c6
  have hc2 : cnt (coN rs ps * 2) ≤ 80 := by
    refine Nat.le_trans (cnt_le (k := 8) ?_) (by omega)
    have h1 := cnt_lt (coN rs ps)
    have h3 : LB ^ cnt (coN rs ps) ≤ LB ^ 7 := Nat.pow_le_pow_right LB_pos (coN_cnt hR)
    have h4 : LB ^ 8 = LB ^ 7 * LB := Nat.pow_succ ..
    have h5 : LB ^ 7 * 2 ≤ LB ^ 7 * LB := Nat.mul_le_mul_left _ (by decide)
    omega
  have c7 := fun W => cmp_sz (coN rs ps * 2) (prodN ps) W hc2 (Nat.le_trans hb.cnt (by omega))
  have hlt : coN rs ps < prodN ps := Nat.mod_lt _ (Nat.pos_of_ne_zero hb.pos)
  have dz : decide (cmpN (coN rs ps * 2) (prodN ps) < 0) = true := by unfold cmpN; rw [if_pos hcase]; rfl
  have c8 := fun W => wholeF_any (coN rs ps) W (Nat.le_trans (coN_cnt hR) (by omega))
  have HLA : Hid ((pad (coN rs ps)).length = 80) := pad_len' (coN_cnt hR) (by omega)
  have HLP : Hid ((pad (prodN ps)).length = 80) := pad_len' hb.cnt (by omega)
  have HV : Hid (Row w v (toZ rs)) := hv
  have HU : Hid (Row w u (toZ ps)) := hu
  obtain ⟨va, vc, rfl⟩ : ∃ a c, v = .slice a rs.length c := by have := hv.slice; rwa [toZ_len] at this
  obtain ⟨ua, uc, rfl⟩ : ∃ a c, u = .slice a ps.length c := by have := hu.slice; rwa [toZ_len] at this
  have HS : Hid (StW (w.alloc (.cells #[.bool false, .slice none 0 0] 27)) w.heap.size (.bool false) (.slice none 0 0) 27) := StW.new w _ _ _
  have HA : Hid (Old w (w.alloc (.cells #[.bool false, .slice none 0 0] 27))) := (Old.refl w).alloc _
  clear hv hu hf hb hR hc2 hcase hlt
  generalize cmpN (coN rs ps * 2) (prodN ps) = z at *
  generalize coN rs ps * 2 = A2 at *
  generalize coN rs ps = a at *
  generalize prodN ps = P at *
  unfold szV at *
  go_enter Tryz.func63, Tryz.ntmps63
  go_wp2_with fail
  refine (c4 _ (HV.out.old HA.out) (HU.out.old HA.out)).mono ?_
  rintro e w2 ⟨rfl, g2⟩
  have S2 : Hid (StW w2 w.heap.size (.bool false) (.slice none 0 0) 27) := HS.out.old g2
  have HG2 : Hid (Old w w2) := Old.trans HA.out g2
  clear g2
  go_wp2_with fail
  refine (c5 _ (HU.out.old HG2.out)).mono ?_
  rintro e w3 ⟨rfl, g3⟩
  have S3 : Hid (StW w3 w.heap.size (.bool false) (.slice none 0 0) 27) := S2.out.old g3
  have HG3 : Hid (Old w w3) := Old.trans HG2.out g3
  have hs3 : w.heap.size < w3.heap.size := S3.out.lt
  have HA4 : Hid (Sz ((w3.alloc (.cells Tryz.zeroCells95 95)).alloc (.cells Tryz.zeroCells95 95)) w3.heap.size (ext []) 0) := (Sz.zero _ _ rfl).alloc _
  have HB4 : Hid (Sz (((w3.alloc (.cells Tryz.zeroCells95 95)).alloc (.cells Tryz.zeroCells95 95)).setRow w3.heap.size (szA (pad a) (cnt a))) (w3.heap.size + 1) (ext []) 0) := (Sz.zero _ _ (by simp)).otherRow (by omega) _
  have HA6 : Hid (Sz ((((w3.alloc (.cells Tryz.zeroCells95 95)).alloc (.cells Tryz.zeroCells95 95)).setRow w3.heap.size (szA (pad a) (cnt a))).setRow (w3.heap.size + 1) (szA (pad P) (cnt P))) w3.heap.size (pad a) (cnt a)) := (HA4.out.row (pad a) (cnt a) HLA.out).otherRow (by omega) _
  have HB6 : Hid (Sz ((((w3.alloc (.cells Tryz.zeroCells95 95)).alloc (.cells Tryz.zeroCells95 95)).setRow w3.heap.size (szA (pad a) (cnt a))).setRow (w3.heap.size + 1) (szA (pad P) (cnt P))) (w3.heap.size + 1) (pad P) (cnt P)) := HB4.out.row (pad P) (cnt P) HLP.out
  have S6 : Hid (StW ((((w3.alloc (.cells Tryz.zeroCells95 95)).alloc (.cells Tryz.zeroCells95 95)).setRow w3.heap.size (szA (pad a) (cnt a))).setRow (w3.heap.size + 1) (szA (pad P) (cnt P))) w.heap.size (.bool false) (.slice none 0 0) 27) := (setRow_other _ _ _ _ (by omega)).trans ((setRow_other _ _ _ _ (by omega)).trans (S3.out.old (((Old.refl w3).alloc _).alloc _)))
  have HG6 : Hid (Old w ((((w3.alloc (.cells Tryz.zeroCells95 95)).alloc (.cells Tryz.zeroCells95 95)).setRow w3.heap.size (szA (pad a) (cnt a))).setRow (w3.heap.size + 1) (szA (pad P) (cnt P)))) := (((HG3.out.alloc _).alloc _).row (by omega) _).row (by omega) _
  have hs6 : w3.heap.size + 1 < ((((w3.alloc (.cells Tryz.zeroCells95 95)).alloc (.cells Tryz.zeroCells95 95)).setRow w3.heap.size (szA (pad a) (cnt a))).setRow (w3.heap.size + 1) (szA (pad P) (cnt P))).heap.size := HB6.out.lt
  clear g3
  go_wp2_with (first | ((with_reducible refine store_sz HA4.out (pad a) (cnt a) HLA.out ?_ ?_ ?_); exact rfl; exact rfl; simp only [Act.put]) | ((with_reducible refine store_sz HB4.out (pad P) (cnt P) HLP.out ?_ ?_ ?_); exact rfl; exact rfl; simp only [Act.put]))
  generalize ((((w3.alloc (.cells Tryz.zeroCells95 95)).alloc (.cells Tryz.zeroCells95 95)).setRow w3.heap.size (szA (pad a) (cnt a))).setRow (w3.heap.size + 1) (szA (pad P) (cnt P))) = w6 at *
  refine reg_c4 (pad a) (pad P) (pad A2) (cnt a) (cnt P) (cnt A2) w3.heap.size (w3.heap.size + 1) z _ dz w6 HA6 HB6 c6 c7 _ _ _ _ _ _ _ _ _ _ _ _ _ _ _ _ _ _ _ _ _ _ _ ?_
  intro W u23 u24 u25 u26 g7
  have S7 : Hid (StW W w.heap.size (.bool false) (.slice none 0 0) 27) := S6.out.old g7
  have HG7 : Hid (Old w W) := Old.trans HG6.out g7
  have HA7 : Hid (Sz W w3.heap.size (pad a) (cnt a)) := HA6.out.old g7
  have HB7 : Hid (Sz W (w3.heap.size + 1) (pad P) (cnt P)) := HB6.out.old g7
  clear g7
  have S8 := S7
  have HG8 := HG7
  go_wp2_with ((with_reducible refine load_sz HA7.out ?_ ?_); exact rfl; simp only [Act.put, List.setIfInBounds_toArray, List.set_cons_succ, List.set_cons_zero])
  refine (c8 _).mono ?_
  rintro e w9 ⟨v9, rfl, g9, o9⟩
  obtain ⟨a9, cap9, rfl⟩ := (Own.row o9).slice
  have S9 : Hid (StW w9 w.heap.size (.bool false) (.slice none 0 0) 27) := S8.out.old g9
  have HG9 : Hid (Old w w9) := Old.trans HG8.out g9
  have HO9 : Hid (Own w9 W.heap.size (.slice a9 (toI (dig a)).length cap9) (toI (dig a))) := o9
  have hs8 : w.heap.size < W.heap.size := S8.out.lt
  have q0 := S9.out.c0
  have q1 := S9.out.c1
  have f0 := S9.out.f0
  have f1 := S9.out.f1
  clear g9 o9
  go_wp2_with fail
  have MD := two_made (rb := false) HG9.out HO9.out S9.out (Nat.le_of_lt hs8) (Nat.le_refl _) hs8
  exact bodyPost_ret (ret_w1 Tryz.results63 _ _ rfl MD.st) rfl ⟨_, rfl, MD.old, MD.own⟩
set_option maxRecDepth 100000 in
set_option maxHeartbeats 4000000 in
theorem centred_high (rs ps : List Nat) (v u : Value) (w : World) (hv : Row w v (toZ rs)) (hu : Row w u (toZ ps)) (hf : Fit u) (hR : Res rs ps) (hcase : ¬ coN rs ps * 2 < prodN ps) :
    Calls Tryz.prog 63 #[v, u] w fun e w' => ∃ v', e = .returned (.agg #[.bool true, v']) ∧ Old w w' ∧ Own w' w.heap.size v' (toI (dig (prodN ps - coN rs ps))) := by
  have hb := hR.bas
  have hl6 := hb.len6
  have c4 := fun W h1 h2 => composed_any rs ps v u W h1 h2 hf hR
  have c5 := fun W h2 => productSize_sz ps u W h2 hb.len6 hb.hi
  have c6 := fun W => scaled_sz (coN rs ps) 2 0 W (Nat.le_trans (coN_cnt hR) (by omega)) (by omega) (by omega)
  rw [Nat.add_zero] at c6
  have hc2 : cnt (coN rs ps * 2) ≤ 80 := by
    refine Nat.le_trans (cnt_le (k := 8) ?_) (by omega)
    have h1 := cnt_lt (coN rs ps)
    have h3 : LB ^ cnt (coN rs ps) ≤ LB ^ 7 := Nat.pow_le_pow_right LB_pos (coN_cnt hR)
    have h4 : LB ^ 8 = LB ^ 7 * LB := Nat.pow_succ ..
    have h5 : LB ^ 7 * 2 ≤ LB ^ 7 * LB := Nat.mul_le_mul_left _ (by decide)
    omega
  have c7 := fun W => cmp_sz (coN rs ps * 2) (prodN ps) W hc2 (Nat.le_trans hb.cnt (by omega))
  have hlt : coN rs ps < prodN ps := Nat.mod_lt _ (Nat.pos_of_ne_zero hb.pos)
  have dz : decide (cmpN (coN rs ps * 2) (prodN ps) < 0) = false := decide_eq_false (by unfold cmpN; rw [if_neg hcase]; split <;> omega)
  have c9 := fun W => less_sz (prodN ps) (coN rs ps) W (Nat.le_of_lt hlt) (Nat.le_trans hb.cnt (by omega))
  have c8 := fun W => whole_some true (prodN ps - coN rs ps) W (by omega) (Nat.le_trans (cnt_mono (Nat.sub_le _ _)) (Nat.le_trans hb.cnt (by omega)))
  have HLA : Hid ((pad (coN rs ps)).length = 80) := pad_len' (coN_cnt hR) (by omega)
  have HLP : Hid ((pad (prodN ps)).length = 80) := pad_len' hb.cnt (by omega)
  have HV : Hid (Row w v (toZ rs)) := hv
  have HU : Hid (Row w u (toZ ps)) := hu
  obtain ⟨va, vc, rfl⟩ : ∃ a c, v = .slice a rs.length c := by have := hv.slice; rwa [toZ_len] at this
  obtain ⟨ua, uc, rfl⟩ : ∃ a c, u = .slice a ps.length c := by have := hu.slice; rwa [toZ_len] at this
  have HS : Hid (StW (w.alloc (.cells #[.bool false, .slice none 0 0] 27)) w.heap.size (.bool false) (.slice none 0 0) 27) := StW.new w _ _ _
  have HA : Hid (Old w (w.alloc (.cells #[.bool false, .slice none 0 0] 27))) := (Old.refl w).alloc _
  clear hv hu hf hb hR hc2 hcase hlt
  generalize cmpN (coN rs ps * 2) (prodN ps) = z at *
  generalize coN rs ps * 2 = A2 at *
  generalize prodN ps - coN rs ps = d at *
  generalize coN rs ps = a at *
  generalize prodN ps = P at *
  unfold szV at *
  go_enter Tryz.func63, Tryz.ntmps63
  go_wp2_with fail
  refine (c4 _ (HV.out.old HA.out) (HU.out.old HA.out)).mono ?_
  rintro e w2 ⟨rfl, g2⟩
  have S2 : Hid (StW w2 w.heap.size (.bool false) (.slice none 0 0) 27) := HS.out.old g2
  have HG2 : Hid (Old w w2) := Old.trans HA.out g2
  clear g2
  go_wp2_with fail
  refine (c5 _ (HU.out.old HG2.out)).mono ?_
  rintro e w3 ⟨rfl, g3⟩
  have S3 : Hid (StW w3 w.heap.size (.bool false) (.slice none 0 0) 27) := S2.out.old g3
  have HG3 : Hid (Old w w3) := Old.trans HG2.out g3
  have hs3 : w.heap.size < w3.heap.size := S3.out.lt
  have HA4 : Hid (Sz ((w3.alloc (.cells Tryz.zeroCells95 95)).alloc (.cells Tryz.zeroCells95 95)) w3.heap.size (ext []) 0) := (Sz.zero _ _ rfl).alloc _
  have HB4 : Hid (Sz (((w3.alloc (.cells Tryz.zeroCells95 95)).alloc (.cells Tryz.zeroCells95 95)).setRow w3.heap.size (szA (pad a) (cnt a))) (w3.heap.size + 1) (ext []) 0) := (Sz.zero _ _ (by simp)).otherRow (by omega) _
  have HA6 : Hid (Sz ((((w3.alloc (.cells Tryz.zeroCells95 95)).alloc (.cells Tryz.zeroCells95 95)).setRow w3.heap.size (szA (pad a) (cnt a))).setRow (w3.heap.size + 1) (szA (pad P) (cnt P))) w3.heap.size (pad a) (cnt a)) := (HA4.out.row (pad a) (cnt a) HLA.out).otherRow (by omega) _
  have HB6 : Hid (Sz ((((w3.alloc (.cells Tryz.zeroCells95 95)).alloc (.cells Tryz.zeroCells95 95)).setRow w3.heap.size (szA (pad a) (cnt a))).setRow (w3.heap.size + 1) (szA (pad P) (cnt P))) (w3.heap.size + 1) (pad P) (cnt P)) := HB4.out.row (pad P) (cnt P) HLP.out
  have S6 : Hid (StW ((((w3.alloc (.cells Tryz.zeroCells95 95)).alloc (.cells Tryz.zeroCells95 95)).setRow w3.heap.size (szA (pad a) (cnt a))).setRow (w3.heap.size + 1) (szA (pad P) (cnt P))) w.heap.size (.bool false) (.slice none 0 0) 27) := (setRow_other _ _ _ _ (by omega)).trans ((setRow_other _ _ _ _ (by omega)).trans (S3.out.old (((Old.refl w3).alloc _).alloc _)))
  have HG6 : Hid (Old w ((((w3.alloc (.cells Tryz.zeroCells95 95)).alloc (.cells Tryz.zeroCells95 95)).setRow w3.heap.size (szA (pad a) (cnt a))).setRow (w3.heap.size + 1) (szA (pad P) (cnt P)))) := (((HG3.out.alloc _).alloc _).row (by omega) _).row (by omega) _
  have hs6 : w3.heap.size + 1 < ((((w3.alloc (.cells Tryz.zeroCells95 95)).alloc (.cells Tryz.zeroCells95 95)).setRow w3.heap.size (szA (pad a) (cnt a))).setRow (w3.heap.size + 1) (szA (pad P) (cnt P))).heap.size := HB6.out.lt
  clear g3
  go_wp2_with (first | ((with_reducible refine store_sz HA4.out (pad a) (cnt a) HLA.out ?_ ?_ ?_); exact rfl; exact rfl; simp only [Act.put]) | ((with_reducible refine store_sz HB4.out (pad P) (cnt P) HLP.out ?_ ?_ ?_); exact rfl; exact rfl; simp only [Act.put]))
  generalize ((((w3.alloc (.cells Tryz.zeroCells95 95)).alloc (.cells Tryz.zeroCells95 95)).setRow w3.heap.size (szA (pad a) (cnt a))).setRow (w3.heap.size + 1) (szA (pad P) (cnt P))) = w6 at *
  refine reg_c4 (pad a) (pad P) (pad A2) (cnt a) (cnt P) (cnt A2) w3.heap.size (w3.heap.size + 1) z _ dz w6 HA6 HB6 c6 c7 _ _ _ _ _ _ _ _ _ _ _ _ _ _ _ _ _ _ _ _ _ _ _ ?_
  intro W u23 u24 u25 u26 g7
  have S7 : Hid (StW W w.heap.size (.bool false) (.slice none 0 0) 27) := S6.out.old g7
  have HG7 : Hid (Old w W) := Old.trans HG6.out g7
  have HA7 : Hid (Sz W w3.heap.size (pad a) (cnt a)) := HA6.out.old g7
  have HB7 : Hid (Sz W (w3.heap.size + 1) (pad P) (cnt P)) := HB6.out.old g7
  clear g7
  go_wp2_with (first | ((with_reducible refine load_sz HB7.out ?_ ?_); exact rfl; simp only [Act.put, List.setIfInBounds_toArray, List.set_cons_succ, List.set_cons_zero]) | ((with_reducible refine load_sz HA7.out ?_ ?_); exact rfl; simp only [Act.put, List.setIfInBounds_toArray, List.set_cons_succ, List.set_cons_zero]))
  refine (c9 _).mono ?_
  rintro e w8 ⟨rfl, g8⟩
  have S8 : Hid (StW w8 w.heap.size (.bool false) (.slice none 0 0) 27) := S7.out.old g8
  have HG8 : Hid (Old w w8) := Old.trans HG7.out g8
  clear g8
  go_wp2_with fail
  refine (c8 _).mono ?_
  rintro e w9 ⟨v9, rfl, g9, o9⟩
  obtain ⟨a9, cap9, rfl⟩ := (Own.row o9).slice
  have S9 : Hid (StW w9 w.heap.size (.bool false) (.slice none 0 0) 27) := S8.out.old g9
  have HG9 : Hid (Old w w9) := Old.trans HG8.out g9
  have HO9 : Hid (Own w9 w8.heap.size (.slice a9 (toI (dig d)).length cap9) (toI (dig d))) := o9
  have hs8 : w.heap.size < w8.heap.size := S8.out.lt
  have q0 := S9.out.c0
  have q1 := S9.out.c1
  have f0 := S9.out.f0
  have f1 := S9.out.f1
  clear g9 o9
  go_wp2_with fail
  have MD := two_made (rb := true) HG9.out HO9.out S9.out (Nat.le_of_lt hs8) (Nat.le_refl _) hs8
  exact bodyPost_ret (ret_w1 Tryz.results63 _ _ rfl MD.st) rfl ⟨_, rfl, MD.old, MD.own⟩
end Go.Proofs.YtfgooclnohnkmaaGreatDoor
/- Proved: contracts of the program's columnOf and WholesOf. -/
namespace Go.Proofs.YtfgooclnohnkmaaGreatDoor
open Go.ChangeShapes Go.WideShapes Go.ChangeAt Go.RowKit
open M2
set_option linter.unusedVariables false
set_option linter.unusedSimpArgs false
/-- the numbers at place k of all rows -/
def colZ (zss : List (List Int)) (k : Nat) : List Int := zss.map (fun r => r.getD k 0)
theorem colZ_len (zss : List (List Int)) (k : Nat) : (colZ zss k).length = zss.length := by simp [colZ]
theorem colZ_get (zss : List (List Int)) (k j : Nat) (h : j < zss.length) : (colZ zss k).getD j 0 = (zss.getD j []).getD k 0 := by simp [colZ, List.getD, h]
def cqN (zss : List (List Int)) (k : Nat) : List Nat := (colZ zss k).map Int.toNat
def pnN (ps : List Int) : List Nat := ps.map Int.toNat
/-- whether the number at place k is below 0, centred; and its size -/
def ctB (ps : List Int) (zss : List (List Int)) (k : Nat) : Bool := decide (prodN (pnN ps) ≤ coN (cqN zss k) (pnN ps) * 2)
def ctN (ps : List Int) (zss : List (List Int)) (k : Nat) : Nat := if coN (cqN zss k) (pnN ps) * 2 < prodN (pnN ps) then coN (cqN zss k) (pnN ps) else prodN (pnN ps) - coN (cqN zss k) (pnN ps)
def whB (n : Nat) (ps : List Int) (zss : List (List Int)) : List Bool := (List.range n).map (ctB ps zss)
def whX (n : Nat) (ps : List Int) (zss : List (List Int)) : List (List Int) := (List.range n).map (fun k => toI (dig (ctN ps zss k)))
theorem whB_len (n : Nat) (ps : List Int) (zss : List (List Int)) : (whB n ps zss).length = n := by simp [whB]
theorem whX_len (n : Nat) (ps : List Int) (zss : List (List Int)) : (whX n ps zss).length = n := by simp [whX]
theorem whB_get (n : Nat) (ps : List Int) (zss : List (List Int)) (k : Nat) (h : k < n) : (whB n ps zss).getD k false = ctB ps zss k := by simp [whB, List.getD, h]
theorem whX_get (n : Nat) (ps : List Int) (zss : List (List Int)) (k : Nat) (h : k < n) : (whX n ps zss).getD k [] = toI (dig (ctN ps zss k)) := by simp [whX, List.getD, h]
/-- rows of n numbers each, below their primes -/
structure Gr (n : Nat) (ps : List Int) (zss : List (List Int)) : Prop where
  bas : basB ps = true
  len : zss.length = ps.length
  row : ∀ j, j < ps.length → (zss.getD j []).length = n ∧ ∀ i, i < n → 0 ≤ (zss.getD j []).getD i 0 ∧ (zss.getD j []).getD i 0 < ps.getD j 0
theorem toZ_toNat {xs : List Int} (h : ∀ i, i < xs.length → 0 ≤ xs.getD i 0) : toZ (xs.map Int.toNat) = xs := by
  rw [toZ, List.map_map]
  refine (List.map_congr_left fun x hx => ?_).trans (List.map_id _)
  obtain ⟨i, hi, rfl⟩ := List.getElem_of_mem hx
  have := h i hi
  rw [show xs.getD i 0 = xs[i] by simp [List.getD, hi]] at this
  show ((xs[i].toNat : Nat) : Int) = xs[i]
  omega
theorem Gr.ps {n : Nat} {ps : List Int} {zss : List (List Int)} (h : Gr n ps zss) : ps = toZ (pnN ps) ∧ Bas (pnN ps) := by
  obtain ⟨qs, e, hb⟩ := basB_yes h.bas
  have : pnN ps = qs := by unfold pnN; rw [e]; exact toZ_back qs
  rw [this]
  exact ⟨e, hb⟩
theorem Gr.col {n : Nat} {ps : List Int} {zss : List (List Int)} (h : Gr n ps zss) (k : Nat) (hk : k < n) : colZ zss k = toZ (cqN zss k) ∧ Res (cqN zss k) (pnN ps) := by
  have e1 : colZ zss k = toZ (cqN zss k) := by
    unfold cqN
    rw [toZ_toNat]
    intro i hi
    rw [colZ_len] at hi
    rw [colZ_get zss k i hi]
    exact ((h.row i (by have := h.len; omega)).2 k hk).1
  refine ⟨e1, h.ps.2, ?_, fun i hi => ?_⟩
  · unfold cqN pnN
    rw [List.length_map, colZ_len, h.len, List.length_map]
  · have hi' : i < ps.length := by simpa [pnN] using hi
    have hz : i < zss.length := by have := h.len; omega
    have h1 := (h.row i hi').2 k hk
    have e2 : (cqN zss k).getD i 0 = ((zss.getD i []).getD k 0).toNat := by
      rw [← colZ_get zss k i hz]
      unfold cqN
      have : i < (colZ zss k).length := by rw [colZ_len]; exact hz
      simp [List.getD, this]
    have e3 : (pnN ps).getD i 0 = (ps.getD i 0).toNat := by simp [pnN, List.getD, hi']
    rw [e2, e3]
    omega
theorem ctN_cnt {n : Nat} {ps : List Int} {zss : List (List Int)} (h : Gr n ps zss) (k : Nat) (hk : k < n) : (dig (ctN ps zss k)).length ≤ 7 := by
  obtain ⟨_, hR⟩ := h.col k hk
  unfold ctN
  split
  · exact coN_cnt hR
  · exact Nat.le_trans (cnt_mono (Nat.sub_le _ _)) hR.bas.cnt
theorem whX_row {n : Nat} {ps : List Int} {zss : List (List Int)} (h : Gr n ps zss) : ∀ r ∈ whX n ps zss, r.length ≤ 7 := by
  intro r hr
  obtain ⟨k, hk, rfl⟩ := List.mem_map.1 hr
  have := ctN_cnt h k (by simpa using hk)
  simpa [toI] using this
theorem centred_p {n : Nat} {ps : List Int} {zss : List (List Int)} (h : Gr n ps zss) (k : Nat) (hk : k < n) (v u : Value) (W : World) (hv : Row W v (colZ zss k)) (hu : Row W u ps) (hf : Fit u) :
    Calls Tryz.prog 63 #[v, u] W fun e w' => ∃ v', e = .returned (.agg #[.bool (ctB ps zss k), v']) ∧ Old W w' ∧ Own w' W.heap.size v' (toI (dig (ctN ps zss k))) := by
  obtain ⟨e1, hR⟩ := h.col k hk
  obtain ⟨e2, hb⟩ := h.ps
  rw [e1] at hv
  rw [e2] at hu
  unfold ctB ctN
  by_cases hc : coN (cqN zss k) (pnN ps) * 2 < prodN (pnN ps)
  · rw [if_pos hc, decide_eq_false (by omega)]
    exact centred_low (cqN zss k) (pnN ps) v u W hv hu hf hR hc
  · rw [if_neg hc, decide_eq_true (by omega)]
    exact centred_high (cqN zss k) (pnN ps) v u W hv hu hf hR hc
set_option maxRecDepth 100000 in
set_option maxHeartbeats 4000000 in
theorem columnOf_any (zss : List (List Int)) (v : Value) (q : Nat) (w : World) (hv : RowS w v zss) (h0 : 1 ≤ zss.length ∧ zss.length ≤ 1000) (hq : ∀ j, j < zss.length → q < (zss.getD j []).length ∧ (zss.getD j []).length ≤ 1000) :
    Calls Tryz.prog 88 #[v, .int .i64 q] w fun e w' => e = .returned (.slice (some ⟨w.heap.size, 0, none⟩) zss.length zss.length) ∧ Old w w' ∧ Own w' w.heap.size (.slice (some ⟨w.heap.size, 0, none⟩) zss.length zss.length) (colZ zss q) := by
  obtain ⟨i0, hi, hz0, hz1, hz2⟩ := info_parts Tryz.infoInt
  obtain ⟨a0, cap0, ev⟩ := hv.slice
  subst ev
  rcases hv with ⟨a, cap, e, e2⟩ | ⟨b, o, cap, us, e, hb2, h3, hc⟩
  · subst e2
    simp at h0
  simp only [Value.slice.injEq, true_and] at e
  obtain ⟨rfl, rfl⟩ := e
  have HC : Hid (∀ j, j < zss.length → w.cell? ⟨b, o + j, none⟩ = some (us j) ∧ Row w (us j) (zss.getD j [])) := hc
  have HQ : Hid (∀ j, j < zss.length → q < (zss.getD j []).length ∧ (zss.getD j []).length ≤ 1000) := hq
  have HZ : Hid (∀ j, j < zss.length → (colZ zss q).getD j 0 = (zss.getD j []).getD q 0) := fun j hj => colZ_get zss q j hj
  have hlen : (colZ zss q).length = zss.length := colZ_len zss q
  generalize colZ zss q = zs at *
  clear hc hq
  go_enter Tryz.func88, Tryz.ntmps88
  go_wp2_with (at_make; refine wpList_make_full _ rfl _ _ 23 rfl w.heap.size 3 i0 (.int .i64 0) 1 Tryz.underlying23 hi hz0 hz1 .i64 .i64 _ _ zss.length rfl rfl rfl rfl (by rw [hz2]; omega) (by unfold maxLen; omega) (Nat.le_refl _) ?_; intro w3 hown hgrow)
  have HO : Hid (OwnI w3 w.heap.size w.heap.size zss.length (List.replicate zss.length 0)) := by
    rw [made_ints] at hown
    exact hown
  have HG3 : Hid (Old w w3) := Old.by_ (Old.refl _) hgrow (fun b hb => by cases hb)
  clear hown hgrow
  go_loopw [13, 6, 7] (fun i _ _ W => ∃ k : Nat, k ≤ zss.length ∧ i = .int .i64 k ∧ Hid (OwnI W w.heap.size w.heap.size zss.length (fillN zs k)) ∧ Hid (Old w W)) (fun i _ _ _ => zss.length - (intOf i).toNat)
  case atStart => exact ⟨0, by omega, rfl, (by show OwnI _ _ _ _ _; rw [fillN_zero, hlen]; exact HO.out), HG3⟩
  case round =>
    obtain ⟨k, hk, rfl, HO1, HG4⟩ := hrel
    clear HO HG3
    by_cases hlt : k < zss.length
    · have d1 : decide ((k : Int) < (zss.length : Int)) = true := by simp; omega
      obtain ⟨c0, r0⟩ := HC.out k hlt
      obtain ⟨l1, l2⟩ := HQ.out k hlt
      have hzk := HZ.out k hlt
      rcases r0 with ⟨x, y, e, e'⟩ | ⟨b3, o3, cap3, e, hb3, h03, hc3⟩
      · rw [e'] at l1
        simp at l1
      have q1 : wr.cell? ⟨b, o + k, none⟩ = some (.slice (some ⟨b3, o3, none⟩) (zss.getD k []).length cap3) := ((HG4.out.cell (p := ⟨b, o + k, none⟩) hb2).trans c0).trans (by rw [e])
      have q2 : wr.cell? ⟨b3, o3 + q, none⟩ = some (.int .i64 ((zss.getD k []).getD q 0)) := (HG4.out.cell (p := ⟨b3, o3 + q, none⟩) hb3).trans (hc3 q l1)
      have HPU : Hid (OwnI (wr.setCell ⟨w.heap.size, k, none⟩ (.int .i64 ((zss.getD k []).getD q 0))) w.heap.size w.heap.size zss.length (fillN zs (k + 1))) := by
        have := HO1.out.put k (zs.getD k 0)
        rw [fillN_set zs k (by omega), hzk] at this
        exact this
      have i1 : (k : Int) < (zss.length : Int) := by omega
      have i2 : (q : Int) < ((zss.getD k []).length : Int) := by omega
      have c3 := HO1.out.get (fillN_len zs k (by omega) |>.trans hlen) k hlt
      have c4 := HO1.out.free k
      generalize (fillN zs k).getD k 0 = oldv at *
      have HG6 : Hid (Old w (wr.setCell ⟨w.heap.size, k, none⟩ (.int .i64 ((zss.getD k []).getD q 0)))) := HG4.out.own (p := ⟨w.heap.size, k, none⟩) (Nat.le_refl _) _
      clear c0 e hc3 hzk HO1 l1
      generalize (zss.getD k []).getD q 0 = y at *
      generalize (zss.getD k []).length = n at *
      go_wp2_with fail
      exact ⟨⟨k + 1, by omega, by go_num, HPU, HG6⟩, by simp [intOf]; omega⟩
    · have d1 : decide ((k : Int) < (zss.length : Int)) = false := by simp; omega
      obtain rfl : k = zss.length := by omega
      have HF : Hid (Own wr w.heap.size (.slice (some ⟨w.heap.size, 0, none⟩) zss.length zss.length) zs) := by
        have := HO1.out.own ((fillN_len zs zss.length (by omega)).trans hlen)
        rw [show fillN zs zss.length = zs by rw [← hlen]; exact fillN_all zs] at this
        exact this
      go_wp2_with fail
      go_ret
      exact ⟨rfl, HG4.out, HF.out⟩
end Go.Proofs.YtfgooclnohnkmaaGreatDoor
/- Proved: the program's WholesOf. -/
namespace Go.Proofs.YtfgooclnohnkmaaGreatDoor
open Go.ChangeShapes Go.WideShapes Go.ChangeAt Go.RowKit
open M2
set_option linter.unusedVariables false
set_option linter.unusedSimpArgs false
set_option maxRecDepth 100000 in
set_option maxHeartbeats 4000000 in
theorem impl_WholesOf_no (N : Int) (ps : List Int) (a : Bool) (xss : List (List Int)) (v : Value) (a1 : Option Addr) (c1 : Nat) (w : World) (hv : Row w v ps)
    (cb : ∀ W, Old w W → Calls Tryz.prog 87 #[.agg #[.int .i64 N, v], .agg #[.bool a, .slice a1 xss.length c1]] W (Rs W false [] false)) :
    Calls Tryz.prog 28 #[.agg #[.int .i64 N, v], .agg #[.bool a, .slice a1 xss.length c1]] w (Ws w [] [] false) := by
  obtain ⟨a0, c0, rfl⟩ := hv.slice
  have HV : Hid (Row w (.slice a0 ps.length c0) ps) := hv
  have HA : Hid (Old w ((w.alloc (.cells #[.int .i64 N, .slice a0 ps.length c0] 56)).alloc (.cells #[.bool a, .slice a1 xss.length c1] 58))) := ((Old.refl w).alloc _).alloc _
  have BA : Hid (Bk ((w.alloc (.cells #[.int .i64 N, .slice a0 ps.length c0] 56)).alloc (.cells #[.bool a, .slice a1 xss.length c1] 58)) w.heap.size #[.int .i64 N, .slice a0 ps.length c0] 56) := (Bk.new' w _ _ rfl).alloc _
  clear hv
  go_enter Tryz.func28, Tryz.ntmps28
  go_wp2_with fail
  refine (cb _ HA.out).mono ?_
  rintro e w2 ⟨r0, rfl, g2, ab, cb', rfl, ob⟩
  have HG2 : Hid (Old w w2) := Old.trans HA.out g2
  clear g2 ob
  go_wp2_with fail
  go_ret2
  exact ws_nil (HG2.out.alloc _)
set_option maxRecDepth 100000 in
set_option maxHeartbeats 8000000 in
theorem impl_WholesOf_yes (Nn : Nat) (ps : List Int) (a : Bool) (xss zss : List (List Int)) (v : Value) (a1 : Option Addr) (c1 : Nat) (w : World) (hv : Row w v ps) (hf : Fit v) (hN : 1 ≤ Nn ∧ Nn ≤ 16) (hps : 1 ≤ ps.length ∧ ps.length ≤ 6) (hG : Gr Nn ps zss)
    (cb : ∀ W, Old w W → Calls Tryz.prog 87 #[.agg #[.int .i64 Nn, v], .agg #[.bool a, .slice a1 xss.length c1]] W (Rs W false zss true)) :
    Calls Tryz.prog 28 #[.agg #[.int .i64 Nn, v], .agg #[.bool a, .slice a1 xss.length c1]] w (Ws w (whB Nn ps zss) (whX Nn ps zss) true) := by
  obtain ⟨i0, hi, hz0, hz1, hz2⟩ := info_parts Tryz.infoWhole
  obtain ⟨a0, c0, rfl⟩ := hv.slice
  have HV : Hid (Row w (.slice a0 ps.length c0) ps) := hv
  have HA : Hid (Old w ((w.alloc (.cells #[.int .i64 Nn, .slice a0 ps.length c0] 56)).alloc (.cells #[.bool a, .slice a1 xss.length c1] 58))) := ((Old.refl w).alloc _).alloc _
  have BA : Hid (Bk ((w.alloc (.cells #[.int .i64 Nn, .slice a0 ps.length c0] 56)).alloc (.cells #[.bool a, .slice a1 xss.length c1] 58)) w.heap.size #[.int .i64 Nn, .slice a0 ps.length c0] 56) := (Bk.new' w _ _ rfl).alloc _
  have hzl : zss.length = ps.length := hG.len
  have HCO : Hid (∀ k, k < Nn → ∀ W v', RowS W v' zss → Calls Tryz.prog 88 #[v', .int .i64 k] W fun e w' => e = .returned (.slice (some ⟨W.heap.size, 0, none⟩) ps.length ps.length) ∧ Old W w' ∧ Row w' (.slice (some ⟨W.heap.size, 0, none⟩) ps.length ps.length) (colZ zss k)) := fun k hk W v' hr => by
    have h1 := columnOf_any zss v' k W hr (by omega) (fun j hj => by have := (hG.row j (by omega)).1; omega)
    rw [hzl] at h1
    exact h1.mono fun e w' h => ⟨h.1, h.2.1, Own.row h.2.2⟩
  have HCE : Hid (∀ k, k < Nn → ∀ W v', Old w W → Row W v' (colZ zss k) → Calls Tryz.prog 63 #[v', .slice a0 ps.length c0] W fun e w' => ∃ v', e = .returned (.agg #[.bool ((whB Nn ps zss).getD k false), v']) ∧ Old W w' ∧ Own w' W.heap.size v' ((whX Nn ps zss).getD k [])) := fun k hk W v' g hr => by
    rw [whB_get Nn ps zss k hk, whX_get Nn ps zss k hk]
    exact centred_p hG k hk v' _ W hr (hv.old g) hf
  have HF : Hid (∀ w' v', Old w w' → Ows (TS 27 2 Nn (elW (whB Nn ps zss) (whX Nn ps zss))) w' w.heap.size w'.heap.size [v'] → Ws w (whB Nn ps zss) (whX Nn ps zss) true (.returned (.tuple #[v', .bool true])) w') := fun w' v' g o => ⟨v', rfl, g, by show Ows (TS _ _ _ _) _ _ _ _; rw [whX_len]; exact o⟩
  have HEL : Hid (∀ k, elW (whB Nn ps zss) (whX Nn ps zss) k = TB ((whB Nn ps zss).getD k false) (TI ((whX Nn ps zss).getD k []))) := fun k => rfl
  have HGD : Hid (∀ j, GoodT (elW (whB Nn ps zss) (whX Nn ps zss) j)) := good_elW _ _
  have HSR : Hid (∀ W lo hi v', OwS zss W lo hi v' → RowS W v' zss) := fun W lo hi v' h => h.rowS
  generalize elW (whB Nn ps zss) (whX Nn ps zss) = Es at *
  generalize whB Nn ps zss = bs at *
  generalize whX Nn ps zss = yss at *
  clear hv hf hG
  go_enter Tryz.func28, Tryz.ntmps28
  go_wp2_with fail
  refine (cb _ HA.out).mono ?_
  rintro e w2 ⟨r0, rfl, g2, ab, cb', rfl, ob⟩
  rw [hzl] at ob ⊢
  have HG2 : Hid (Old w w2) := Old.trans HA.out g2
  have B2 : Hid (Bk w2 w.heap.size #[.int .i64 Nn, .slice a0 ps.length c0] 56) := BA.out.old g2
  have RB : Hid (RowS w2 (.slice ab ps.length cb') zss) := HSR.out _ _ _ _ ob
  have hs2 : w.heap.size < w2.heap.size := B2.out.lt
  have z0 := (B2.out.alloc (.cells #[.bool false, .slice ab ps.length cb'] 58)).c (i := 0) rfl
  clear g2 ob cb hzl
  go_wp2_with (at_make; refine wpList_make_full _ rfl _ _ 53 rfl 0 27 i0 (.agg #[.bool false, .slice none 0 0]) 2 Tryz.underlying53 hi hz0 hz1 .i64 .i64 _ _ Nn rfl rfl rfl rfl (by rw [hz2]; omega) (by unfold maxLen; omega) (Nat.zero_le _) ?_; intro w3 hown hgrow; have z03 := (((B2.out.alloc (.cells #[.bool false, .slice ab ps.length cb'] 58)).old (Below.grown (Below.refl _ _) hgrow (Nat.le_refl _) (fun _ h => by cases h))).c (i := 0) rfl))
  have HO : Hid (TSc 27 2 Nn 0 Es w3 (w2.heap.size + 1) Nn _ (fun _ _ => False)) := TSc.start (by simpa using hown)
  have HG3 : Hid (Old (w2.alloc (.cells #[.bool false, .slice ab ps.length cb'] 58)) w3) := Below.grown (Below.refl _ _) hgrow (Nat.le_refl _) (fun _ h => by cases h)
  clear hown hgrow z0 z03
  go_loopw [23, 9] (fun i _ W => ∃ (k : Nat) (vs : List Value) (Bs : Nat → Nat → Prop), k ≤ Nn ∧ i = .int .i64 k ∧ Hid (TSc 27 2 Nn k Es W (w2.heap.size + 1) Nn vs Bs) ∧ Hid (∀ j b, j < k → Bs j b → w2.heap.size + 1 < b) ∧ Hid (Old (w2.alloc (.cells #[.bool false, .slice ab ps.length cb'] 58)) W)) (fun i _ _ => Nn - (intOf i).toNat)
  case atStart => exact ⟨0, _, _, by omega, rfl, HO, (fun j b hj => by omega), HG3⟩
  case round =>
    obtain ⟨k, vs, Bs, hk, rfl, H1, HB, HG4⟩ := hrel
    clear HO HG3
    have HG5 : Hid (Old w wr) := Old.trans HG2.out (Old.trans ((Old.refl w2).alloc _) HG4.out)
    by_cases hlt : k < Nn
    · have d1 : decide ((k : Int) < (Nn : Int)) = true := by simp; omega
      have ilt : (k : Int) < (Nn : Int) := by omega
      have cc := HCO.out k hlt
      have ce := HCE.out k hlt
      have HEK : Hid (Es k = TB (bs.getD k false) (TI (yss.getD k []))) := HEL.out k
      have hsr : w2.heap.size + 1 < wr.heap.size := ownsRow_lt H1.out.row
      generalize bs.getD k false = sg at *
      generalize yss.getD k [] = xs at *
      have HAS5 : Hid (∀ W', Old wr W' → (W'.cell? ⟨w2.heap.size, 1, none⟩ = some (.slice ab ps.length cb') ∧ W'.cell? ⟨w.heap.size, 1, none⟩ = some (.slice a0 ps.length c0))) := fun W' q => by
        have q' := Old.trans HG4.out q
        have b1 : Bk W' w2.heap.size #[.bool false, .slice ab ps.length cb'] 58 := (Bk.new' w2 _ _ rfl).old q'
        have b2 : Bk W' w.heap.size #[.int .i64 Nn, .slice a0 ps.length c0] 56 := (B2.out.old ((Old.refl w2).alloc _)).old q'
        exact ⟨b1.c (i := 1) rfl, b2.c (i := 1) rfl⟩
      have HAS6 : Hid (∀ W' y0 y1, Old wr W' → ((fun W' => W'.cell? ⟨w2.heap.size, 1, none⟩ = some (.slice ab ps.length cb') ∧ W'.cell? ⟨w.heap.size, 1, none⟩ = some (.slice a0 ps.length c0)) ((W'.setCell ⟨w2.heap.size + 1, k * 2, none⟩ y0).setCell ⟨w2.heap.size + 1, k * 2 + 1, none⟩ y1))) := fun W' y0 y1 q => by
        obtain ⟨s0, s1⟩ := HAS5.out W' q
        have key : ∀ (bb j : Nat) (z : Value), bb ≠ w2.heap.size + 1 → W'.cell? ⟨bb, j, none⟩ = some z → ((W'.setCell ⟨w2.heap.size + 1, k * 2, none⟩ y0).setCell ⟨w2.heap.size + 1, k * 2 + 1, none⟩ y1).cell? ⟨bb, j, none⟩ = some z := fun bb j z hb hz => by
          rw [cellO _ _ _ _ hb, cellO _ _ _ _ hb]
          exact hz
        exact ⟨key _ _ _ (by omega) s0, key _ _ _ (by omega) s1⟩
      have HX : Hid (∀ w6 x6 c6 Bz, Old wr w6 → TI xs w6 Bz [.slice x6 xs.length c6] → (∀ b, Bz b → wr.heap.size ≤ b) → (∃ vs', TSc 27 2 Nn (k + 1) Es ((w6.setCell ⟨w2.heap.size + 1, k * 2, none⟩ (.bool sg)).setCell ⟨w2.heap.size + 1, k * 2 + 1, none⟩ (.slice x6 xs.length c6)) (w2.heap.size + 1) Nn vs' (fun q => if q = k then Bz else Bs q)) ∧ (∀ j b, j < k + 1 → (fun q => if q = k then Bz else Bs q) j b → w2.heap.size + 1 < b) ∧ Old (w2.alloc (.cells #[.bool false, .slice ab ps.length cb'] 58)) ((w6.setCell ⟨w2.heap.size + 1, k * 2, none⟩ (.bool sg)).setCell ⟨w2.heap.size + 1, k * 2 + 1, none⟩ (.slice x6 xs.length c6))) := fun w6 x6 c6 Bz g6 hTI hlo => by
        refine ⟨(H1.out.old HGD.out g6).store2 HGD.out hlt _ _ (B := Bz) (fun W' hW' => ?_) (fun hb => by have := hlo _ hb; omega) (fun j hj b h1 h2 => ?_), fun j b hj hb => ?_, ?_⟩
        · rw [HEK.out]
          exact ⟨_, rfl, (good_TI xs).far hTI (fun b hb => hW' b (by have := hlo b hb; omega))⟩
        · have h4 := H1.out.lt HGD.out j b hj h1
          have := hlo b h2
          omega
        · by_cases e : j = k
          · simp only [e, if_true] at hb
            have := hlo b hb
            omega
          · simp only [e, if_false] at hb
            exact HB.out j b (by omega) hb
        · exact ((Old.trans HG4.out g6).own (p := ⟨w2.heap.size + 1, k * 2, none⟩) (by simp) _).own (p := ⟨w2.heap.size + 1, k * 2 + 1, none⟩) (by simp) _
      have HCL : Hid (∀ w6, Old wr w6 → ∀ i, i < 2 → (∃ z, w6.cell? ⟨w2.heap.size + 1, k * 2 + i, none⟩ = some z) ∧ w6.frozen? ⟨w2.heap.size + 1, k * 2 + i, none⟩ = false) := fun w6 g6 i hi2 => by
        have H2 := H1.out.old HGD.out g6
        have h5 := H2.cell k i hlt hi2
        have h6 := cellsJ_len H2.row.1 k hlt
        exact ⟨⟨_, h5.trans (List.getElem?_eq_getElem (by omega))⟩, H2.frozen _⟩
      have RB4 : Hid (∀ W', Old wr W' → RowS W' (.slice ab ps.length cb') zss) := fun W' q => (RB.out.old ((Old.refl w2).alloc _)).old (Old.trans HG4.out q)
      clear H1 HB HEK
      obtain ⟨s0, s1⟩ := HAS5.out wr (Old.refl _)
      go_wp2_with fail
      go_region_held3 (fun W' => W'.cell? ⟨w2.heap.size, 1, none⟩ = some (.slice ab ps.length cb') ∧ W'.cell? ⟨w.heap.size, 1, none⟩ = some (.slice a0 ps.length c0)) (first | with_reducible exact HAS5.out _ Q6.out | with_reducible exact HAS5.out _ Q5.out | with_reducible exact HAS5.out _ (Below.drew (Old.refl _)) | with_reducible exact HAS6.out _ _ _ Q6.out | with_reducible exact HAS5.out _ (Old.refl _)) (first
        | (go_at_call 88; refine (cc _ _ (RB4.out _ (Below.drew (Old.refl _)))).mono ?_; rintro e w5 ⟨rfl, q5, o5⟩; have Q5 : Hid (Old wr w5) := Old.trans (Below.drew (Old.refl _)) q5; have O5 : Hid (Row w5 (.slice (some ⟨wr.heap.size, 0, none⟩) ps.length ps.length) (colZ zss k)) := o5; clear q5 o5)
        | (go_at_call 63; refine (ce _ _ (Old.trans HG5.out Q5.out) O5.out).mono ?_; rintro e w6 ⟨v6, rfl, q6, o6⟩; obtain ⟨x6, c6, rfl⟩ := (Own.row o6).slice; have Q6 : Hid (Old wr w6) := Old.trans Q5.out q6; have O6 : Hid (Own w6 wr.heap.size (.slice x6 xs.length c6) xs) := o6.low Q5.out.size; clear q6 o6; obtain ⟨⟨z0, hz0⟩, hf0⟩ := HCL.out w6 Q6.out 0 (by omega); obtain ⟨⟨z1, hz1⟩, hf1⟩ := HCL.out w6 Q6.out 1 (by omega); simp only [Nat.add_zero] at hz0 hf0)
        | fail)
      all_goals
        obtain ⟨Bz, hTI, hlo⟩ := TI.of O6.out
        obtain ⟨⟨vs', n1⟩, n2, n3⟩ := HX.out w6 x6 c6 Bz Q6.out hTI hlo
        have N1 : Hid (TSc 27 2 Nn (k + 1) Es ((w6.setCell ⟨w2.heap.size + 1, k * 2, none⟩ (.bool sg)).setCell ⟨w2.heap.size + 1, k * 2 + 1, none⟩ (.slice x6 xs.length c6)) (w2.heap.size + 1) Nn vs' (fun q => if q = k then Bz else Bs q)) := n1
        have N2 : Hid (∀ j b, j < k + 1 → (fun q => if q = k then Bz else Bs q) j b → w2.heap.size + 1 < b) := n2
        have N3 : Hid (Old (w2.alloc (.cells #[.bool false, .slice ab ps.length cb'] 58)) ((w6.setCell ⟨w2.heap.size + 1, k * 2, none⟩ (.bool sg)).setCell ⟨w2.heap.size + 1, k * 2 + 1, none⟩ (.slice x6 xs.length c6))) := n3
        clear n1 n2 n3 hTI hlo HX
        go_wp2_with fail
        exact ⟨⟨k + 1, vs', _, by omega, by go_num, N1, N2, N3⟩, by simp [intOf]; omega⟩
    · have d1 : decide ((k : Int) < (Nn : Int)) = false := by simp; omega
      obtain rfl : k = Nn := by omega
      have HE : Hid (Ows (TS 27 2 k Es) wr w.heap.size wr.heap.size [.slice (some ⟨w2.heap.size + 1, 0, none⟩) k k]) := H1.out.done HGD.out (by omega) (fun j b hj hb => by have := HB.out j b hj hb; omega)
      go_wp2_with fail
      go_ret2
      exact HF.out _ _ HG5.out HE.out
end Go.Proofs.YtfgooclnohnkmaaGreatDoor
