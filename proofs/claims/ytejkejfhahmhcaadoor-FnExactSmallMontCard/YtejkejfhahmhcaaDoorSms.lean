/- Proved: the model's SmallMont where it answers; the statement on it. -/
import Derived.Test.YtejkejfhahmhcaaDoorSmi
import Derived.Test.YtejkejfhahmhcaaDoorSsm
import Derived.Test.YtejkejfhahmhcaaDoorCvn
import Derived.Test.YtejkejfhahmhcaaDoorLawSmallMont
namespace Go.Proofs.YtejkejfhahmhcaaDoor
open Go.ChangeShapes Go.WideShapes Go.ChangeAt Go.RowKit
open M2
set_option linter.unusedVariables false
set_option linter.unusedSimpArgs false
theorem sm_inv (M A : Nat) (ps : List Nat) (hM : 2 ≤ M) : (-(A : Int) * ((M1.invM (prodN ps % M) M : Nat) : Int)) % (M : Int) = ((overL M ps A : Nat) : Int) := by
  unfold overL
  rw [pm_mod M ps hM]
  exact (turn_eq M A _ _ (-(A : Int)) hM (inv_neg (prodN ps % M) M hM (Nat.mod_lt _ (by omega))) (by rw [show (A : Int) + -(A : Int) = 0 by omega]; exact Int.zero_emod _)).symm
theorem sm_get (M A : Nat) (rs ps ts : List Nat) (k : Nat) (hk : k < ts.length) (hB : Bas ts) : (toZ (smL M A ps (yL rs ps) ts)).getD k 0 = Int.tmod ((((sumN rs ps ps.length : Nat) : Int) + smO M A ps * ((prodN ps : Nat) : Int)) % ((ts.getD k 0 : Nat) : Int) * ((M1.invM (M % ts.getD k 0) (ts.getD k 0) : Nat) : Int)) ((ts.getD k 0 : Nat) : Int) := by
  have hm : ts.getD k 0 ∈ ts := by simp [List.getD, hk]
  have b4 := hB.lo _ hm
  have e2 : (toZ (smL M A ps (yL rs ps) ts)).getD k 0 = ((overD (ts.getD k 0) (M : Int) (plusP (ts.getD k 0) ps (smO M A ps) (plusS (ts.getD k 0) ps (yL rs ps) 0)) : Nat) : Int) := by rw [toZ_get]; simp [smL, List.getD, hk]
  rw [e2, ← plusPS_eq _ rs ps _ b4]
  generalize plusP (ts.getD k 0) ps (smO M A ps) (plusS (ts.getD k 0) ps (yL rs ps) 0) = x at *
  generalize ts.getD k 0 = b at *
  unfold overD
  have e3 : ((M : Int) % (b : Int)).toNat = M % b := by rw [← Int.natCast_emod, Int.toNat_natCast]
  rw [e3, Int.natCast_emod, Int.natCast_mul, Int.tmod_eq_emod_of_nonneg (by rw [← Int.natCast_mul]; omega)]
theorem sm_o (M A : Nat) (ps : List Nat) (h : (M : Int) % 2 = 0) : smO M A ps = if ((M : Int) / 2) ≤ ((overL M ps A : Nat) : Int) then ((overL M ps A : Nat) : Int) - (M : Int) else ((overL M ps A : Nat) : Int) := by
  unfold smO cenB
  generalize overL M ps A = x
  by_cases h1 : M ≤ 2 * x
  · rw [if_pos h1, if_pos (by omega)]
  · rw [if_neg h1, if_neg (by omega)]
theorem bas_in6 {ps : List Nat} (hb : Bas ps) : ∀ x ∈ toZ ps, -9223372036854775808 ≤ x ∧ x ≤ 9223372036854775807 := fun x hx => by
  obtain ⟨n, hn, rfl⟩ := List.mem_map.1 hx
  have := hb.hi n hn
  omega
set_option maxRecDepth 100000 in
set_option maxHeartbeats 8000000 in
theorem spec_SmallMont_yes (rs ps ts : List Nat) (A M : Nat) (v u q : Value) (w : World) (hv : Row w v (toZ rs)) (hu : Row w u (toZ ps)) (hf : Fit u) (hq : Row w q (toZ ts)) (hfq : Fit q) (hR : Res rs ps) (hB : Bas ts) (hM : 4 ≤ M ∧ M ≤ 65536) (hA : A < M) (h : smB (toZ rs) A (toZ ps) M (toZ ts) = true) :
    Calls Tryd.prog 28 #[v, .int .i64 (A : Int), u, .int .i64 (M : Int), q] w (Ls w (toZ (smL M A ps (yL rs ps) ts)) true) := by
  obtain ⟨i0, hi, hz0, hz1, hz2⟩ := info_parts Tryd.infoInt
  have hl6 := hR.bas.len6
  have hln := hR.len
  have ht6 := hB.len6
  have ht1 := hB.len1
  have K1 : ∀ W, Old w W → Calls Tryd.prog 34 #[v, u] W fun e w' => e = .returned (.bool (basB (toZ ps) && rsB (toZ rs) (toZ ps))) ∧ Old W w' := fun W g => l4Good_any (toZ rs) (toZ ps) v u W (hv.old g) (hu.old g) hf (by rw [toZ_len]; omega) (by rw [toZ_len]; omega) (bas_in6 hR.bas)
  have K2 : ∀ W, Old w W → Calls Tryd.prog 44 #[q] W fun e w' => e = .returned (.bool (basB (toZ ts))) ∧ Old W w' := fun W g => spec_goodBasis (toZ ts) q W (hq.old g) hfq (by rw [toZ_len]; omega) (bas_in6 hB)
  have K3 : ∀ W, Old w W → Calls Tryd.prog 72 #[.int .i64 (M : Int), .int .i64 4, .int .i64 65536] W fun e w' => e = .returned (.bool (smlB (M : Int))) ∧ Old W w' := fun W g => (spec_isSmall (M : Int) W).mono (fun e w' h => ⟨h.1, by rw [h.2]; exact Old.refl _⟩)
  have K4 : ∀ W, Old w W → Calls Tryd.prog 59 #[.int .i64 (A : Int), .int .i64 0, .int .i64 ((M : Int) - 1)] W fun e w' => e = .returned (.bool (resB (A : Int) (M : Int))) ∧ Old W w' := fun W g => (spec_res (A : Int) (M : Int) W).mono (fun e w' h => ⟨h.1, by rw [h.2]; exact Old.refl _⟩)
  have K5 : ∀ W, Old w W → Calls Tryd.prog 58 #[u, .int .i64 2] W fun e w' => e = .returned (.bool ((toZ ps).contains 2)) ∧ Old W w' := fun W g => has_any (toZ ps) 2 u W (hu.old g) (by rw [toZ_len]; omega)
  have K6 : ∀ W, Old w W → Calls Tryd.prog 58 #[q, .int .i64 2] W fun e w' => e = .returned (.bool ((toZ ts).contains 2)) ∧ Old W w' := fun W g => has_any (toZ ts) 2 q W (hq.old g) (by rw [toZ_len]; omega)
  unfold smB at h
  simp only [Bool.and_eq_true, Bool.not_eq_true'] at h
  obtain ⟨⟨⟨⟨⟨⟨h1, h2⟩, h3⟩, h4⟩, h5⟩, h6⟩, h7⟩ := h
  obtain ⟨_, _, hev⟩ := smlB_out h4
  rw [h1, h3] at K1
  rw [h2] at K2
  rw [h4] at K3
  rw [h5] at K4
  rw [h6] at K5
  rw [h7] at K6
  have cpr := fun W h3 => spec_product ps u W h3 hl6 hR.bas.hi
  have csm := fun W h4 h5 => spec_sum rs ps v u W h4 h5 hR
  have hlP : (dig (prodN ps)).length ≤ 7 := hR.bas.cnt
  have cw := fun d W h3 => word_any (dig (prodN ps)) M d W h3 (dig_lim _) (by omega) (by omega) (by omega)
  rw [val_dig] at cw
  have hlq := Nat.mod_lt (prodN ps) (show 0 < M by omega)
  have ci := fun W => spec_inv ((prodN ps % M : Nat) : Int) (M : Int) W (by omega) (by omega)
  have ei : ((((prodN ps % M : Nat) : Int) % (M : Int)).toNat) = prodN ps % M := by rw [← Int.natCast_emod, Nat.mod_mod, Int.toNat_natCast]
  rw [ei, Int.toNat_natCast] at ci
  have l3 := invM_lt (prodN ps % M) M (by omega)
  have hsi := sm_inv M A ps (by omega)
  have hmb : -4294967296 ≤ -(A : Int) * ((M1.invM (prodN ps % M) M : Nat) : Int) ∧ -(A : Int) * ((M1.invM (prodN ps % M) M : Nat) : Int) ≤ 0 := by
    have q1 : (A : Int) * ((M1.invM (prodN ps % M) M : Nat) : Int) ≤ 65536 * 65536 := Int.mul_le_mul (by omega) (by omega) (by omega) (by omega)
    have q2 : 0 ≤ (A : Int) * ((M1.invM (prodN ps % M) M : Nat) : Int) := Int.mul_nonneg (by omega) (by omega)
    rw [Int.neg_mul]
    omega
  have cm := fun W => spec_mod (-(A : Int) * ((M1.invM (prodN ps % M) M : Nat) : Int)) (M : Int) W (by omega) (by omega)
  rw [hsi] at cm
  have hxl := overL_lt M ps A (by omega)
  have hoi := smO_in M A ps (by omega)
  have hso := sm_o M A ps hev
  have cin := fun W => int_any (smO M A ps) W (by omega) (by omega)
  have hdl : (dg (smO M A ps)).length ≤ 2 := dg_len6 (by show _ < 268435456 ^ 2; omega)
  have cti := fun d e W h3 h4 => times_any (ng (smO M A ps)) false (dg (smO M A ps)) (dig (prodN ps)) d e W h3 h4 (dg_lim6 _) (dig_lim _) (by omega) (by omega)
  rw [sv_of, sv_nat] at cti
  have hdQ := cQ_len hoi hR.bas
  have hdS : (dig (sumN rs ps ps.length)).length ≤ 7 := sumN_cnt hR.bas _ (Nat.le_refl _)
  have cpl := fun d e W h3 h4 => plus_any false (ng (smO M A ps * ((prodN ps : Nat) : Int))) (dig (sumN rs ps ps.length)) (dg (smO M A ps * ((prodN ps : Nat) : Int))) d e W h3 h4 ⟨dig_nrm _, fun h => by cases h⟩ (gw_of _) (by omega) (by omega)
  rw [sv_of, sv_nat] at cpl
  have hdX := X_len (rs := rs) hoi hR.bas
  have HMO : Hid (∀ k, k < ts.length → ∀ d W, Row W d (toI (dg (((sumN rs ps ps.length : Nat) : Int) + smO M A ps * ((prodN ps : Nat) : Int)))) → Calls Tryd.prog 74 #[.agg #[.bool (ng (((sumN rs ps ps.length : Nat) : Int) + smO M A ps * ((prodN ps : Nat) : Int))), d], .int .i64 ((ts.getD k 0 : Nat) : Int)] W fun e w' => e = .returned (.int .i64 ((((sumN rs ps ps.length : Nat) : Int) + smO M A ps * ((prodN ps : Nat) : Int)) % ((ts.getD k 0 : Nat) : Int))) ∧ Old W w') := fun k hk d W hr => by
    have hm : ts.getD k 0 ∈ ts := by simp [List.getD, hk]
    have := modulo_any (ng (((sumN rs ps ps.length : Nat) : Int) + smO M A ps * ((prodN ps : Nat) : Int))) (dg (((sumN rs ps ps.length : Nat) : Int) + smO M A ps * ((prodN ps : Nat) : Int))) (ts.getD k 0) d W hr (dg_lim6 _) (by omega) (by have := hB.lo _ hm; omega) (hB.hi _ hm)
    rw [sv_of] at this
    exact this
  have HBD : Hid (∀ j, j < ts.length → 2 ≤ ts.getD j 0 ∧ ts.getD j 0 ≤ 268435456) := fun j hj => by
    have hm : ts.getD j 0 ∈ ts := by simp [List.getD, hj]
    exact ⟨hB.lo _ hm, hB.hi _ hm⟩
  have HE : Hid (∀ k, k < ts.length → (toZ (smL M A ps (yL rs ps) ts)).take (k + 1) = (toZ (smL M A ps (yL rs ps) ts)).take k ++ [Int.tmod ((((sumN rs ps ps.length : Nat) : Int) + smO M A ps * ((prodN ps : Nat) : Int)) % ((ts.getD k 0 : Nat) : Int) * ((M1.invM (M % ts.getD k 0) (ts.getD k 0) : Nat) : Int)) ((ts.getD k 0 : Nat) : Int)]) := fun k hk => by
    rw [take_succI _ _ (by rw [toZ_len, smL_len]; exact hk), sm_get M A rs ps ts k hk hB]
  have hzl : (toZ (smL M A ps (yL rs ps) ts)).length = ts.length := by rw [toZ_len, smL_len]
  have HV : Hid (Row w v (toZ rs)) := hv
  have HU : Hid (Row w u (toZ ps)) := hu
  have HQ : Hid (Row w q (toZ ts)) := hq
  obtain ⟨va, vc, rfl⟩ : ∃ a c, v = .slice a rs.length c := by have := hv.slice; rwa [toZ_len] at this
  obtain ⟨ua, uc, rfl⟩ : ∃ a c, u = .slice a ps.length c := by have := hu.slice; rwa [toZ_len] at this
  obtain ⟨b2, o2, qc, rfl, hb2, hc2⟩ := hq.atZ (by omega)
  have HC2 : Hid (∀ j, j < ts.length → w.cell? ⟨b2, o2 + j, none⟩ = some (.int .i64 ((ts.getD j 0 : Nat) : Int))) := hc2
  clear hv hu hq hf hfq h1 h2 h3 h4 h5 h6 h7 hR hB hc2 hln hsi ei hdX hdS hdQ hdl hlP
  generalize toZ (smL M A ps (yL rs ps) ts) = zs at *
  generalize smO M A ps = oo at *
  generalize overL M ps A = xx at *
  obtain ⟨X, hX⟩ : ∃ X : Int, ((sumN rs ps ps.length : Nat) : Int) + oo * ((prodN ps : Nat) : Int) = X := ⟨_, rfl⟩
  rw [hX] at cpl HMO HE
  clear hX
  generalize sumN rs ps ps.length = S at *
  generalize M1.invM (prodN ps % M) M = iv at *
  generalize prodN ps % M = qm at *
  generalize prodN ps = Q at *
  have tn : IntKind.i64.wrap (-(A : Int)) = -(A : Int) := by rw [IntKind.wrap_i64]; omega
  have tm : IntKind.i64.wrap (-(A : Int) * (iv : Int)) = -(A : Int) * (iv : Int) := by rw [IntKind.wrap_i64]; omega
  have tq : Int.tdiv (M : Int) 2 = (M : Int) / 2 := Int.tdiv_eq_ediv_of_nonneg (by omega)
  have ts1 : IntKind.i64.wrap ((xx : Int) - (M : Int)) = (xx : Int) - (M : Int) := by rw [IntKind.wrap_i64]; omega
  have tw : IntKind.i64.wrap ((M : Int) / 2) = (M : Int) / 2 := by rw [IntKind.wrap_i64]; omega
  have t1 : IntKind.i64.wrap ((M : Int) - 1) = (M : Int) - 1 := by rw [IntKind.wrap_i64]; omega
  have HG0 : Hid (Old w w) := Old.refl w
  go_enter Tryd.func28, Tryd.ntmps28
  go_wp2_with fail
  refine (K1 _ HG0.out).mono ?_
  rintro e w1 ⟨rfl, g1⟩
  have HG1 : Hid (Old w w1) := Old.trans HG0.out g1
  clear g1
  go_wp2_with fail
  refine (K2 _ HG1.out).mono ?_
  rintro e w2 ⟨rfl, g2⟩
  have HG2 : Hid (Old w w2) := Old.trans HG1.out g2
  clear g2
  go_wp2_with fail
  refine (K3 _ HG2.out).mono ?_
  rintro e w3 ⟨rfl, g3⟩
  have HG3 : Hid (Old w w3) := Old.trans HG2.out g3
  clear g3
  go_wp2_with fail
  refine (K4 _ HG3.out).mono ?_
  rintro e w4 ⟨rfl, g4⟩
  have HG4 : Hid (Old w w4) := Old.trans HG3.out g4
  clear g4
  go_wp2_with fail
  refine (K5 _ HG4.out).mono ?_
  rintro e w5 ⟨rfl, g5⟩
  have HG5 : Hid (Old w w5) := Old.trans HG4.out g5
  clear g5
  go_wp2_with fail
  refine (K6 _ HG5.out).mono ?_
  rintro e w6 ⟨rfl, g6⟩
  have HG6 : Hid (Old w w6) := Old.trans HG5.out g6
  clear g6
  clear K1 K2 K3 K4 K5 K6
  go_wp2_with fail
  refine (cpr _ (HU.out.old HG6.out)).mono ?_
  rintro e wa ⟨d1, rfl, ga, ra⟩
  have HGA : Hid (Old w wa) := Old.trans HG6.out ga
  have HPA : Hid (Row wa d1 (toI (dig Q))) := ra
  obtain ⟨a1, cap1, rfl⟩ := ra.slice
  clear ga ra HG1 HG2 HG3 HG4 HG5 HG6
  go_wp2_with fail
  refine (cw _ _ HPA.out).mono ?_
  rintro e wb ⟨rfl, gb⟩
  have HGB : Hid (Old w wb) := Old.trans HGA.out gb
  have HPB : Hid (Row wb (.slice a1 (toI (dig Q)).length cap1) (toI (dig Q))) := HPA.out.old gb
  clear gb
  go_wp2_with fail
  refine (ci _).mono ?_
  rintro e wc ⟨rfl, hwc⟩
  replace hwc := hwc.symm
  subst hwc
  go_wp2_with fail
  refine (cm _).mono ?_
  rintro e wc ⟨rfl, hwc⟩
  replace hwc := hwc.symm
  subst hwc
  by_cases hcase : ((M : Int) / 2) ≤ (xx : Int)
  · have dc : decide (((M : Int) / 2) ≤ (xx : Int)) = true := decide_eq_true hcase
    rw [if_pos hcase] at hso
    have cin2 : ∀ W, Calls Tryd.prog 65 #[.int .i64 ((xx : Int) - (M : Int))] W fun e w' => ∃ v', e = .returned (.agg #[.bool (ng oo), v']) ∧ Old W w' ∧ Own w' W.heap.size v' (toI (dg oo)) := by rw [← hso]; exact cin
    clear hso hcase cin
    go_wp2_with fail
    refine (csm _ (HV.out.old HGB.out) (HU.out.old HGB.out)).mono ?_
    rintro e wd ⟨d2, rfl, gd, rd⟩
    have HGD : Hid (Old w wd) := Old.trans HGB.out gd
    have HPD : Hid (Row wd (.slice a1 (toI (dig Q)).length cap1) (toI (dig Q))) := HPB.out.old gd
    have HSD : Hid (Row wd d2 (toI (dig S))) := rd
    obtain ⟨a2, cap2, rfl⟩ := rd.slice
    clear gd rd
    go_wp2_with fail
    refine (cin2 _).mono ?_
    rintro e we ⟨d3, rfl, ge, oe⟩
    have HGE : Hid (Old w we) := Old.trans HGD.out ge
    have HPE : Hid (Row we (.slice a1 (toI (dig Q)).length cap1) (toI (dig Q))) := HPD.out.old ge
    have HSE : Hid (Row we (.slice a2 (toI (dig S)).length cap2) (toI (dig S))) := HSD.out.old ge
    have HIE : Hid (Row we d3 (toI (dg oo))) := Own.row oe
    obtain ⟨a3, cap3, rfl⟩ := (Own.row oe).slice
    clear ge oe
    go_wp2_with fail
    refine (cti _ _ _ HIE.out HPE.out).mono ?_
    rintro e wf ⟨d4, rfl, gf, of⟩
    have HGF : Hid (Old w wf) := Old.trans HGE.out gf
    have HSF : Hid (Row wf (.slice a2 (toI (dig S)).length cap2) (toI (dig S))) := HSE.out.old gf
    have HTF : Hid (Row wf d4 (toI (dg (oo * (Q : Int))))) := Own.row of
    obtain ⟨a4, cap4, rfl⟩ := (Own.row of).slice
    clear gf of
    go_wp2_with fail
    refine (cpl _ _ _ HSF.out HTF.out).mono ?_
    rintro e wg ⟨d5, rfl, gg, og⟩
    have HGG : Hid (Old w wg) := Old.trans HGF.out gg
    have HXG : Hid (Row wg d5 (toI (dg X))) := Own.row og
    obtain ⟨a5, cap5, rfl⟩ := (Own.row og).slice
    clear gg og
    have HWA : Hid (Old wg (wg.alloc (.cells #[.bool (ng X), .slice a5 (toI (dg X)).length cap5] 49))) := (Old.refl wg).alloc _
    have HSX : Hid (StW (wg.alloc (.cells #[.bool (ng X), .slice a5 (toI (dg X)).length cap5] 49)) wg.heap.size (.bool (ng X)) (.slice a5 (toI (dg X)).length cap5) 49) := StW.new wg _ _ _
    have hwx : (wg.alloc (.cells #[.bool (ng X), .slice a5 (toI (dg X)).length cap5] 49)).heap.size = wg.heap.size + 1 := by simp
    go_wp2_with fail
    go_loopw [15, 78] (fun x i W => ∃ (k : Nat) (a : Option Addr) (cap : Nat), k ≤ ts.length ∧ i = .int .i64 k ∧ x = .slice a k cap ∧ Hid (Own W (wg.heap.size + 1) (.slice a k cap) (zs.take k)) ∧ Hid (Old (wg.alloc (.cells #[.bool (ng X), .slice a5 (toI (dg X)).length cap5] 49)) W)) (fun _ i _ => ts.length - (intOf i).toNat)
    case atStart => exact ⟨0, none, 0, by omega, rfl, rfl, (by exact own_none _ _), Old.refl _⟩
    case round =>
      obtain ⟨k, ra, rc, hk, rfl, rfl, HO1, HGr⟩ := hrel
      have hs4 : wg.heap.size + 1 ≤ wr.heap.size := by have := HGr.out.size; omega
      have HGw : Hid (Old w wr) := Old.trans (Old.trans HGG.out HWA.out) HGr.out
      by_cases hlt : k < ts.length
      · have d1 : decide ((k : Int) < (ts.length : Int)) = true := by simp; omega
        have i1 : (k : Int) < (ts.length : Int) := by omega
        have k1 : wr.cell? ⟨b2, o2 + k, none⟩ = some (.int .i64 ((ts.getD k 0 : Nat) : Int)) := (HGw.out.cell (p := ⟨b2, o2 + k, none⟩) hb2).trans (HC2.out k hlt)
        have SX := HSX.out.old HGr.out
        have z0 := SX.c0
        have z1 := SX.c1
        have cmo := HMO.out k hlt
        obtain ⟨x2, x3⟩ := HBD.out k hlt
        have HT2 := HE.out k hlt
        generalize ts.getD k 0 = p at *
        have cv := fun W => spec_inv (M : Int) (p : Int) W (by omega) (by omega)
        have ei : (((M : Int) % (p : Int)).toNat) = M % p := by rw [← Int.natCast_emod, Int.toNat_natCast]
        rw [ei, Int.toNat_natCast] at cv
        have l4 := invM_lt (M % p) p (by omega)
        have l5 : 0 ≤ X % (p : Int) ∧ X % (p : Int) < (p : Int) := ⟨Int.emod_nonneg _ (by omega), Int.emod_lt_of_pos _ (by omega)⟩
        generalize M1.invM (M % p) p = iw at *
        generalize X % (p : Int) = xm at *
        have l6 : 0 ≤ xm * (iw : Int) ∧ xm * (iw : Int) ≤ 72057594037927936 := by
          have q1 : xm * (iw : Int) ≤ 268435456 * 268435456 := Int.mul_le_mul (by omega) (by omega) (by omega) (by omega)
          have q2 : 0 ≤ xm * (iw : Int) := Int.mul_nonneg (by omega) (by omega)
          omega
        have t7 : IntKind.i64.wrap (xm * (iw : Int)) = xm * (iw : Int) := by rw [IntKind.wrap_i64]; omega
        have hp0 : ¬ p = 0 := by omega
        obtain ⟨y, hy⟩ : ∃ y, Int.tmod (xm * (iw : Int)) (p : Int) = y := ⟨_, rfl⟩
        rw [hy] at HT2
        have HT3 : Hid (zs.take (k + 1) = zs.take k ++ [y]) := HT2
        have htk : (zs.take k).length = k := by rw [List.length_take]; omega
        clear HT2 ei l6 SX
        go_wp2_with fail
        refine (cmo _ _ (HXG.out.old (Old.trans HWA.out HGr.out))).mono ?_
        rintro e wh ⟨rfl, gh⟩
        have HO4 : Hid (Own wh (wg.heap.size + 1) (.slice ra k rc) (zs.take k)) := HO1.out.old gh
        have HG6 : Hid (Old (wg.alloc (.cells #[.bool (ng X), .slice a5 (toI (dg X)).length cap5] 49)) wh) := Old.trans HGr.out gh
        have hs5 : wg.heap.size + 1 ≤ wh.heap.size := by have := gh.size; omega
        clear gh z0 z1 k1
        go_wp2_with fail
        refine (cv _).mono ?_
        rintro e wc ⟨rfl, hwc⟩
        replace hwc := hwc.symm
        subst hwc
        go_wp2_with (at_builtin; refine wpList_append_own _ rfl _ _ 22 rfl (wg.heap.size + 1) 3 i0 (.int .i64 0) 1 8 Tryd.underlying22 hi hz0 hz1 hz2 rfl (by decide) _ _ _ rfl (by have := HO4.out.alloc (.cells #[.int .i64 y] 3); unfold Own at this; rw [htk] at this; exact this) ⟨wh.heap.size, 0, none⟩ 1 1 [.int .i64 y] rfl rfl (one_cell _ _ _) (one_one _) (by unfold maxLen; omega) (by omega) (by simp; omega) ?_; intro v5 w5 o5 g5 x5; have O5 : Hid (Own w5 (wg.heap.size + 1) v5 (zs.take (k + 1))) := (by have := HT3.out; show Own _ _ _ _; rw [this]; exact Own.snoc (by rw [htk]; exact o5)); have G5 : Hid (Old (wg.alloc (.cells #[.bool (ng X), .slice a5 (toI (dg X)).length cap5] 49)) w5) := Below.grown (HG6.out.alloc (.cells #[.int .i64 y] 3)) g5 (HG6.out.alloc (.cells #[.int .i64 y] 3)).size (fun j hj => by have := (HO4.out.lt j hj).1; simp; omega); clear o5 g5 x5)
        obtain ⟨a6, cap6, rfl⟩ := (Own.row O5.out).slice
        have htk1 : (zs.take (k + 1)).length = k + 1 := by rw [List.length_take]; omega
        rw [htk1] at O5 ⊢
        exact ⟨⟨k + 1, _, _, by omega, by go_num, rfl, O5, G5⟩, by simp [intOf]; omega⟩
      · have d1 : decide ((k : Int) < (ts.length : Int)) = false := by simp; omega
        obtain rfl : k = ts.length := by omega
        have HF : Hid (Own wr (wg.heap.size + 1) (.slice ra ts.length rc) zs) := by
          have := HO1.out
          rw [List.take_of_length_le (by omega)] at this
          exact this
        go_wp2_with fail
        go_ret2
        exact ⟨_, rfl, HGw.out, HF.out.low (by have := HGG.out.size; omega)⟩
  · have dc : decide (((M : Int) / 2) ≤ (xx : Int)) = false := decide_eq_false hcase
    rw [if_neg hcase] at hso
    have cin2 : ∀ W, Calls Tryd.prog 65 #[.int .i64 (xx : Int)] W fun e w' => ∃ v', e = .returned (.agg #[.bool (ng oo), v']) ∧ Old W w' ∧ Own w' W.heap.size v' (toI (dg oo)) := by rw [← hso]; exact cin
    clear hso hcase cin
    go_wp2_with fail
    refine (csm _ (HV.out.old HGB.out) (HU.out.old HGB.out)).mono ?_
    rintro e wd ⟨d2, rfl, gd, rd⟩
    have HGD : Hid (Old w wd) := Old.trans HGB.out gd
    have HPD : Hid (Row wd (.slice a1 (toI (dig Q)).length cap1) (toI (dig Q))) := HPB.out.old gd
    have HSD : Hid (Row wd d2 (toI (dig S))) := rd
    obtain ⟨a2, cap2, rfl⟩ := rd.slice
    clear gd rd
    go_wp2_with fail
    refine (cin2 _).mono ?_
    rintro e we ⟨d3, rfl, ge, oe⟩
    have HGE : Hid (Old w we) := Old.trans HGD.out ge
    have HPE : Hid (Row we (.slice a1 (toI (dig Q)).length cap1) (toI (dig Q))) := HPD.out.old ge
    have HSE : Hid (Row we (.slice a2 (toI (dig S)).length cap2) (toI (dig S))) := HSD.out.old ge
    have HIE : Hid (Row we d3 (toI (dg oo))) := Own.row oe
    obtain ⟨a3, cap3, rfl⟩ := (Own.row oe).slice
    clear ge oe
    go_wp2_with fail
    refine (cti _ _ _ HIE.out HPE.out).mono ?_
    rintro e wf ⟨d4, rfl, gf, of⟩
    have HGF : Hid (Old w wf) := Old.trans HGE.out gf
    have HSF : Hid (Row wf (.slice a2 (toI (dig S)).length cap2) (toI (dig S))) := HSE.out.old gf
    have HTF : Hid (Row wf d4 (toI (dg (oo * (Q : Int))))) := Own.row of
    obtain ⟨a4, cap4, rfl⟩ := (Own.row of).slice
    clear gf of
    go_wp2_with fail
    refine (cpl _ _ _ HSF.out HTF.out).mono ?_
    rintro e wg ⟨d5, rfl, gg, og⟩
    have HGG : Hid (Old w wg) := Old.trans HGF.out gg
    have HXG : Hid (Row wg d5 (toI (dg X))) := Own.row og
    obtain ⟨a5, cap5, rfl⟩ := (Own.row og).slice
    clear gg og
    have HWA : Hid (Old wg (wg.alloc (.cells #[.bool (ng X), .slice a5 (toI (dg X)).length cap5] 49))) := (Old.refl wg).alloc _
    have HSX : Hid (StW (wg.alloc (.cells #[.bool (ng X), .slice a5 (toI (dg X)).length cap5] 49)) wg.heap.size (.bool (ng X)) (.slice a5 (toI (dg X)).length cap5) 49) := StW.new wg _ _ _
    have hwx : (wg.alloc (.cells #[.bool (ng X), .slice a5 (toI (dg X)).length cap5] 49)).heap.size = wg.heap.size + 1 := by simp
    go_wp2_with fail
    go_loopw [15, 78] (fun x i W => ∃ (k : Nat) (a : Option Addr) (cap : Nat), k ≤ ts.length ∧ i = .int .i64 k ∧ x = .slice a k cap ∧ Hid (Own W (wg.heap.size + 1) (.slice a k cap) (zs.take k)) ∧ Hid (Old (wg.alloc (.cells #[.bool (ng X), .slice a5 (toI (dg X)).length cap5] 49)) W)) (fun _ i _ => ts.length - (intOf i).toNat)
    case atStart => exact ⟨0, none, 0, by omega, rfl, rfl, (by exact own_none _ _), Old.refl _⟩
    case round =>
      obtain ⟨k, ra, rc, hk, rfl, rfl, HO1, HGr⟩ := hrel
      have hs4 : wg.heap.size + 1 ≤ wr.heap.size := by have := HGr.out.size; omega
      have HGw : Hid (Old w wr) := Old.trans (Old.trans HGG.out HWA.out) HGr.out
      by_cases hlt : k < ts.length
      · have d1 : decide ((k : Int) < (ts.length : Int)) = true := by simp; omega
        have i1 : (k : Int) < (ts.length : Int) := by omega
        have k1 : wr.cell? ⟨b2, o2 + k, none⟩ = some (.int .i64 ((ts.getD k 0 : Nat) : Int)) := (HGw.out.cell (p := ⟨b2, o2 + k, none⟩) hb2).trans (HC2.out k hlt)
        have SX := HSX.out.old HGr.out
        have z0 := SX.c0
        have z1 := SX.c1
        have cmo := HMO.out k hlt
        obtain ⟨x2, x3⟩ := HBD.out k hlt
        have HT2 := HE.out k hlt
        generalize ts.getD k 0 = p at *
        have cv := fun W => spec_inv (M : Int) (p : Int) W (by omega) (by omega)
        have ei : (((M : Int) % (p : Int)).toNat) = M % p := by rw [← Int.natCast_emod, Int.toNat_natCast]
        rw [ei, Int.toNat_natCast] at cv
        have l4 := invM_lt (M % p) p (by omega)
        have l5 : 0 ≤ X % (p : Int) ∧ X % (p : Int) < (p : Int) := ⟨Int.emod_nonneg _ (by omega), Int.emod_lt_of_pos _ (by omega)⟩
        generalize M1.invM (M % p) p = iw at *
        generalize X % (p : Int) = xm at *
        have l6 : 0 ≤ xm * (iw : Int) ∧ xm * (iw : Int) ≤ 72057594037927936 := by
          have q1 : xm * (iw : Int) ≤ 268435456 * 268435456 := Int.mul_le_mul (by omega) (by omega) (by omega) (by omega)
          have q2 : 0 ≤ xm * (iw : Int) := Int.mul_nonneg (by omega) (by omega)
          omega
        have t7 : IntKind.i64.wrap (xm * (iw : Int)) = xm * (iw : Int) := by rw [IntKind.wrap_i64]; omega
        have hp0 : ¬ p = 0 := by omega
        obtain ⟨y, hy⟩ : ∃ y, Int.tmod (xm * (iw : Int)) (p : Int) = y := ⟨_, rfl⟩
        rw [hy] at HT2
        have HT3 : Hid (zs.take (k + 1) = zs.take k ++ [y]) := HT2
        have htk : (zs.take k).length = k := by rw [List.length_take]; omega
        clear HT2 ei l6 SX
        go_wp2_with fail
        refine (cmo _ _ (HXG.out.old (Old.trans HWA.out HGr.out))).mono ?_
        rintro e wh ⟨rfl, gh⟩
        have HO4 : Hid (Own wh (wg.heap.size + 1) (.slice ra k rc) (zs.take k)) := HO1.out.old gh
        have HG6 : Hid (Old (wg.alloc (.cells #[.bool (ng X), .slice a5 (toI (dg X)).length cap5] 49)) wh) := Old.trans HGr.out gh
        have hs5 : wg.heap.size + 1 ≤ wh.heap.size := by have := gh.size; omega
        clear gh z0 z1 k1
        go_wp2_with fail
        refine (cv _).mono ?_
        rintro e wc ⟨rfl, hwc⟩
        replace hwc := hwc.symm
        subst hwc
        go_wp2_with (at_builtin; refine wpList_append_own _ rfl _ _ 22 rfl (wg.heap.size + 1) 3 i0 (.int .i64 0) 1 8 Tryd.underlying22 hi hz0 hz1 hz2 rfl (by decide) _ _ _ rfl (by have := HO4.out.alloc (.cells #[.int .i64 y] 3); unfold Own at this; rw [htk] at this; exact this) ⟨wh.heap.size, 0, none⟩ 1 1 [.int .i64 y] rfl rfl (one_cell _ _ _) (one_one _) (by unfold maxLen; omega) (by omega) (by simp; omega) ?_; intro v5 w5 o5 g5 x5; have O5 : Hid (Own w5 (wg.heap.size + 1) v5 (zs.take (k + 1))) := (by have := HT3.out; show Own _ _ _ _; rw [this]; exact Own.snoc (by rw [htk]; exact o5)); have G5 : Hid (Old (wg.alloc (.cells #[.bool (ng X), .slice a5 (toI (dg X)).length cap5] 49)) w5) := Below.grown (HG6.out.alloc (.cells #[.int .i64 y] 3)) g5 (HG6.out.alloc (.cells #[.int .i64 y] 3)).size (fun j hj => by have := (HO4.out.lt j hj).1; simp; omega); clear o5 g5 x5)
        obtain ⟨a6, cap6, rfl⟩ := (Own.row O5.out).slice
        have htk1 : (zs.take (k + 1)).length = k + 1 := by rw [List.length_take]; omega
        rw [htk1] at O5 ⊢
        exact ⟨⟨k + 1, _, _, by omega, by go_num, rfl, O5, G5⟩, by simp [intOf]; omega⟩
      · have d1 : decide ((k : Int) < (ts.length : Int)) = false := by simp; omega
        obtain rfl : k = ts.length := by omega
        have HF : Hid (Own wr (wg.heap.size + 1) (.slice ra ts.length rc) zs) := by
          have := HO1.out
          rw [List.take_of_length_le (by omega)] at this
          exact this
        go_wp2_with fail
        go_ret2
        exact ⟨_, rfl, HGw.out, HF.out.low (by have := HGG.out.size; omega)⟩
end Go.Proofs.YtejkejfhahmhcaaDoor
