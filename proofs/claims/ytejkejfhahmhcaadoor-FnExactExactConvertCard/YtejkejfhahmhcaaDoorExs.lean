/- Proved: the model's ExactConvert where it answers; the statement on it. -/
import Derived.Test.YtejkejfhahmhcaaDoorExi
import Derived.Test.YtejkejfhahmhcaaDoorSsm
import Derived.Test.YtejkejfhahmhcaaDoorCvo
import Derived.Test.YtejkejfhahmhcaaDoorResS
import Derived.Test.YtejkejfhahmhcaaDoorLawExactConvert
namespace Go.Proofs.YtejkejfhahmhcaaDoor
open Go.ChangeShapes Go.WideShapes Go.ChangeAt Go.RowKit
open M2
set_option linter.unusedVariables false
set_option linter.unusedSimpArgs false
theorem bas_in7 {ps : List Nat} (hb : Bas ps) : ∀ x ∈ toZ ps, -9223372036854775808 ≤ x ∧ x ≤ 9223372036854775807 := fun x hx => by
  obtain ⟨n, hn, rfl⟩ := List.mem_map.1 hx
  have := hb.hi n hn
  omega
theorem ex_o (E A : Nat) (rs ps : List Nat) (hE : E % 2 = 1) (h3 : 3 ≤ E) (hA : A < E) : cenM ((((sumN rs ps ps.length % E : Nat) : Int) - (A : Int)) * ((M1.invM (prodN ps % E) E : Nat) : Int)) E = -exO E A ps (yL rs ps) := by
  refine cen_opp _ E _ hE h3 ?_
  rw [plusS_eq E rs ps _ (by omega)]
  unfold overL
  rw [pm_mod E ps (by omega)]
  generalize sumN rs ps ps.length = S
  generalize prodN ps = Q
  rw [turn_eq E ((E - A + S) % E) _ _ ((A : Int) - ((S % E : Nat) : Int)) (by omega) (inv_neg (Q % E) E (by omega) (Nat.mod_lt _ (by omega))) ?_]
  · rw [← Int.neg_mul, Int.neg_sub]
  · have e3 : (((E - A + S) % E : Nat) : Int) + ((A : Int) - ((S % E : Nat) : Int)) = ((E : Int) - A + S) % E + (A - (S : Int) % E) := by
      rw [Int.natCast_emod, Int.natCast_add, Int.natCast_sub (by omega), Int.natCast_emod]
    rw [e3]
    refine Int.emod_eq_zero_of_dvd ?_
    have d1 : (E : Int) ∣ ((E : Int) - A + S) - ((E : Int) - A + S) % E := Int.dvd_self_sub_of_emod_eq rfl
    have d2 : (E : Int) ∣ (S : Int) - (S : Int) % E := Int.dvd_self_sub_of_emod_eq rfl
    have e4 : ((E : Int) - A + S) % E + (A - (S : Int) % E) = (E : Int) + ((S : Int) - (S : Int) % E) - (((E : Int) - A + S) - ((E : Int) - A + S) % E) := by omega
    rw [e4]
    exact Int.dvd_sub (Int.dvd_add (Int.dvd_refl _) d2) d1
theorem ex_res (E A : Nat) (rs ps ts : List Nat) (hB : Bas ts) (X : Int) (hX : X = ((sumN rs ps ps.length : Nat) : Int) + exO E A ps (yL rs ps) * ((prodN ps : Nat) : Int)) : resL (ng X) (toI (dg X)) ts = toZ (exL E A ps (yL rs ps) ts) := by
  unfold resL exL toZ
  rw [nat_toI6, List.map_map, sv_of]
  refine List.map_congr_left (fun m hm => ?_)
  show X % (m : Int) = ((plusP m ps (exO E A ps (yL rs ps)) (plusS m ps (yL rs ps) 0) : Nat) : Int)
  rw [plusPS_eq m rs ps _ (hB.lo m hm), hX]
set_option maxRecDepth 100000 in
set_option maxHeartbeats 8000000 in
theorem spec_ExactConvert_yes (rs ps ts : List Nat) (E A : Nat) (v u q : Value) (w : World) (hv : Row w v (toZ rs)) (hu : Row w u (toZ ps)) (hf : Fit u) (hq : Row w q (toZ ts)) (hfq : Fit q) (hR : Res rs ps) (hB : Bas ts) (hE : 2 ≤ E ∧ E ≤ 268435456) (hA : A < E) (h : ecB (toZ rs) (toZ ps) E A (toZ ts) = true) :
    Calls Tryd.prog 26 #[v, u, .int .i64 (E : Int), .int .i64 (A : Int), q] w (Ls w (toZ (exL E A ps (yL rs ps) ts)) true) := by
  have hl6 := hR.bas.len6
  have hl1 := hR.bas.len1
  have hln := hR.len
  have ht6 := hB.len6
  have K1 : ∀ W, Old w W → Calls Tryd.prog 34 #[v, u] W fun e w' => e = .returned (.bool (basB (toZ ps) && rsB (toZ rs) (toZ ps))) ∧ Old W w' := fun W g => l4Good_any (toZ rs) (toZ ps) v u W (hv.old g) (hu.old g) hf (by rw [toZ_len]; omega) (by rw [toZ_len]; omega) (bas_in7 hR.bas)
  have K2 : ∀ W, Old w W → Calls Tryd.prog 44 #[q] W fun e w' => e = .returned (.bool (basB (toZ ts))) ∧ Old W w' := fun W g => spec_goodBasis (toZ ts) q W (hq.old g) hfq (by rw [toZ_len]; omega) (bas_in7 hB)
  have K3 : ∀ W, Old w W → Calls Tryd.prog 56 #[.int .i64 (E : Int)] W fun e w' => e = .returned (.bool (modB (E : Int))) ∧ Old W w' := fun W g => (spec_modulus (E : Int) W).mono (fun e w' h => ⟨h.1, by rw [h.2]; exact Old.refl _⟩)
  have K4 : ∀ W, Old w W → Calls Tryd.prog 57 #[.int .u64 (E : Int)] W fun e w' => e = .returned (.bool (isP E)) ∧ Old W w' := fun W g => spec_IsPrime E W (by omega)
  have t2 : IntKind.i64.wrap (2 * (ps.length : Int)) = 2 * (ps.length : Int) := by rw [IntKind.wrap_i64]; omega
  have t1 : IntKind.i64.wrap ((E : Int) - 1) = (E : Int) - 1 := by rw [IntKind.wrap_i64]; omega
  have K6 : ∀ W, Old w W → Calls Tryd.prog 58 #[u, .int .i64 (E : Int)] W fun e w' => e = .returned (.bool ((toZ ps).contains (E : Int))) ∧ Old W w' := fun W g => has_any (toZ ps) (E : Int) u W (hu.old g) (by rw [toZ_len]; omega)
  have K7 : ∀ W, Old w W → Calls Tryd.prog 58 #[q, .int .i64 (E : Int)] W fun e w' => e = .returned (.bool ((toZ ts).contains (E : Int))) ∧ Old W w' := fun W g => has_any (toZ ts) (E : Int) q W (hq.old g) (by rw [toZ_len]; omega)
  have K8 : ∀ W, Old w W → Calls Tryd.prog 59 #[.int .i64 (A : Int), .int .i64 0, .int .i64 ((E : Int) - 1)] W fun e w' => e = .returned (.bool (resB (A : Int) (E : Int))) ∧ Old W w' := fun W g => (spec_res (A : Int) (E : Int) W).mono (fun e w' h => ⟨h.1, by rw [h.2]; exact Old.refl _⟩)
  unfold ecB exB pmB at h
  simp only [Bool.and_eq_true, Bool.not_eq_true', decide_eq_true_eq] at h
  obtain ⟨⟨⟨⟨h1, h2⟩, h3⟩, ⟨⟨⟨⟨h4, h5⟩, h6⟩, h7⟩, h8⟩⟩, h9⟩ := h
  rw [toZ_len] at h6
  rw [Int.toNat_natCast] at h5
  have D5 : decide ((E : Int) ≤ 2 * (ps.length : Int)) = false := decide_eq_false (by omega)
  have hodd := isP_odd E h5 (by omega)
  rw [h1, h3] at K1
  rw [h2] at K2
  rw [h4] at K3
  rw [h5] at K4
  rw [h7] at K6
  rw [h8] at K7
  rw [h9] at K8
  have cpr := fun W h3 => spec_product ps u W h3 hl6 hR.bas.hi
  have csm := fun W h4 h5 => spec_sum rs ps v u W h4 h5 hR
  have hlP : (dig (prodN ps)).length ≤ 7 := hR.bas.cnt
  have hdS : (dig (sumN rs ps ps.length)).length ≤ 7 := sumN_cnt hR.bas _ (Nat.le_refl _)
  have cw1 := fun d W h3 => word_any (dig (sumN rs ps ps.length)) E d W h3 (dig_lim _) (by omega) (by omega) (by omega)
  have cw2 := fun d W h3 => word_any (dig (prodN ps)) E d W h3 (dig_lim _) (by omega) (by omega) (by omega)
  rw [val_dig] at cw1 cw2
  have hlq := Nat.mod_lt (prodN ps) (show 0 < E by omega)
  have hls := Nat.mod_lt (sumN rs ps ps.length) (show 0 < E by omega)
  have ci := fun W => spec_inv ((prodN ps % E : Nat) : Int) (E : Int) W (by omega) (by omega)
  have ei : ((((prodN ps % E : Nat) : Int) % (E : Int)).toNat) = prodN ps % E := by rw [← Int.natCast_emod, Nat.mod_mod, Int.toNat_natCast]
  rw [ei, Int.toNat_natCast] at ci
  have l3 := invM_lt (prodN ps % E) E (by omega)
  have heo := ex_o E A rs ps hodd (by omega) hA
  have hoi := exO_in E A ps (yL rs ps) hE
  have cin := fun W => int_any (-exO E A ps (yL rs ps)) W (by omega) (by omega)
  have hdl : (dg (-exO E A ps (yL rs ps))).length ≤ 2 := dg_len6 (by show _ < 268435456 ^ 2; omega)
  have cti := fun d e W h3 h4 => times_any (ng (-exO E A ps (yL rs ps))) false (dg (-exO E A ps (yL rs ps))) (dig (prodN ps)) d e W h3 h4 (dg_lim6 _) (dig_lim _) (by omega) (by omega)
  rw [sv_of, sv_nat] at cti
  have hdQ : (dg (-exO E A ps (yL rs ps) * ((prodN ps : Nat) : Int))).length ≤ 8 := cQ_len (by omega) hR.bas
  have cng := fun a c W => neg_any (-exO E A ps (yL rs ps) * ((prodN ps : Nat) : Int)) a c W (by omega)
  have e7 : -(-exO E A ps (yL rs ps) * ((prodN ps : Nat) : Int)) = exO E A ps (yL rs ps) * ((prodN ps : Nat) : Int) := by rw [Int.neg_mul, Int.neg_neg]
  have e8 : dg (-exO E A ps (yL rs ps) * ((prodN ps : Nat) : Int)) = dg (exO E A ps (yL rs ps) * ((prodN ps : Nat) : Int)) := by rw [Int.neg_mul]; unfold dg; rw [Int.natAbs_neg]
  rw [e7, e8] at cng
  rw [e8] at cti hdQ
  have cpl := fun d e W h3 h4 => plus_any false (ng (exO E A ps (yL rs ps) * ((prodN ps : Nat) : Int))) (dig (sumN rs ps ps.length)) (dg (exO E A ps (yL rs ps) * ((prodN ps : Nat) : Int))) d e W h3 h4 ⟨dig_nrm _, fun h => by cases h⟩ (gw_of _) (by omega) (by omega)
  rw [sv_of, sv_nat] at cpl
  have hdX := X_len (rs := rs) hoi hR.bas
  have hgX : Good (ng (((sumN rs ps ps.length : Nat) : Int) + exO E A ps (yL rs ps) * ((prodN ps : Nat) : Int))) (toI (dg (((sumN rs ps ps.length : Nat) : Int) + exO E A ps (yL rs ps) * ((prodN ps : Nat) : Int)))) := gw_good6 (gw_of _).1 (gw_of _).2 (by omega)
  have cre := fun d W h4 h5 => spec_residues _ _ ts d q W h4 h5 hgX hB
  rw [ex_res E A rs ps ts hB _ rfl] at cre
  have HV : Hid (Row w v (toZ rs)) := hv
  have HU : Hid (Row w u (toZ ps)) := hu
  have HQ : Hid (Row w q (toZ ts)) := hq
  obtain ⟨va, vc, rfl⟩ : ∃ a c, v = .slice a rs.length c := by have := hv.slice; rwa [toZ_len] at this
  obtain ⟨ua, uc, rfl⟩ : ∃ a c, u = .slice a ps.length c := by have := hu.slice; rwa [toZ_len] at this
  obtain ⟨qa, qc, rfl⟩ : ∃ a c, q = .slice a ts.length c := by have := hq.slice; rwa [toZ_len] at this
  clear hv hu hq hf hfq h1 h2 h3 h4 h5 h6 h7 h8 h9 hR hB hln ei hdX hdS hdQ hdl hlP e7 e8 hgX hodd
  generalize toZ (exL E A ps (yL rs ps) ts) = zs at *
  obtain ⟨sm, hsm⟩ : ∃ sm, sumN rs ps ps.length % E = sm := ⟨_, rfl⟩
  obtain ⟨qm, hqm⟩ : ∃ qm, prodN ps % E = qm := ⟨_, rfl⟩
  rw [hsm] at cw1 hls heo
  rw [hqm] at cw2 hlq ci l3 heo
  obtain ⟨iv, hiv⟩ : ∃ iv, M1.invM qm E = iv := ⟨_, rfl⟩
  rw [hiv] at ci l3 heo
  clear hsm hqm hiv
  obtain ⟨df, hdf⟩ : ∃ df : Int, (sm : Int) - (A : Int) = df := ⟨_, rfl⟩
  have t4 : IntKind.i64.wrap ((sm : Int) - (A : Int)) = df := by rw [hdf, IntKind.wrap_i64]; omega
  have hdb : -268435456 ≤ df ∧ df ≤ 268435456 := by omega
  rw [hdf] at heo
  obtain ⟨pr, hpr⟩ : ∃ pr : Int, df * (iv : Int) = pr := ⟨_, rfl⟩
  have hpb : -72057594037927936 ≤ pr ∧ pr ≤ 72057594037927936 := by
    rw [← hpr]
    have q1 : df * (iv : Int) ≤ 268435456 * (iv : Int) := Int.mul_le_mul_of_nonneg_right hdb.2 (by omega)
    have q2 : -268435456 * (iv : Int) ≤ df * (iv : Int) := Int.mul_le_mul_of_nonneg_right hdb.1 (by omega)
    omega
  have t5 : IntKind.i64.wrap (df * (iv : Int)) = pr := by rw [hpr, IntKind.wrap_i64]; omega
  rw [hpr] at heo
  clear hdf hpr
  have cce := fun W => spec_centred pr E W (by omega) hE
  rw [heo] at cce
  clear heo
  generalize exO E A ps (yL rs ps) = oo at *
  obtain ⟨X, hX⟩ : ∃ X : Int, ((sumN rs ps ps.length : Nat) : Int) + oo * ((prodN ps : Nat) : Int) = X := ⟨_, rfl⟩
  rw [hX] at cpl cre
  clear hX
  obtain ⟨no, hno⟩ : ∃ no : Int, -oo = no := ⟨_, rfl⟩
  rw [hno] at cce cin cti cng
  clear hno
  generalize sumN rs ps ps.length = S at *
  generalize prodN ps = Q at *
  have HG0 : Hid (Old w w) := Old.refl w
  go_enter Tryd.func26, Tryd.ntmps26
  go_wp2_with fail
  refine (K1 _ HG0.out).mono ?_
  rintro e w1 ⟨rfl, g1⟩
  have HG1 : Hid (Old w w1) := Old.trans HG0.out g1
  clear g1
  go_wp2_with fail
  refine (K2 _ HG1.out).mono ?_
  rintro e w2 ⟨rfl, g2⟩
  have HG2 : Hid (Old w w2) := Old.trans HG1.out g2
  clear g2
  go_wp2_with fail
  refine (K3 _ HG2.out).mono ?_
  rintro e w3 ⟨rfl, g3⟩
  have HG3 : Hid (Old w w3) := Old.trans HG2.out g3
  clear g3
  go_wp2_with fail
  refine (K4 _ HG3.out).mono ?_
  rintro e w4 ⟨rfl, g4⟩
  have HG4 : Hid (Old w w4) := Old.trans HG3.out g4
  clear g4
  go_wp2_with fail
  refine (K6 _ HG4.out).mono ?_
  rintro e w6 ⟨rfl, g6⟩
  have HG6 : Hid (Old w w6) := Old.trans HG4.out g6
  clear g6
  go_wp2_with fail
  refine (K7 _ HG6.out).mono ?_
  rintro e w7 ⟨rfl, g7⟩
  have HG7 : Hid (Old w w7) := Old.trans HG6.out g7
  clear g7
  go_wp2_with fail
  refine (K8 _ HG7.out).mono ?_
  rintro e w8 ⟨rfl, g8⟩
  have HG8 : Hid (Old w w8) := Old.trans HG7.out g8
  clear g8
  clear K1 K2 K3 K4 K6 K7 K8
  go_wp2_with fail
  refine (csm _ (HV.out.old HG8.out) (HU.out.old HG8.out)).mono ?_
  rintro e wd ⟨d2, rfl, gd, rd⟩
  have HGD : Hid (Old w wd) := Old.trans HG8.out gd
  have HSD : Hid (Row wd d2 (toI (dig S))) := rd
  obtain ⟨a2, cap2, rfl⟩ := rd.slice
  clear gd rd HG1 HG2 HG3 HG4 HG6 HG7 HG8
  go_wp2_with fail
  refine (cpr _ (HU.out.old HGD.out)).mono ?_
  rintro e wa ⟨d1, rfl, ga, ra⟩
  have HGA : Hid (Old w wa) := Old.trans HGD.out ga
  have HSA : Hid (Row wa (.slice a2 (toI (dig S)).length cap2) (toI (dig S))) := HSD.out.old ga
  have HPA : Hid (Row wa d1 (toI (dig Q))) := ra
  obtain ⟨a1, cap1, rfl⟩ := ra.slice
  clear ga ra
  go_wp2_with fail
  refine (cw1 _ _ HSA.out).mono ?_
  rintro e wb ⟨rfl, gb⟩
  have HGB : Hid (Old w wb) := Old.trans HGA.out gb
  have HPB : Hid (Row wb (.slice a1 (toI (dig Q)).length cap1) (toI (dig Q))) := HPA.out.old gb
  have HSB : Hid (Row wb (.slice a2 (toI (dig S)).length cap2) (toI (dig S))) := HSA.out.old gb
  clear gb
  go_wp2_with fail
  refine (cw2 _ _ HPB.out).mono ?_
  rintro e we ⟨rfl, ge⟩
  have HGE : Hid (Old w we) := Old.trans HGB.out ge
  have HPE : Hid (Row we (.slice a1 (toI (dig Q)).length cap1) (toI (dig Q))) := HPB.out.old ge
  have HSE : Hid (Row we (.slice a2 (toI (dig S)).length cap2) (toI (dig S))) := HSB.out.old ge
  clear ge
  go_wp2_with fail
  refine (ci _).mono ?_
  rintro e wc ⟨rfl, hwc⟩
  replace hwc := hwc.symm
  subst hwc
  go_wp2_with fail
  refine (cce _).mono ?_
  rintro e wc ⟨rfl, hwc⟩
  replace hwc := hwc.symm
  subst hwc
  go_wp2_with fail
  refine (cin _).mono ?_
  rintro e wf ⟨d3, rfl, gf, of⟩
  have HGF : Hid (Old w wf) := Old.trans HGE.out gf
  have HPF : Hid (Row wf (.slice a1 (toI (dig Q)).length cap1) (toI (dig Q))) := HPE.out.old gf
  have HSF : Hid (Row wf (.slice a2 (toI (dig S)).length cap2) (toI (dig S))) := HSE.out.old gf
  have HIF : Hid (Row wf d3 (toI (dg no))) := Own.row of
  obtain ⟨a3, cap3, rfl⟩ := (Own.row of).slice
  clear gf of
  go_wp2_with fail
  refine (cti _ _ _ HIF.out HPF.out).mono ?_
  rintro e wg ⟨d4, rfl, gg, og⟩
  have HGG : Hid (Old w wg) := Old.trans HGF.out gg
  have HSG : Hid (Row wg (.slice a2 (toI (dig S)).length cap2) (toI (dig S))) := HSF.out.old gg
  have HTG : Hid (Row wg d4 (toI (dg (oo * (Q : Int))))) := Own.row og
  obtain ⟨a4, cap4, rfl⟩ := (Own.row og).slice
  clear gg og
  go_wp2_with fail
  refine (cng _ _ _).mono ?_
  rintro e wh ⟨rfl, gh⟩
  have HGH : Hid (Old w wh) := Old.trans HGG.out gh
  have HSH : Hid (Row wh (.slice a2 (toI (dig S)).length cap2) (toI (dig S))) := HSG.out.old gh
  have HTH : Hid (Row wh (.slice a4 (toI (dg (oo * (Q : Int)))).length cap4) (toI (dg (oo * (Q : Int))))) := HTG.out.old gh
  clear gh
  go_wp2_with fail
  refine (cpl _ _ _ HSH.out HTH.out).mono ?_
  rintro e wi ⟨d5, rfl, gi, oi⟩
  have HGI : Hid (Old w wi) := Old.trans HGH.out gi
  have HXI : Hid (Row wi d5 (toI (dg X))) := Own.row oi
  obtain ⟨a5, cap5, rfl⟩ := (Own.row oi).slice
  clear gi oi
  go_wp2_with fail
  refine (cre _ _ HXI.out (HQ.out.old HGI.out)).mono ?_
  rintro e wj ⟨d6, rfl, gj, oj⟩
  have HGJ : Hid (Old w wj) := Old.trans HGI.out gj
  have HOJ : Hid (Own wj w.heap.size d6 zs) := oj.low HGI.out.size
  obtain ⟨a6, cap6, rfl⟩ := (Own.row oj).slice
  clear gj oj
  go_wp2_with fail
  go_ret2
  exact ⟨_, rfl, HGJ.out, HOJ.out⟩
theorem ExactConvert_any (rs xs ts : List Int) (x a : Int) (v u q : Value) (w : World) (hv : Row w v rs) (hu : Row w u xs) (hq : Row w q ts) (hlr : rs.length ≤ 9223372036854775807) (hl : xs.length ≤ 9223372036854775807) (hlq : ts.length ≤ 9223372036854775807) (hx : ∀ x ∈ xs, -9223372036854775808 ≤ x ∧ x ≤ 9223372036854775807) (ht : ∀ x ∈ ts, -9223372036854775808 ≤ x ∧ x ≤ 9223372036854775807) (hP : PrsW w) (hT : TabW w) :
    Calls Tryd.prog 7 #[v, u, .int .i64 x, .int .i64 a, q] w fun e w' => e = .returned (.bool true) ∧ Old w w' := by
  cases h : ecB rs xs x a ts
  · exact law_ExactConvert x a rs xs ts v u q w hv hlr hu hl hq hlq hP hT false [] (by simp)
      (fun _ l2 l3 v u q W hr _ hr2 hf hr3 hf3 => spec_ExactConvert_no rs xs ts x a v u q W hr hr2 hf hr3 hf3 l2 hlr l3 hx ht h)
      (fun _ l2 l3 v u q W hp ht' hr _ hr2 hf hr3 hf3 => impl_ExactConvert_no rs xs ts x a v u q W hp ht' hr hr2 hf hr3 hf3 l2 hlr l3 h)
  · have h' := h
    unfold ecB exB pmB at h'
    simp only [Bool.and_eq_true] at h'
    obtain ⟨⟨⟨⟨h1, h2⟩, h3⟩, ⟨⟨⟨⟨h4, h5⟩, h6⟩, h7⟩, h8⟩⟩, h9⟩ := h'
    obtain ⟨ps, rfl, hb⟩ := basB_yes h1
    obtain ⟨ns, rfl, hB⟩ := basB_yes h2
    obtain ⟨qs, rfl, hR⟩ := rsB_yes rfl hb h3
    obtain ⟨m1, m2⟩ := modB_yes h4
    simp only [resB, Bool.and_eq_true, decide_eq_true_eq] at h9
    obtain ⟨A, rfl⟩ := Int.eq_ofNat_of_zero_le h9.1
    obtain ⟨E, rfl⟩ := Int.eq_ofNat_of_zero_le (show 0 ≤ x by omega)
    exact law_ExactConvert (E : Int) (A : Int) (toZ qs) (toZ ps) (toZ ns) v u q w hv hlr hu hl hq hlq hP hT true (toZ (exL E A ps (yL qs ps) ns)) (by rw [toZ_len, exL_len]; have := hB.len6; omega)
      (fun _ _ _ v u q W hr _ hr2 hf hr3 hf3 => spec_ExactConvert_yes qs ps ns E A v u q W hr hr2 hf hr3 hf3 hR hB (by omega) (by omega) h)
      (fun _ _ _ v u q W hp ht' hr _ hr2 hf hr3 hf3 => impl_ExactConvert_yes qs ps ns E A v u q W hp ht' hr hr2 hf hr3 hf3 hR hB (by omega) (by omega) h)
end Go.Proofs.YtejkejfhahmhcaaDoor
