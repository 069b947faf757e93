/- Proved: several texts in one: what each proves is said ahead of it. -/
import Derived.Test.YtfcdfielbpdloaaDoorX25
import Derived.Test.YtfcdfielbpdloaaDoorX13
import Derived.Test.YtfcdfielbpdloaaDoorX26
import Derived.Test.YtfcdfielbpdloaaDoorX21
/- Proved: contracts of the model's l6Centred and l2Neg; a prime from 3 on is odd. -/
namespace Go.Proofs.YtfcdfielbpdloaaDoor
open Go.ChangeShapes Go.WideShapes Go.ChangeAt Go.RowKit
open M2
set_option linter.unusedVariables false
set_option linter.unusedSimpArgs false
def cenM (n : Int) (m : Nat) : Int := if (m : Int) / 2 < n % (m : Int) then n % (m : Int) - (m : Int) else n % (m : Int)
theorem spec_centred (n : Int) (m : Nat) (w : World) (hn : -9223372036854775808 ≤ n ∧ n ≤ 9223372036854775807) (hm : 2 ≤ m ∧ m ≤ 268435456) :
    Calls Tryd.prog 43 #[.int .i64 n, .int .i64 (m : Int)] w fun e w' => e = .returned (.int .i64 (cenM n m)) ∧ w' = w := by
  have c := fun W => spec_mod n (m : Int) W hn (by omega)
  unfold cenM
  have hz : 0 ≤ n % (m : Int) ∧ n % (m : Int) < (m : Int) := ⟨Int.emod_nonneg _ (by omega), Int.emod_lt_of_pos _ (by omega)⟩
  generalize n % (m : Int) = r at *
  have tq : Int.tdiv (m : Int) 2 = (m : Int) / 2 := Int.tdiv_eq_ediv_of_nonneg (by omega)
  have tw : IntKind.i64.wrap ((m : Int) / 2) = (m : Int) / 2 := by rw [IntKind.wrap_i64]; omega
  have ts1 : IntKind.i64.wrap (r - (m : Int)) = r - (m : Int) := by rw [IntKind.wrap_i64]; omega
  by_cases h : (m : Int) / 2 < r
  · rw [if_pos h]
    have d1 : decide ((m : Int) / 2 < r) = true := decide_eq_true h
    go_enter Tryd.func43, Tryd.ntmps43
    go_wp2_with fail
    refine (c _).mono ?_
    rintro e w1 ⟨rfl, hw⟩
    replace hw := hw.symm
    subst hw
    go_wp2_with fail
    go_ret
    exact ⟨rfl, rfl⟩
  · rw [if_neg h]
    have d1 : decide ((m : Int) / 2 < r) = false := decide_eq_false h
    go_enter Tryd.func43, Tryd.ntmps43
    go_wp2_with fail
    refine (c _).mono ?_
    rintro e w1 ⟨rfl, hw⟩
    replace hw := hw.symm
    subst hw
    go_wp2_with fail
    go_ret
    exact ⟨rfl, rfl⟩
theorem infoL2W : (Tryd.prog.info? 52).map (·.size) = some 2 := by kernel_rfl
theorem ret_l2 {fn : Func} {p : Tmp} (h : fn.results = #[.cell p 52]) (tmps : Array Value) (w : World) {g : Nat} {x y : Value} (hp : tmps.getD p undef = .pointer (some ⟨g, 0, none⟩)) (hs : StW w g x y 52) :
    (results fn tmps).run Tryd.prog w = .ok (.agg #[x, y]) w :=
  results_cell_row h tmps w g 52 #[x, y] (0, 0) _ hp hs Tryd.underlying52 rfl infoL2W
theorem dg_len0 (z : Int) : (0 < (dg z).length) ↔ z ≠ 0 := by
  constructor
  · intro h e
    subst e
    simp [dg, dig_zero] at h
  · intro h
    exact List.length_pos_iff.2 (dig_ne (by omega))
set_option maxHeartbeats 2000000 in
theorem neg_any (z : Int) (a : Option Addr) (c : Nat) (w : World) (hl : (dg z).length ≤ 1000) :
    Calls Tryd.prog 48 #[.agg #[.bool (ng z), .slice a (toI (dg z)).length c]] w fun e w' => e = .returned (.agg #[.bool (ng (-z)), .slice a (toI (dg z)).length c]) ∧ Old w w' := by
  have h0 := dg_len0 z
  rw [toI_len]
  generalize (dg z).length = L at *
  have HA : Hid (Old w ((w.alloc (.cells #[.bool (ng z), .slice a L c] 52)).alloc (.cells #[.bool (ng (-z)), .slice a L c] 52))) := ((Old.refl w).alloc _).alloc _
  have HS : Hid (StW ((w.alloc (.cells #[.bool (ng z), .slice a L c] 52)).alloc (.cells #[.bool (ng (-z)), .slice a L c] 52)) (w.heap.size + 1) (.bool (ng (-z))) (.slice a L c) 52) := StW.at2 w _ _ _ _ _ _
  by_cases hz : 0 < L
  · have d1 : decide ((0 : Int) < (L : Int)) = true := by simp; omega
    have hnz := h0.1 hz
    have e1 : (!ng z) = ng (-z) := by
      unfold ng
      rw [← decide_not, decide_eq_decide]
      omega
    generalize ng (-z) = nb at *
    generalize ng z = na at *
    go_enter Tryd.func48, Tryd.ntmps48
    go_wp2_with fail
    exact bodyPost_ret (ret_l2 Tryd.results48 _ _ rfl HS.out) rfl ⟨rfl, HA.out⟩
  · have d1 : decide ((0 : Int) < (L : Int)) = false := by simp; omega
    have hzz : z = 0 := by
      rcases Int.lt_trichotomy z 0 with h | h | h
      · exact absurd (h0.2 (by omega)) hz
      · exact h
      · exact absurd (h0.2 (by omega)) hz
    have e1 : ng (-z) = false := by subst hzz; rfl
    rw [e1] at HS HA ⊢
    generalize ng z = na at *
    go_enter Tryd.func48, Tryd.ntmps48
    go_wp2_with fail
    exact bodyPost_ret (ret_l2 Tryd.results48 _ _ rfl HS.out) rfl ⟨rfl, HA.out⟩
theorem isP_odd (n : Nat) (h : isP n = true) (h3 : 3 ≤ n) : n % 2 = 1 := by
  rcases Nat.mod_two_eq_zero_or_one n with h2 | h2
  · exfalso
    unfold isP at h
    rw [if_neg (by omega)] at h
    unfold smallP fnd at h
    rw [if_pos h2] at h
    simp at h
    omega
  · exact h2
theorem cen_opp (t : Int) (E xx : Nat) (hE : E % 2 = 1) (h3 : 3 ≤ E) (hx : (xx : Int) = (-t) % (E : Int)) : cenM t E = -cenB xx E := by
  have h0 : 0 ≤ t % (E : Int) ∧ t % (E : Int) < (E : Int) := ⟨Int.emod_nonneg _ (by omega), Int.emod_lt_of_pos _ (by omega)⟩
  have h1 : (-t) % (E : Int) = ((E : Int) - t % (E : Int)) % (E : Int) := by
    refine (Int.emod_eq_emod_iff_emod_sub_eq_zero).2 (Int.emod_eq_zero_of_dvd ?_)
    have d1 : (E : Int) ∣ t - t % (E : Int) := Int.dvd_self_sub_of_emod_eq rfl
    have e : -t - ((E : Int) - t % (E : Int)) = -((t - t % (E : Int)) + (E : Int)) := by omega
    rw [e]
    exact Int.dvd_neg.2 (Int.dvd_add d1 (Int.dvd_refl _))
  rw [h1] at hx
  unfold cenM cenB
  generalize t % (E : Int) = r at *
  by_cases hr : r = 0
  · subst hr
    rw [Int.sub_zero, Int.emod_self] at hx
    obtain rfl : xx = 0 := by omega
    rw [if_neg (by omega), if_neg (by omega)]
    rfl
  · rw [Int.emod_eq_of_lt (by omega) (by omega)] at hx
    by_cases hc : (E : Int) / 2 < r
    · rw [if_pos hc, if_neg (by omega)]
      omega
    · rw [if_neg hc, if_pos (by omega)]
      omega
end Go.Proofs.YtfcdfielbpdloaaDoor
/- Proved: the model's ExactConvert where it answers; the statement on it. -/
namespace Go.Proofs.YtfcdfielbpdloaaDoor
open Go.ChangeShapes Go.WideShapes Go.ChangeAt Go.RowKit
open M2
set_option linter.unusedVariables false
set_option linter.unusedSimpArgs false
theorem bas_in7 {ps : List Nat} (hb : Bas ps) : ∀ x ∈ toZ ps, -9223372036854775808 ≤ x ∧ x ≤ 9223372036854775807 := fun x hx => by
  obtain ⟨n, hn, rfl⟩ := List.mem_map.1 hx
  have := hb.hi n hn
  omega
theorem ex_o (E A : Nat) (rs ps : List Nat) (hE : E % 2 = 1) (h3 : 3 ≤ E) (hA : A < E) : cenM ((((sumN rs ps ps.length % E : Nat) : Int) - (A : Int)) * ((M1.invM (prodN ps % E) E : Nat) : Int)) E = -exO E A ps (yL rs ps) := by
  refine cen_opp _ E _ hE h3 ?_
  rw [plusS_eq E rs ps _ (by omega)]
  unfold overL
  rw [pm_mod E ps (by omega)]
  generalize sumN rs ps ps.length = S
  generalize prodN ps = Q
  rw [turn_eq E ((E - A + S) % E) _ _ ((A : Int) - ((S % E : Nat) : Int)) (by omega) (inv_neg (Q % E) E (by omega) (Nat.mod_lt _ (by omega))) ?_]
  · rw [← Int.neg_mul, Int.neg_sub]
  · have e3 : (((E - A + S) % E : Nat) : Int) + ((A : Int) - ((S % E : Nat) : Int)) = ((E : Int) - A + S) % E + (A - (S : Int) % E) := by
      rw [Int.natCast_emod, Int.natCast_add, Int.natCast_sub (by omega), Int.natCast_emod]
    rw [e3]
    refine Int.emod_eq_zero_of_dvd ?_
    have d1 : (E : Int) ∣ ((E : Int) - A + S) - ((E : Int) - A + S) % E := Int.dvd_self_sub_of_emod_eq rfl
    have d2 : (E : Int) ∣ (S : Int) - (S : Int) % E := Int.dvd_self_sub_of_emod_eq rfl
    have e4 : ((E : Int) - A + S) % E + (A - (S : Int) % E) = (E : Int) + ((S : Int) - (S : Int) % E) - (((E : Int) - A + S) - ((E : Int) - A + S) % E) := by omega
    rw [e4]
    exact Int.dvd_sub (Int.dvd_add (Int.dvd_refl _) d2) d1
theorem ex_res (E A : Nat) (rs ps ts : List Nat) (hB : Bas ts) (X : Int) (hX : X = ((sumN rs ps ps.length : Nat) : Int) + exO E A ps (yL rs ps) * ((prodN ps : Nat) : Int)) : resL (ng X) (toI (dg X)) ts = toZ (exL E A ps (yL rs ps) ts) := by
  unfold resL exL toZ
  rw [nat_toI6, List.map_map, sv_of]
  refine List.map_congr_left (fun m hm => ?_)
  show X % (m : Int) = ((plusP m ps (exO E A ps (yL rs ps)) (plusS m ps (yL rs ps) 0) : Nat) : Int)
  rw [plusPS_eq m rs ps _ (hB.lo m hm), hX]
set_option maxRecDepth 100000 in
set_option maxHeartbeats 8000000 in
theorem spec_ExactConvert_yes (rs ps ts : List Nat) (E A : Nat) (v u q : Value) (w : World) (hv : Row w v (toZ rs)) (hu : Row w u (toZ ps)) (hf : Fit u) (hq : Row w q (toZ ts)) (hfq : Fit q) (hR : Res rs ps) (hB : Bas ts) (hE : 2 ≤ E ∧ E ≤ 268435456) (hA : A < E) (h : ecB (toZ rs) (toZ ps) E A (toZ ts) = true) :
    Calls Tryd.prog 8 #[v, u, .int .i64 (E : Int), .int .i64 (A : Int), q] w (Ls w (toZ (exL E A ps (yL rs ps) ts)) true) := by
  have hl6 := hR.bas.len6
  have hl1 := hR.bas.len1
  have hln := hR.len
  have ht6 := hB.len6
  have K1 : ∀ W, Old w W → Calls Tryd.prog 19 #[v, u] W fun e w' => e = .returned (.bool (basB (toZ ps) && rsB (toZ rs) (toZ ps))) ∧ Old W w' := fun W g => l4Good_any (toZ rs) (toZ ps) v u W (hv.old g) (hu.old g) hf (by rw [toZ_len]; omega) (by rw [toZ_len]; omega) (bas_in7 hR.bas)
  have K2 : ∀ W, Old w W → Calls Tryd.prog 38 #[q] W fun e w' => e = .returned (.bool (basB (toZ ts))) ∧ Old W w' := fun W g => spec_goodBasis (toZ ts) q W (hq.old g) hfq (by rw [toZ_len]; omega) (bas_in7 hB)
  have K3 : ∀ W, Old w W → Calls Tryd.prog 25 #[.int .i64 (E : Int)] W fun e w' => e = .returned (.bool (modB (E : Int))) ∧ Old W w' := fun W g => (spec_modulus (E : Int) W).mono (fun e w' h => ⟨h.1, by rw [h.2]; exact Old.refl _⟩)
  have K4 : ∀ W, Old w W → Calls Tryd.prog 39 #[.int .u64 (E : Int)] W fun e w' => e = .returned (.bool (isP E)) ∧ Old W w' := fun W g => spec_IsPrime E W (by omega)
  have t2 : IntKind.i64.wrap (2 * (ps.length : Int)) = 2 * (ps.length : Int) := by rw [IntKind.wrap_i64]; omega
  have t1 : IntKind.i64.wrap ((E : Int) - 1) = (E : Int) - 1 := by rw [IntKind.wrap_i64]; omega
  have K6 : ∀ W, Old w W → Calls Tryd.prog 40 #[u, .int .i64 (E : Int)] W fun e w' => e = .returned (.bool ((toZ ps).contains (E : Int))) ∧ Old W w' := fun W g => has_any (toZ ps) (E : Int) u W (hu.old g) (by rw [toZ_len]; omega)
  have K7 : ∀ W, Old w W → Calls Tryd.prog 40 #[q, .int .i64 (E : Int)] W fun e w' => e = .returned (.bool ((toZ ts).contains (E : Int))) ∧ Old W w' := fun W g => has_any (toZ ts) (E : Int) q W (hq.old g) (by rw [toZ_len]; omega)
  have K8 : ∀ W, Old w W → Calls Tryd.prog 41 #[.int .i64 (A : Int), .int .i64 0, .int .i64 ((E : Int) - 1)] W fun e w' => e = .returned (.bool (resB (A : Int) (E : Int))) ∧ Old W w' := fun W g => (spec_res (A : Int) (E : Int) W).mono (fun e w' h => ⟨h.1, by rw [h.2]; exact Old.refl _⟩)
  unfold ecB exB pmB at h
  simp only [Bool.and_eq_true, Bool.not_eq_true', decide_eq_true_eq] at h
  obtain ⟨⟨⟨⟨h1, h2⟩, h3⟩, ⟨⟨⟨⟨h4, h5⟩, h6⟩, h7⟩, h8⟩⟩, h9⟩ := h
  rw [toZ_len] at h6
  rw [Int.toNat_natCast] at h5
  have D5 : decide ((E : Int) ≤ 2 * (ps.length : Int)) = false := decide_eq_false (by omega)
  have hodd := isP_odd E h5 (by omega)
  rw [h1, h3] at K1
  rw [h2] at K2
  rw [h4] at K3
  rw [h5] at K4
  rw [h7] at K6
  rw [h8] at K7
  rw [h9] at K8
  have cpr := fun W h3 => spec_product ps u W h3 hl6 hR.bas.hi
  have csm := fun W h4 h5 => spec_sum rs ps v u W h4 h5 hR
  have hlP : (dig (prodN ps)).length ≤ 7 := hR.bas.cnt
  have hdS : (dig (sumN rs ps ps.length)).length ≤ 7 := sumN_cnt hR.bas _ (Nat.le_refl _)
  have cw1 := fun d W h3 => word_any (dig (sumN rs ps ps.length)) E d W h3 (dig_lim _) (by omega) (by omega) (by omega)
  have cw2 := fun d W h3 => word_any (dig (prodN ps)) E d W h3 (dig_lim _) (by omega) (by omega) (by omega)
  rw [val_dig] at cw1 cw2
  have hlq := Nat.mod_lt (prodN ps) (show 0 < E by omega)
  have hls := Nat.mod_lt (sumN rs ps ps.length) (show 0 < E by omega)
  have ci := fun W => spec_inv ((prodN ps % E : Nat) : Int) (E : Int) W (by omega) (by omega)
  have ei : ((((prodN ps % E : Nat) : Int) % (E : Int)).toNat) = prodN ps % E := by rw [← Int.natCast_emod, Nat.mod_mod, Int.toNat_natCast]
  rw [ei, Int.toNat_natCast] at ci
  have l3 := invM_lt (prodN ps % E) E (by omega)
  have heo := ex_o E A rs ps hodd (by omega) hA
  have hoi := exO_in E A ps (yL rs ps) hE
  have cin := fun W => int_any (-exO E A ps (yL rs ps)) W (by omega) (by omega)
  have hdl : (dg (-exO E A ps (yL rs ps))).length ≤ 2 := dg_len6 (by show _ < 268435456 ^ 2; omega)
  have cti := fun d e W h3 h4 => times_any (ng (-exO E A ps (yL rs ps))) false (dg (-exO E A ps (yL rs ps))) (dig (prodN ps)) d e W h3 h4 (dg_lim6 _) (dig_lim _) (by omega) (by omega)
  rw [sv_of, sv_nat] at cti
  have hdQ : (dg (-exO E A ps (yL rs ps) * ((prodN ps : Nat) : Int))).length ≤ 8 := cQ_len (by omega) hR.bas
  have cng := fun a c W => neg_any (-exO E A ps (yL rs ps) * ((prodN ps : Nat) : Int)) a c W (by omega)
  have e7 : -(-exO E A ps (yL rs ps) * ((prodN ps : Nat) : Int)) = exO E A ps (yL rs ps) * ((prodN ps : Nat) : Int) := by rw [Int.neg_mul, Int.neg_neg]
  have e8 : dg (-exO E A ps (yL rs ps) * ((prodN ps : Nat) : Int)) = dg (exO E A ps (yL rs ps) * ((prodN ps : Nat) : Int)) := by rw [Int.neg_mul]; unfold dg; rw [Int.natAbs_neg]
  rw [e7, e8] at cng
  rw [e8] at cti hdQ
  have cpl := fun d e W h3 h4 => plus_any false (ng (exO E A ps (yL rs ps) * ((prodN ps : Nat) : Int))) (dig (sumN rs ps ps.length)) (dg (exO E A ps (yL rs ps) * ((prodN ps : Nat) : Int))) d e W h3 h4 ⟨dig_nrm _, fun h => by cases h⟩ (gw_of _) (by omega) (by omega)
  rw [sv_of, sv_nat] at cpl
  have hdX := X_len (rs := rs) hoi hR.bas
  have hgX : Good (ng (((sumN rs ps ps.length : Nat) : Int) + exO E A ps (yL rs ps) * ((prodN ps : Nat) : Int))) (toI (dg (((sumN rs ps ps.length : Nat) : Int) + exO E A ps (yL rs ps) * ((prodN ps : Nat) : Int)))) := gw_good6 (gw_of _).1 (gw_of _).2 (by omega)
  have cre := fun d W h4 h5 => spec_residues _ _ ts d q W h4 h5 hgX hB
  rw [ex_res E A rs ps ts hB _ rfl] at cre
  have HV : Hid (Row w v (toZ rs)) := hv
  have HU : Hid (Row w u (toZ ps)) := hu
  have HQ : Hid (Row w q (toZ ts)) := hq
  obtain ⟨va, vc, rfl⟩ : ∃ a c, v = .slice a rs.length c := by have := hv.slice; rwa [toZ_len] at this
  obtain ⟨ua, uc, rfl⟩ : ∃ a c, u = .slice a ps.length c := by have := hu.slice; rwa [toZ_len] at this
  obtain ⟨qa, qc, rfl⟩ : ∃ a c, q = .slice a ts.length c := by have := hq.slice; rwa [toZ_len] at this
  clear hv hu hq hf hfq h1 h2 h3 h4 h5 h6 h7 h8 h9 hR hB hln ei hdX hdS hdQ hdl hlP e7 e8 hgX hodd
  generalize toZ (exL E A ps (yL rs ps) ts) = zs at *
  obtain ⟨sm, hsm⟩ : ∃ sm, sumN rs ps ps.length % E = sm := ⟨_, rfl⟩
  obtain ⟨qm, hqm⟩ : ∃ qm, prodN ps % E = qm := ⟨_, rfl⟩
  rw [hsm] at cw1 hls heo
  rw [hqm] at cw2 hlq ci l3 heo
  obtain ⟨iv, hiv⟩ : ∃ iv, M1.invM qm E = iv := ⟨_, rfl⟩
  rw [hiv] at ci l3 heo
  clear hsm hqm hiv
  obtain ⟨df, hdf⟩ : ∃ df : Int, (sm : Int) - (A : Int) = df := ⟨_, rfl⟩
  have t4 : IntKind.i64.wrap ((sm : Int) - (A : Int)) = df := by rw [hdf, IntKind.wrap_i64]; omega
  have hdb : -268435456 ≤ df ∧ df ≤ 268435456 := by omega
  rw [hdf] at heo
  obtain ⟨pr, hpr⟩ : ∃ pr : Int, df * (iv : Int) = pr := ⟨_, rfl⟩
  have hpb : -72057594037927936 ≤ pr ∧ pr ≤ 72057594037927936 := by
    rw [← hpr]
    have q1 : df * (iv : Int) ≤ 268435456 * (iv : Int) := Int.mul_le_mul_of_nonneg_right hdb.2 (by omega)
    have q2 : -268435456 * (iv : Int) ≤ df * (iv : Int) := Int.mul_le_mul_of_nonneg_right hdb.1 (by omega)
    omega
  have t5 : IntKind.i64.wrap (df * (iv : Int)) = pr := by rw [hpr, IntKind.wrap_i64]; omega
  rw [hpr] at heo
  clear hdf hpr
  have cce := fun W => spec_centred pr E W (by omega) hE
  rw [heo] at cce
  clear heo
  generalize exO E A ps (yL rs ps) = oo at *
  obtain ⟨X, hX⟩ : ∃ X : Int, ((sumN rs ps ps.length : Nat) : Int) + oo * ((prodN ps : Nat) : Int) = X := ⟨_, rfl⟩
  rw [hX] at cpl cre
  clear hX
  obtain ⟨no, hno⟩ : ∃ no : Int, -oo = no := ⟨_, rfl⟩
  rw [hno] at cce cin cti cng
  clear hno
  generalize sumN rs ps ps.length = S at *
  generalize prodN ps = Q at *
  have HG0 : Hid (Old w w) := Old.refl w
  go_enter Tryd.func8, Tryd.ntmps8
  go_wp2_with fail
  refine (K1 _ HG0.out).mono ?_
  rintro e w1 ⟨rfl, g1⟩
  have HG1 : Hid (Old w w1) := Old.trans HG0.out g1
  clear g1
  go_wp2_with fail
  refine (K2 _ HG1.out).mono ?_
  rintro e w2 ⟨rfl, g2⟩
  have HG2 : Hid (Old w w2) := Old.trans HG1.out g2
  clear g2
  go_wp2_with fail
  refine (K3 _ HG2.out).mono ?_
  rintro e w3 ⟨rfl, g3⟩
  have HG3 : Hid (Old w w3) := Old.trans HG2.out g3
  clear g3
  go_wp2_with fail
  refine (K4 _ HG3.out).mono ?_
  rintro e w4 ⟨rfl, g4⟩
  have HG4 : Hid (Old w w4) := Old.trans HG3.out g4
  clear g4
  go_wp2_with fail
  refine (K6 _ HG4.out).mono ?_
  rintro e w6 ⟨rfl, g6⟩
  have HG6 : Hid (Old w w6) := Old.trans HG4.out g6
  clear g6
  go_wp2_with fail
  refine (K7 _ HG6.out).mono ?_
  rintro e w7 ⟨rfl, g7⟩
  have HG7 : Hid (Old w w7) := Old.trans HG6.out g7
  clear g7
  go_wp2_with fail
  refine (K8 _ HG7.out).mono ?_
  rintro e w8 ⟨rfl, g8⟩
  have HG8 : Hid (Old w w8) := Old.trans HG7.out g8
  clear g8
  clear K1 K2 K3 K4 K6 K7 K8
  go_wp2_with fail
  refine (csm _ (HV.out.old HG8.out) (HU.out.old HG8.out)).mono ?_
  rintro e wd ⟨d2, rfl, gd, rd⟩
  have HGD : Hid (Old w wd) := Old.trans HG8.out gd
  have HSD : Hid (Row wd d2 (toI (dig S))) := rd
  obtain ⟨a2, cap2, rfl⟩ := rd.slice
  clear gd rd HG1 HG2 HG3 HG4 HG6 HG7 HG8
  go_wp2_with fail
  refine (cpr _ (HU.out.old HGD.out)).mono ?_
  rintro e wa ⟨d1, rfl, ga, ra⟩
  have HGA : Hid (Old w wa) := Old.trans HGD.out ga
  have HSA : Hid (Row wa (.slice a2 (toI (dig S)).length cap2) (toI (dig S))) := HSD.out.old ga
  have HPA : Hid (Row wa d1 (toI (dig Q))) := ra
  obtain ⟨a1, cap1, rfl⟩ := ra.slice
  clear ga ra
  go_wp2_with fail
  refine (cw1 _ _ HSA.out).mono ?_
  rintro e wb ⟨rfl, gb⟩
  have HGB : Hid (Old w wb) := Old.trans HGA.out gb
  have HPB : Hid (Row wb (.slice a1 (toI (dig Q)).length cap1) (toI (dig Q))) := HPA.out.old gb
  have HSB : Hid (Row wb (.slice a2 (toI (dig S)).length cap2) (toI (dig S))) := HSA.out.old gb
  clear gb
  go_wp2_with fail
  refine (cw2 _ _ HPB.out).mono ?_
  rintro e we ⟨rfl, ge⟩
  have HGE : Hid (Old w we) := Old.trans HGB.out ge
  have HPE : Hid (Row we (.slice a1 (toI (dig Q)).length cap1) (toI (dig Q))) := HPB.out.old ge
  have HSE : Hid (Row we (.slice a2 (toI (dig S)).length cap2) (toI (dig S))) := HSB.out.old ge
  clear ge
  go_wp2_with fail
  refine (ci _).mono ?_
  rintro e wc ⟨rfl, hwc⟩
  replace hwc := hwc.symm
  subst hwc
  go_wp2_with fail
  refine (cce _).mono ?_
  rintro e wc ⟨rfl, hwc⟩
  replace hwc := hwc.symm
  subst hwc
  go_wp2_with fail
  refine (cin _).mono ?_
  rintro e wf ⟨d3, rfl, gf, of⟩
  have HGF : Hid (Old w wf) := Old.trans HGE.out gf
  have HPF : Hid (Row wf (.slice a1 (toI (dig Q)).length cap1) (toI (dig Q))) := HPE.out.old gf
  have HSF : Hid (Row wf (.slice a2 (toI (dig S)).length cap2) (toI (dig S))) := HSE.out.old gf
  have HIF : Hid (Row wf d3 (toI (dg no))) := Own.row of
  obtain ⟨a3, cap3, rfl⟩ := (Own.row of).slice
  clear gf of
  go_wp2_with fail
  refine (cti _ _ _ HIF.out HPF.out).mono ?_
  rintro e wg ⟨d4, rfl, gg, og⟩
  have HGG : Hid (Old w wg) := Old.trans HGF.out gg
  have HSG : Hid (Row wg (.slice a2 (toI (dig S)).length cap2) (toI (dig S))) := HSF.out.old gg
  have HTG : Hid (Row wg d4 (toI (dg (oo * (Q : Int))))) := Own.row og
  obtain ⟨a4, cap4, rfl⟩ := (Own.row og).slice
  clear gg og
  go_wp2_with fail
  refine (cng _ _ _).mono ?_
  rintro e wh ⟨rfl, gh⟩
  have HGH : Hid (Old w wh) := Old.trans HGG.out gh
  have HSH : Hid (Row wh (.slice a2 (toI (dig S)).length cap2) (toI (dig S))) := HSG.out.old gh
  have HTH : Hid (Row wh (.slice a4 (toI (dg (oo * (Q : Int)))).length cap4) (toI (dg (oo * (Q : Int))))) := HTG.out.old gh
  clear gh
  go_wp2_with fail
  refine (cpl _ _ _ HSH.out HTH.out).mono ?_
  rintro e wi ⟨d5, rfl, gi, oi⟩
  have HGI : Hid (Old w wi) := Old.trans HGH.out gi
  have HXI : Hid (Row wi d5 (toI (dg X))) := Own.row oi
  obtain ⟨a5, cap5, rfl⟩ := (Own.row oi).slice
  clear gi oi
  go_wp2_with fail
  refine (cre _ _ HXI.out (HQ.out.old HGI.out)).mono ?_
  rintro e wj ⟨d6, rfl, gj, oj⟩
  have HGJ : Hid (Old w wj) := Old.trans HGI.out gj
  have HOJ : Hid (Own wj w.heap.size d6 zs) := oj.low HGI.out.size
  obtain ⟨a6, cap6, rfl⟩ := (Own.row oj).slice
  clear gj oj
  go_wp2_with fail
  go_ret2
  exact ⟨_, rfl, HGJ.out, HOJ.out⟩
end Go.Proofs.YtfcdfielbpdloaaDoor
/- Proved: the sum of the parts is below as many products as there are primes; what is over is fewer than the primes. -/
namespace Go.Proofs.YtfcdfielbpdloaaDoor
open M2
set_option linter.unusedVariables false
set_option linter.unusedSimpArgs false
theorem foldl_mulF (l : List Nat) : ∀ x, l.foldl (fun a p => a * p) x = x * l.foldl (fun a p => a * p) 1 := by
  induction l with
  | nil => intro x; simp
  | cons y l ih =>
    intro x
    simp only [List.foldl_cons]
    rw [ih (x * y), ih (1 * y), Nat.one_mul, Nat.mul_assoc]
theorem prodN_app (a b : List Nat) : prodN (a ++ b) = prodN a * prodN b := by
  unfold prodN
  rw [List.foldl_append, foldl_mulF]
theorem prodN_oth {ps : List Nat} {i : Nat} (hi : i < ps.length) : prodN (oth ps i) * ps.getD i 0 = prodN ps := by
  have h1 : ps = ps.take i ++ (ps.getD i 0 :: ps.drop (i + 1)) := by
    have h2 : ps.getD i 0 = ps[i] := by simp [List.getD, hi]
    rw [h2, ← List.drop_eq_getElem_cons hi, List.take_append_drop]
  have h3 : prodN (ps.getD i 0 :: ps.drop (i + 1)) = ps.getD i 0 * prodN (ps.drop (i + 1)) := by
    rw [show ps.getD i 0 :: ps.drop (i + 1) = [ps.getD i 0] ++ ps.drop (i + 1) from rfl, prodN_app]
    congr 1
    simp [prodN]
  have h4 : prodN ps = prodN (ps.take i) * (ps.getD i 0 * prodN (ps.drop (i + 1))) := by
    conv => lhs; rw [h1]
    rw [prodN_app, h3]
  unfold oth
  rw [prodN_app, h4, Nat.mul_assoc, Nat.mul_comm (prodN (ps.drop (i + 1)))]
theorem prodN_posF {ps : List Nat} (hb : Bas ps) : 0 < prodN ps := by
  have := prodN_pos ps hb.lo ps.length (Nat.le_refl _)
  rwa [List.take_length] at this
theorem part_lt {rs ps : List Nat} (hb : Bas ps) {i : Nat} (hi : i < ps.length) : prodN (oth ps i) * yN rs ps i < prodN ps := by
  have h1 := prodN_oth hi
  have h2 := (yN_lt (rs := rs) hb hi).1
  have h3 := prodN_posF hb
  have h4 : 0 < prodN (oth ps i) := by
    rcases Nat.eq_zero_or_pos (prodN (oth ps i)) with h | h
    · rw [h, Nat.zero_mul] at h1
      omega
    · exact h
  rw [← h1]
  exact Nat.mul_lt_mul_of_pos_left h2 h4
theorem sumN_lt {rs ps : List Nat} (hb : Bas ps) : ∀ k, k ≤ ps.length → sumN rs ps k ≤ k * prodN ps ∧ (0 < k → sumN rs ps k < k * prodN ps)
  | 0, _ => by simp [sumN]
  | k + 1, h => by
    have h1 := (sumN_lt (rs := rs) hb k (by omega)).1
    have h2 := part_lt (rs := rs) hb (show k < ps.length by omega)
    rw [sumN, Nat.add_mul, Nat.one_mul]
    omega
theorem over_lt {rs ps : List Nat} (hb : Bas ps) : sumN rs ps ps.length / prodN ps < ps.length ∧ sumN rs ps ps.length / prodN ps % LB = sumN rs ps ps.length / prodN ps := by
  have h1 := (sumN_lt (rs := rs) hb ps.length (Nat.le_refl _)).2 hb.len1
  have h2 : sumN rs ps ps.length / prodN ps < ps.length := Nat.div_lt_of_lt_mul (by rw [Nat.mul_comm]; exact h1)
  refine ⟨h2, Nat.mod_eq_of_lt ?_⟩
  have := hb.len6
  show _ < 268435456
  omega
theorem co_over {rs ps : List Nat} (hb : Bas ps) : sumN rs ps ps.length % prodN ps + sumN rs ps ps.length / prodN ps * prodN ps = sumN rs ps ps.length := by
  have := Nat.mod_add_div (sumN rs ps ps.length) (prodN ps)
  rw [Nat.mul_comm] at this
  exact this
end Go.Proofs.YtfcdfielbpdloaaDoor
/- Proved: contracts of the program's FloorConvert. -/
namespace Go.Proofs.YtfcdfielbpdloaaDoor
open Go.ChangeShapes Go.WideShapes Go.ChangeAt Go.RowKit
open M2
set_option linter.unusedVariables false
set_option linter.unusedSimpArgs false
theorem StL.new (w : World) (t : TypeId) (o : Obj) : StL ((w.alloc (.cells #[.func (.func 32) #[] #[], .func (.func 34) #[] #[]] t)).alloc o) w.heap.size :=
  ⟨by simp; omega, (cell_lt _ _ _ _ (by simp)).trans (cell_at _ _ _ _ _ rfl), (cell_lt _ _ _ _ (by simp)).trans (cell_at _ _ _ _ _ rfl)⟩
def flB (rs us xs ts : List Int) : Bool := (((basB xs && basB ts) && rsB rs xs) && rsB us ts) && !xs.any (fun x => ts.contains x)
set_option maxRecDepth 100000 in
set_option maxHeartbeats 2000000 in
theorem impl_FloorConvert_no (rs us xs ts : List Int) (v d u q : Value) (w : World) (hP : PrsW w) (hT : TabW w) (hv : Row w v rs) (hd : Row w d us) (hu : Row w u xs) (hf : Fit u) (hq : Row w q ts) (hfq : Fit q) (hl : xs.length ≤ 9223372036854775807) (hlq : ts.length ≤ 9223372036854775807) (h : flB rs us xs ts = false) :
    Calls Tryd.prog 12 #[v, d, u, q] w (Ls w [] false) := by
  have c := convertible_any rs xs ts v u q w hP hT hv hu hq hf hfq hl hlq
  have c3 := fun W h1 h2 => common_any xs ts u q W h1 h2 hl hlq
  have HD : Hid (Row w d us) := hd
  have HU : Hid (Row w u xs) := hu
  have HQ : Hid (Row w q ts) := hq
  have c2 := fun W h1 h2 h3 => areRes_any us ts d q W h1 h2 hlq h3
  obtain ⟨va, vc, rfl⟩ := hv.slice
  obtain ⟨da, dc, rfl⟩ := hd.slice
  obtain ⟨ua, uc, rfl⟩ := hu.slice
  obtain ⟨qa, qc, rfl⟩ := hq.slice
  unfold flB at h
  clear hP hT hv hu hq hf hfq hd
  cases h1 : ((basB xs && basB ts) && rsB rs xs)
  · rw [h1] at c
    clear h1 h c2 c3
    go_enter Tryd.func12, Tryd.ntmps12
    go_wp2_with fail
    refine c.mono ?_
    rintro e w1 ⟨rfl, g1⟩
    have HG1 : Hid (Old w w1) := g1
    clear g1
    go_wp2_with fail
    go_ret2
    exact ⟨_, rfl, HG1.out, own_none _ _⟩
  · rw [h1] at c h
    have ht1 : 1 ≤ ts.length := by
      simp only [Bool.and_eq_true] at h1
      exact basB_len1 h1.1.2
    cases h2 : rsB us ts
    · rw [h2] at c2
      clear h1 h2 h c3
      go_enter Tryd.func12, Tryd.ntmps12
      go_wp2_with fail
      refine c.mono ?_
      rintro e w1 ⟨rfl, g1⟩
      have HG1 : Hid (Old w w1) := g1
      clear g1
      go_wp2_with fail
      refine (c2 _ (HD.out.old HG1.out) (HQ.out.old HG1.out) ht1).mono ?_
      rintro e w2 ⟨rfl, g2⟩
      have HG2 : Hid (Old w w2) := Old.trans HG1.out g2
      clear g2
      go_wp2_with fail
      go_ret2
      exact ⟨_, rfl, HG2.out, own_none _ _⟩
    · rw [h2] at c2 h
      have h3 : xs.any (fun x => ts.contains x) = true := by simpa using h
      rw [h3] at c3
      clear h1 h2 h h3
      go_enter Tryd.func12, Tryd.ntmps12
      go_wp2_with fail
      refine c.mono ?_
      rintro e w1 ⟨rfl, g1⟩
      have HG1 : Hid (Old w w1) := g1
      clear g1
      go_wp2_with fail
      refine (c2 _ (HD.out.old HG1.out) (HQ.out.old HG1.out) ht1).mono ?_
      rintro e w2 ⟨rfl, g2⟩
      have HG2 : Hid (Old w w2) := Old.trans HG1.out g2
      clear g2
      go_wp2_with fail
      refine (c3 _ (HU.out.old HG2.out) (HQ.out.old HG2.out)).mono ?_
      rintro e w3 ⟨rfl, g3⟩
      have HG3 : Hid (Old w w3) := Old.trans HG2.out g3
      clear g3
      go_wp2_with fail
      go_ret2
      exact ⟨_, rfl, HG3.out, own_none _ _⟩
def stL (us ts : List Nat) : List Nat := (List.range ts.length).map (fun k => ts.getD k 0 - us.getD k 0)
theorem stL_len (us ts : List Nat) : (stL us ts).length = ts.length := by simp [stL]
theorem stL_get (us ts : List Nat) (k : Nat) (h : k < ts.length) : (stL us ts).getD k 0 = ts.getD k 0 - us.getD k 0 := by simp [stL, List.getD, h]
def flL (ps ys us ts : List Nat) : List Nat := (List.range ts.length).map (fun k => overL (ts.getD k 0) ps (plusS (ts.getD k 0) ps ys (ts.getD k 0 - us.getD k 0)))
theorem flL_len (ps ys us ts : List Nat) : (flL ps ys us ts).length = ts.length := by simp [flL]
theorem flL_get (ps ys us ts : List Nat) (k : Nat) (h : k < ts.length) : (flL ps ys us ts).getD k 0 = overL (ts.getD k 0) ps (plusS (ts.getD k 0) ps ys (ts.getD k 0 - us.getD k 0)) := by simp [flL, List.getD, h]
set_option maxRecDepth 100000 in
set_option maxHeartbeats 4000000 in
theorem impl_FloorConvert_yes (rs us ps ts : List Nat) (v d u q : Value) (w : World) (hP : PrsW w) (hT : TabW w) (hv : Row w v (toZ rs)) (hd : Row w d (toZ us)) (hu : Row w u (toZ ps)) (hf : Fit u) (hq : Row w q (toZ ts)) (hfq : Fit q) (hR : Res rs ps) (hS : Res us ts) (h1 : ((basB (toZ ps) && basB (toZ ts)) && rsB (toZ rs) (toZ ps)) = true) (h2 : rsB (toZ us) (toZ ts) = true) (h3 : (toZ ps).any (fun x => (toZ ts).contains x) = false) :
    Calls Tryd.prog 12 #[v, d, u, q] w (Ls w (toZ (flL ps (yL rs ps) us ts)) true) := by
  obtain ⟨i0, hi, hz0, hz1, hz2⟩ := info_parts Tryd.infoInt
  have hB := hS.bas
  have hl6 := hR.bas.len6
  have ht6 := hB.len6
  have ht1 := hB.len1
  have hsl := hS.len
  have c := convertible_any (toZ rs) (toZ ps) (toZ ts) v u q w hP hT hv hu hq hf hfq (by rw [toZ_len]; omega) (by rw [toZ_len]; omega)
  rw [h1] at c
  have c2 := fun W h1 h2 => areRes_any (toZ us) (toZ ts) d q W h1 h2 (by rw [toZ_len]; omega) (by rw [toZ_len]; omega)
  rw [h2] at c2
  have c3 := fun W h1 h2 => common_any (toZ ps) (toZ ts) u q W h1 h2 (by rw [toZ_len]; omega) (by rw [toZ_len]; omega)
  rw [h3] at c3
  have cc := fun W h1 h2 => conv_any rs ps v u W h1 h2 hf hR.bas hR.len hR.lt
  have HV : Hid (Row w v (toZ rs)) := hv
  have HD : Hid (Row w d (toZ us)) := hd
  have HU : Hid (Row w u (toZ ps)) := hu
  have HQ : Hid (Row w q (toZ ts)) := hq
  obtain ⟨va, vc, rfl⟩ : ∃ a c, v = .slice a rs.length c := by have := hv.slice; rwa [toZ_len] at this
  obtain ⟨ua, uc, rfl⟩ : ∃ a c, u = .slice a ps.length c := by have := hu.slice; rwa [toZ_len] at this
  obtain ⟨b1, o1, dc, rfl, hb1, hc1⟩ := hd.atZ (by omega)
  obtain ⟨b2, o2, qc, rfl, hb2, hc2⟩ := hq.atZ (by omega)
  rw [hsl] at c2 hc1 HD ⊢
  have HC1 : Hid (∀ j, j < ts.length → w.cell? ⟨b1, o1 + j, none⟩ = some (.int .i64 ((us.getD j 0 : Nat) : Int))) := hc1
  have HC2 : Hid (∀ j, j < ts.length → w.cell? ⟨b2, o2 + j, none⟩ = some (.int .i64 ((ts.getD j 0 : Nat) : Int))) := hc2
  have HBD : Hid (∀ j, j < ts.length → us.getD j 0 < ts.getD j 0 ∧ 2 ≤ ts.getD j 0 ∧ ts.getD j 0 ≤ 268435456) := fun j hj => by
    have hm : ts.getD j 0 ∈ ts := by simp [List.getD, hj]
    exact ⟨hS.lt j hj, hB.lo _ hm, hB.hi _ hm⟩
  have hlen : (toZ (stL us ts)).length = ts.length := by rw [toZ_len, stL_len]
  have HEL : Hid (∀ k, k < ts.length → (toZ (stL us ts)).getD k 0 = ((ts.getD k 0 - us.getD k 0 : Nat) : Int)) := fun k hk => by rw [toZ_get, stL_get _ _ _ hk]
  have HM : Hid (∀ W g gs, Cv W ps (yL rs ps) (.slice ua ps.length uc) (.slice (some ⟨g, 0, none⟩) ps.length ps.length) → StL W gs → ∀ vb, Old w W → Row W vb (toZ (stL us ts)) → Calls Tryd.prog 37 #[.func (.func 36) #[.agg #[.slice ua ps.length uc, .slice (some ⟨g, 0, none⟩) ps.length ps.length, .int .i64 0, .int .i64 0, .slice (some ⟨gs, 0, none⟩) 2 2]] #[], vb, .slice (some ⟨b2, o2, none⟩) ts.length qc] W fun e w' => ∃ g, e = .returned (.slice (some ⟨g, 0, none⟩) ts.length ts.length) ∧ Old W w' ∧ Own w' W.heap.size (.slice (some ⟨g, 0, none⟩) ts.length ts.length) (toZ (flL ps (yL rs ps) us ts))) := fun W g gs hC hG vb hO hr => by
    have := eachT_any #[.slice ua ps.length uc, .slice (some ⟨g, 0, none⟩) ps.length ps.length, .int .i64 0, .int .i64 0, .slice (some ⟨gs, 0, none⟩) 2 2] (toZ (stL us ts)) (toZ ts) (toZ (flL ps (yL rs ps) us ts)) _ _ W hr (HQ.out.old hO) (by rw [toZ_len]; exact ht1) (by rw [toZ_len]; exact ht6) (by rw [toZ_len, toZ_len, stL_len]) (by rw [toZ_len, toZ_len, flL_len]) (fun k hk W2 g2 => by
      rw [toZ_len] at hk
      obtain ⟨b3, b4, b5⟩ := HBD.out k hk
      have e2 : (toZ (flL ps (yL rs ps) us ts)).getD k 0 = ((overL (ts.getD k 0) ps (plusS (ts.getD k 0) ps (yL rs ps) (ts.getD k 0 - us.getD k 0)) : Nat) : Int) := by rw [toZ_get, flL_get _ _ _ _ _ hk]
      rw [HEL.out k hk, e2, toZ_get]
      have l1 := plusS_lt (ts.getD k 0) ps (yL rs ps) (ts.getD k 0 - us.getD k 0) b4
      exact takeL_any (ts.getD k 0) gs (ts.getD k 0 - us.getD k 0) (plusS (ts.getD k 0) ps (yL rs ps) (ts.getD k 0 - us.getD k 0)) _ _ _ _ _ _ _ _ _ rfl rfl 0 0 W2 (hG.old g2)
        (fun W3 g3 => plusSum_any _ _ ps (yL rs ps) _ _ 0 0 W3 ⟨b4, b5⟩ (by omega) (hC.old (Old.trans g2 g3)))
        (fun W3 g3 => overLess_any _ _ ps (yL rs ps) _ _ 0 0 W3 ⟨b4, b5⟩ (by omega) (hC.old (Old.trans g2 g3))))
    rw [toZ_len] at this
    exact this
  generalize toZ (flL ps (yL rs ps) us ts) = zs at *
  generalize toZ (stL us ts) = ss at *
  have hmf : ∀ (fn : Fn) (first cap : Array Value) (w : World), (Instr.makeFunc fn first cap).run Tryd.prog w = .ok (.func fn first cap) w := fun _ _ _ _ => rfl
  clear hP hT hv hu hq hf hfq h1 h2 h3 hR hB hS hd hc1 hc2 hsl
  go_enter Tryd.func12, Tryd.ntmps12
  go_wp2_with fail
  refine c.mono ?_
  rintro e wa ⟨rfl, ga⟩
  have HGA : Hid (Old w wa) := ga
  clear ga c
  go_wp2_with fail
  refine (c2 _ (HD.out.old HGA.out) (HQ.out.old HGA.out)).mono ?_
  rintro e wb ⟨rfl, gb⟩
  have HGB : Hid (Old w wb) := Old.trans HGA.out gb
  clear gb c2
  go_wp2_with fail
  refine (c3 _ (HU.out.old HGB.out) (HQ.out.old HGB.out)).mono ?_
  rintro e wc ⟨rfl, gc⟩
  have HGC : Hid (Old w wc) := Old.trans HGB.out gc
  clear gc c3
  go_wp2_with (at_make; refine wpList_make_full _ rfl _ _ 23 rfl wc.heap.size 3 i0 (.int .i64 0) 1 Tryd.underlying23 hi hz0 hz1 .i64 .i64 _ _ ts.length rfl rfl rfl rfl (by rw [hz2]; omega) (by unfold maxLen; omega) (Nat.le_refl _) ?_; intro w3 hown hgrow)
  have HO : Hid (OwnI w3 wc.heap.size wc.heap.size ts.length (List.replicate ts.length 0)) := by
    rw [made_ints] at hown
    exact hown
  have HG3 : Hid (Old wc w3) := Old.by_ (Old.refl _) hgrow (fun b hb => by cases hb)
  clear hown hgrow
  go_loopw [35] (fun i W => ∃ k : Nat, k ≤ ts.length ∧ i = .int .i64 k ∧ Hid (OwnI W wc.heap.size wc.heap.size ts.length (fillN ss k)) ∧ Hid (Old wc W)) (fun i _ => ts.length - (intOf i).toNat)
  case atStart => exact ⟨0, by omega, rfl, (by show OwnI _ _ _ _ _; rw [fillN_zero, hlen]; exact HO.out), HG3⟩
  case round =>
    obtain ⟨k, hk, rfl, HO1, HG⟩ := hrel
    clear HO HG3
    have HG1 : Hid (Old w wr) := Old.trans HGC.out HG.out
    by_cases hlt : k < ts.length
    · have d1 : decide ((k : Int) < (ts.length : Int)) = true := by simp; omega
      have i1 : (k : Int) < (ts.length : Int) := by omega
      have k1 : wr.cell? ⟨b1, o1 + k, none⟩ = some (.int .i64 ((us.getD k 0 : Nat) : Int)) := (HG1.out.cell (p := ⟨b1, o1 + k, none⟩) hb1).trans (HC1.out k hlt)
      have k2 : wr.cell? ⟨b2, o2 + k, none⟩ = some (.int .i64 ((ts.getD k 0 : Nat) : Int)) := (HG1.out.cell (p := ⟨b2, o2 + k, none⟩) hb2).trans (HC2.out k hlt)
      have k3 := HO1.out.get (fillN_len ss k (by omega) |>.trans hlen) k hlt
      have k4 := HO1.out.free k
      obtain ⟨b3, b4, b5⟩ := HBD.out k hlt
      have HPU : Hid (OwnI (wr.setCell ⟨wc.heap.size, k, none⟩ (.int .i64 (((ts.getD k 0 - us.getD k 0 : Nat)) : Int))) wc.heap.size wc.heap.size ts.length (fillN ss (k + 1))) := by
        have := HO1.out.put k (ss.getD k 0)
        rw [fillN_set ss k (by omega), HEL.out k hlt] at this
        exact this
      have t1 : IntKind.i64.wrap (((ts.getD k 0 : Nat) : Int) - ((us.getD k 0 : Nat) : Int)) = ((ts.getD k 0 - us.getD k 0 : Nat) : Int) := by rw [IntKind.wrap_i64]; omega
      generalize ts.getD k 0 - us.getD k 0 = z at *
      generalize ts.getD k 0 = p at *
      generalize us.getD k 0 = r at *
      generalize (fillN ss k).getD k 0 = oldv at *
      go_wp2_with fail
      exact ⟨⟨k + 1, by omega, by go_num, HPU, HG.out.own (Nat.le_refl _) _⟩, by simp [intOf]; omega⟩
    · have d1 : decide ((k : Int) < (ts.length : Int)) = false := by simp; omega
      obtain rfl : k = ts.length := by omega
      have HF : Hid (Row wr (.slice (some ⟨wc.heap.size, 0, none⟩) ts.length ts.length) ss) := by
        have := HO1.out.own ((fillN_len ss ts.length (by omega)).trans hlen)
        rw [show fillN ss ts.length = ss by rw [← hlen]; exact fillN_all ss] at this
        exact Own.row this
      clear HO1
      go_wp2_with fail
      refine (cc _ (HV.out.old HG1.out) (HU.out.old HG1.out)).mono ?_
      rintro e w2 ⟨g, rfl, g2, C2⟩
      have HG2 : Hid (Old w w2) := Old.trans HG1.out g2
      have HC2 : Hid (Cv w2 ps (yL rs ps) (.slice ua ps.length uc) (.slice (some ⟨g, 0, none⟩) ps.length ps.length)) := C2
      have HF2 : Hid (Row w2 (.slice (some ⟨wc.heap.size, 0, none⟩) ts.length ts.length) ss) := HF.out.old g2
      clear g2 C2 HF
      go_wp2_with fail
      have HGW : Hid (Old w2 ((w2.alloc (.cells #[.func (.func 32) #[] #[], .func (.func 34) #[] #[]] 65)).alloc (.cells #[.slice ua ps.length uc, .slice (some ⟨g, 0, none⟩) ps.length ps.length, .int .i64 0, .int .i64 0, .slice (some ⟨w2.heap.size, 0, none⟩) 2 2] 70))) := ((Old.refl w2).alloc _).alloc _
      refine (HM.out _ g w2.heap.size (HC2.out.old HGW.out) (StL.new w2 _ _) _ (Old.trans HG2.out HGW.out) (HF2.out.old HGW.out)).mono ?_
      rintro e w5 ⟨g5, rfl, q5, o5⟩
      have HG5 : Hid (Old w w5) := Old.trans (Old.trans HG2.out HGW.out) q5
      have HO5 : Hid (Own w5 w.heap.size (.slice (some ⟨g5, 0, none⟩) ts.length ts.length) zs) := Own.low o5 (Old.trans HG2.out HGW.out).size
      clear q5 o5
      go_wp2_with fail
      go_ret2
      exact ⟨_, rfl, HG5.out, HO5.out⟩
end Go.Proofs.YtfcdfielbpdloaaDoor
