/- Proved: the model's ScaleDown where it answers; the statement on it at all arguments. -/
import Derived.Test.YtejkejfhahmhcaaDoorScs
namespace Go.Proofs.YtejkejfhahmhcaaDoor
open Go.ChangeShapes Go.WideShapes Go.ChangeAt Go.RowKit
open M2
set_option linter.unusedVariables false
set_option linter.unusedSimpArgs false
theorem z_eq (r T G p : Nat) (hr : r < p) : r * (T % p) % p * (G % p) % p = pmN p [r, T, G] := by
  show _ = (1 * r % p) * T % p * G % p
  rw [Nat.one_mul, Nat.mod_eq_of_lt hr, Nat.mul_mod (r * T % p) G p, Nat.mod_mod, Nat.mul_mod r T p, Nat.mod_eq_of_lt hr, Nat.mul_mod (r * (T % p) % p) (G % p) p, Nat.mod_mod, Nat.mod_mod]
theorem cen_same (n : Int) (G xx : Nat) (hG : G % 2 = 1) (hx : (xx : Int) = n % (G : Int)) : cenM n G = cenB xx G := by
  unfold cenM cenB
  rw [← hx]
  by_cases h : (G : Int) / 2 < (xx : Int)
  · rw [if_pos h, if_pos (by omega)]
  · rw [if_neg h, if_neg (by omega)]
set_option maxRecDepth 100000 in
set_option maxHeartbeats 8000000 in
theorem spec_ScaleDown_yes (rs ps : List Nat) (T G : Nat) (v u : Value) (w : World) (hv : Row w v (toZ rs)) (hu : Row w u (toZ ps)) (hf : Fit u) (hR : Res rs ps) (hTG : 2 ≤ T ∧ T ≤ 65536) (hG : T < G ∧ G ≤ 268435456) (h : sdB (toZ rs) (toZ ps) T G = true) :
    Calls Tryd.prog 32 #[v, u, .int .i64 (T : Int), .int .i64 (G : Int)] w (Nm6 w (sdZ T G ps (yL (zL rs ps T G) ps)) true) := by
  obtain ⟨i0, hi, hz0, hz1, hz2⟩ := info_parts Tryd.infoInt
  have hl6 := hR.bas.len6
  have hl1 := hR.bas.len1
  have hrl := hR.len
  unfold sdB scB pmB at h
  simp only [Bool.and_eq_true, Bool.not_eq_true', decide_eq_true_eq] at h
  obtain ⟨⟨h1, h2⟩, ⟨⟨⟨_, _⟩, ⟨h4, h5⟩⟩, h6⟩⟩ := h
  rw [Int.toNat_natCast] at h5
  have hodd := isP_odd G h5 (by omega)
  have K1 : ∀ W, Old w W → Calls Tryd.prog 34 #[v, u] W fun e w' => e = .returned (.bool true) ∧ Old W w' := fun W q => by
    have := l4Good_any (toZ rs) (toZ ps) v u W (hv.old q) (hu.old q) hf (by rw [toZ_len]; omega) (by rw [toZ_len]; omega) (bas_in8 hR.bas)
    rwa [h1, h2] at this
  have K2 : ∀ W, Old w W → Calls Tryd.prog 59 #[.int .i64 (T : Int), .int .i64 2, .int .i64 65536] W fun e w' => e = .returned (.bool true) ∧ Old W w' := fun W q => by
    have e1 : inB (T : Int) 2 65536 = true := decide_eq_true (by omega)
    have := spec_in (T : Int) 2 65536 W
    rw [e1] at this
    exact this.mono (fun e w' h => ⟨h.1, by rw [h.2]; exact Old.refl _⟩)
  have K3 : ∀ W, Old w W → Calls Tryd.prog 56 #[.int .i64 (G : Int)] W fun e w' => e = .returned (.bool true) ∧ Old W w' := fun W q => by
    have := spec_modulus (G : Int) W
    rw [h4] at this
    exact this.mono (fun e w' h => ⟨h.1, by rw [h.2]; exact Old.refl _⟩)
  have K4 : ∀ W, Old w W → Calls Tryd.prog 57 #[.int .u64 (G : Int)] W fun e w' => e = .returned (.bool true) ∧ Old W w' := fun W q => by
    have := spec_IsPrime G W (by omega)
    rwa [h5] at this
  have D5 : decide ((G : Int) ≤ (T : Int)) = false := decide_eq_false (by omega)
  have D5n : decide (G ≤ T) = false := decide_eq_false (by omega)
  have K6 : ∀ W, Old w W → Calls Tryd.prog 58 #[u, .int .i64 (G : Int)] W fun e w' => e = .returned (.bool false) ∧ Old W w' := fun W q => by
    have := has_any (toZ ps) (G : Int) u W (hu.old q) (by rw [toZ_len]; omega)
    have e1 : (toZ ps).contains (G : Int) = false := by
      cases hc : (toZ ps).contains (G : Int)
      · rfl
      · exfalso
        have hm : (G : Int) ∈ toZ ps := by simpa using hc
        obtain ⟨n, hn, e⟩ := List.mem_map.1 hm
        obtain ⟨k, hk, e2⟩ := List.getElem_of_mem hn
        exact (none_bad h6 k hk).2 (by simp [List.getD, hk, e2]; omega)
    rwa [e1] at this
  have HGC : Hid (∀ k, k < ps.length → ∀ W, Calls Tryd.prog 79 #[.int .i64 ((ps.getD k 0 : Nat) : Int), .int .i64 (T : Int)] W fun e w' => e = .returned (.int .i64 ((1 : Nat) : Int)) ∧ Old W w') := fun k hk W => by
    have hm : ps.getD k 0 ∈ ps := by simp [List.getD, hk]
    have := gcd_any (ps.getD k 0) T W (hR.bas.hi _ hm) (by omega)
    rwa [gcd_one (bas_isP h1 k hk) (hR.bas.hi _ hm) (none_bad h6 k hk).1] at this
  have hR2 := zL_res hR T G
  have cpr := fun W h3 => spec_product ps u W h3 hl6 hR.bas.hi
  have csm := fun d W h4 h5 => spec_sum (zL rs ps T G) ps d u W h4 h5 hR2
  have hlP : (dig (prodN ps)).length ≤ 7 := hR.bas.cnt
  have hdS : (dig (sumN (zL rs ps T G) ps ps.length)).length ≤ 7 := sumN_cnt hR.bas _ (Nat.le_refl _)
  have cw1 := fun d W h3 => word_any (dig (sumN (zL rs ps T G) ps ps.length)) T d W h3 (dig_lim _) (by omega) (by omega) (by omega)
  have cw2 := fun d W h3 => word_any (dig (prodN ps)) T d W h3 (dig_lim _) (by omega) (by omega) (by omega)
  have cw3 := fun d W h3 => word_any (dig (sumN (zL rs ps T G) ps ps.length)) G d W h3 (dig_lim _) (by omega) (by omega) (by omega)
  have cw4 := fun d W h3 => word_any (dig (prodN ps)) G d W h3 (dig_lim _) (by omega) (by omega) (by omega)
  rw [val_dig] at cw1 cw2 cw3 cw4
  have lT1 := Nat.mod_lt (sumN (zL rs ps T G) ps ps.length) (show 0 < T by omega)
  have lT2 := Nat.mod_lt (prodN ps) (show 0 < T by omega)
  have lG1 := Nat.mod_lt (sumN (zL rs ps T G) ps ps.length) (show 0 < G by omega)
  have lG2 := Nat.mod_lt (prodN ps) (show 0 < G by omega)
  have ciT := fun W => spec_inv (-((prodN ps % T : Nat) : Int)) (T : Int) W (by omega) (by omega)
  have ciG := fun W => spec_inv (-((prodN ps % G : Nat) : Int)) (G : Int) W (by omega) (by omega)
  have ciI := fun W => spec_inv (G : Int) (T : Int) W (by omega) (by omega)
  rw [Int.toNat_natCast] at ciT ciG ciI
  have eI : ((G : Int) % (T : Int)).toNat = G % T := by rw [← Int.natCast_emod, Int.toNat_natCast]
  rw [eI] at ciI
  have lI := invM_lt (G % T) T (by omega)
  have lJ := invM_lt ((-((prodN ps % T : Nat) : Int)) % (T : Int)).toNat T (by omega)
  have lK := invM_lt ((-((prodN ps % G : Nat) : Int)) % (G : Int)).toNat G (by omega)
  have hU : sdU T ps (yL (zL rs ps T G) ps) = sumN (zL rs ps T G) ps ps.length % T * M1.invM ((-((prodN ps % T : Nat) : Int)) % (T : Int)).toNat T % T := by
    unfold sdU overL
    rw [plusS_eq T _ ps 0 hTG.1, Nat.zero_add, pm_mod T ps hTG.1]
  have hV : sdV G ps (yL (zL rs ps T G) ps) = cenM (((sumN (zL rs ps T G) ps ps.length % G : Nat) : Int) * ((M1.invM ((-((prodN ps % G : Nat) : Int)) % (G : Int)).toNat G : Nat) : Int)) G := by
    unfold sdV overL
    rw [plusS_eq G _ ps 0 (by omega), Nat.zero_add, pm_mod G ps (by omega)]
    exact (cen_same _ G _ hodd (by rw [Int.natCast_emod, Int.natCast_mul])).symm
  have hUl : sdU T ps (yL (zL rs ps T G) ps) < T := overL_lt T ps _ hTG.1
  have hVi := sdV_in G ps (yL (zL rs ps T G) ps) (by omega)
  unfold sdZ
  generalize sdU T ps (yL (zL rs ps T G) ps) = uu at *
  generalize sdV G ps (yL (zL rs ps T G) ps) = vv at *
  generalize M1.invM (G % T) T = iI at *
  generalize M1.invM ((-((prodN ps % T : Nat) : Int)) % (T : Int)).toNat T = iT at *
  generalize M1.invM ((-((prodN ps % G : Nat) : Int)) % (G : Int)).toNat G = iG at *
  generalize prodN ps % T = qT at *
  generalize prodN ps % G = qG at *
  have hzl : (toZ (zL rs ps T G)).length = ps.length := by rw [toZ_len, zL_len]
  have HE : Hid (∀ k, k < ps.length → (toZ (zL rs ps T G)).take (k + 1) = (toZ (zL rs ps T G)).take k ++ [((rs.getD k 0 * (T % ps.getD k 0) % ps.getD k 0 * (G % ps.getD k 0) % ps.getD k 0 : Nat) : Int)]) := fun k hk => by
    rw [take_succI _ _ (by rw [hzl]; exact hk), toZ_get, zL_get _ _ _ _ _ hk, z_eq _ _ _ _ (hR.lt k hk)]
  generalize sumN (zL rs ps T G) ps ps.length % T = sT at *
  generalize sumN (zL rs ps T G) ps ps.length % G = sG at *
  generalize sumN (zL rs ps T G) ps ps.length = S at *
  generalize prodN ps = Q at *
  generalize toZ (zL rs ps T G) = zs at *
  have pT : sT * iT ≤ 72057594037927936 := Nat.le_trans (Nat.mul_le_mul (show sT ≤ 268435456 by omega) (show iT ≤ 268435456 by omega)) (by decide)
  have pG : sG * iG ≤ 72057594037927936 := Nat.le_trans (Nat.mul_le_mul (show sG ≤ 268435456 by omega) (show iG ≤ 268435456 by omega)) (by decide)
  have f1 : IntKind.i64.wrap (-(qT : Int)) = -(qT : Int) := by rw [IntKind.wrap_i64]; omega
  have f2 : IntKind.i64.wrap (-(qG : Int)) = -(qG : Int) := by rw [IntKind.wrap_i64]; omega
  have f3 : IntKind.i64.wrap ((sT : Int) * (iT : Int)) = ((sT * iT : Nat) : Int) := by rw [← Int.natCast_mul, IntKind.wrap_i64]; omega
  have f4 : Int.tmod ((sT * iT : Nat) : Int) (T : Int) = (uu : Int) := by rw [Int.tmod_eq_emod_of_nonneg (by omega), hU]; rfl
  have hT0 : ¬ T = 0 := by omega
  have f5 : IntKind.i64.wrap ((sG : Int) * (iG : Int)) = ((sG * iG : Nat) : Int) := by rw [← Int.natCast_mul, IntKind.wrap_i64]; omega
  have cce := fun W => spec_centred ((sG * iG : Nat) : Int) G W (by omega) (by omega)
  rw [Int.natCast_mul, ← hV, ← Int.natCast_mul] at cce
  generalize sG * iG = mG at *
  generalize sT * iT = mT at *
  obtain ⟨df, hdf⟩ : ∃ df : Int, (uu : Int) - vv = df := ⟨_, rfl⟩
  have t4 : IntKind.i64.wrap ((uu : Int) - vv) = df := by rw [hdf, IntKind.wrap_i64]; omega
  have hdb : -536870912 ≤ df ∧ df ≤ 536870912 := by omega
  rw [hdf]
  obtain ⟨pr, hpr⟩ : ∃ pr : Int, df * (iI : Int) = pr := ⟨_, rfl⟩
  have hpb : -72057594037927936 ≤ pr ∧ pr ≤ 72057594037927936 := by
    rw [← hpr]
    have q1 : df * (iI : Int) ≤ 536870912 * (iI : Int) := Int.mul_le_mul_of_nonneg_right hdb.2 (by omega)
    have q2 : -536870912 * (iI : Int) ≤ df * (iI : Int) := Int.mul_le_mul_of_nonneg_right hdb.1 (by omega)
    omega
  have t5 : IntKind.i64.wrap (df * (iI : Int)) = pr := by rw [hpr, IntKind.wrap_i64]; omega
  rw [hpr]
  clear hdf hpr hU hV eI
  have cm := fun W => spec_mod pr (T : Int) W (by omega) (by omega)
  have hzb : 0 ≤ pr % (T : Int) ∧ pr % (T : Int) < (T : Int) := ⟨Int.emod_nonneg _ (by omega), Int.emod_lt_of_pos _ (by omega)⟩
  generalize pr % (T : Int) = rz at *
  have HV : Hid (Row w v (toZ rs)) := hv
  have HU : Hid (Row w u (toZ ps)) := hu
  obtain ⟨b1, o1, cap1, rfl, hb1, hc1⟩ := hv.atZ (by omega)
  obtain ⟨b2, o2, cap2, rfl, hb2, hc2⟩ := hu.atZ (by omega)
  rw [hrl] at hc1 K1 ⊢
  have HC1 : Hid (∀ j, j < ps.length → w.cell? ⟨b1, o1 + j, none⟩ = some (.int .i64 ((rs.getD j 0 : Nat) : Int))) := hc1
  have HC2 : Hid (∀ j, j < ps.length → w.cell? ⟨b2, o2 + j, none⟩ = some (.int .i64 ((ps.getD j 0 : Nat) : Int))) := hc2
  have HBD : Hid (∀ j, j < ps.length → rs.getD j 0 < ps.getD j 0 ∧ 2 ≤ ps.getD j 0 ∧ ps.getD j 0 ≤ 268435456) := fun j hj => by
    have hm : ps.getD j 0 ∈ ps := by simp [List.getD, hj]
    exact ⟨hR.lt j hj, hR.bas.lo _ hm, hR.bas.hi _ hm⟩
  have HG0 : Hid (Old w w) := Old.refl w
  clear hv hu hf h1 h2 h4 h5 h6 hR hR2 hc1 hc2 hrl hlP hdS hodd
  go_enter Tryd.func32, Tryd.ntmps32
  go_wp2_with fail
  refine (K1 _ HG0.out).mono ?_
  rintro e w1 ⟨rfl, g1⟩
  have HG1 : Hid (Old w w1) := Old.trans HG0.out g1
  clear g1
  go_wp2_with fail
  refine (K2 _ HG1.out).mono ?_
  rintro e w2 ⟨rfl, g2⟩
  have HG2 : Hid (Old w w2) := Old.trans HG1.out g2
  clear g2
  go_wp2_with fail
  refine (K3 _ HG2.out).mono ?_
  rintro e w3 ⟨rfl, g3⟩
  have HG3 : Hid (Old w w3) := Old.trans HG2.out g3
  clear g3
  go_wp2_with fail
  refine (K4 _ HG3.out).mono ?_
  rintro e w4 ⟨rfl, g4⟩
  have HG4 : Hid (Old w w4) := Old.trans HG3.out g4
  clear g4
  go_wp2_with fail
  refine (K6 _ HG4.out).mono ?_
  rintro e w6 ⟨rfl, g6⟩
  have HG6 : Hid (Old w w6) := Old.trans HG4.out g6
  clear g6
  clear K1 K2 K3 K4 K6
  go_wp2_with fail
  go_loopw [51] (fun i W => ∃ k : Nat, k ≤ ps.length ∧ i = .int .i64 k ∧ Hid (Old w W)) (fun i _ => ps.length - (intOf i).toNat)
  case atStart => exact ⟨0, by omega, rfl, HG6⟩
  case round =>
    obtain ⟨k, hk, rfl, HG⟩ := hrel
    clear HG1 HG2 HG3 HG4 HG6
    by_cases hlt : k < ps.length
    · have d1 : decide ((k : Int) < (ps.length : Int)) = true := by simp; omega
      have i1 : (k : Int) < (ps.length : Int) := by omega
      have k1 : wr.cell? ⟨b2, o2 + k, none⟩ = some (.int .i64 ((ps.getD k 0 : Nat) : Int)) := (HG.out.cell (p := ⟨b2, o2 + k, none⟩) hb2).trans (HC2.out k hlt)
      have cg := HGC.out k hlt
      generalize ps.getD k 0 = p at *
      have dn : (((1 : Nat) : Int) != 1) = false := by simp
      go_wp2_with fail
      refine (cg _).mono ?_
      rintro e wz ⟨rfl, gz⟩
      have HGZ : Hid (Old w wz) := Old.trans HG.out gz
      clear gz
      go_wp2_with fail
      exact ⟨⟨k + 1, by omega, by go_num, HGZ⟩, by simp [intOf]; omega⟩
    · have d1 : decide ((k : Int) < (ps.length : Int)) = false := by simp; omega
      obtain rfl : k = ps.length := by omega
      have wq0 : ∃ wq, wq = wr := ⟨_, rfl⟩
      obtain ⟨wq, hwq⟩ := wq0
      rw [← hwq] at HG ⊢
      clear hwq
      go_wp2_with fail
      go_loopw [12, 62] (fun x i W => ∃ (k : Nat) (a : Option Addr) (cap : Nat), k ≤ ps.length ∧ i = .int .i64 k ∧ x = .slice a k cap ∧ Hid (Own W wq.heap.size (.slice a k cap) (zs.take k)) ∧ Hid (Old wq W)) (fun _ i _ => ps.length - (intOf i).toNat)
      case atStart => exact ⟨0, none, 0, by omega, rfl, rfl, (by exact own_none _ _), Old.refl _⟩
      case round =>
        obtain ⟨k, ra, rc, hk, rfl, rfl, HO2, HGr⟩ := hrel
        have hs2 := HGr.out.size
        have HGw : Hid (Old w wr) := Old.trans HG.out HGr.out
        by_cases hjl : k < ps.length
        · have d2 : decide ((k : Int) < (ps.length : Int)) = true := by simp; omega
          have i1 : (k : Int) < (ps.length : Int) := by omega
          have k2 : wr.cell? ⟨b2, o2 + k, none⟩ = some (.int .i64 ((ps.getD k 0 : Nat) : Int)) := (HGw.out.cell (p := ⟨b2, o2 + k, none⟩) hb2).trans (HC2.out k hjl)
          have k1 : wr.cell? ⟨b1, o1 + k, none⟩ = some (.int .i64 ((rs.getD k 0 : Nat) : Int)) := (HGw.out.cell (p := ⟨b1, o1 + k, none⟩) hb1).trans (HC1.out k hjl)
          obtain ⟨x1, x2, x3⟩ := HBD.out k hjl
          have HT2 := HE.out k hjl
          generalize ps.getD k 0 = p at *
          generalize rs.getD k 0 = r at *
          have hp0 : ¬ p = 0 := by omega
          have m1 : Int.tmod (T : Int) (p : Int) = ((T % p : Nat) : Int) := by rw [Int.tmod_eq_emod_of_nonneg (by omega)]; rfl
          have m2 : Int.tmod (G : Int) (p : Int) = ((G % p : Nat) : Int) := by rw [Int.tmod_eq_emod_of_nonneg (by omega)]; rfl
          have l1 := Nat.mod_lt T (show 0 < p by omega)
          have l2 := Nat.mod_lt G (show 0 < p by omega)
          generalize T % p = tp at *
          generalize G % p = gp at *
          have b3 : r * tp ≤ 72057594037927936 := Nat.le_trans (Nat.mul_le_mul (show r ≤ 268435456 by omega) (show tp ≤ 268435456 by omega)) (by decide)
          have m3 : IntKind.i64.wrap ((r : Int) * (tp : Int)) = ((r * tp : Nat) : Int) := by rw [← Int.natCast_mul, IntKind.wrap_i64]; omega
          have m4 : Int.tmod ((r * tp : Nat) : Int) (p : Int) = ((r * tp % p : Nat) : Int) := by rw [Int.tmod_eq_emod_of_nonneg (by omega)]; rfl
          have l3 := Nat.mod_lt (r * tp) (show 0 < p by omega)
          generalize r * tp % p = a2 at *
          generalize r * tp = a1 at *
          have b4 : a2 * gp ≤ 72057594037927936 := Nat.le_trans (Nat.mul_le_mul (show a2 ≤ 268435456 by omega) (show gp ≤ 268435456 by omega)) (by decide)
          have m5 : IntKind.i64.wrap ((a2 : Int) * (gp : Int)) = ((a2 * gp : Nat) : Int) := by rw [← Int.natCast_mul, IntKind.wrap_i64]; omega
          have m6 : Int.tmod ((a2 * gp : Nat) : Int) (p : Int) = ((a2 * gp % p : Nat) : Int) := by rw [Int.tmod_eq_emod_of_nonneg (by omega)]; rfl
          generalize a2 * gp % p = y at *
          generalize a2 * gp = a3 at *
          have HT3 : Hid (zs.take (k + 1) = zs.take k ++ [(y : Int)]) := HT2
          have htk : (zs.take k).length = k := by rw [List.length_take]; omega
          have HW1 : Hid (∀ d o, Own ((wr.alloc o).drewN d) wq.heap.size (.slice ra k rc) (zs.take k)) := fun d o => HO2.out.old (((Old.refl wr).alloc o).drewN d)
          have HW5 : Hid (∀ d o, Old wq ((wr.alloc o).drewN d)) := fun d o => (HGr.out.alloc o).drewN d
          clear HT2
          go_wp2_with fail
          go_region_law (refine step_append_lies _ rfl (.tmp 67) (.tmp 84) 22 rfl wq.heap.size 3 i0 (.int .i64 0) 1 8 Tryd.underlying22 hi hz0 hz1 hz2 rfl (by decide) (.slice ra k rc) k ((zs.take k).map (Value.int .i64)) (by simp [Act.eval, Act.put]) (by have := HW1.out 1 (.cells #[.int .i64 (y : Int)] 3); unfold Own at this; rw [htk] at this; exact this) ⟨wr.heap.size, 0, none⟩ 1 1 [.int .i64 (y : Int)] (by simp [Act.eval, Act.put]) rfl (one_cell _ _ _) (one_one _) (by omega) (by unfold maxLen; omega) (by omega) (by simp; omega) _ rfl ?_; intro g5 cap5 w5 o5 gr5 x5 lt5; have O5 : Hid (Own w5 wq.heap.size (.slice (some ⟨g5, 0, none⟩) (k + 1) cap5) (zs.take (k + 1))) := (by have := HT3.out; show Own _ _ _ _; rw [this]; exact Own.snoc (by rw [htk]; exact o5)); have G5 : Hid (Old wq w5) := Below.grown (HW5.out 1 (.cells #[.int .i64 (y : Int)] 3)) gr5 (HW5.out 1 (.cells #[.int .i64 (y : Int)] 3)).size (fun j hj => (HO2.out.lt j hj).1); clear o5 gr5 x5 lt5)
          all_goals
            go_wp2_with fail
            exact ⟨⟨k + 1, _, _, by omega, by go_num, rfl, O5, G5⟩, by simp [intOf]; omega⟩
        · have d2 : decide ((k : Int) < (ps.length : Int)) = false := by simp; omega
          obtain rfl : k = ps.length := by omega
          have HF : Hid (Row wr (.slice ra ps.length rc) zs) := by
            have := HO2.out
            rw [List.take_of_length_le (by omega)] at this
            exact Own.row this
          clear HO2
          go_wp2_with fail
          refine (csm _ _ HF.out (HU.out.old HGw.out)).mono ?_
          rintro e wd ⟨d9, rfl, gd, rd⟩
          have HGD : Hid (Old w wd) := Old.trans HGw.out gd
          have HSD : Hid (Row wd d9 (toI (dig S))) := rd
          obtain ⟨a2, cap2', rfl⟩ := rd.slice
          clear gd rd
          go_wp2_with fail
          refine (cpr _ (HU.out.old HGD.out)).mono ?_
          rintro e wa ⟨d8, rfl, ga, ra'⟩
          have HGA : Hid (Old w wa) := Old.trans HGD.out ga
          have HSA : Hid (Row wa (.slice a2 (toI (dig S)).length cap2') (toI (dig S))) := HSD.out.old ga
          have HPA : Hid (Row wa d8 (toI (dig Q))) := ra'
          obtain ⟨a1, cap1', rfl⟩ := ra'.slice
          clear ga ra'
          go_wp2_with fail
          refine (cw1 _ _ HSA.out).mono ?_
          rintro e wGa ⟨rfl, gg⟩
          have HGGa : Hid (Old w wGa) := Old.trans HGA.out gg
          have HSGa : Hid (Row wGa (.slice a2 (toI (dig S)).length cap2') (toI (dig S))) := HSA.out.old gg
          have HPGa : Hid (Row wGa (.slice a1 (toI (dig Q)).length cap1') (toI (dig Q))) := HPA.out.old gg
          clear gg
          go_wp2_with fail
          refine (cw2 _ _ HPGa.out).mono ?_
          rintro e wGb ⟨rfl, gg⟩
          have HGGb : Hid (Old w wGb) := Old.trans HGGa.out gg
          have HSGb : Hid (Row wGb (.slice a2 (toI (dig S)).length cap2') (toI (dig S))) := HSGa.out.old gg
          have HPGb : Hid (Row wGb (.slice a1 (toI (dig Q)).length cap1') (toI (dig Q))) := HPGa.out.old gg
          clear gg
          go_wp2_with fail
          refine (ciT _).mono ?_
          rintro e wx ⟨rfl, hwx⟩
          replace hwx := hwx.symm
          subst hwx
          go_wp2_with fail
          refine (cw3 _ _ HSGb.out).mono ?_
          rintro e wGc ⟨rfl, gg⟩
          have HGGc : Hid (Old w wGc) := Old.trans HGGb.out gg
          have HSGc : Hid (Row wGc (.slice a2 (toI (dig S)).length cap2') (toI (dig S))) := HSGb.out.old gg
          have HPGc : Hid (Row wGc (.slice a1 (toI (dig Q)).length cap1') (toI (dig Q))) := HPGb.out.old gg
          clear gg
          go_wp2_with fail
          refine (cw4 _ _ HPGc.out).mono ?_
          rintro e wGd ⟨rfl, gg⟩
          have HGGd : Hid (Old w wGd) := Old.trans HGGc.out gg
          have HSGd : Hid (Row wGd (.slice a2 (toI (dig S)).length cap2') (toI (dig S))) := HSGc.out.old gg
          have HPGd : Hid (Row wGd (.slice a1 (toI (dig Q)).length cap1') (toI (dig Q))) := HPGc.out.old gg
          clear gg
          go_wp2_with fail
          refine (ciG _).mono ?_
          rintro e wx ⟨rfl, hwx⟩
          replace hwx := hwx.symm
          subst hwx
          go_wp2_with fail
          refine (cce _).mono ?_
          rintro e wx ⟨rfl, hwx⟩
          replace hwx := hwx.symm
          subst hwx
          go_wp2_with fail
          refine (ciI _).mono ?_
          rintro e wx ⟨rfl, hwx⟩
          replace hwx := hwx.symm
          subst hwx
          go_wp2_with fail
          refine (cm _).mono ?_
          rintro e wx ⟨rfl, hwx⟩
          replace hwx := hwx.symm
          subst hwx
          go_wp2_with fail
          go_ret2
          exact ⟨rfl, HGGd.out⟩
theorem ScaleDown_any (rs xs : List Int) (t g : Int) (v u : Value) (w : World) (hv : Row w v rs) (hu : Row w u xs) (hlr : rs.length ≤ 9223372036854775807) (hl : xs.length ≤ 9223372036854775807) (hx : ∀ x ∈ xs, -9223372036854775808 ≤ x ∧ x ≤ 9223372036854775807) (hP : PrsW w) (hT : TabW w) :
    Calls Tryd.prog 10 #[v, u, .int .i64 t, .int .i64 g] w fun e w' => e = .returned (.bool true) ∧ Old w w' := by
  cases h : sdB rs xs t g
  · exact law_ScaleDown t g rs xs v u w hv hlr hu hl hP hT false 0
      (fun _ l2 v u W hr _ hr2 hf => spec_ScaleDown_no rs xs t g v u W hr hr2 hf l2 hlr hx h)
      (fun _ l2 v u W hp ht' hr _ hr2 hf => impl_ScaleDown_no rs xs t g v u W hp ht' hr hr2 hf l2 h)
  · have h' := h
    unfold sdB scB pmB at h'
    simp only [Bool.and_eq_true, decide_eq_true_eq] at h'
    obtain ⟨⟨h1, h2⟩, ⟨⟨⟨⟨q1, q2⟩, q3⟩, ⟨h4, h5⟩⟩, h6⟩⟩ := h'
    obtain ⟨ps, rfl, hb⟩ := basB_yes h1
    obtain ⟨qs, rfl, hR⟩ := rsB_yes rfl hb h2
    obtain ⟨m1, m2⟩ := modB_yes h4
    obtain ⟨T, rfl⟩ := Int.eq_ofNat_of_zero_le (show 0 ≤ t by omega)
    obtain ⟨G, rfl⟩ := Int.eq_ofNat_of_zero_le (show 0 ≤ g by omega)
    exact law_ScaleDown (T : Int) (G : Int) (toZ qs) (toZ ps) v u w hv hlr hu hl hP hT true (sdZ T G ps (yL (zL qs ps T G) ps))
      (fun _ _ v u W hr _ hr2 hf => spec_ScaleDown_yes qs ps T G v u W hr hr2 hf hR (by omega) (by omega) h)
      (fun _ _ v u W hp ht' hr _ hr2 hf => impl_ScaleDown_yes qs ps T G v u W hp ht' hr hr2 hf hR (by omega) (by omega) h)
end Go.Proofs.YtejkejfhahmhcaaDoor
