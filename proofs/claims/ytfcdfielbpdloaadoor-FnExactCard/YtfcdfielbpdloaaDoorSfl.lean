/- Proved: contracts of the model's FloorConvert; the statement on it at every four lists. -/
import Derived.Test.YtfcdfielbpdloaaDoorX25
import Derived.Test.YtfcdfielbpdloaaDoorX27
import Derived.Test.YtfcdfielbpdloaaDoorX07
import Derived.Test.YtfcdfielbpdloaaDoorX13
import Derived.Deep.AppendLies
import Derived.Deep.RegionLaw
namespace Go.Proofs.YtfcdfielbpdloaaDoor
open Go.ChangeShapes Go.WideShapes Go.ChangeAt Go.RowKit
open M2
set_option linter.unusedVariables false
set_option linter.unusedSimpArgs false
def flM (S Q : Nat) (us ts : List Nat) : List Int := (List.range ts.length).map (fun k => (((us.getD k 0 : Nat) : Int) - ((S % ts.getD k 0 : Nat) : Int)) * ((M1.invM (Q % ts.getD k 0) (ts.getD k 0) : Nat) : Int) % ((ts.getD k 0 : Nat) : Int))
theorem flM_len (S Q : Nat) (us ts : List Nat) : (flM S Q us ts).length = ts.length := by simp [flM]
theorem flM_get (S Q : Nat) (us ts : List Nat) (k : Nat) (h : k < ts.length) : (flM S Q us ts).getD k 0 = (((us.getD k 0 : Nat) : Int) - ((S % ts.getD k 0 : Nat) : Int)) * ((M1.invM (Q % ts.getD k 0) (ts.getD k 0) : Nat) : Int) % ((ts.getD k 0 : Nat) : Int) := by simp [flM, List.getD, h]
theorem fl_eq (rs us ps ts : List Nat) (hS : Res us ts) : flM (sumN rs ps ps.length) (prodN ps) us ts = toZ (flL ps (yL rs ps) us ts) := by
  apply List.ext_getElem
  · rw [flM_len, toZ_len, flL_len]
  · intro k h1 h2
    rw [flM_len] at h1
    have hm : ts.getD k 0 ∈ ts := by simp [List.getD, h1]
    have b1 := hS.lt k h1
    have b2 := hS.bas.lo _ hm
    have e1 : (flM (sumN rs ps ps.length) (prodN ps) us ts)[k] = (flM (sumN rs ps ps.length) (prodN ps) us ts).getD k 0 := by simp [List.getD, flM_len, h1]
    have e2 : (toZ (flL ps (yL rs ps) us ts))[k]'h2 = (toZ (flL ps (yL rs ps) us ts)).getD k 0 := by rw [List.getD_eq_getElem?_getD, List.getElem?_eq_getElem h2]; rfl
    rw [e1, e2, flM_get _ _ _ _ _ h1, toZ_get, flL_get _ _ _ _ _ h1, plusS_eq _ _ _ _ b2]
    unfold overL
    rw [pm_mod _ _ b2]
    generalize sumN rs ps ps.length = S at *
    generalize prodN ps = Q at *
    generalize ts.getD k 0 = b at *
    generalize us.getD k 0 = r at *
    refine (turn_eq b _ _ _ _ b2 (inv_neg (Q % b) b b2 (Nat.mod_lt _ (by omega))) ?_).symm
    have e3 : (((b - r + S) % b : Nat) : Int) + (((r : Nat) : Int) - ((S % b : Nat) : Int)) = ((b : Int) - r + S) % b + (r - (S : Int) % b) := by
      rw [Int.natCast_emod, Int.natCast_add, Int.natCast_sub (by omega), Int.natCast_emod]
    rw [e3]
    refine Int.emod_eq_zero_of_dvd ?_
    have d1 : (b : Int) ∣ ((b : Int) - r + S) - ((b : Int) - r + S) % b := Int.dvd_self_sub_of_emod_eq rfl
    have d2 : (b : Int) ∣ (S : Int) - (S : Int) % b := Int.dvd_self_sub_of_emod_eq rfl
    have e4 : ((b : Int) - r + S) % b + (r - (S : Int) % b) = (b : Int) + ((S : Int) - (S : Int) % b) - (((b : Int) - r + S) - ((b : Int) - r + S) % b) := by omega
    rw [e4]
    exact Int.dvd_sub (Int.dvd_add (Int.dvd_refl _) d2) d1
theorem common_false {xs ts : List Int} (h : xs.any (fun x => ts.contains x) = false) : ∀ k, k < ts.length → xs.contains (ts.getD k 0) = false := fun k hk => by
  have hm : ts.getD k 0 ∈ ts := by simp [List.getD, hk]
  cases hc : xs.contains (ts.getD k 0)
  · rfl
  · exfalso
    have h1 : ts.getD k 0 ∈ xs := by simpa using hc
    have := List.any_eq_true.2 ⟨_, h1, (show ts.contains (ts.getD k 0) = true by simpa using hm)⟩
    rw [h] at this
    cases this
theorem common_true {xs ts : List Int} (h : xs.any (fun x => ts.contains x) = true) : ∃ k, k < ts.length ∧ xs.contains (ts.getD k 0) = true := by
  obtain ⟨x, hx, h2⟩ := List.any_eq_true.1 h
  have h3 : x ∈ ts := by simpa using h2
  obtain ⟨k, hk, e⟩ := List.getElem_of_mem h3
  exact ⟨k, hk, by simp only [List.getD_eq_getElem?_getD, List.getElem?_eq_getElem hk, Option.getD_some, e]; simpa using hx⟩
set_option maxRecDepth 100000 in
set_option maxHeartbeats 2000000 in
theorem spec_FloorConvert_no (rs us xs ts : List Int) (v d u q : Value) (w : World) (hv : Row w v rs) (hd : Row w d us) (hu : Row w u xs) (hf : Fit u) (hq : Row w q ts) (hfq : Fit q) (hl : xs.length ≤ 9223372036854775807) (hlr : rs.length ≤ 9223372036854775807) (hld : us.length ≤ 9223372036854775807) (hlq : ts.length ≤ 9223372036854775807) (hx : ∀ x ∈ xs, -9223372036854775808 ≤ x ∧ x ≤ 9223372036854775807) (ht : ∀ x ∈ ts, -9223372036854775808 ≤ x ∧ x ≤ 9223372036854775807) (h : flB rs us xs ts = false) :
    Calls Tryd.prog 13 #[v, d, u, q] w (Ls w [] false) := by
  have c1 := l4Good_any rs xs v u w hv hu hf hl hlr hx
  have c2 := fun W h1 h2 => l4Good_any us ts d q W h1 h2 hfq hlq hld ht
  have c3 := fun p W h1 => has_any xs p u W h1 hl
  have HD : Hid (Row w d us) := hd
  have HU : Hid (Row w u xs) := hu
  have HQ : Hid (Row w q ts) := hq
  unfold flB at h
  cases hg : (basB xs && rsB rs xs)
  · rw [hg] at c1
    obtain ⟨va, vc, rfl⟩ := hv.slice
    obtain ⟨da, dc, rfl⟩ := hd.slice
    obtain ⟨ua, uc, rfl⟩ := hu.slice
    obtain ⟨qa, qc, rfl⟩ := hq.slice
    clear hv hu hq hf hfq h hx ht c2 c3 hg hd
    go_enter Tryd.func13, Tryd.ntmps13
    go_wp2_with fail
    refine c1.mono ?_
    rintro e w1 ⟨rfl, g1⟩
    have HG1 : Hid (Old w w1) := g1
    clear g1
    go_wp2_with fail
    go_ret2
    exact ⟨_, rfl, HG1.out, own_none _ _⟩
  · rw [hg] at c1
    cases hg2 : (basB ts && rsB us ts)
    · rw [hg2] at c2
      obtain ⟨va, vc, rfl⟩ := hv.slice
      obtain ⟨da, dc, rfl⟩ := hd.slice
      obtain ⟨ua, uc, rfl⟩ := hu.slice
      obtain ⟨qa, qc, rfl⟩ := hq.slice
      clear hv hu hq hf hfq h hx ht c3 hg hg2 hd
      go_enter Tryd.func13, Tryd.ntmps13
      go_wp2_with fail
      refine c1.mono ?_
      rintro e w1 ⟨rfl, g1⟩
      have HG1 : Hid (Old w w1) := g1
      clear g1
      go_wp2_with fail
      refine (c2 _ (HD.out.old HG1.out) (HQ.out.old HG1.out)).mono ?_
      rintro e w2 ⟨rfl, g2⟩
      have HG2 : Hid (Old w w2) := Old.trans HG1.out g2
      clear g2
      go_wp2_with fail
      go_ret2
      exact ⟨_, rfl, HG2.out, own_none _ _⟩
    · rw [hg2] at c2
      have hany : xs.any (fun x => ts.contains x) = true := by
        rw [Bool.and_eq_true] at hg hg2
        rw [hg.1, hg.2, hg2.1, hg2.2] at h
        simpa using h
      obtain ⟨m, hm, hmc⟩ := common_true hany
      obtain ⟨va, vc, rfl⟩ := hv.slice
      obtain ⟨da, dc, rfl⟩ := hd.slice
      obtain ⟨ua, uc, rfl⟩ := hu.slice
      obtain ⟨b2, o2, qc, rfl, hb2, hc2⟩ := hq.cells (by omega)
      have HC2 : Hid (∀ j, j < ts.length → w.cell? ⟨b2, o2 + j, none⟩ = some (.int .i64 (ts.getD j 0))) := hc2
      have HMC : Hid (xs.contains (ts.getD m 0) = true) := hmc
      clear hv hu hq hf hfq h hx ht hg hg2 hd hany hc2 hmc
      go_enter Tryd.func13, Tryd.ntmps13
      go_wp2_with fail
      refine c1.mono ?_
      rintro e w1 ⟨rfl, g1⟩
      have HG1 : Hid (Old w w1) := g1
      clear g1
      go_wp2_with fail
      refine (c2 _ (HD.out.old HG1.out) (HQ.out.old HG1.out)).mono ?_
      rintro e w2 ⟨rfl, g2⟩
      have HG2 : Hid (Old w w2) := Old.trans HG1.out g2
      clear g2
      go_wp2_with fail
      go_loopw [29] (fun i W => ∃ k : Nat, k ≤ m ∧ i = .int .i64 k ∧ Hid (Old w W)) (fun i _ => ts.length - (intOf i).toNat)
      case atStart => exact ⟨0, by omega, rfl, HG2⟩
      case round =>
        obtain ⟨k, hk, rfl, HG⟩ := hrel
        have d1 : decide ((k : Int) < (ts.length : Int)) = true := by simp; omega
        have i1 : (k : Int) < (ts.length : Int) := by omega
        have k1 : wr.cell? ⟨b2, o2 + k, none⟩ = some (.int .i64 (ts.getD k 0)) := (HG.out.cell (p := ⟨b2, o2 + k, none⟩) hb2).trans (HC2.out k (by omega))
        have ch := c3 (ts.getD k 0)
        cases hh : xs.contains (ts.getD k 0)
        · rw [hh] at ch
          have hkm : k < m := by
            rcases Nat.lt_or_ge k m with h | h
            · exact h
            · obtain rfl : k = m := by omega
              rw [HMC.out] at hh
              cases hh
          clear hh
          generalize ts.getD k 0 = p at *
          go_wp2_with fail
          refine (ch _ (HU.out.old HG.out)).mono ?_
          rintro e w3 ⟨rfl, g3⟩
          have HG3 : Hid (Old w w3) := Old.trans HG.out g3
          clear g3
          go_wp2_with fail
          exact ⟨⟨k + 1, by omega, by go_num, HG3⟩, by simp [intOf]; omega⟩
        · rw [hh] at ch
          clear hh
          generalize ts.getD k 0 = p at *
          go_wp2_with fail
          refine (ch _ (HU.out.old HG.out)).mono ?_
          rintro e w3 ⟨rfl, g3⟩
          have HG3 : Hid (Old w w3) := Old.trans HG.out g3
          clear g3
          go_wp2_with fail
          go_ret2
          exact ⟨_, rfl, HG3.out, own_none _ _⟩
set_option maxRecDepth 100000 in
set_option maxHeartbeats 8000000 in
theorem spec_FloorConvert_yes (rs us ps ts : List Nat) (v d u q : Value) (w : World) (hv : Row w v (toZ rs)) (hd : Row w d (toZ us)) (hu : Row w u (toZ ps)) (hf : Fit u) (hq : Row w q (toZ ts)) (hfq : Fit q) (hR : Res rs ps) (hS : Res us ts) (h1 : basB (toZ ps) = true) (h2 : basB (toZ ts) = true) (h3 : rsB (toZ rs) (toZ ps) = true) (h4 : rsB (toZ us) (toZ ts) = true) (h5 : (toZ ps).any (fun x => (toZ ts).contains x) = false) :
    Calls Tryd.prog 13 #[v, d, u, q] w (Ls w (toZ (flL ps (yL rs ps) us ts)) true) := by
  obtain ⟨i0, hi, hz0, hz1, hz2⟩ := info_parts Tryd.infoInt
  have hl6 := hR.bas.len6
  have hln := hR.len
  have hB := hS.bas
  have ht6 := hB.len6
  have ht1 := hB.len1
  have hsl := hS.len
  have c1 := l4Good_any (toZ rs) (toZ ps) v u w hv hu hf (by rw [toZ_len]; omega) (by rw [toZ_len]; omega) (fun x hx => by
    obtain ⟨n, hn, rfl⟩ := List.mem_map.1 hx
    have := hR.bas.hi n hn
    omega)
  have c2 := fun W h1 h2 => l4Good_any (toZ us) (toZ ts) d q W h1 h2 hfq (by rw [toZ_len]; omega) (by rw [toZ_len]; omega) (fun x hx => by
    obtain ⟨n, hn, rfl⟩ := List.mem_map.1 hx
    have := hB.hi n hn
    omega)
  rw [h1, h3] at c1
  rw [h2, h4] at c2
  have c3 := fun p W h1 => has_any (toZ ps) p u W h1 (by rw [toZ_len]; omega)
  have HNO : Hid (∀ k, k < ts.length → (toZ ps).contains (((ts.getD k 0 : Nat) : Int)) = false) := fun k hk => by
    have := common_false h5 k (by rw [toZ_len]; exact hk)
    rwa [toZ_get] at this
  have cpr := fun W h3 => spec_product ps u W h3 hl6 hR.bas.hi
  have csm := fun W h4 h5 => spec_sum rs ps v u W h4 h5 hR
  have HLP : Hid ((dig (prodN ps)).length ≤ 1048576) := Nat.le_trans hR.bas.cnt (by omega)
  have HLS : Hid ((dig (sumN rs ps ps.length)).length ≤ 1048576) := Nat.le_trans (sumN_cnt hR.bas _ (Nat.le_refl _)) (by omega)
  rw [← fl_eq rs us ps ts hS]
  have HV : Hid (Row w v (toZ rs)) := hv
  have HD : Hid (Row w d (toZ us)) := hd
  have HU : Hid (Row w u (toZ ps)) := hu
  have HQ : Hid (Row w q (toZ ts)) := hq
  obtain ⟨va, vc, rfl⟩ : ∃ a c, v = .slice a rs.length c := by have := hv.slice; rwa [toZ_len] at this
  obtain ⟨ua, uc, rfl⟩ : ∃ a c, u = .slice a ps.length c := by have := hu.slice; rwa [toZ_len] at this
  obtain ⟨b1, o1, dc, rfl, hb1, hc1⟩ := hd.atZ (by omega)
  obtain ⟨b2, o2, qc, rfl, hb2, hc2⟩ := hq.atZ (by omega)
  rw [hsl] at c2 hc1 HD ⊢
  have HC1 : Hid (∀ j, j < ts.length → w.cell? ⟨b1, o1 + j, none⟩ = some (.int .i64 ((us.getD j 0 : Nat) : Int))) := hc1
  have HC2 : Hid (∀ j, j < ts.length → w.cell? ⟨b2, o2 + j, none⟩ = some (.int .i64 ((ts.getD j 0 : Nat) : Int))) := hc2
  have HBD : Hid (∀ j, j < ts.length → us.getD j 0 < ts.getD j 0 ∧ 2 ≤ ts.getD j 0 ∧ ts.getD j 0 ≤ 268435456) := fun j hj => by
    have hm : ts.getD j 0 ∈ ts := by simp [List.getD, hj]
    exact ⟨hS.lt j hj, hB.lo _ hm, hB.hi _ hm⟩
  have HEL : Hid (∀ S Q k, k < ts.length → (flM S Q us ts).take (k + 1) = (flM S Q us ts).take k ++ [(((us.getD k 0 : Nat) : Int) - ((S % ts.getD k 0 : Nat) : Int)) * ((M1.invM (Q % ts.getD k 0) (ts.getD k 0) : Nat) : Int) % ((ts.getD k 0 : Nat) : Int)]) := fun S Q k hk => by
    rw [take_succI _ _ (by rw [flM_len]; exact hk), flM_get _ _ _ _ _ hk]
  have HZL : Hid (∀ S Q, (flM S Q us ts).length = ts.length) := fun S Q => flM_len _ _ _ _
  clear hv hu hq hf hfq h1 h2 h3 h4 h5 hR hB hS hd hc1 hc2 hsl hln
  generalize sumN rs ps ps.length = S at *
  generalize prodN ps = Q at *
  have HE2 := HEL.out S Q
  have hzl := HZL.out S Q
  clear HEL HZL
  generalize flM S Q us ts = zs at *
  have HE : Hid (∀ k, k < ts.length → zs.take (k + 1) = zs.take k ++ [(((us.getD k 0 : Nat) : Int) - ((S % ts.getD k 0 : Nat) : Int)) * ((M1.invM (Q % ts.getD k 0) (ts.getD k 0) : Nat) : Int) % ((ts.getD k 0 : Nat) : Int)]) := HE2
  clear HE2
  go_enter Tryd.func13, Tryd.ntmps13
  go_wp2_with fail
  refine c1.mono ?_
  rintro e w1 ⟨rfl, g1⟩
  have HG1 : Hid (Old w w1) := g1
  clear g1 c1
  go_wp2_with fail
  refine (c2 _ (HD.out.old HG1.out) (HQ.out.old HG1.out)).mono ?_
  rintro e w2 ⟨rfl, g2⟩
  have HG2 : Hid (Old w w2) := Old.trans HG1.out g2
  clear g2 c2
  go_wp2_with fail
  go_loopw [29] (fun i W => ∃ k : Nat, k ≤ ts.length ∧ i = .int .i64 k ∧ Hid (Old w W)) (fun i _ => ts.length - (intOf i).toNat)
  case atStart => exact ⟨0, by omega, rfl, HG2⟩
  case round =>
    obtain ⟨k, hk, rfl, HG⟩ := hrel
    by_cases hlt : k < ts.length
    · have d1 : decide ((k : Int) < (ts.length : Int)) = true := by simp; omega
      have i1 : (k : Int) < (ts.length : Int) := by omega
      have k1 : wr.cell? ⟨b2, o2 + k, none⟩ = some (.int .i64 ((ts.getD k 0 : Nat) : Int)) := (HG.out.cell (p := ⟨b2, o2 + k, none⟩) hb2).trans (HC2.out k hlt)
      have ch := c3 ((ts.getD k 0 : Nat) : Int)
      rw [HNO.out k hlt] at ch
      generalize ts.getD k 0 = p at *
      go_wp2_with fail
      refine (ch _ (HU.out.old HG.out)).mono ?_
      rintro e w3 ⟨rfl, g3⟩
      have HG3 : Hid (Old w w3) := Old.trans HG.out g3
      clear g3
      go_wp2_with fail
      exact ⟨⟨k + 1, by omega, by go_num, HG3⟩, by simp [intOf]; omega⟩
    · have d1 : decide ((k : Int) < (ts.length : Int)) = false := by simp; omega
      obtain rfl : k = ts.length := by omega
      go_wp2_with fail
      refine (cpr _ (HU.out.old HG.out)).mono ?_
      rintro e w3 ⟨v3, rfl, g3, r3⟩
      have HG3 : Hid (Old w w3) := Old.trans HG.out g3
      have HP3 : Hid (Row w3 v3 (toI (dig Q))) := r3
      obtain ⟨a3, cap3, rfl⟩ := r3.slice
      clear g3 r3
      go_wp2_with fail
      refine (csm _ (HV.out.old HG3.out) (HU.out.old HG3.out)).mono ?_
      rintro e w4 ⟨v4, rfl, g4, r4⟩
      have HG4 : Hid (Old w w4) := Old.trans HG3.out g4
      have HP4 : Hid (Row w4 (.slice a3 (toI (dig Q)).length cap3) (toI (dig Q))) := HP3.out.old g4
      have HS4 : Hid (Row w4 v4 (toI (dig S))) := r4
      obtain ⟨a4, cap4, rfl⟩ := r4.slice
      clear g4 r4
      go_wp2_with fail
      go_loopw [14, 44] (fun x i W => ∃ (k : Nat) (a : Option Addr) (cap : Nat), k ≤ ts.length ∧ i = .int .i64 k ∧ x = .slice a k cap ∧ Hid (Own W w4.heap.size (.slice a k cap) (zs.take k)) ∧ Hid (Old w4 W)) (fun _ i _ => ts.length - (intOf i).toNat)
      case atStart => exact ⟨0, none, 0, by omega, rfl, rfl, (by exact own_none _ _), Old.refl _⟩
      case round =>
        obtain ⟨k, ra, rc, hk, rfl, rfl, HO2, HGr⟩ := hrel
        have hs2 := HGr.out.size
        have HGw : Hid (Old w wr) := Old.trans HG4.out HGr.out
        by_cases hjl : k < ts.length
        · have d2 : decide ((k : Int) < (ts.length : Int)) = true := by simp; omega
          have i1 : (k : Int) < (ts.length : Int) := by omega
          have k2 : wr.cell? ⟨b2, o2 + k, none⟩ = some (.int .i64 ((ts.getD k 0 : Nat) : Int)) := (HGw.out.cell (p := ⟨b2, o2 + k, none⟩) hb2).trans (HC2.out k hjl)
          have k1 : wr.cell? ⟨b1, o1 + k, none⟩ = some (.int .i64 ((us.getD k 0 : Nat) : Int)) := (HGw.out.cell (p := ⟨b1, o1 + k, none⟩) hb1).trans (HC1.out k hjl)
          obtain ⟨x1, x2, x3⟩ := HBD.out k hjl
          have HT2 := HE.out k hjl
          generalize ts.getD k 0 = p at *
          generalize us.getD k 0 = r at *
          have cw1 := fun W h3 => word_any (dig S) p (.slice a4 (toI (dig S)).length cap4) W h3 (dig_lim S) HLS.out (by omega) x3
          have cw2 := fun W h3 => word_any (dig Q) p (.slice a3 (toI (dig Q)).length cap3) W h3 (dig_lim Q) HLP.out (by omega) x3
          rw [val_dig] at cw1 cw2
          have l1 : S % p < p := Nat.mod_lt _ (by omega)
          have l2 : Q % p < p := Nat.mod_lt _ (by omega)
          have ci := fun W => spec_inv ((Q % p : Nat) : Int) (p : Int) W (by omega) (by omega)
          have ei : ((((Q % p : Nat) : Int) % (p : Int)).toNat) = Q % p := by rw [← Int.natCast_emod, Nat.mod_mod, Int.toNat_natCast]
          rw [ei, Int.toNat_natCast] at ci
          have l3 := invM_lt (Q % p) p (by omega)
          generalize M1.invM (Q % p) p = iv at *
          generalize Q % p = qm at *
          generalize S % p = sm at *
          obtain ⟨df, hdf⟩ : ∃ df : Int, (r : Int) - (sm : Int) = df := ⟨_, rfl⟩
          have t1 : IntKind.i64.wrap ((r : Int) - (sm : Int)) = df := by rw [← hdf, IntKind.wrap_i64]; omega
          have hdb : -268435456 ≤ df ∧ df ≤ 268435456 := by omega
          rw [hdf] at HT2
          obtain ⟨pr, hpr⟩ : ∃ pr : Int, df * (iv : Int) = pr := ⟨_, rfl⟩
          have hpb : -72057594037927936 ≤ pr ∧ pr ≤ 72057594037927936 := by
            rw [← hpr]
            have q1 : df * (iv : Int) ≤ 268435456 * (iv : Int) := Int.mul_le_mul_of_nonneg_right hdb.2 (by omega)
            have q2 : -268435456 * (iv : Int) ≤ df * (iv : Int) := Int.mul_le_mul_of_nonneg_right hdb.1 (by omega)
            omega
          have t2 : IntKind.i64.wrap (df * (iv : Int)) = pr := by rw [hpr, IntKind.wrap_i64]; omega
          rw [hpr] at HT2
          have cm := fun W => spec_mod pr (p : Int) W (by omega) (by omega)
          have hqb : 0 ≤ pr % (p : Int) ∧ pr % (p : Int) < (p : Int) := ⟨Int.emod_nonneg _ (by omega), Int.emod_lt_of_pos _ (by omega)⟩
          generalize pr % (p : Int) = y at *
          clear hdf hpr ei
          have HT3 : Hid (zs.take (k + 1) = zs.take k ++ [y]) := HT2
          have htk : (zs.take k).length = k := by rw [List.length_take]; omega
          have HAS : Hid (∀ W', Old wr W' → W'.cell? ⟨b1, o1 + k, none⟩ = some (.int .i64 (r : Int))) := fun W' g => (g.cell (p := ⟨b1, o1 + k, none⟩) (Nat.lt_of_lt_of_le hb1 HGw.out.size)).trans k1
          have HW1 : Hid (∀ W', Old wr W' → (W'.alloc (.cells #[.int .i64 y] 3)).ownsRow w4.heap.size 3 1 (.slice ra k rc) k ((zs.take k).map (Value.int .i64))) := fun W' g => by
            have := (HO2.out.old g).alloc (.cells #[.int .i64 y] 3)
            unfold Own at this
            rw [htk] at this
            exact this
          have HW2 : Hid (∀ W', Old wr W' → Old w4 (W'.alloc (.cells #[.int .i64 y] 3))) := fun W' g => (Old.trans HGr.out g).alloc _
          have HLO : Hid (∀ j, (Value.slice ra k rc).ownBlock = some j → w4.heap.size ≤ j) := fun j hj => (HO2.out.lt j hj).1
          clear HT2
          go_wp2_with fail
          go_region_law (first
            | (refine step_append_lies _ rfl (.tmp 49) (.tmp 66) 23 rfl w4.heap.size 3 i0 (.int .i64 0) 1 8 Tryd.underlying23 hi hz0 hz1 hz2 rfl (by decide) (.slice ra k rc) k ((zs.take k).map (Value.int .i64)) (by simp [Act.eval, Act.put]) (HW1.out w6 G2.out) ⟨w6.heap.size, 0, none⟩ 1 1 [.int .i64 y] (by simp [Act.eval, Act.put]) rfl (one_cell _ _ _) (one_one _) (by omega) (by unfold maxLen; omega) (by omega) (HW2.out w6 G2.out).size _ rfl ?_; intro g5 cap5 w5 o5 gr5 x5 lt5; have O5 : Hid (Own w5 w4.heap.size (.slice (some ⟨g5, 0, none⟩) (k + 1) cap5) (zs.take (k + 1))) := (by have := HT3.out; show Own _ _ _ _; rw [this]; exact Own.snoc (by rw [htk]; exact o5)); have G5 : Hid (Old w4 w5) := Below.grown (HW2.out w6 G2.out) gr5 (HW2.out w6 G2.out).size (fun j hj => HLO.out j hj); clear o5 gr5 x5 lt5)
            | (refine step_call #[.slice a4 (toI (dig S)).length cap4, .int .i64 (p : Int)] rfl rfl Tryd.call44 (cw1 _ (HS4.out.old (Old.trans HGr.out (Below.drew (Old.refl wr))))) (by simp [Act.eval, Act.put]) (fun v w' => v = .int .i64 (sm : Int) ∧ Old wr w') (fun e w' h => ⟨_, h.1, rfl, Old.trans (Below.drew (Old.refl wr)) h.2⟩) ?_; rintro v w5 ⟨rfl, g1⟩; have G1 : Hid (Old wr w5) := g1; have k5 := HAS.out _ g1; clear g1)
            | (refine step_call #[.slice a3 (toI (dig Q)).length cap3, .int .i64 (p : Int)] rfl rfl Tryd.call44 (cw2 _ (HP4.out.old (Old.trans HGr.out G1.out))) (by simp [Act.eval, Act.put]) (fun v w' => v = .int .i64 (qm : Int) ∧ Old wr w') (fun e w' h => ⟨_, h.1, rfl, Old.trans G1.out h.2⟩) ?_; rintro v w6 ⟨rfl, g2⟩; have G2 : Hid (Old wr w6) := g2; have k6 := HAS.out _ g2; clear g2)
            | (refine step_call #[.int .i64 (qm : Int), .int .i64 (p : Int)] rfl rfl Tryd.call45 (ci w6) (by simp [Act.eval, Act.put]) (fun v w' => v = .int .i64 (iv : Int) ∧ w6 = w') (fun e w' h => ⟨_, h.1, rfl, h.2.symm⟩) ?_; rintro v w7 ⟨rfl, hw7⟩; subst hw7)
            | (refine step_call #[.int .i64 pr, .int .i64 (p : Int)] rfl rfl Tryd.call53 (cm w6) (by simp [Act.eval, Act.put]) (fun v w' => v = .int .i64 y ∧ w6 = w') (fun e w' h => ⟨_, h.1, rfl, h.2.symm⟩) ?_; rintro v w7 ⟨rfl, hw7⟩; subst hw7)
            | fail)
          all_goals
            go_wp2_with fail
            exact ⟨⟨k + 1, _, _, by omega, by go_num, rfl, O5, G5⟩, by simp [intOf]; omega⟩
        · have d2 : decide ((k : Int) < (ts.length : Int)) = false := by simp; omega
          obtain rfl : k = ts.length := by omega
          have HF : Hid (Own wr w4.heap.size (.slice ra ts.length rc) zs) := by
            have := HO2.out
            rw [List.take_of_length_le (by omega)] at this
            exact this
          go_wp2_with fail
          go_ret2
          exact ⟨_, rfl, HGw.out, HF.out.low HG4.out.size⟩
end Go.Proofs.YtfcdfielbpdloaaDoor
