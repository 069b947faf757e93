/- Proved: contracts of the model's FastConvert; the statement on it at every three lists. -/
import Derived.Test.YtejkejfhahmhcaaDoorSsm
import Derived.Test.YtejkejfhahmhcaaDoorResS
import Derived.Test.YtejkejfhahmhcaaDoorIfc
import Derived.Test.YtejkejfhahmhcaaDoorCvm
import Derived.Test.YtejkejfhahmhcaaDoorLawFastConvert
namespace Go.Proofs.YtejkejfhahmhcaaDoor
open Go.ChangeShapes Go.WideShapes Go.ChangeAt Go.RowKit
open M2
set_option linter.unusedVariables false
set_option linter.unusedSimpArgs false
theorem bas_in {ps : List Nat} (hb : Bas ps) : ∀ x ∈ toZ ps, -9223372036854775808 ≤ x ∧ x ≤ 9223372036854775807 := fun x hx => by
  obtain ⟨n, hn, rfl⟩ := List.mem_map.1 hx
  have := hb.hi n hn
  omega
set_option maxRecDepth 100000 in
set_option maxHeartbeats 2000000 in
theorem spec_FastConvert_no (rs xs ts : List Int) (v u q : Value) (w : World) (hv : Row w v rs) (hu : Row w u xs) (hf : Fit u) (hq : Row w q ts) (hfq : Fit q) (hl : xs.length ≤ 9223372036854775807) (hlr : rs.length ≤ 9223372036854775807) (hlq : ts.length ≤ 9223372036854775807) (hx : ∀ x ∈ xs, -9223372036854775808 ≤ x ∧ x ≤ 9223372036854775807) (ht : ∀ x ∈ ts, -9223372036854775808 ≤ x ∧ x ≤ 9223372036854775807) (h : ((basB xs && basB ts) && rsB rs xs) = false) :
    Calls Tryd.prog 21 #[v, u, q] w (Ls w [] false) := by
  have c1 := l4Good_any rs xs v u w hv hu hf hl hlr hx
  have c2 := fun W h3 => spec_goodBasis ts q W h3 hfq hlq ht
  have HQ : Hid (Row w q ts) := hq
  obtain ⟨va, vc, rfl⟩ := hv.slice
  obtain ⟨ua, uc, rfl⟩ := hu.slice
  obtain ⟨qa, qc, rfl⟩ := hq.slice
  cases hg : (basB xs && rsB rs xs)
  · rw [hg] at c1
    clear hv hu hq hf hfq h hx ht c2 hg
    go_enter Tryd.func21, Tryd.ntmps21
    go_wp2_with fail
    refine c1.mono ?_
    rintro e w1 ⟨rfl, g1⟩
    have HG1 : Hid (Old w w1) := g1
    clear g1
    go_wp2_with fail
    go_ret2
    exact ⟨_, rfl, HG1.out, own_none _ _⟩
  · rw [hg] at c1
    have hb : basB ts = false := by
      cases h1 : basB xs <;> cases h2 : rsB rs xs <;> cases h3 : basB ts <;> simp_all
    rw [hb] at c2
    clear hv hu hq hf hfq h hx ht hg hb
    go_enter Tryd.func21, Tryd.ntmps21
    go_wp2_with fail
    refine c1.mono ?_
    rintro e w1 ⟨rfl, g1⟩
    have HG1 : Hid (Old w w1) := g1
    clear g1
    go_wp2_with fail
    refine (c2 _ (HQ.out.old HG1.out)).mono ?_
    rintro e w2 ⟨rfl, g2⟩
    have HG2 : Hid (Old w w2) := Old.trans HG1.out g2
    clear g2
    go_wp2_with fail
    go_ret2
    exact ⟨_, rfl, HG2.out, own_none _ _⟩
theorem fc_eq (rs ps ts : List Nat) (hB : Bas ts) : resL false (toI (dig (sumN rs ps ps.length))) ts = toZ (fcL ps (yL rs ps) ts) := by
  unfold resL fcL
  unfold toZ
  rw [nat_toI6, List.map_map]
  refine List.map_congr_left (fun m hm => ?_)
  show sv false (dig (sumN rs ps ps.length)) % (m : Int) = ((plusS m ps (yL rs ps) 0 : Nat) : Int)
  rw [plusS_eq m rs ps 0 (hB.lo m hm), Nat.zero_add]
  simp [sv, val_dig]
theorem sum_good {rs ps : List Nat} (hR : Res rs ps) : Good false (toI (dig (sumN rs ps ps.length))) := gw_good6 (dig_nrm _) (fun h => by cases h) (Nat.le_trans (sumN_cnt hR.bas _ (Nat.le_refl _)) (by omega))
set_option maxRecDepth 100000 in
set_option maxHeartbeats 2000000 in
theorem spec_FastConvert_yes (rs ps ts : List Nat) (v u q : Value) (w : World) (hv : Row w v (toZ rs)) (hu : Row w u (toZ ps)) (hf : Fit u) (hq : Row w q (toZ ts)) (hfq : Fit q) (hR : Res rs ps) (hB : Bas ts) (h1 : basB (toZ ps) = true) (h2 : basB (toZ ts) = true) (h3 : rsB (toZ rs) (toZ ps) = true) :
    Calls Tryd.prog 21 #[v, u, q] w (Ls w (toZ (fcL ps (yL rs ps) ts)) true) := by
  have hl6 := hR.bas.len6
  have hln := hR.len
  have ht6 := hB.len6
  have c1 := l4Good_any (toZ rs) (toZ ps) v u w hv hu hf (by rw [toZ_len]; omega) (by rw [toZ_len]; omega) (bas_in hR.bas)
  have c2 := fun W h3 => spec_goodBasis (toZ ts) q W h3 hfq (by rw [toZ_len]; omega) (bas_in hB)
  rw [h1, h3] at c1
  rw [h2] at c2
  have c3 := fun W h4 h5 => spec_sum rs ps v u W h4 h5 hR
  have c4 := fun d W h4 h5 => spec_residues false (toI (dig (sumN rs ps ps.length))) ts d q W h4 h5 (sum_good hR) hB
  rw [fc_eq rs ps ts hB] at c4
  have HV : Hid (Row w v (toZ rs)) := hv
  have HU : Hid (Row w u (toZ ps)) := hu
  have HQ : Hid (Row w q (toZ ts)) := hq
  obtain ⟨va, vc, rfl⟩ : ∃ a c, v = .slice a rs.length c := by have := hv.slice; rwa [toZ_len] at this
  obtain ⟨ua, uc, rfl⟩ : ∃ a c, u = .slice a ps.length c := by have := hu.slice; rwa [toZ_len] at this
  obtain ⟨qa, qc, rfl⟩ : ∃ a c, q = .slice a ts.length c := by have := hq.slice; rwa [toZ_len] at this
  generalize toZ (fcL ps (yL rs ps) ts) = zs at *
  generalize toI (dig (sumN rs ps ps.length)) = ds at *
  clear hv hu hq hf hfq h1 h2 h3 hR hB hln
  go_enter Tryd.func21, Tryd.ntmps21
  go_wp2_with fail
  refine c1.mono ?_
  rintro e w1 ⟨rfl, g1⟩
  have HG1 : Hid (Old w w1) := g1
  clear g1
  go_wp2_with fail
  refine (c2 _ (HQ.out.old HG1.out)).mono ?_
  rintro e w2 ⟨rfl, g2⟩
  have HG2 : Hid (Old w w2) := Old.trans HG1.out g2
  clear g2
  go_wp2_with fail
  refine (c3 _ (HV.out.old HG2.out) (HU.out.old HG2.out)).mono ?_
  rintro e w3 ⟨v3, rfl, g3, o3⟩
  have HG3 : Hid (Old w w3) := Old.trans HG2.out g3
  have HR3 : Hid (Row w3 v3 ds) := o3
  obtain ⟨a3, cap3, rfl⟩ := o3.slice
  clear g3 o3
  go_wp2_with fail
  refine (c4 _ _ HR3.out (HQ.out.old HG3.out)).mono ?_
  rintro e w4 ⟨v4, rfl, g4, o4⟩
  have HG4 : Hid (Old w w4) := Old.trans HG3.out g4
  have HO4 : Hid (Own w4 w.heap.size v4 zs) := o4.low HG3.out.size
  obtain ⟨a4, cap4, rfl⟩ := (Own.row o4).slice
  clear g4 o4
  go_wp2_with fail
  go_ret2
  exact ⟨_, rfl, HG4.out, HO4.out⟩
theorem FastConvert_any (rs xs ts : List Int) (v u q : Value) (w : World) (hv : Row w v rs) (hu : Row w u xs) (hq : Row w q ts) (hlr : rs.length ≤ 9223372036854775807) (hl : xs.length ≤ 9223372036854775807) (hlq : ts.length ≤ 9223372036854775807) (hx : ∀ x ∈ xs, -9223372036854775808 ≤ x ∧ x ≤ 9223372036854775807) (ht : ∀ x ∈ ts, -9223372036854775808 ≤ x ∧ x ≤ 9223372036854775807) (hP : PrsW w) (hT : TabW w) :
    Calls Tryd.prog 5 #[v, u, q] w fun e w' => e = .returned (.bool true) ∧ Old w w' := by
  cases h : ((basB xs && basB ts) && rsB rs xs)
  · exact law_FastConvert rs xs ts v u q w hv hlr hu hl hq hlq hP hT false [] (by simp)
      (fun _ _ _ v u q W hr _ hr2 hf hr3 hf3 => spec_FastConvert_no rs xs ts v u q W hr hr2 hf hr3 hf3 hl hlr hlq hx ht h)
      (fun _ _ _ v u q W hp ht' hr _ hr2 hf hr3 hf3 => impl_FastConvert_no rs xs ts v u q W hp ht' hr hr2 hf hr3 hf3 hl hlq h)
  · have h' := h
    rw [Bool.and_eq_true, Bool.and_eq_true] at h'
    obtain ⟨⟨h1, h2⟩, h3⟩ := h'
    obtain ⟨ps, rfl, hb⟩ := basB_yes h1
    obtain ⟨us, rfl, hB⟩ := basB_yes h2
    obtain ⟨qs, rfl, hR⟩ := rsB_yes rfl hb h3
    exact law_FastConvert (toZ qs) (toZ ps) (toZ us) v u q w hv hlr hu hl hq hlq hP hT true (toZ (fcL ps (yL qs ps) us)) (by rw [toZ_len, fcL_len]; have := hB.len6; omega)
      (fun _ _ _ v u q W hr _ hr2 hf hr3 hf3 => spec_FastConvert_yes qs ps us v u q W hr hr2 hf hr3 hf3 hR hB h1 h2 h3)
      (fun _ _ _ v u q W hp ht' hr _ hr2 hf hr3 hf3 => impl_FastConvert_yes qs ps us v u q W hp ht' hr hr2 hf hr3 hf3 hR hB h)
end Go.Proofs.YtejkejfhahmhcaaDoor
