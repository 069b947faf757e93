/- Proved: contracts of OverOf, of the program and of the model; the statement on it at every two lists. -/
import Derived.Test.YtejkejfhahmhcaaDoorSsm
import Derived.Test.YtejkejfhahmhcaaDoorCompo
import Derived.Test.YtejkejfhahmhcaaDoorLawOverOf
namespace Go.Proofs.YtejkejfhahmhcaaDoor
open Go.ChangeShapes Go.WideShapes Go.ChangeAt Go.RowKit
open M2
set_option linter.unusedVariables false
set_option linter.unusedSimpArgs false
/-- what a call that tells a number and a bool leaves -/
abbrev Nm (W : World) (z : Int) (ok : Bool) (e : Ending) (w' : World) : Prop := e = .returned (.tuple #[.int .i64 z, .bool ok]) ∧ Old W w'
theorem pad_zero (n : Nat) (h : cnt n ≤ 40) : (pad n).getD 0 0 = n % LB := by
  unfold pad ext
  by_cases h0 : n = 0
  · subst h0
    rw [dig_zero]
    rfl
  · rw [dig_pos n h0]
    rfl
set_option maxRecDepth 100000 in
set_option maxHeartbeats 2000000 in
theorem impl_OverOf_no (rs xs : List Int) (v u : Value) (w : World) (hP : PrsW w) (hT : TabW w) (hv : Row w v rs) (hu : Row w u xs) (hf : Fit u) (hl : xs.length ≤ 9223372036854775807) (h : ¬ (basB xs = true ∧ rsB rs xs = true)) :
    Calls Tryd.prog 25 #[v, u] w (Nm w 0 false) := by
  have c := impl_goodBasis xs u w hP hT hu hf hl
  have HV : Hid (Row w v rs) := hv
  have HU : Hid (Row w u xs) := hu
  cases hbas : basB xs
  · rw [hbas] at c
    obtain ⟨a0, c0, rfl⟩ := hv.slice
    obtain ⟨a1, c1, rfl⟩ := hu.slice
    clear hP hT hv hu hf h hbas
    go_enter Tryd.func25, Tryd.ntmps25
    go_wp2_with fail
    refine c.mono ?_
    rintro e w1 ⟨rfl, g1⟩
    have HG1 : Hid (Old w w1) := g1
    clear g1
    go_wp2_with fail
    go_ret2
    exact ⟨rfl, HG1.out⟩
  · rw [hbas] at c
    have hr : rsB rs xs = false := by
      cases hh : rsB rs xs
      · rfl
      · exact absurd ⟨hbas, hh⟩ h
    have h1 : 1 ≤ xs.length := by
      simp only [basB, Bool.and_eq_true, decide_eq_true_eq] at hbas
      exact hbas.1.1
    have c2 := fun W h1' h2' => areRes_any rs xs v u W h1' h2' hl h1
    rw [hr] at c2
    obtain ⟨a0, c0, rfl⟩ := hv.slice
    obtain ⟨a1, c1, rfl⟩ := hu.slice
    clear hP hT hv hu hf h hbas hr h1
    go_enter Tryd.func25, Tryd.ntmps25
    go_wp2_with fail
    refine c.mono ?_
    rintro e w0 ⟨rfl, g0⟩
    have HG0 : Hid (Old w w0) := g0
    clear g0
    go_wp2_with fail
    refine (c2 _ (HV.out.old HG0.out) (HU.out.old HG0.out)).mono ?_
    rintro e w1 ⟨rfl, g1⟩
    have HG1 : Hid (Old w w1) := Old.trans HG0.out g1
    clear g1
    go_wp2_with fail
    go_ret2
    exact ⟨rfl, HG1.out⟩
set_option maxRecDepth 100000 in
set_option maxHeartbeats 4000000 in
theorem impl_OverOf_yes (rs ps : List Nat) (v u : Value) (w : World) (hP : PrsW w) (hT : TabW w) (hv : Row w v (toZ rs)) (hu : Row w u (toZ ps)) (hf : Fit u) (hR : Res rs ps) (h : basB (toZ ps) = true) (h2 : rsB (toZ rs) (toZ ps) = true) :
    Calls Tryd.prog 25 #[v, u] w (Nm w ((sumN rs ps ps.length / prodN ps % LB : Nat) : Int) true) := by
  have hb := hR.bas
  have hl6 := hb.len6
  have hl1 := hb.len1
  have cg := impl_goodBasis (toZ ps) u w hP hT hu hf (by rw [toZ_len]; omega)
  rw [h] at cg
  have ca := fun W h1' h2' => areRes_any (toZ rs) (toZ ps) v u W h1' h2' (by rw [toZ_len]; omega) (by rw [toZ_len]; omega)
  rw [h2] at ca
  have c1 := fun W h1 h2 => sum_any rs ps v u W h1 h2 hf hb hR.len hR.lt
  have c2 := fun W h2 => productSize_sz ps u W h2 hb.len6 hb.hi
  have hpos : 0 < prodN ps := Nat.pos_of_ne_zero hb.pos
  have c3 := fun W => divide_sz (sumN rs ps ps.length) (prodN ps) W (Nat.le_trans (sumN_cnt hb _ (Nat.le_refl _)) (by omega)) (Nat.le_trans hb.cnt (by omega)) hpos
  have hq7 : cnt (sumN rs ps ps.length / prodN ps) ≤ 7 := Nat.le_trans (cnt_mono (Nat.div_le_self _ _)) (sumN_cnt hb _ (Nat.le_refl _))
  have HLQ : Hid ((pad (sumN rs ps ps.length / prodN ps)).length = 80) := pad_len' hq7 (by omega)
  have HLR : Hid ((pad (sumN rs ps ps.length % prodN ps)).length = 80) := pad_len' (coN_cnt hR) (by omega)
  have HPZ : Hid ((pad (sumN rs ps ps.length / prodN ps)).getD 0 0 = sumN rs ps ps.length / prodN ps % LB) := pad_zero _ (by omega)
  have HV : Hid (Row w v (toZ rs)) := hv
  have HU : Hid (Row w u (toZ ps)) := hu
  obtain ⟨va, vc, rfl⟩ : ∃ a c, v = .slice a rs.length c := by have := hv.slice; rwa [toZ_len] at this
  obtain ⟨ua, uc, rfl⟩ : ∃ a c, u = .slice a ps.length c := by have := hu.slice; rwa [toZ_len] at this
  unfold szV at *
  clear hv hu hf h h2 hb hpos hR hq7
  generalize sumN rs ps ps.length % prodN ps = r at *
  generalize sumN rs ps ps.length / prodN ps = q at *
  generalize sumN rs ps ps.length = S at *
  generalize prodN ps = P at *
  generalize q % LB = z at *
  go_enter Tryd.func25, Tryd.ntmps25
  go_wp2_with fail
  refine cg.mono ?_
  rintro e wa ⟨rfl, ga⟩
  have HGA : Hid (Old w wa) := ga
  clear ga
  go_wp2_with fail
  refine (ca _ (HV.out.old HGA.out) (HU.out.old HGA.out)).mono ?_
  rintro e wb ⟨rfl, gb⟩
  have HGB : Hid (Old w wb) := Old.trans HGA.out gb
  clear gb
  go_wp2_with fail
  refine (c1 _ (HV.out.old HGB.out) (HU.out.old HGB.out)).mono ?_
  rintro e w1 ⟨rfl, g1⟩
  have HG1 : Hid (Old w w1) := Old.trans HGB.out g1
  clear g1
  go_wp2_with fail
  refine (c2 _ (HU.out.old HG1.out)).mono ?_
  rintro e w2 ⟨rfl, g2⟩
  have HG2 : Hid (Old w w2) := Old.trans HG1.out g2
  clear g2
  go_wp2_with fail
  refine (c3 _).mono ?_
  rintro e w3 ⟨rfl, g3⟩
  have HG3 : Hid (Old w ((w3.alloc (.cells Tryd.zeroCells54 54)).alloc (.cells Tryd.zeroCells54 54))) := ((Old.trans HG2.out g3).alloc _).alloc _
  have hs3 : w.heap.size ≤ w3.heap.size := (Old.trans HG2.out g3).size
  have HA3 : Hid (Sz ((w3.alloc (.cells Tryd.zeroCells54 54)).alloc (.cells Tryd.zeroCells54 54)) w3.heap.size (ext []) 0) := (Sz.zero _ _ rfl).alloc _
  have HB3 : Hid (Sz ((w3.alloc (.cells Tryd.zeroCells54 54)).alloc (.cells Tryd.zeroCells54 54)) (w3.heap.size + 1) (ext []) 0) := Sz.zero _ _ (by simp)
  have HA4 : Hid (Sz (((w3.alloc (.cells Tryd.zeroCells54 54)).alloc (.cells Tryd.zeroCells54 54)).setRow w3.heap.size (szA (pad q) (cnt q))) w3.heap.size (pad q) (cnt q)) := HA3.out.row (pad q) (cnt q) HLQ.out
  have HB4 : Hid (Sz (((w3.alloc (.cells Tryd.zeroCells54 54)).alloc (.cells Tryd.zeroCells54 54)).setRow w3.heap.size (szA (pad q) (cnt q))) (w3.heap.size + 1) (ext []) 0) := HB3.out.otherRow (by omega) _
  have HA5 : Hid (Sz ((((w3.alloc (.cells Tryd.zeroCells54 54)).alloc (.cells Tryd.zeroCells54 54)).setRow w3.heap.size (szA (pad q) (cnt q))).setRow (w3.heap.size + 1) (szA (pad r) (cnt r))) w3.heap.size (pad q) (cnt q)) := HA4.out.otherRow (by omega) _
  have cz := HA5.out.at (show 0 < 80 by omega)
  rw [HPZ.out] at cz
  clear g3
  go_wp2_with (first | ((with_reducible refine store_sz HA3.out (pad q) (cnt q) HLQ.out ?_ ?_ ?_); exact rfl; exact rfl; simp only [Act.put]) | ((with_reducible refine store_sz HB4.out (pad r) (cnt r) HLR.out ?_ ?_ ?_); exact rfl; exact rfl; simp only [Act.put]))
  go_ret2
  exact ⟨rfl, (HG3.out.row (by omega) _).row (by omega) _⟩
set_option maxRecDepth 100000 in
set_option maxHeartbeats 2000000 in
theorem spec_OverOf_no (rs xs : List Int) (v u : Value) (w : World) (hv : Row w v rs) (hu : Row w u xs) (hf : Fit u) (hl : xs.length ≤ 9223372036854775807) (hlr : rs.length ≤ 9223372036854775807) (hx : ∀ x ∈ xs, -9223372036854775808 ≤ x ∧ x ≤ 9223372036854775807) (h : ¬ (basB xs = true ∧ rsB rs xs = true)) :
    Calls Tryd.prog 24 #[v, u] w (Nm w 0 false) := by
  have c := l4Good_any rs xs v u w hv hu hf hl hlr hx
  have hB : (basB xs && rsB rs xs) = false := by
    cases h1 : basB xs <;> cases h2 : rsB rs xs <;> first | rfl | exact absurd ⟨h1, h2⟩ h
  rw [hB] at c
  obtain ⟨a0, c0, rfl⟩ := hv.slice
  obtain ⟨a1, c1, rfl⟩ := hu.slice
  clear hv hu hf h hB hx
  go_enter Tryd.func24, Tryd.ntmps24
  go_wp2_with fail
  refine c.mono ?_
  rintro e w1 ⟨rfl, g1⟩
  have HG1 : Hid (Old w w1) := g1
  clear g1
  go_wp2_with fail
  go_ret2
  exact ⟨rfl, HG1.out⟩
set_option maxRecDepth 100000 in
set_option maxHeartbeats 2000000 in
theorem spec_OverOf_yes (rs ps : List Nat) (v u : Value) (w : World) (hv : Row w v (toZ rs)) (hu : Row w u (toZ ps)) (hf : Fit u) (hR : Res rs ps) (h : basB (toZ ps) = true) (h2 : rsB (toZ rs) (toZ ps) = true) :
    Calls Tryd.prog 24 #[v, u] w (Nm w ((sumN rs ps ps.length / prodN ps % LB : Nat) : Int) true) := by
  have hb := hR.bas
  have hl6 := hb.len6
  have hln := hR.len
  have c := l4Good_any (toZ rs) (toZ ps) v u w hv hu hf (by rw [toZ_len]; omega) (by rw [toZ_len]; omega) (fun x hx => by
    obtain ⟨n, hn, rfl⟩ := List.mem_map.1 hx
    have := hb.hi n hn
    omega)
  rw [h, h2] at c
  have c2 := fun W h1 h3 => spec_sum rs ps v u W h1 h3 hR
  have cpr := fun W h3 => spec_product ps u W h3 hl6 hb.hi
  have HNR : Hid (Nrm (dig (prodN ps))) := dig_nrm _
  have HNE : Hid (dig (prodN ps) ≠ []) := fun e => by
    have h1 := cnt_pos hb.pos
    unfold cnt at h1
    rw [e] at h1
    simp at h1
  have HLP : Hid ((dig (prodN ps)).length ≤ 1048000) := Nat.le_trans hb.cnt (by omega)
  have HLS : Hid ((dig (sumN rs ps ps.length)).length ≤ 1048576) := Nat.le_trans (sumN_cnt hb _ (Nat.le_refl _)) (by omega)
  have HLQ : Hid ((dig (sumN rs ps ps.length / prodN ps)).length ≤ 1048576) := Nat.le_trans (cnt_mono (Nat.div_le_self _ _)) HLS.out
  have HV : Hid (Row w v (toZ rs)) := hv
  have HU : Hid (Row w u (toZ ps)) := hu
  obtain ⟨va, vc, rfl⟩ : ∃ a c, v = .slice a rs.length c := by have := hv.slice; rwa [toZ_len] at this
  obtain ⟨ua, uc, rfl⟩ : ∃ a c, u = .slice a ps.length c := by have := hu.slice; rwa [toZ_len] at this
  clear hv hu hf h h2 hb hR hln
  have HLB : Hid (∀ n : Nat, n % 268435456 = n % LB) := fun n => rfl
  generalize sumN rs ps ps.length = S at *
  generalize prodN ps = P at *
  go_enter Tryd.func24, Tryd.ntmps24
  go_wp2_with fail
  refine c.mono ?_
  rintro e w1 ⟨rfl, g1⟩
  have HG1 : Hid (Old w w1) := g1
  clear g1
  go_wp2_with fail
  refine (c2 _ (HV.out.old HG1.out) (HU.out.old HG1.out)).mono ?_
  rintro e w2 ⟨v2, rfl, g2, o2⟩
  obtain ⟨a2, cap2, rfl⟩ := o2.slice
  have HG2 : Hid (Old w w2) := Old.trans HG1.out g2
  have HR2 : Hid (Row w2 (.slice a2 (toI (dig S)).length cap2) (toI (dig S))) := o2
  clear g2 o2
  go_wp2_with fail
  refine (cpr _ (HU.out.old HG2.out)).mono ?_
  rintro e w3 ⟨v3, rfl, g3, r3⟩
  have HG3 : Hid (Old w w3) := Old.trans HG2.out g3
  have HR3 : Hid (Row w3 (.slice a2 (toI (dig S)).length cap2) (toI (dig S))) := HR2.out.old g3
  have HP3 : Hid (Row w3 v3 (toI (dig P))) := r3
  obtain ⟨a3, cap3, rfl⟩ := r3.slice
  clear g3 r3
  go_wp2_with fail
  refine (div_any (dig S) (dig P) _ _ _ HR3.out HP3.out (dig_lim S) HNR.out HNE.out HLS.out HLP.out).mono ?_
  rw [val_dig, val_dig]
  rintro e w4 ⟨v4, v5, rfl, g4, o4, o5⟩
  have HG4 : Hid (Old w w4) := Old.trans HG3.out g4
  have HQ4 : Hid (Row w4 v4 (toI (dig (S / P)))) := Own.row o4
  obtain ⟨a4, cap4, rfl⟩ := (Own.row o4).slice
  obtain ⟨a5, cap5, rfl⟩ := (Own.row o5).slice
  clear g4 o4 o5
  go_wp2_with fail
  refine (word_any (dig (S / P)) 268435456 _ _ HQ4.out (dig_lim _) HLQ.out (by omega) (by omega)).mono ?_
  rw [val_dig, HLB.out]
  rintro e w6 ⟨rfl, g6⟩
  have HG6 : Hid (Old w w6) := Old.trans HG4.out g6
  clear g6
  generalize S / P % LB = z at *
  go_wp2_with fail
  go_ret2
  exact ⟨rfl, HG6.out⟩
theorem OverOf_any (rs xs : List Int) (v u : Value) (w : World) (hv : Row w v rs) (hu : Row w u xs) (hlr : rs.length ≤ 9223372036854775807) (hl : xs.length ≤ 9223372036854775807) (hx : ∀ x ∈ xs, -9223372036854775808 ≤ x ∧ x ≤ 9223372036854775807) (hP : PrsW w) (hT : TabW w) :
    Calls Tryd.prog 6 #[v, u] w fun e w' => e = .returned (.bool true) ∧ Old w w' := by
  by_cases h : basB xs = true ∧ rsB rs xs = true
  · obtain ⟨h1, h2⟩ := h
    obtain ⟨ps, rfl, hb⟩ := basB_yes h1
    obtain ⟨qs, rfl, hR⟩ := rsB_yes rfl hb h2
    exact law_OverOf (toZ qs) (toZ ps) v u w hv hlr hu hl hP hT true ((sumN qs ps ps.length / prodN ps % LB : Nat) : Int)
      (fun _ _ v u W hr _ hr2 hf => spec_OverOf_yes qs ps v u W hr hr2 hf hR h1 h2)
      (fun _ _ v u W hp ht hr _ hr2 hf => impl_OverOf_yes qs ps v u W hp ht hr hr2 hf hR h1 h2)
  · exact law_OverOf rs xs v u w hv hlr hu hl hP hT false 0
      (fun _ _ v u W hr _ hr2 hf => spec_OverOf_no rs xs v u W hr hr2 hf hl hlr hx h)
      (fun _ _ v u W hp ht hr _ hr2 hf => impl_OverOf_no rs xs v u W hp ht hr hr2 hf hl h)
end Go.Proofs.YtejkejfhahmhcaaDoor
