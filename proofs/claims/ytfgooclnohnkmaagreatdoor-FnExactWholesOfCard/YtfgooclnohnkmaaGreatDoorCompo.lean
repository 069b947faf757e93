/- Proved: contracts of the program's composedSize and ComposeWhole. -/
import Derived.Test.YtfgooclnohnkmaaGreatDoorSum
import Derived.Test.YtfgooclnohnkmaaGreatDoorDzc
import Derived.Test.YtfgooclnohnkmaaGreatDoorCompB
namespace Go.Proofs.YtfgooclnohnkmaaGreatDoor
open Go.ChangeShapes Go.WideShapes Go.ChangeAt Go.RowKit
open M2
set_option linter.unusedVariables false
set_option linter.unusedSimpArgs false
theorem wholeF_any (n : Nat) (w : World) (hn : cnt n ≤ 80) :
    Calls Tryz.prog 56 #[.bool false, .agg (szV n)] w fun e w' => ∃ v, e = .returned (.agg #[.bool false, v]) ∧ Old w w' ∧ Own w' w.heap.size v (toI (dig n)) := by
  by_cases h0 : n = 0
  · subst h0
    refine (whole_none false w).mono ?_
    rintro e w1 ⟨rfl, g1⟩
    refine ⟨_, rfl, g1, ?_⟩
    rw [dig_zero]
    exact nil_own _ _
  · exact whole_some false n w h0 hn
set_option maxRecDepth 100000 in
set_option maxHeartbeats 4000000 in
theorem composed_any (rs ps : List Nat) (v u : Value) (w : World) (hv : Row w v (toZ rs)) (hu : Row w u (toZ ps)) (hf : Fit u) (h : Res rs ps) :
    Calls Tryz.prog 57 #[v, u] w fun e w' => e = .returned (.agg (szV (coN rs ps))) ∧ Old w w' := by
  have hb := h.bas
  have c1 := fun W h1 h2 => sum_any rs ps v u W h1 h2 hf hb h.len h.lt
  have c2 := fun W h2 => productSize_sz ps u W h2 hb.len6 hb.hi
  have hpos : 0 < prodN ps := Nat.pos_of_ne_zero hb.pos
  have c3 := fun W => divide_sz (sumN rs ps ps.length) (prodN ps) W (Nat.le_trans (sumN_cnt hb _ (Nat.le_refl _)) (by omega)) (Nat.le_trans hb.cnt (by omega)) hpos
  have HE : Hid (sumN rs ps ps.length % prodN ps = coN rs ps) := rfl
  rw [HE.out] at c3
  have HLQ : Hid ((pad (sumN rs ps ps.length / prodN ps)).length = 80) := pad_len' (Nat.le_trans (cnt_mono (Nat.div_le_self _ _)) (sumN_cnt hb _ (Nat.le_refl _))) (by omega)
  have HLR : Hid ((pad (coN rs ps)).length = 80) := pad_len' (coN_cnt h) (by omega)
  have HV : Hid (Row w v (toZ rs)) := hv
  have HU : Hid (Row w u (toZ ps)) := hu
  obtain ⟨va, vc, rfl⟩ : ∃ a c, v = .slice a rs.length c := by have := hv.slice; rwa [toZ_len] at this
  obtain ⟨ua, uc, rfl⟩ : ∃ a c, u = .slice a ps.length c := by have := hu.slice; rwa [toZ_len] at this
  have HZ : Hid (Sz (w.alloc (.cells Tryz.zeroCells95 95)) w.heap.size (ext []) 0) := Sz.zero _ _ rfl
  unfold szV at *
  clear hv hu hf h hb hpos HE
  generalize coN rs ps = r at *
  generalize sumN rs ps ps.length / prodN ps = q at *
  generalize sumN rs ps ps.length = S at *
  generalize prodN ps = P at *
  go_enter Tryz.func57, Tryz.ntmps57
  go_wp2_with fail
  refine (c1 _ (HV.out.old ((Old.refl w).alloc _)) (HU.out.old ((Old.refl w).alloc _))).mono ?_
  rintro e w1 ⟨rfl, g1⟩
  have HG1 : Hid (Old w w1) := Old.trans ((Old.refl w).alloc _) g1
  have HZ1 : Hid (Sz w1 w.heap.size (ext []) 0) := HZ.out.old g1
  clear g1
  go_wp2_with fail
  refine (c2 _ (HU.out.old HG1.out)).mono ?_
  rintro e w2 ⟨rfl, g2⟩
  have HG2 : Hid (Old w w2) := Old.trans HG1.out g2
  have HZ2 : Hid (Sz w2 w.heap.size (ext []) 0) := HZ1.out.old g2
  clear g2
  go_wp2_with fail
  refine (c3 _).mono ?_
  rintro e w3 ⟨rfl, g3⟩
  have HG3 : Hid (Old w ((w3.alloc (.cells Tryz.zeroCells95 95)).alloc (.cells Tryz.zeroCells95 95))) := ((Old.trans HG2.out g3).alloc _).alloc _
  have HZ3 : Hid (Sz ((w3.alloc (.cells Tryz.zeroCells95 95)).alloc (.cells Tryz.zeroCells95 95)) w.heap.size (ext []) 0) := ((HZ2.out.old g3).alloc _).alloc _
  have HA3 : Hid (Sz ((w3.alloc (.cells Tryz.zeroCells95 95)).alloc (.cells Tryz.zeroCells95 95)) w3.heap.size (ext []) 0) := (Sz.zero _ _ rfl).alloc _
  have HB3 : Hid (Sz ((w3.alloc (.cells Tryz.zeroCells95 95)).alloc (.cells Tryz.zeroCells95 95)) (w3.heap.size + 1) (ext []) 0) := Sz.zero _ _ (by simp)
  have hs3 : w.heap.size < w3.heap.size := (HZ2.out.old g3).lt
  have HB4 : Hid (Sz (((w3.alloc (.cells Tryz.zeroCells95 95)).alloc (.cells Tryz.zeroCells95 95)).setRow w3.heap.size (szA (pad q) (cnt q))) (w3.heap.size + 1) (ext []) 0) := HB3.out.otherRow (by omega) _
  have HB5 : Hid (Sz ((((w3.alloc (.cells Tryz.zeroCells95 95)).alloc (.cells Tryz.zeroCells95 95)).setRow w3.heap.size (szA (pad q) (cnt q))).setRow (w3.heap.size + 1) (szA (pad r) (cnt r))) (w3.heap.size + 1) (pad r) (cnt r)) := HB4.out.row (pad r) (cnt r) HLR.out
  have HZ5 : Hid (Sz ((((w3.alloc (.cells Tryz.zeroCells95 95)).alloc (.cells Tryz.zeroCells95 95)).setRow w3.heap.size (szA (pad q) (cnt q))).setRow (w3.heap.size + 1) (szA (pad r) (cnt r))) w.heap.size (ext []) 0) := (HZ3.out.otherRow (by omega) _).otherRow (by omega) _
  clear g3
  go_wp2_with (first | ((with_reducible refine store_sz HA3.out (pad q) (cnt q) HLQ.out ?_ ?_ ?_); exact rfl; exact rfl; simp only [Act.put]) | ((with_reducible refine store_sz HB4.out (pad r) (cnt r) HLR.out ?_ ?_ ?_); exact rfl; exact rfl; simp only [Act.put]) | ((with_reducible refine load_sz HB5.out ?_ ?_); exact rfl; simp only [Act.put, List.setIfInBounds_toArray, List.set_cons_succ, List.set_cons_zero]) | ((with_reducible refine store_sz HZ5.out (pad r) (cnt r) HLR.out ?_ ?_ ?_); exact rfl; exact rfl; simp only [Act.put]) | ((with_reducible refine bodyPost_ret (ret_sz Tryz.results57 _ _ ?_ (HZ5.out.row (pad r) (cnt r) HLR.out)) ?_ ?_); exact rfl; exact rfl; exact ⟨rfl, ((HG3.out.row (by omega) _).row (by omega) _).row (Nat.le_refl _) _⟩))
set_option maxRecDepth 100000 in
set_option maxHeartbeats 2000000 in
theorem impl_ComposeWhole_no (rs xs : List Int) (v u : Value) (w : World) (hP : PrsW w) (hT : TabW w) (hv : Row w v rs) (hu : Row w u xs) (hf : Fit u) (hl : xs.length ≤ 9223372036854775807) (h : ¬ (basB xs = true ∧ rsB rs xs = true)) :
    Calls Tryz.prog 8 #[v, u] w (Wh w false [] false) := by
  have c := fun W h1 h2 h3 => impl_goodBasis xs u W h1 h2 h3 hf hl
  have HP : Hid (PrsW w) := hP
  have HT : Hid (TabW w) := hT
  have HV : Hid (Row w v rs) := hv
  have HU : Hid (Row w u xs) := hu
  have HS : Hid (StW (w.alloc (.cells #[.bool false, .slice none 0 0] 27)) w.heap.size (.bool false) (.slice none 0 0) 27) := StW.new w _ _ _
  have HA : Hid (Old w (w.alloc (.cells #[.bool false, .slice none 0 0] 27))) := (Old.refl w).alloc _
  cases hbas : basB xs
  · rw [hbas] at c
    obtain ⟨a0, c0, rfl⟩ := hv.slice
    obtain ⟨a1, c1, rfl⟩ := hu.slice
    clear hP hT hv hu hf h hbas
    go_enter Tryz.func8, Tryz.ntmps8
    go_wp2_with fail
    refine (c _ (HP.out.old HA.out) (HT.out.old HA.out) (HU.out.old HA.out)).mono ?_
    rintro e w1 ⟨rfl, g1⟩
    have S1 : Hid (StW w1 w.heap.size (.bool false) (.slice none 0 0) 27) := HS.out.old g1
    have HG1 : Hid (Old w w1) := Old.trans HA.out g1
    have q0 := S1.out.c0
    have q1 := S1.out.c1
    have f0 := S1.out.f0
    have f1 := S1.out.f1
    clear g1
    go_wp2_with fail
    have MD : Made w false [] ((w1.setCell ⟨w.heap.size, 0, none⟩ (.bool false)).setCell ⟨w.heap.size, 1, none⟩ (.slice none 0 0)) w.heap.size none 0 := two_made (rb := false) (rl := []) (a := none) (cap := 0) (base := w.heap.size + 1) HG1.out (nil_own w1 _) S1.out (by omega) (Nat.le_refl _) (by omega)
    exact bodyPost_ret (ret_wb (x := .bool false) (y := .slice none 0 0) (z := .bool false) Tryz.results8 _ _ rfl rfl MD.st) rfl ⟨.slice none 0 0, rfl, MD.old, MD.own⟩
  · rw [hbas] at c
    have hr : rsB rs xs = false := by
      cases hh : rsB rs xs
      · rfl
      · exact absurd ⟨hbas, hh⟩ h
    have h1 : 1 ≤ xs.length := by
      simp only [basB, Bool.and_eq_true, decide_eq_true_eq] at hbas
      exact hbas.1.1
    have c2 := fun W h1' h2' => areRes_any rs xs v u W h1' h2' hl h1
    rw [hr] at c2
    obtain ⟨a0, c0, rfl⟩ := hv.slice
    obtain ⟨a1, c1, rfl⟩ := hu.slice
    clear hP hT hv hu hf h hbas hr h1
    go_enter Tryz.func8, Tryz.ntmps8
    go_wp2_with fail
    refine (c _ (HP.out.old HA.out) (HT.out.old HA.out) (HU.out.old HA.out)).mono ?_
    rintro e w0 ⟨rfl, g0⟩
    have S0 : Hid (StW w0 w.heap.size (.bool false) (.slice none 0 0) 27) := HS.out.old g0
    have HG0 : Hid (Old w w0) := Old.trans HA.out g0
    clear g0
    go_wp2_with fail
    refine (c2 _ (HV.out.old HG0.out) (HU.out.old HG0.out)).mono ?_
    rintro e w1 ⟨rfl, g1⟩
    have S1 : Hid (StW w1 w.heap.size (.bool false) (.slice none 0 0) 27) := S0.out.old g1
    have HG1 : Hid (Old w w1) := Old.trans HG0.out g1
    have q0 := S1.out.c0
    have q1 := S1.out.c1
    have f0 := S1.out.f0
    have f1 := S1.out.f1
    clear g1
    go_wp2_with fail
    have MD : Made w false [] ((w1.setCell ⟨w.heap.size, 0, none⟩ (.bool false)).setCell ⟨w.heap.size, 1, none⟩ (.slice none 0 0)) w.heap.size none 0 := two_made (rb := false) (rl := []) (a := none) (cap := 0) (base := w.heap.size + 1) HG1.out (nil_own w1 _) S1.out (by omega) (Nat.le_refl _) (by omega)
    exact bodyPost_ret (ret_wb (x := .bool false) (y := .slice none 0 0) (z := .bool false) Tryz.results8 _ _ rfl rfl MD.st) rfl ⟨.slice none 0 0, rfl, MD.old, MD.own⟩
set_option maxRecDepth 100000 in
set_option maxHeartbeats 2000000 in
theorem impl_ComposeWhole_yes (rs ps : List Nat) (v u : Value) (w : World) (hP : PrsW w) (hT : TabW w) (hv : Row w v (toZ rs)) (hu : Row w u (toZ ps)) (hf : Fit u) (hR : Res rs ps) (h : basB (toZ ps) = true) (h2 : rsB (toZ rs) (toZ ps) = true) :
    Calls Tryz.prog 8 #[v, u] w (Wh w false (dig (coN rs ps)) true) := by
  have hb := hR.bas
  have hl6 := hb.len6
  have c := fun W h1 h2 h3 => impl_goodBasis (toZ ps) u W h1 h2 h3 hf (by rw [toZ_len]; omega)
  rw [h] at c
  have c2 := fun W h1' h2' => areRes_any (toZ rs) (toZ ps) v u W h1' h2' (by rw [toZ_len]; omega) (by rw [toZ_len]; exact hb.len1)
  rw [h2] at c2
  have c4 := fun W h1 h2 => composed_any rs ps v u W h1 h2 hf hR
  have c3 := fun W => wholeF_any (coN rs ps) W (Nat.le_trans (coN_cnt hR) (by omega))
  have HP : Hid (PrsW w) := hP
  have HT : Hid (TabW w) := hT
  have HV : Hid (Row w v (toZ rs)) := hv
  have HU : Hid (Row w u (toZ ps)) := hu
  obtain ⟨va, vc, rfl⟩ : ∃ a c, v = .slice a rs.length c := by have := hv.slice; rwa [toZ_len] at this
  obtain ⟨ua, uc, rfl⟩ : ∃ a c, u = .slice a ps.length c := by have := hu.slice; rwa [toZ_len] at this
  have HS : Hid (StW (w.alloc (.cells #[.bool false, .slice none 0 0] 27)) w.heap.size (.bool false) (.slice none 0 0) 27) := StW.new w _ _ _
  have HA : Hid (Old w (w.alloc (.cells #[.bool false, .slice none 0 0] 27))) := (Old.refl w).alloc _
  clear hP hT hv hu hf h h2 hb hR
  generalize coN rs ps = r at *
  unfold szV at *
  go_enter Tryz.func8, Tryz.ntmps8
  go_wp2_with fail
  refine (c _ (HP.out.old HA.out) (HT.out.old HA.out) (HU.out.old HA.out)).mono ?_
  rintro e w0 ⟨rfl, g0⟩
  have S0 : Hid (StW w0 w.heap.size (.bool false) (.slice none 0 0) 27) := HS.out.old g0
  have HG0 : Hid (Old w w0) := Old.trans HA.out g0
  clear g0
  go_wp2_with fail
  refine (c2 _ (HV.out.old HG0.out) (HU.out.old HG0.out)).mono ?_
  rintro e w1 ⟨rfl, g1⟩
  have S1 : Hid (StW w1 w.heap.size (.bool false) (.slice none 0 0) 27) := S0.out.old g1
  have HG1 : Hid (Old w w1) := Old.trans HG0.out g1
  clear g1
  go_wp2_with fail
  refine (c4 _ (HV.out.old HG1.out) (HU.out.old HG1.out)).mono ?_
  rintro e w2 ⟨rfl, g2⟩
  have S2 : Hid (StW w2 w.heap.size (.bool false) (.slice none 0 0) 27) := S1.out.old g2
  have HG2 : Hid (Old w w2) := Old.trans HG1.out g2
  clear g2
  go_wp2_with fail
  refine (c3 _).mono ?_
  rintro e w3 ⟨v3, rfl, g3, o3⟩
  obtain ⟨a3, cap3, rfl⟩ := (Own.row o3).slice
  have S3 : Hid (StW w3 w.heap.size (.bool false) (.slice none 0 0) 27) := S2.out.old g3
  have HG3 : Hid (Old w w3) := Old.trans HG2.out g3
  have HO3 : Hid (Own w3 w2.heap.size (.slice a3 (toI (dig r)).length cap3) (toI (dig r))) := o3
  have hs2 : w.heap.size < w2.heap.size := S2.out.lt
  have q0 := S3.out.c0
  have q1 := S3.out.c1
  have f0 := S3.out.f0
  have f1 := S3.out.f1
  clear g3 o3
  go_wp2_with fail
  have MD := two_made (rb := false) HG3.out HO3.out S3.out (Nat.le_of_lt hs2) (Nat.le_refl _) hs2
  exact bodyPost_ret (ret_wb Tryz.results8 _ _ rfl rfl MD.st) rfl ⟨_, rfl, MD.old, MD.own⟩
end Go.Proofs.YtfgooclnohnkmaaGreatDoor
