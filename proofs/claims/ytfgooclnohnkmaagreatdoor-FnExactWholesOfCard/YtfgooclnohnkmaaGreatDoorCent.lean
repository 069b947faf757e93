/- Proved: contracts of the program's CentredWhole. -/
import Derived.Test.YtfgooclnohnkmaaGreatDoorCompo
import Derived.Test.YtfgooclnohnkmaaGreatDoorRc4
import Derived.Test.YtfgooclnohnkmaaGreatDoorSzLess
import Derived.Test.YtfgooclnohnkmaaGreatDoorSzCmp
namespace Go.Proofs.YtfgooclnohnkmaaGreatDoor
open Go.ChangeShapes Go.WideShapes Go.ChangeAt Go.RowKit
open M2
set_option linter.unusedVariables false
set_option linter.unusedSimpArgs false
set_option maxRecDepth 100000 in
set_option maxHeartbeats 2000000 in
theorem impl_CentredWhole_no (rs xs : List Int) (v u : Value) (w : World) (hP : PrsW w) (hT : TabW w) (hv : Row w v rs) (hu : Row w u xs) (hf : Fit u) (hl : xs.length ≤ 9223372036854775807) (h : ¬ (basB xs = true ∧ rsB rs xs = true)) :
    Calls Tryz.prog 11 #[v, u] w (Wh w false [] false) := by
  have c := fun W h1 h2 h3 => impl_goodBasis xs u W h1 h2 h3 hf hl
  have HP : Hid (PrsW w) := hP
  have HT : Hid (TabW w) := hT
  have HV : Hid (Row w v rs) := hv
  have HU : Hid (Row w u xs) := hu
  have HS : Hid (StW (w.alloc (.cells #[.bool false, .slice none 0 0] 27)) w.heap.size (.bool false) (.slice none 0 0) 27) := StW.new w _ _ _
  have HA : Hid (Old w (w.alloc (.cells #[.bool false, .slice none 0 0] 27))) := (Old.refl w).alloc _
  cases hbas : basB xs
  · rw [hbas] at c
    obtain ⟨a0, c0, rfl⟩ := hv.slice
    obtain ⟨a1, c1, rfl⟩ := hu.slice
    clear hP hT hv hu hf h hbas
    go_enter Tryz.func11, Tryz.ntmps11
    go_wp2_with fail
    refine (c _ (HP.out.old HA.out) (HT.out.old HA.out) (HU.out.old HA.out)).mono ?_
    rintro e w1 ⟨rfl, g1⟩
    have S1 : Hid (StW w1 w.heap.size (.bool false) (.slice none 0 0) 27) := HS.out.old g1
    have HG1 : Hid (Old w w1) := Old.trans HA.out g1
    have q0 := S1.out.c0
    have q1 := S1.out.c1
    have f0 := S1.out.f0
    have f1 := S1.out.f1
    clear g1
    go_wp2_with fail
    have MD : Made w false [] ((w1.setCell ⟨w.heap.size, 0, none⟩ (.bool false)).setCell ⟨w.heap.size, 1, none⟩ (.slice none 0 0)) w.heap.size none 0 := two_made (rb := false) (rl := []) (a := none) (cap := 0) (base := w.heap.size + 1) HG1.out (nil_own w1 _) S1.out (by omega) (Nat.le_refl _) (by omega)
    exact bodyPost_ret (ret_wb (x := .bool false) (y := .slice none 0 0) (z := .bool false) Tryz.results11 _ _ rfl rfl MD.st) rfl ⟨.slice none 0 0, rfl, MD.old, MD.own⟩
  · rw [hbas] at c
    have hr : rsB rs xs = false := by
      cases hh : rsB rs xs
      · rfl
      · exact absurd ⟨hbas, hh⟩ h
    have h1 : 1 ≤ xs.length := by
      simp only [basB, Bool.and_eq_true, decide_eq_true_eq] at hbas
      exact hbas.1.1
    have c2 := fun W h1' h2' => areRes_any rs xs v u W h1' h2' hl h1
    rw [hr] at c2
    obtain ⟨a0, c0, rfl⟩ := hv.slice
    obtain ⟨a1, c1, rfl⟩ := hu.slice
    clear hP hT hv hu hf h hbas hr h1
    go_enter Tryz.func11, Tryz.ntmps11
    go_wp2_with fail
    refine (c _ (HP.out.old HA.out) (HT.out.old HA.out) (HU.out.old HA.out)).mono ?_
    rintro e w0 ⟨rfl, g0⟩
    have S0 : Hid (StW w0 w.heap.size (.bool false) (.slice none 0 0) 27) := HS.out.old g0
    have HG0 : Hid (Old w w0) := Old.trans HA.out g0
    clear g0
    go_wp2_with fail
    refine (c2 _ (HV.out.old HG0.out) (HU.out.old HG0.out)).mono ?_
    rintro e w1 ⟨rfl, g1⟩
    have S1 : Hid (StW w1 w.heap.size (.bool false) (.slice none 0 0) 27) := S0.out.old g1
    have HG1 : Hid (Old w w1) := Old.trans HG0.out g1
    have q0 := S1.out.c0
    have q1 := S1.out.c1
    have f0 := S1.out.f0
    have f1 := S1.out.f1
    clear g1
    go_wp2_with fail
    have MD : Made w false [] ((w1.setCell ⟨w.heap.size, 0, none⟩ (.bool false)).setCell ⟨w.heap.size, 1, none⟩ (.slice none 0 0)) w.heap.size none 0 := two_made (rb := false) (rl := []) (a := none) (cap := 0) (base := w.heap.size + 1) HG1.out (nil_own w1 _) S1.out (by omega) (Nat.le_refl _) (by omega)
    exact bodyPost_ret (ret_wb (x := .bool false) (y := .slice none 0 0) (z := .bool false) Tryz.results11 _ _ rfl rfl MD.st) rfl ⟨.slice none 0 0, rfl, MD.old, MD.own⟩
theorem ret_w1 {fn : Func} {p : Tmp} (h : fn.results = #[.cell p 27]) (tmps : Array Value) (w : World) {g : Nat} {x y : Value} (hp : tmps.getD p undef = .pointer (some ⟨g, 0, none⟩)) (hs : StW w g x y 27) :
    (results fn tmps).run Tryz.prog w = .ok (.agg #[x, y]) w :=
  results_cell_row h tmps w g 27 #[x, y] (0, 0) _ hp hs Tryz.underlying27 rfl infoWh
set_option maxRecDepth 100000 in
set_option maxHeartbeats 4000000 in
theorem centred_low (rs ps : List Nat) (v u : Value) (w : World) (hv : Row w v (toZ rs)) (hu : Row w u (toZ ps)) (hf : Fit u) (hR : Res rs ps) (hcase : coN rs ps * 2 < prodN ps) :
    Calls Tryz.prog 63 #[v, u] w fun e w' => ∃ v', e = .returned (.agg #[.bool false, v']) ∧ Old w w' ∧ Own w' w.heap.size v' (toI (dig (coN rs ps))) := by
  have hb := hR.bas
  have hl6 := hb.len6
  have c4 := fun W h1 h2 => composed_any rs ps v u W h1 h2 hf hR
  have c5 := fun W h2 => productSize_sz ps u W h2 hb.len6 hb.hi
  have c6 := fun W => scaled_sz (coN rs ps) 2 0 W (Nat.le_trans (coN_cnt hR) (by omega)) (by omega) (by omega)
  rw [Nat.add_zero] at c6
  have hc2 : cnt (coN rs ps * 2) ≤ 80 := by
    refine Nat.le_trans (cnt_le (k := 8) ?_) (by omega)
    have h1 := cnt_lt (coN rs ps)
    have h3 : LB ^ cnt (coN rs ps) ≤ LB ^ 7 := Nat.pow_le_pow_right LB_pos (coN_cnt hR)
    have h4 : LB ^ 8 = LB ^ 7 * LB := Nat.pow_succ ..
    have h5 : LB ^ 7 * 2 ≤ LB ^ 7 * LB := Nat.mul_le_mul_left _ (by decide)
    omega
  have c7 := fun W => cmp_sz (coN rs ps * 2) (prodN ps) W hc2 (Nat.le_trans hb.cnt (by omega))
  have hlt : coN rs ps < prodN ps := Nat.mod_lt _ (Nat.pos_of_ne_zero hb.pos)
  have dz : decide (cmpN (coN rs ps * 2) (prodN ps) < 0) = true := by unfold cmpN; rw [if_pos hcase]; rfl
  have c8 := fun W => wholeF_any (coN rs ps) W (Nat.le_trans (coN_cnt hR) (by omega))
  have HLA : Hid ((pad (coN rs ps)).length = 80) := pad_len' (coN_cnt hR) (by omega)
  have HLP : Hid ((pad (prodN ps)).length = 80) := pad_len' hb.cnt (by omega)
  have HV : Hid (Row w v (toZ rs)) := hv
  have HU : Hid (Row w u (toZ ps)) := hu
  obtain ⟨va, vc, rfl⟩ : ∃ a c, v = .slice a rs.length c := by have := hv.slice; rwa [toZ_len] at this
  obtain ⟨ua, uc, rfl⟩ : ∃ a c, u = .slice a ps.length c := by have := hu.slice; rwa [toZ_len] at this
  have HS : Hid (StW (w.alloc (.cells #[.bool false, .slice none 0 0] 27)) w.heap.size (.bool false) (.slice none 0 0) 27) := StW.new w _ _ _
  have HA : Hid (Old w (w.alloc (.cells #[.bool false, .slice none 0 0] 27))) := (Old.refl w).alloc _
  clear hv hu hf hb hR hc2 hcase hlt
  generalize cmpN (coN rs ps * 2) (prodN ps) = z at *
  generalize coN rs ps * 2 = A2 at *
  generalize coN rs ps = a at *
  generalize prodN ps = P at *
  unfold szV at *
  go_enter Tryz.func63, Tryz.ntmps63
  go_wp2_with fail
  refine (c4 _ (HV.out.old HA.out) (HU.out.old HA.out)).mono ?_
  rintro e w2 ⟨rfl, g2⟩
  have S2 : Hid (StW w2 w.heap.size (.bool false) (.slice none 0 0) 27) := HS.out.old g2
  have HG2 : Hid (Old w w2) := Old.trans HA.out g2
  clear g2
  go_wp2_with fail
  refine (c5 _ (HU.out.old HG2.out)).mono ?_
  rintro e w3 ⟨rfl, g3⟩
  have S3 : Hid (StW w3 w.heap.size (.bool false) (.slice none 0 0) 27) := S2.out.old g3
  have HG3 : Hid (Old w w3) := Old.trans HG2.out g3
  have hs3 : w.heap.size < w3.heap.size := S3.out.lt
  have HA4 : Hid (Sz ((w3.alloc (.cells Tryz.zeroCells95 95)).alloc (.cells Tryz.zeroCells95 95)) w3.heap.size (ext []) 0) := (Sz.zero _ _ rfl).alloc _
  have HB4 : Hid (Sz (((w3.alloc (.cells Tryz.zeroCells95 95)).alloc (.cells Tryz.zeroCells95 95)).setRow w3.heap.size (szA (pad a) (cnt a))) (w3.heap.size + 1) (ext []) 0) := (Sz.zero _ _ (by simp)).otherRow (by omega) _
  have HA6 : Hid (Sz ((((w3.alloc (.cells Tryz.zeroCells95 95)).alloc (.cells Tryz.zeroCells95 95)).setRow w3.heap.size (szA (pad a) (cnt a))).setRow (w3.heap.size + 1) (szA (pad P) (cnt P))) w3.heap.size (pad a) (cnt a)) := (HA4.out.row (pad a) (cnt a) HLA.out).otherRow (by omega) _
  have HB6 : Hid (Sz ((((w3.alloc (.cells Tryz.zeroCells95 95)).alloc (.cells Tryz.zeroCells95 95)).setRow w3.heap.size (szA (pad a) (cnt a))).setRow (w3.heap.size + 1) (szA (pad P) (cnt P))) (w3.heap.size + 1) (pad P) (cnt P)) := HB4.out.row (pad P) (cnt P) HLP.out
  have S6 : Hid (StW ((((w3.alloc (.cells Tryz.zeroCells95 95)).alloc (.cells Tryz.zeroCells95 95)).setRow w3.heap.size (szA (pad a) (cnt a))).setRow (w3.heap.size + 1) (szA (pad P) (cnt P))) w.heap.size (.bool false) (.slice none 0 0) 27) := (setRow_other _ _ _ _ (by omega)).trans ((setRow_other _ _ _ _ (by omega)).trans (S3.out.old (((Old.refl w3).alloc _).alloc _)))
  have HG6 : Hid (Old w ((((w3.alloc (.cells Tryz.zeroCells95 95)).alloc (.cells Tryz.zeroCells95 95)).setRow w3.heap.size (szA (pad a) (cnt a))).setRow (w3.heap.size + 1) (szA (pad P) (cnt P)))) := (((HG3.out.alloc _).alloc _).row (by omega) _).row (by omega) _
  have hs6 : w3.heap.size + 1 < ((((w3.alloc (.cells Tryz.zeroCells95 95)).alloc (.cells Tryz.zeroCells95 95)).setRow w3.heap.size (szA (pad a) (cnt a))).setRow (w3.heap.size + 1) (szA (pad P) (cnt P))).heap.size := HB6.out.lt
  clear g3
  go_wp2_with (first | ((with_reducible refine store_sz HA4.out (pad a) (cnt a) HLA.out ?_ ?_ ?_); exact rfl; exact rfl; simp only [Act.put]) | ((with_reducible refine store_sz HB4.out (pad P) (cnt P) HLP.out ?_ ?_ ?_); exact rfl; exact rfl; simp only [Act.put]))
  generalize ((((w3.alloc (.cells Tryz.zeroCells95 95)).alloc (.cells Tryz.zeroCells95 95)).setRow w3.heap.size (szA (pad a) (cnt a))).setRow (w3.heap.size + 1) (szA (pad P) (cnt P))) = w6 at *
  refine reg_c4 (pad a) (pad P) (pad A2) (cnt a) (cnt P) (cnt A2) w3.heap.size (w3.heap.size + 1) z _ dz w6 HA6 HB6 c6 c7 _ _ _ _ _ _ _ _ _ _ _ _ _ _ _ _ _ _ _ _ _ _ _ ?_
  intro W u23 u24 u25 u26 g7
  have S7 : Hid (StW W w.heap.size (.bool false) (.slice none 0 0) 27) := S6.out.old g7
  have HG7 : Hid (Old w W) := Old.trans HG6.out g7
  have HA7 : Hid (Sz W w3.heap.size (pad a) (cnt a)) := HA6.out.old g7
  have HB7 : Hid (Sz W (w3.heap.size + 1) (pad P) (cnt P)) := HB6.out.old g7
  clear g7
  have S8 := S7
  have HG8 := HG7
  go_wp2_with ((with_reducible refine load_sz HA7.out ?_ ?_); exact rfl; simp only [Act.put, List.setIfInBounds_toArray, List.set_cons_succ, List.set_cons_zero])
  refine (c8 _).mono ?_
  rintro e w9 ⟨v9, rfl, g9, o9⟩
  obtain ⟨a9, cap9, rfl⟩ := (Own.row o9).slice
  have S9 : Hid (StW w9 w.heap.size (.bool false) (.slice none 0 0) 27) := S8.out.old g9
  have HG9 : Hid (Old w w9) := Old.trans HG8.out g9
  have HO9 : Hid (Own w9 W.heap.size (.slice a9 (toI (dig a)).length cap9) (toI (dig a))) := o9
  have hs8 : w.heap.size < W.heap.size := S8.out.lt
  have q0 := S9.out.c0
  have q1 := S9.out.c1
  have f0 := S9.out.f0
  have f1 := S9.out.f1
  clear g9 o9
  go_wp2_with fail
  have MD := two_made (rb := false) HG9.out HO9.out S9.out (Nat.le_of_lt hs8) (Nat.le_refl _) hs8
  exact bodyPost_ret (ret_w1 Tryz.results63 _ _ rfl MD.st) rfl ⟨_, rfl, MD.old, MD.own⟩
set_option maxRecDepth 100000 in
set_option maxHeartbeats 4000000 in
theorem centred_high (rs ps : List Nat) (v u : Value) (w : World) (hv : Row w v (toZ rs)) (hu : Row w u (toZ ps)) (hf : Fit u) (hR : Res rs ps) (hcase : ¬ coN rs ps * 2 < prodN ps) :
    Calls Tryz.prog 63 #[v, u] w fun e w' => ∃ v', e = .returned (.agg #[.bool true, v']) ∧ Old w w' ∧ Own w' w.heap.size v' (toI (dig (prodN ps - coN rs ps))) := by
  have hb := hR.bas
  have hl6 := hb.len6
  have c4 := fun W h1 h2 => composed_any rs ps v u W h1 h2 hf hR
  have c5 := fun W h2 => productSize_sz ps u W h2 hb.len6 hb.hi
  have c6 := fun W => scaled_sz (coN rs ps) 2 0 W (Nat.le_trans (coN_cnt hR) (by omega)) (by omega) (by omega)
  rw [Nat.add_zero] at c6
  have hc2 : cnt (coN rs ps * 2) ≤ 80 := by
    refine Nat.le_trans (cnt_le (k := 8) ?_) (by omega)
    have h1 := cnt_lt (coN rs ps)
    have h3 : LB ^ cnt (coN rs ps) ≤ LB ^ 7 := Nat.pow_le_pow_right LB_pos (coN_cnt hR)
    have h4 : LB ^ 8 = LB ^ 7 * LB := Nat.pow_succ ..
    have h5 : LB ^ 7 * 2 ≤ LB ^ 7 * LB := Nat.mul_le_mul_left _ (by decide)
    omega
  have c7 := fun W => cmp_sz (coN rs ps * 2) (prodN ps) W hc2 (Nat.le_trans hb.cnt (by omega))
  have hlt : coN rs ps < prodN ps := Nat.mod_lt _ (Nat.pos_of_ne_zero hb.pos)
  have dz : decide (cmpN (coN rs ps * 2) (prodN ps) < 0) = false := decide_eq_false (by unfold cmpN; rw [if_neg hcase]; split <;> omega)
  have c9 := fun W => less_sz (prodN ps) (coN rs ps) W (Nat.le_of_lt hlt) (Nat.le_trans hb.cnt (by omega))
  have c8 := fun W => whole_some true (prodN ps - coN rs ps) W (by omega) (Nat.le_trans (cnt_mono (Nat.sub_le _ _)) (Nat.le_trans hb.cnt (by omega)))
  have HLA : Hid ((pad (coN rs ps)).length = 80) := pad_len' (coN_cnt hR) (by omega)
  have HLP : Hid ((pad (prodN ps)).length = 80) := pad_len' hb.cnt (by omega)
  have HV : Hid (Row w v (toZ rs)) := hv
  have HU : Hid (Row w u (toZ ps)) := hu
  obtain ⟨va, vc, rfl⟩ : ∃ a c, v = .slice a rs.length c := by have := hv.slice; rwa [toZ_len] at this
  obtain ⟨ua, uc, rfl⟩ : ∃ a c, u = .slice a ps.length c := by have := hu.slice; rwa [toZ_len] at this
  have HS : Hid (StW (w.alloc (.cells #[.bool false, .slice none 0 0] 27)) w.heap.size (.bool false) (.slice none 0 0) 27) := StW.new w _ _ _
  have HA : Hid (Old w (w.alloc (.cells #[.bool false, .slice none 0 0] 27))) := (Old.refl w).alloc _
  clear hv hu hf hb hR hc2 hcase hlt
  generalize cmpN (coN rs ps * 2) (prodN ps) = z at *
  generalize coN rs ps * 2 = A2 at *
  generalize prodN ps - coN rs ps = d at *
  generalize coN rs ps = a at *
  generalize prodN ps = P at *
  unfold szV at *
  go_enter Tryz.func63, Tryz.ntmps63
  go_wp2_with fail
  refine (c4 _ (HV.out.old HA.out) (HU.out.old HA.out)).mono ?_
  rintro e w2 ⟨rfl, g2⟩
  have S2 : Hid (StW w2 w.heap.size (.bool false) (.slice none 0 0) 27) := HS.out.old g2
  have HG2 : Hid (Old w w2) := Old.trans HA.out g2
  clear g2
  go_wp2_with fail
  refine (c5 _ (HU.out.old HG2.out)).mono ?_
  rintro e w3 ⟨rfl, g3⟩
  have S3 : Hid (StW w3 w.heap.size (.bool false) (.slice none 0 0) 27) := S2.out.old g3
  have HG3 : Hid (Old w w3) := Old.trans HG2.out g3
  have hs3 : w.heap.size < w3.heap.size := S3.out.lt
  have HA4 : Hid (Sz ((w3.alloc (.cells Tryz.zeroCells95 95)).alloc (.cells Tryz.zeroCells95 95)) w3.heap.size (ext []) 0) := (Sz.zero _ _ rfl).alloc _
  have HB4 : Hid (Sz (((w3.alloc (.cells Tryz.zeroCells95 95)).alloc (.cells Tryz.zeroCells95 95)).setRow w3.heap.size (szA (pad a) (cnt a))) (w3.heap.size + 1) (ext []) 0) := (Sz.zero _ _ (by simp)).otherRow (by omega) _
  have HA6 : Hid (Sz ((((w3.alloc (.cells Tryz.zeroCells95 95)).alloc (.cells Tryz.zeroCells95 95)).setRow w3.heap.size (szA (pad a) (cnt a))).setRow (w3.heap.size + 1) (szA (pad P) (cnt P))) w3.heap.size (pad a) (cnt a)) := (HA4.out.row (pad a) (cnt a) HLA.out).otherRow (by omega) _
  have HB6 : Hid (Sz ((((w3.alloc (.cells Tryz.zeroCells95 95)).alloc (.cells Tryz.zeroCells95 95)).setRow w3.heap.size (szA (pad a) (cnt a))).setRow (w3.heap.size + 1) (szA (pad P) (cnt P))) (w3.heap.size + 1) (pad P) (cnt P)) := HB4.out.row (pad P) (cnt P) HLP.out
  have S6 : Hid (StW ((((w3.alloc (.cells Tryz.zeroCells95 95)).alloc (.cells Tryz.zeroCells95 95)).setRow w3.heap.size (szA (pad a) (cnt a))).setRow (w3.heap.size + 1) (szA (pad P) (cnt P))) w.heap.size (.bool false) (.slice none 0 0) 27) := (setRow_other _ _ _ _ (by omega)).trans ((setRow_other _ _ _ _ (by omega)).trans (S3.out.old (((Old.refl w3).alloc _).alloc _)))
  have HG6 : Hid (Old w ((((w3.alloc (.cells Tryz.zeroCells95 95)).alloc (.cells Tryz.zeroCells95 95)).setRow w3.heap.size (szA (pad a) (cnt a))).setRow (w3.heap.size + 1) (szA (pad P) (cnt P)))) := (((HG3.out.alloc _).alloc _).row (by omega) _).row (by omega) _
  have hs6 : w3.heap.size + 1 < ((((w3.alloc (.cells Tryz.zeroCells95 95)).alloc (.cells Tryz.zeroCells95 95)).setRow w3.heap.size (szA (pad a) (cnt a))).setRow (w3.heap.size + 1) (szA (pad P) (cnt P))).heap.size := HB6.out.lt
  clear g3
  go_wp2_with (first | ((with_reducible refine store_sz HA4.out (pad a) (cnt a) HLA.out ?_ ?_ ?_); exact rfl; exact rfl; simp only [Act.put]) | ((with_reducible refine store_sz HB4.out (pad P) (cnt P) HLP.out ?_ ?_ ?_); exact rfl; exact rfl; simp only [Act.put]))
  generalize ((((w3.alloc (.cells Tryz.zeroCells95 95)).alloc (.cells Tryz.zeroCells95 95)).setRow w3.heap.size (szA (pad a) (cnt a))).setRow (w3.heap.size + 1) (szA (pad P) (cnt P))) = w6 at *
  refine reg_c4 (pad a) (pad P) (pad A2) (cnt a) (cnt P) (cnt A2) w3.heap.size (w3.heap.size + 1) z _ dz w6 HA6 HB6 c6 c7 _ _ _ _ _ _ _ _ _ _ _ _ _ _ _ _ _ _ _ _ _ _ _ ?_
  intro W u23 u24 u25 u26 g7
  have S7 : Hid (StW W w.heap.size (.bool false) (.slice none 0 0) 27) := S6.out.old g7
  have HG7 : Hid (Old w W) := Old.trans HG6.out g7
  have HA7 : Hid (Sz W w3.heap.size (pad a) (cnt a)) := HA6.out.old g7
  have HB7 : Hid (Sz W (w3.heap.size + 1) (pad P) (cnt P)) := HB6.out.old g7
  clear g7
  go_wp2_with (first | ((with_reducible refine load_sz HB7.out ?_ ?_); exact rfl; simp only [Act.put, List.setIfInBounds_toArray, List.set_cons_succ, List.set_cons_zero]) | ((with_reducible refine load_sz HA7.out ?_ ?_); exact rfl; simp only [Act.put, List.setIfInBounds_toArray, List.set_cons_succ, List.set_cons_zero]))
  refine (c9 _).mono ?_
  rintro e w8 ⟨rfl, g8⟩
  have S8 : Hid (StW w8 w.heap.size (.bool false) (.slice none 0 0) 27) := S7.out.old g8
  have HG8 : Hid (Old w w8) := Old.trans HG7.out g8
  clear g8
  go_wp2_with fail
  refine (c8 _).mono ?_
  rintro e w9 ⟨v9, rfl, g9, o9⟩
  obtain ⟨a9, cap9, rfl⟩ := (Own.row o9).slice
  have S9 : Hid (StW w9 w.heap.size (.bool false) (.slice none 0 0) 27) := S8.out.old g9
  have HG9 : Hid (Old w w9) := Old.trans HG8.out g9
  have HO9 : Hid (Own w9 w8.heap.size (.slice a9 (toI (dig d)).length cap9) (toI (dig d))) := o9
  have hs8 : w.heap.size < w8.heap.size := S8.out.lt
  have q0 := S9.out.c0
  have q1 := S9.out.c1
  have f0 := S9.out.f0
  have f1 := S9.out.f1
  clear g9 o9
  go_wp2_with fail
  have MD := two_made (rb := true) HG9.out HO9.out S9.out (Nat.le_of_lt hs8) (Nat.le_refl _) hs8
  exact bodyPost_ret (ret_w1 Tryz.results63 _ _ rfl MD.st) rfl ⟨_, rfl, MD.old, MD.own⟩
set_option maxRecDepth 100000 in
set_option maxHeartbeats 2000000 in
theorem impl_CentredWhole_by (rs ps : List Nat) (v u : Value) (w : World) (hP : PrsW w) (hT : TabW w) (hv : Row w v (toZ rs)) (hu : Row w u (toZ ps)) (hf : Fit u) (hR : Res rs ps) (h : basB (toZ ps) = true) (h2 : rsB (toZ rs) (toZ ps) = true) (b : Bool) (d : List Nat)
    (hc : ∀ W, Row W v (toZ rs) → Row W u (toZ ps) → Calls Tryz.prog 63 #[v, u] W fun e w' => ∃ v', e = .returned (.agg #[.bool b, v']) ∧ Old W w' ∧ Own w' W.heap.size v' (toI d)) :
    Calls Tryz.prog 11 #[v, u] w (Wh w b d true) := by
  have hb := hR.bas
  have hl6 := hb.len6
  have c := fun W h1 h2 h3 => impl_goodBasis (toZ ps) u W h1 h2 h3 hf (by rw [toZ_len]; omega)
  rw [h] at c
  have c2 := fun W h1' h2' => areRes_any (toZ rs) (toZ ps) v u W h1' h2' (by rw [toZ_len]; omega) (by rw [toZ_len]; exact hb.len1)
  rw [h2] at c2
  have HP : Hid (PrsW w) := hP
  have HT : Hid (TabW w) := hT
  have HV : Hid (Row w v (toZ rs)) := hv
  have HU : Hid (Row w u (toZ ps)) := hu
  obtain ⟨va, vc, rfl⟩ : ∃ a c, v = .slice a rs.length c := by have := hv.slice; rwa [toZ_len] at this
  obtain ⟨ua, uc, rfl⟩ : ∃ a c, u = .slice a ps.length c := by have := hu.slice; rwa [toZ_len] at this
  have HS : Hid (StW (w.alloc (.cells #[.bool false, .slice none 0 0] 27)) w.heap.size (.bool false) (.slice none 0 0) 27) := StW.new w _ _ _
  have HA : Hid (Old w (w.alloc (.cells #[.bool false, .slice none 0 0] 27))) := (Old.refl w).alloc _
  clear hP hT hv hu hf h h2 hb hR
  go_enter Tryz.func11, Tryz.ntmps11
  go_wp2_with fail
  refine (c _ (HP.out.old HA.out) (HT.out.old HA.out) (HU.out.old HA.out)).mono ?_
  rintro e w0 ⟨rfl, g0⟩
  have S0 : Hid (StW w0 w.heap.size (.bool false) (.slice none 0 0) 27) := HS.out.old g0
  have HG0 : Hid (Old w w0) := Old.trans HA.out g0
  clear g0
  go_wp2_with fail
  refine (c2 _ (HV.out.old HG0.out) (HU.out.old HG0.out)).mono ?_
  rintro e w1 ⟨rfl, g1⟩
  have S1 : Hid (StW w1 w.heap.size (.bool false) (.slice none 0 0) 27) := S0.out.old g1
  have HG1 : Hid (Old w w1) := Old.trans HG0.out g1
  clear g1
  go_wp2_with fail
  refine (hc _ (HV.out.old HG1.out) (HU.out.old HG1.out)).mono ?_
  rintro e w9 ⟨v9, rfl, g9, o9⟩
  obtain ⟨a9, cap9, rfl⟩ := (Own.row o9).slice
  have S9 : Hid (StW w9 w.heap.size (.bool false) (.slice none 0 0) 27) := S1.out.old g9
  have HG9 : Hid (Old w w9) := Old.trans HG1.out g9
  have HO9 : Hid (Own w9 w1.heap.size (.slice a9 (toI d).length cap9) (toI d)) := o9
  have hs8 : w.heap.size < w1.heap.size := S1.out.lt
  have q0 := S9.out.c0
  have q1 := S9.out.c1
  have f0 := S9.out.f0
  have f1 := S9.out.f1
  clear g9 o9
  go_wp2_with fail
  have MD := two_made (rb := b) HG9.out HO9.out S9.out (Nat.le_of_lt hs8) (Nat.le_refl _) hs8
  exact bodyPost_ret (ret_wb Tryz.results11 _ _ rfl rfl MD.st) rfl ⟨_, rfl, MD.old, MD.own⟩
theorem impl_CentredWhole_low (rs ps : List Nat) (v u : Value) (w : World) (hP : PrsW w) (hT : TabW w) (hv : Row w v (toZ rs)) (hu : Row w u (toZ ps)) (hf : Fit u) (hR : Res rs ps) (h : basB (toZ ps) = true) (h2 : rsB (toZ rs) (toZ ps) = true) (hcase : coN rs ps * 2 < prodN ps) :
    Calls Tryz.prog 11 #[v, u] w (Wh w false (dig (coN rs ps)) true) :=
  impl_CentredWhole_by rs ps v u w hP hT hv hu hf hR h h2 _ _ fun W h1 h2 => centred_low rs ps v u W h1 h2 hf hR hcase
theorem impl_CentredWhole_high (rs ps : List Nat) (v u : Value) (w : World) (hP : PrsW w) (hT : TabW w) (hv : Row w v (toZ rs)) (hu : Row w u (toZ ps)) (hf : Fit u) (hR : Res rs ps) (h : basB (toZ ps) = true) (h2 : rsB (toZ rs) (toZ ps) = true) (hcase : ¬ coN rs ps * 2 < prodN ps) :
    Calls Tryz.prog 11 #[v, u] w (Wh w true (dig (prodN ps - coN rs ps)) true) :=
  impl_CentredWhole_by rs ps v u w hP hT hv hu hf hR h h2 _ _ fun W h1 h2 => centred_high rs ps v u W h1 h2 hf hR hcase
end Go.Proofs.YtfgooclnohnkmaaGreatDoor
