/- Proved: contracts of the model's l4Centre and CentredWhole. -/
import Derived.Test.YtejkejfhahmhcaaDoorCompT
import Derived.Test.YtejkejfhahmhcaaDoorCent
import Derived.Test.YtejkejfhahmhcaaDoorKD
namespace Go.Proofs.YtejkejfhahmhcaaDoor
open Go.ChangeShapes Go.WideShapes Go.ChangeAt Go.RowKit
open M2
set_option linter.unusedVariables false
set_option linter.unusedSimpArgs false
theorem infoW2 : (Tryd.prog.info? 49).map (·.size) = some 2 := by kernel_rfl
theorem ret_w2 {fn : Func} {p : Tmp} (h : fn.results = #[.cell p 49]) (tmps : Array Value) (w : World) {g : Nat} {x y : Value} (hp : tmps.getD p undef = .pointer (some ⟨g, 0, none⟩)) (hs : StW w g x y 49) :
    (results fn tmps).run Tryd.prog w = .ok (.agg #[x, y]) w :=
  results_cell_row h tmps w g 49 #[x, y] (0, 0) _ hp hs Tryd.underlying49 rfl infoW2
theorem st_put {w : World} {k : Nat} {x y : Value} {t : TypeId} (h : StW w k x y t) (x' y' : Value) : StW ((w.setCell ⟨k, 0, none⟩ x').setCell ⟨k, 1, none⟩ y') k x' y' t := by
  have h1 := heap_setCell_same w k 0 _ _ x' h
  have h2 := heap_setCell_same _ k 1 _ _ y' h1
  exact h2
theorem val_two : val [2] = 2 := by decide
set_option maxRecDepth 100000 in
set_option maxHeartbeats 2000000 in
theorem centre_any (a q : Nat) (v u : Value) (w : World) (hv : Row w v (toI (dig a))) (hu : Row w u (toI (dig q))) (la : (dig a).length ≤ 1000) (lq : (dig q).length ≤ 1000) (l2 : (dig (a * 2)).length ≤ 1000) (hlt : a < q) :
    Calls Tryd.prog 41 #[v, u] w fun e w' => ∃ v', e = .returned (.agg #[.bool (decide (q ≤ a * 2)), v']) ∧ Old w w' ∧ Row w' v' (toI (dig (if a * 2 < q then a else q - a))) := by
  have HV : Hid (Row w v (toI (dig a))) := hv
  have HU : Hid (Row w u (toI (dig q))) := hu
  obtain ⟨va, vc, rfl⟩ := hv.slice
  obtain ⟨ua, uc, rfl⟩ := hu.slice
  have HS : Hid (StW ((w.alloc (.cells #[.bool false, .slice none 0 0] 49)).alloc (.cells #[.int .i64 2] 3)) w.heap.size (.bool false) (.slice none 0 0) 49) := (StW.new w _ _ _).old ((Old.refl _).alloc _)
  have HA : Hid (Old w ((w.alloc (.cells #[.bool false, .slice none 0 0] 49)).alloc (.cells #[.int .i64 2] 3))) := ((Old.refl w).alloc _).alloc _
  have HT : Hid (Row ((w.alloc (.cells #[.bool false, .slice none 0 0] 49)).alloc (.cells #[.int .i64 2] 3)) (.slice (some ⟨w.heap.size + 1, 0, none⟩) 1 1) (toI [2])) := by
    have := two_row (w.alloc (.cells #[.bool false, .slice none 0 0] 49)) 3
    simp at this
    exact this
  have cm := fun x W h1 h2 => mul_any (dig a) [2] x (.slice (some ⟨w.heap.size + 1, 0, none⟩) 1 1) W h1 h2 (dig_lim a) (Lim.cons (by decide) Lim.nil) (by omega) (by simp)
  rw [val_dig, val_two] at cm
  have cc := fun x y W h1 h2 => cmp_any (dig (a * 2)) (dig q) x y W h1 h2 (dig_nrm _) (dig_nrm _) (by omega) (by omega)
  rw [val_dig, val_dig] at cc
  have cs := fun x y W h1 h2 => sub_any (dig q) (dig a) x y W h1 h2 (dig_nrm _) (dig_nrm _) (by omega) (by omega) (by rw [val_dig, val_dig]; omega)
  rw [val_dig, val_dig] at cs
  clear hv hu la lq l2
  by_cases hc : a * 2 < q
  · have dz : decide (0 ≤ cmpN (a * 2) q) = false := decide_eq_false (by unfold cmpN; rw [if_pos hc]; decide)
    rw [if_pos hc, decide_eq_false (by omega)]
    generalize cmpN (a * 2) q = z at *
    clear hc hlt cs
    go_enter Tryd.func41, Tryd.ntmps41
    go_wp2_with fail
    refine (cm _ _ (HV.out.old HA.out) HT.out).mono ?_
    rintro e w1 ⟨v1, rfl, g1, o1⟩
    have S1 : Hid (StW w1 w.heap.size (.bool false) (.slice none 0 0) 49) := HS.out.old g1
    have HG1 : Hid (Old w w1) := Old.trans HA.out g1
    have HM1 : Hid (Row w1 v1 (toI (dig (a * 2)))) := Own.row o1
    obtain ⟨a1, cap1, rfl⟩ := (Own.row o1).slice
    clear g1 o1
    go_wp2_with fail
    refine (cc _ _ _ HM1.out (HU.out.old HG1.out)).mono ?_
    rintro e w2 ⟨rfl, g2⟩
    have S2 : Hid (StW w2 w.heap.size (.bool false) (.slice none 0 0) 49) := S1.out.old g2
    have HG2 : Hid (Old w w2) := Old.trans HG1.out g2
    have q0 := S2.out.c0
    have q1 := S2.out.c1
    have f0 := S2.out.f0
    have f1 := S2.out.f1
    clear g2
    go_wp2_with fail
    refine bodyPost_ret (ret_w2 Tryd.results41 _ _ rfl (st_put S2.out (.bool false) _)) rfl ⟨_, rfl, ?_, ?_⟩
    · exact (HG2.out.own (p := ⟨w.heap.size, 0, none⟩) (Nat.le_refl _) _).own (p := ⟨w.heap.size, 1, none⟩) (Nat.le_refl _) _
    · exact HV.out.old ((HG2.out.own (p := ⟨w.heap.size, 0, none⟩) (Nat.le_refl _) _).own (p := ⟨w.heap.size, 1, none⟩) (Nat.le_refl _) _)
  · have dz : decide (0 ≤ cmpN (a * 2) q) = true := decide_eq_true (by unfold cmpN; rw [if_neg hc]; split <;> decide)
    rw [if_neg hc, decide_eq_true (by omega)]
    generalize cmpN (a * 2) q = z at *
    generalize q - a = d at *
    clear hc hlt
    go_enter Tryd.func41, Tryd.ntmps41
    go_wp2_with fail
    refine (cm _ _ (HV.out.old HA.out) HT.out).mono ?_
    rintro e w1 ⟨v1, rfl, g1, o1⟩
    have S1 : Hid (StW w1 w.heap.size (.bool false) (.slice none 0 0) 49) := HS.out.old g1
    have HG1 : Hid (Old w w1) := Old.trans HA.out g1
    have HM1 : Hid (Row w1 v1 (toI (dig (a * 2)))) := Own.row o1
    obtain ⟨a1, cap1, rfl⟩ := (Own.row o1).slice
    clear g1 o1
    go_wp2_with fail
    refine (cc _ _ _ HM1.out (HU.out.old HG1.out)).mono ?_
    rintro e w2 ⟨rfl, g2⟩
    have S2 : Hid (StW w2 w.heap.size (.bool false) (.slice none 0 0) 49) := S1.out.old g2
    have HG2 : Hid (Old w w2) := Old.trans HG1.out g2
    clear g2
    go_wp2_with fail
    refine (cs _ _ _ (HU.out.old HG2.out) (HV.out.old HG2.out)).mono ?_
    rintro e w3 ⟨v3, rfl, g3, o3⟩
    have S3 : Hid (StW w3 w.heap.size (.bool false) (.slice none 0 0) 49) := S2.out.old g3
    have HG3 : Hid (Old w w3) := Old.trans HG2.out g3
    have HO3 : Hid (Own w3 w2.heap.size v3 (toI (dig d))) := o3
    have hs2 : w.heap.size < w2.heap.size := S2.out.lt
    obtain ⟨a3, cap3, rfl⟩ := (Own.row o3).slice
    have q0 := S3.out.c0
    have q1 := S3.out.c1
    have f0 := S3.out.f0
    have f1 := S3.out.f1
    clear g3 o3
    go_wp2_with fail
    refine bodyPost_ret (ret_w2 Tryd.results41 _ _ rfl (st_put S3.out (.bool true) _)) rfl ⟨_, rfl, ?_, ?_⟩
    · exact (HG3.out.own (p := ⟨w.heap.size, 0, none⟩) (Nat.le_refl _) _).own (p := ⟨w.heap.size, 1, none⟩) (Nat.le_refl _) _
    · refine Own.row (base := w2.heap.size) (ownsRow_setCell_other (ownsRow_setCell_other HO3.out (fun e => ?_) _) (fun e => ?_) _)
      · have := (HO3.out.lt w.heap.size e).1; omega
      · have := (HO3.out.lt w.heap.size e).1; omega
set_option maxRecDepth 100000 in
set_option maxHeartbeats 2000000 in
theorem spec_CentredWhole_no (rs xs : List Int) (v u : Value) (w : World) (hv : Row w v rs) (hu : Row w u xs) (hf : Fit u) (hl : xs.length ≤ 9223372036854775807) (hlr : rs.length ≤ 9223372036854775807) (hx : ∀ x ∈ xs, -9223372036854775808 ≤ x ∧ x ≤ 9223372036854775807) (h : ¬ (basB xs = true ∧ rsB rs xs = true)) :
    Calls Tryd.prog 19 #[v, u] w (Wh w false [] false) := by
  have c := fun W h1 h3 => l4Good_any rs xs v u W h1 h3 hf hl hlr hx
  have hB : (basB xs && rsB rs xs) = false := by
    cases h1 : basB xs <;> cases h2 : rsB rs xs <;> first | rfl | exact absurd ⟨h1, h2⟩ h
  rw [hB] at c
  have HV : Hid (Row w v rs) := hv
  have HU : Hid (Row w u xs) := hu
  have HS : Hid (StW (w.alloc (.cells #[.bool false, .slice none 0 0] 24)) w.heap.size (.bool false) (.slice none 0 0) 24) := StW.new w _ _ _
  have HA : Hid (Old w (w.alloc (.cells #[.bool false, .slice none 0 0] 24))) := (Old.refl w).alloc _
  obtain ⟨a0, c0, rfl⟩ := hv.slice
  obtain ⟨a1, c1, rfl⟩ := hu.slice
  clear hv hu hf h hB hx
  go_enter Tryd.func19, Tryd.ntmps19
  go_wp2_with fail
  refine (c _ (HV.out.old HA.out) (HU.out.old HA.out)).mono ?_
  rintro e w1 ⟨rfl, g1⟩
  have S1 : Hid (StW w1 w.heap.size (.bool false) (.slice none 0 0) 24) := HS.out.old g1
  have HG1 : Hid (Old w w1) := Old.trans HA.out g1
  have q0 := S1.out.c0
  have q1 := S1.out.c1
  have f0 := S1.out.f0
  have f1 := S1.out.f1
  clear g1
  go_wp2_with fail
  have MD : Made w false [] ((w1.setCell ⟨w.heap.size, 0, none⟩ (.bool false)).setCell ⟨w.heap.size, 1, none⟩ (.slice none 0 0)) w.heap.size none 0 := two_made (rb := false) (rl := []) (a := none) (cap := 0) (base := w.heap.size + 1) HG1.out (nil_own w1 _) S1.out (by omega) (Nat.le_refl _) (by omega)
  exact bodyPost_ret (ret_wb (x := .bool false) (y := .slice none 0 0) (z := .bool false) Tryd.results19 _ _ rfl rfl MD.st) rfl ⟨.slice none 0 0, rfl, MD.old, MD.own⟩
set_option maxRecDepth 100000 in
set_option maxHeartbeats 2000000 in
theorem spec_CentredWhole_yes (rs ps : List Nat) (v u : Value) (w : World) (hv : Row w v (toZ rs)) (hu : Row w u (toZ ps)) (hf : Fit u) (hR : Res rs ps) (h : basB (toZ ps) = true) (h2 : rsB (toZ rs) (toZ ps) = true) :
    Calls Tryd.prog 19 #[v, u] w (Wh w (decide (prodN ps ≤ coN rs ps * 2)) (dig (if coN rs ps * 2 < prodN ps then coN rs ps else prodN ps - coN rs ps)) true) := by
  have hb := hR.bas
  have hl6 := hb.len6
  have hln := hR.len
  have c := fun W h1 h3 => l4Good_any (toZ rs) (toZ ps) v u W h1 h3 hf (by rw [toZ_len]; omega) (by rw [toZ_len]; omega) (fun x hx => by
    obtain ⟨n, hn, rfl⟩ := List.mem_map.1 hx
    have := hb.hi n hn
    omega)
  rw [h, h2] at c
  have c2 := fun W h1 h3 => spec_compose rs ps v u W h1 h3 hR
  have c4 := fun W h3 => spec_product ps u W h3 hl6 hb.hi
  have hlt : coN rs ps < prodN ps := Nat.mod_lt _ (Nat.pos_of_ne_zero hb.pos)
  have hc2 : cnt (coN rs ps * 2) ≤ 8 := by
    refine cnt_le ?_
    have h1 := cnt_lt (coN rs ps)
    have h3 : LB ^ cnt (coN rs ps) ≤ LB ^ 7 := Nat.pow_le_pow_right LB_pos (coN_cnt hR)
    have h4 : LB ^ 8 = LB ^ 7 * LB := Nat.pow_succ ..
    have h5 : LB ^ 7 * 2 ≤ LB ^ 7 * LB := Nat.mul_le_mul_left _ (by decide)
    omega
  have c5 := fun x y W h1 h3 => centre_any (coN rs ps) (prodN ps) x y W h1 h3 (Nat.le_trans (coN_cnt hR) (by omega)) (Nat.le_trans hb.cnt (by omega)) (Nat.le_trans hc2 (by omega)) hlt
  have hcr : (dig (if coN rs ps * 2 < prodN ps then coN rs ps else prodN ps - coN rs ps)).length ≤ 40 := by
    split
    · exact Nat.le_trans (coN_cnt hR) (by omega)
    · exact Nat.le_trans (cnt_mono (Nat.sub_le _ _)) (Nat.le_trans hb.cnt (by omega))
  have c3 := fun n u W h4 => out_any n (dig (if coN rs ps * 2 < prodN ps then coN rs ps else prodN ps - coN rs ps)) u W h4 hcr
  have HV : Hid (Row w v (toZ rs)) := hv
  have HU : Hid (Row w u (toZ ps)) := hu
  obtain ⟨va, vc, rfl⟩ : ∃ a c, v = .slice a rs.length c := by have := hv.slice; rwa [toZ_len] at this
  obtain ⟨ua, uc, rfl⟩ : ∃ a c, u = .slice a ps.length c := by have := hu.slice; rwa [toZ_len] at this
  have HS : Hid (StW (w.alloc (.cells #[.bool false, .slice none 0 0] 24)) w.heap.size (.bool false) (.slice none 0 0) 24) := StW.new w _ _ _
  have HA : Hid (Old w (w.alloc (.cells #[.bool false, .slice none 0 0] 24))) := (Old.refl w).alloc _
  clear hv hu hf h h2 hb hR hlt hc2 hcr hln
  generalize (if coN rs ps * 2 < prodN ps then coN rs ps else prodN ps - coN rs ps) = r at *
  generalize decide (prodN ps ≤ coN rs ps * 2) = ng at *
  generalize coN rs ps = a at *
  generalize prodN ps = P at *
  go_enter Tryd.func19, Tryd.ntmps19
  go_wp2_with fail
  refine (c _ (HV.out.old HA.out) (HU.out.old HA.out)).mono ?_
  rintro e w1 ⟨rfl, g1⟩
  have S1 : Hid (StW w1 w.heap.size (.bool false) (.slice none 0 0) 24) := HS.out.old g1
  have HG1 : Hid (Old w w1) := Old.trans HA.out g1
  clear g1
  go_wp2_with fail
  refine (c2 _ (HV.out.old HG1.out) (HU.out.old HG1.out)).mono ?_
  rintro e w2 ⟨v2, rfl, g2, o2⟩
  obtain ⟨a2, cap2, rfl⟩ := o2.slice
  have S2 : Hid (StW w2 w.heap.size (.bool false) (.slice none 0 0) 24) := S1.out.old g2
  have HG2 : Hid (Old w w2) := Old.trans HG1.out g2
  have HR2 : Hid (Row w2 (.slice a2 (toI (dig a)).length cap2) (toI (dig a))) := o2
  clear g2 o2
  go_wp2_with fail
  refine (c4 _ (HU.out.old HG2.out)).mono ?_
  rintro e w4 ⟨v4, rfl, g4, o4⟩
  obtain ⟨a4, cap4, rfl⟩ := o4.slice
  have S4 : Hid (StW w4 w.heap.size (.bool false) (.slice none 0 0) 24) := S2.out.old g4
  have HG4 : Hid (Old w w4) := Old.trans HG2.out g4
  have HR4 : Hid (Row w4 (.slice a2 (toI (dig a)).length cap2) (toI (dig a))) := HR2.out.old g4
  have HP4 : Hid (Row w4 (.slice a4 (toI (dig P)).length cap4) (toI (dig P))) := o4
  clear g4 o4
  go_wp2_with fail
  refine (c5 _ _ _ HR4.out HP4.out).mono ?_
  rintro e w5 ⟨v5, rfl, g5, o5⟩
  obtain ⟨a5, cap5, rfl⟩ := o5.slice
  have S5 : Hid (StW w5 w.heap.size (.bool false) (.slice none 0 0) 24) := S4.out.old g5
  have HG5 : Hid (Old w w5) := Old.trans HG4.out g5
  have HR5 : Hid (Row w5 (.slice a5 (toI (dig r)).length cap5) (toI (dig r))) := o5
  clear g5 o5
  go_wp2_with fail
  refine (c3 _ _ _ HR5.out).mono ?_
  rintro e w3 ⟨v3, rfl, g3, o3⟩
  obtain ⟨a3, cap3, rfl⟩ := (Own.row o3).slice
  have S3 : Hid (StW w3 w.heap.size (.bool false) (.slice none 0 0) 24) := S5.out.old g3
  have HG3 : Hid (Old w w3) := Old.trans HG5.out g3
  have HO3 : Hid (Own w3 w5.heap.size (.slice a3 (toI (dig r)).length cap3) (toI (dig r))) := o3
  have hs2 : w.heap.size < w5.heap.size := S5.out.lt
  have q0 := S3.out.c0
  have q1 := S3.out.c1
  have f0 := S3.out.f0
  have f1 := S3.out.f1
  clear g3 o3
  go_wp2_with fail
  have MD := two_made (rb := ng) HG3.out HO3.out S3.out (Nat.le_of_lt hs2) (Nat.le_refl _) hs2
  exact bodyPost_ret (ret_wb Tryd.results19 _ _ rfl rfl MD.st) rfl ⟨_, rfl, MD.old, MD.own⟩
end Go.Proofs.YtejkejfhahmhcaaDoor
