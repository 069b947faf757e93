/- Proved: contracts of the model's l4Compose and ComposeWhole. -/
import Derived.Test.YtfgooclnohnkmaaGreatDoorNL
import Derived.Test.YtfgooclnohnkmaaGreatDoorCompo
namespace Go.Proofs.YtfgooclnohnkmaaGreatDoor
open Go.ChangeShapes Go.WideShapes Go.ChangeAt Go.RowKit
open M2
set_option linter.unusedVariables false
set_option linter.unusedSimpArgs false
set_option maxRecDepth 100000 in
set_option maxHeartbeats 8000000 in
theorem spec_compose (rs ps : List Nat) (v u : Value) (w : World) (hv : Row w v (toZ rs)) (hu : Row w u (toZ ps)) (h : Res rs ps) :
    Calls Tryz.prog 60 #[v, u] w fun e w' => ∃ v', e = .returned v' ∧ Old w w' ∧ Row w' v' (toI (dig (coN rs ps))) := by
  have hb := h.bas
  have hrl := h.len
  have hl6 := hb.len6
  have hl1 := hb.len1
  have HU : Hid (Row w u (toZ ps)) := hu
  obtain ⟨b1, o1, cap1, rfl, hb1, hc1⟩ := hv.atZ (by omega)
  obtain ⟨b2, o2, cap2, rfl, hb2, hc2⟩ := hu.atZ (by omega)
  rw [hrl] at hc1 ⊢
  have HC1 : Hid (∀ j, j < ps.length → w.cell? ⟨b1, o1 + j, none⟩ = some (.int .i64 ((rs.getD j 0 : Nat) : Int))) := hc1
  have HC2 : Hid (∀ j, j < ps.length → w.cell? ⟨b2, o2 + j, none⟩ = some (.int .i64 ((ps.getD j 0 : Nat) : Int))) := hc2
  have HB : Hid (Bas ps) := hb
  have HR : Hid (∀ i, i < ps.length → rs.getD i 0 < ps.getD i 0) := h.lt
  have HS0 : Hid (sumN rs ps 0 = 0) := rfl
  have cpr := fun W h3 => spec_product ps (.slice (some ⟨b2, o2, none⟩) ps.length cap2) W h3 hl6 hb.hi
  have HNR : Hid (Nrm (dig (prodN ps))) := dig_nrm _
  have HNE : Hid (dig (prodN ps) ≠ []) := fun e => by
    have h1 := cnt_pos hb.pos
    unfold cnt at h1
    rw [e] at h1
    simp at h1
  have HLP : Hid ((dig (prodN ps)).length ≤ 1048000) := Nat.le_trans hb.cnt (by omega)
  have HLS : Hid ((dig (sumN rs ps ps.length)).length ≤ 1048576) := Nat.le_trans (sumN_cnt hb _ (Nat.le_refl _)) (by omega)
  have HE : Hid (sumN rs ps ps.length % prodN ps = coN rs ps) := rfl
  clear hv hu hc1 hc2 hb h hrl
  go_enter Tryz.func60, Tryz.ntmps60
  go_wp2_with fail
  go_loopw [5, 13] (fun x j W => ∃ (k : Nat) (a : Option Addr) (n c : Nat), k ≤ ps.length ∧ j = .int .i64 k ∧ x = .slice a n c ∧ Hid (Row W (.slice a n c) (toI (dig (sumN rs ps k)))) ∧ Hid (Old w W)) (fun _ j _ => ps.length - (intOf j).toNat)
  case atStart => exact ⟨0, _, _, _, by omega, rfl, rfl, (by show Row _ _ _; rw [HS0.out, dig_zero]; exact Or.inl ⟨none, 0, rfl, rfl⟩), Old.refl _⟩
  case round =>
    obtain ⟨k, a, n, c, hk, rfl, rfl, HA, HG⟩ := hrel
    by_cases hlt : k < ps.length
    · have d1 : decide ((k : Int) < (ps.length : Int)) = true := by simp; omega
      have c1 : wr.cell? ⟨b1, o1 + k, none⟩ = some (.int .i64 ((rs.getD k 0 : Nat) : Int)) := (HG.out.cell (p := ⟨b1, o1 + k, none⟩) hb1).trans (HC1.out k hlt)
      have c2 : wr.cell? ⟨b2, o2 + k, none⟩ = some (.int .i64 ((ps.getD k 0 : Nat) : Int)) := (HG.out.cell (p := ⟨b2, o2 + k, none⟩) hb2).trans (HC2.out k hlt)
      have civ := fun W h3 => spec_inverse ps (.slice (some ⟨b2, o2, none⟩) ps.length cap2) k W h3 hlt (by omega) HB.out.lo HB.out.hi
      have hyl := yN_lt (rs := rs) HB.out hlt
      have hivl : ivN ps k ≤ 268435456 := by
        have : ivN ps k < ps.getD k 0 := by
          have hm : ps.getD k 0 ∈ ps := by simp [List.getD, hlt]
          have h2 := HB.out.lo _ hm
          unfold ivN
          exact invM_lt _ _ (by omega)
        omega
      have hrk := HR.out k hlt
      have cpu := fun W h3 => spec_punct ps (.slice (some ⟨b2, o2, none⟩) ps.length cap2) k W h3 HB.out hlt
      have HC1' : Hid ((dig (prodN (oth ps k))).length ≤ 1048576) := Nat.le_trans (oth_cnt HB.out hlt) (by omega)
      have HC2' : Hid ((dig (yN rs ps k)).length ≤ 1048576) := Nat.le_trans (cnt_word (by omega)) (by omega)
      have HC3' : Hid ((dig (sumN rs ps k)).length ≤ 1048576) := Nat.le_trans (sumN_cnt HB.out k hk) (by omega)
      have HC4' : Hid ((dig (prodN (oth ps k) * yN rs ps k)).length ≤ 1048576) := Nat.le_trans (part_cnt HB.out hlt) (by omega)
      have HF : Hid (∀ W u, Row W u (toI (dig (sumN rs ps k + prodN (oth ps k) * yN rs ps k))) → Row W u (toI (dig (sumN rs ps (k + 1))))) := fun W u h => h
      have HYE : Hid (rs.getD k 0 * ivN ps k % ps.getD k 0 = yN rs ps k) := rfl
      generalize prodN (oth ps k) = po at *
      generalize yN rs ps k = y at *
      generalize ivN ps k = iv at *
      generalize rs.getD k 0 = rk at *
      generalize ps.getD k 0 = p at *
      generalize sumN rs ps k = S1 at *
      obtain ⟨y0, hy0⟩ : ∃ y0, rk * iv = y0 := ⟨_, rfl⟩
      have hb2' : y0 ≤ 72057594037927936 := by rw [← hy0]; exact Nat.le_trans (Nat.mul_le_mul (show rk ≤ 268435456 by omega) hivl) (by decide)
      have t2 : IntKind.i64.wrap ((rk : Int) * (iv : Int)) = (y0 : Int) := by rw [← Int.natCast_mul, hy0, IntKind.wrap_i64]; omega
      have hye := HYE.out
      rw [hy0] at hye
      have t3 : Int.tmod (y0 : Int) (p : Int) = (y : Int) := by rw [Int.tmod_eq_emod_of_nonneg (by omega), ← hye]; rfl
      have hp0 : ¬ p = 0 := by omega
      have i1 : (k : Int) < (ps.length : Int) := by omega
      have HAS : Hid (∀ W', Old wr W' → W'.cell? ⟨b1, o1 + k, none⟩ = some (.int .i64 (rk : Int))) := fun W' g => (g.cell (p := ⟨b1, o1 + k, none⟩) (Nat.lt_of_lt_of_le hb1 HG.out.size)).trans c1
      clear HYE hy0 hye
      go_wp2_with fail
      go_region_held3 (fun W' => W'.cell? ⟨b1, o1 + k, none⟩ = some (.int .i64 (rk : Int))) (first | exact HAS.out _ G1.out | exact HAS.out _ (Below.drew (Old.refl wr)) | exact HAS.out _ (Old.refl wr) | fail) (first
        | (go_at_call 122; refine (civ _ (HU.out.old (Old.trans HG.out (Below.drew (Old.refl wr))))).mono ?_; rintro e w1 ⟨rfl, g1⟩; have G1 : Hid (Old wr w1) := Old.trans (Below.drew (Old.refl wr)) g1; clear g1)
        | fail)
      have HG1 : Hid (Old w w1) := Old.trans HG.out G1.out
      have HA1 : Hid (Row w1 (.slice a n c) (toI (dig S1))) := HA.out.old G1.out
      clear c1 c2 HAS t2 t3
      go_wp2_with fail
      refine (cpu _ (HU.out.old HG1.out)).mono ?_
      rintro e w2 ⟨v2, rfl, g2, r2⟩
      have HG2 : Hid (Old w w2) := Old.trans HG1.out g2
      have HA2 : Hid (Row w2 (.slice a n c) (toI (dig S1))) := HA1.out.old g2
      have HP2 : Hid (Row w2 v2 (toI (dig po))) := r2
      obtain ⟨a2, cap2', rfl⟩ := r2.slice
      clear g2 r2
      go_wp2_with fail
      refine (of_any y _ (by omega)).mono ?_
      rintro e w3 ⟨v3, rfl, g3, o3⟩
      have HG3 : Hid (Old w w3) := Old.trans HG2.out g3
      have HA3 : Hid (Row w3 (.slice a n c) (toI (dig S1))) := HA2.out.old g3
      have HP3 : Hid (Row w3 (.slice a2 (toI (dig po)).length cap2') (toI (dig po))) := HP2.out.old g3
      have HY3 : Hid (Row w3 v3 (toI (dig y))) := Own.row o3
      obtain ⟨a3, cap3, rfl⟩ := (Own.row o3).slice
      clear g3 o3
      go_wp2_with fail
      refine (mul_any (dig po) (dig y) _ _ _ HP3.out HY3.out (dig_lim po) (dig_lim y) HC1'.out HC2'.out).mono ?_
      rw [val_dig, val_dig]
      rintro e w4 ⟨v4, rfl, g4, o4⟩
      have HG4 : Hid (Old w w4) := Old.trans HG3.out g4
      have HA4 : Hid (Row w4 (.slice a n c) (toI (dig S1))) := HA3.out.old g4
      have HM4 : Hid (Row w4 v4 (toI (dig (po * y)))) := Own.row o4
      obtain ⟨a4, cap4, rfl⟩ := (Own.row o4).slice
      clear g4 o4
      go_wp2_with fail
      refine (add_any (dig S1) (dig (po * y)) _ _ _ HA4.out HM4.out (dig_lim S1) (dig_lim _) HC3'.out HC4'.out).mono ?_
      rw [val_dig, val_dig]
      rintro e w5 ⟨v5, rfl, g5, o5⟩
      have HG5 : Hid (Old w w5) := Old.trans HG4.out g5
      have HN5 : Hid (Row w5 v5 (toI (dig (S1 + po * y)))) := Own.row o5
      obtain ⟨a5, cap5, rfl⟩ := (Own.row o5).slice
      clear g5 o5
      go_wp2_with fail
      exact ⟨⟨k + 1, _, _, _, by omega, by go_num, rfl, HF.out _ _ HN5.out, HG5⟩, by simp [intOf]; omega⟩
    · have d1 : decide ((k : Int) < (ps.length : Int)) = false := by simp; omega
      obtain rfl : k = ps.length := by omega
      have HF : Hid (∀ W u, Row W u (toI (dig (sumN rs ps ps.length % prodN ps))) → Row W u (toI (dig (coN rs ps)))) := fun W u h => h
      generalize sumN rs ps ps.length = S1 at *
      generalize prodN ps = P at *
      go_wp2_with fail
      refine (cpr _ (HU.out.old HG.out)).mono ?_
      rintro e w2 ⟨v2, rfl, g2, r2⟩
      have HG2 : Hid (Old w w2) := Old.trans HG.out g2
      have HA2 : Hid (Row w2 (.slice a n c) (toI (dig S1))) := HA.out.old g2
      have HP2 : Hid (Row w2 v2 (toI (dig P))) := r2
      obtain ⟨a2, cap2', rfl⟩ := r2.slice
      clear g2 r2
      go_wp2_with fail
      refine (div_any (dig S1) (dig P) _ _ _ HA2.out HP2.out (dig_lim S1) HNR.out HNE.out HLS.out HLP.out).mono ?_
      rw [val_dig, val_dig]
      rintro e w3 ⟨v3, v4, rfl, g3, o3, o4⟩
      have HG3 : Hid (Old w w3) := Old.trans HG2.out g3
      have HN3 : Hid (Row w3 v4 (toI (dig (S1 % P)))) := Own.row o4
      obtain ⟨a3, cap3, rfl⟩ := (Own.row o3).slice
      obtain ⟨a4, cap4, rfl⟩ := (Own.row o4).slice
      clear g3 o3 o4
      go_wp2_with fail
      go_ret
      exact ⟨_, rfl, HG3.out, HF.out _ _ HN3.out⟩
set_option maxRecDepth 100000 in
set_option maxHeartbeats 2000000 in
theorem spec_ComposeWhole_no (rs xs : List Int) (v u : Value) (w : World) (hv : Row w v rs) (hu : Row w u xs) (hf : Fit u) (hl : xs.length ≤ 9223372036854775807) (hlr : rs.length ≤ 9223372036854775807) (hx : ∀ x ∈ xs, -9223372036854775808 ≤ x ∧ x ≤ 9223372036854775807) (h : ¬ (basB xs = true ∧ rsB rs xs = true)) :
    Calls Tryz.prog 9 #[v, u] w (Wh w false [] false) := by
  have c := fun W h1 h3 => l4Good_any rs xs v u W h1 h3 hf hl hlr hx
  have hB : (basB xs && rsB rs xs) = false := by
    cases h1 : basB xs <;> cases h2 : rsB rs xs <;> first | rfl | exact absurd ⟨h1, h2⟩ h
  rw [hB] at c
  have HV : Hid (Row w v rs) := hv
  have HU : Hid (Row w u xs) := hu
  have HS : Hid (StW (w.alloc (.cells #[.bool false, .slice none 0 0] 27)) w.heap.size (.bool false) (.slice none 0 0) 27) := StW.new w _ _ _
  have HA : Hid (Old w (w.alloc (.cells #[.bool false, .slice none 0 0] 27))) := (Old.refl w).alloc _
  obtain ⟨a0, c0, rfl⟩ := hv.slice
  obtain ⟨a1, c1, rfl⟩ := hu.slice
  clear hv hu hf h hB hx
  go_enter Tryz.func9, Tryz.ntmps9
  go_wp2_with fail
  refine (c _ (HV.out.old HA.out) (HU.out.old HA.out)).mono ?_
  rintro e w1 ⟨rfl, g1⟩
  have S1 : Hid (StW w1 w.heap.size (.bool false) (.slice none 0 0) 27) := HS.out.old g1
  have HG1 : Hid (Old w w1) := Old.trans HA.out g1
  have q0 := S1.out.c0
  have q1 := S1.out.c1
  have f0 := S1.out.f0
  have f1 := S1.out.f1
  clear g1
  go_wp2_with fail
  have MD : Made w false [] ((w1.setCell ⟨w.heap.size, 0, none⟩ (.bool false)).setCell ⟨w.heap.size, 1, none⟩ (.slice none 0 0)) w.heap.size none 0 := two_made (rb := false) (rl := []) (a := none) (cap := 0) (base := w.heap.size + 1) HG1.out (nil_own w1 _) S1.out (by omega) (Nat.le_refl _) (by omega)
  exact bodyPost_ret (ret_wb (x := .bool false) (y := .slice none 0 0) (z := .bool false) Tryz.results9 _ _ rfl rfl MD.st) rfl ⟨.slice none 0 0, rfl, MD.old, MD.own⟩
set_option maxRecDepth 100000 in
set_option maxHeartbeats 2000000 in
theorem spec_ComposeWhole_yes (rs ps : List Nat) (v u : Value) (w : World) (hv : Row w v (toZ rs)) (hu : Row w u (toZ ps)) (hf : Fit u) (hR : Res rs ps) (h : basB (toZ ps) = true) (h2 : rsB (toZ rs) (toZ ps) = true) :
    Calls Tryz.prog 9 #[v, u] w (Wh w false (dig (coN rs ps)) true) := by
  have hb := hR.bas
  have hl6 := hb.len6
  have hln := hR.len
  have c := fun W h1 h3 => l4Good_any (toZ rs) (toZ ps) v u W h1 h3 hf (by rw [toZ_len]; omega) (by rw [toZ_len]; omega) (fun x hx => by
    obtain ⟨n, hn, rfl⟩ := List.mem_map.1 hx
    have := hb.hi n hn
    omega)
  rw [h, h2] at c
  have c2 := fun W h1 h3 => spec_compose rs ps v u W h1 h3 hR
  have hc7 : (dig (coN rs ps)).length ≤ 40 := Nat.le_trans (coN_cnt hR) (by omega)
  have c3 := fun u W h4 => out_any false (dig (coN rs ps)) u W h4 hc7
  have HV : Hid (Row w v (toZ rs)) := hv
  have HU : Hid (Row w u (toZ ps)) := hu
  obtain ⟨va, vc, rfl⟩ : ∃ a c, v = .slice a rs.length c := by have := hv.slice; rwa [toZ_len] at this
  obtain ⟨ua, uc, rfl⟩ : ∃ a c, u = .slice a ps.length c := by have := hu.slice; rwa [toZ_len] at this
  have HS : Hid (StW (w.alloc (.cells #[.bool false, .slice none 0 0] 27)) w.heap.size (.bool false) (.slice none 0 0) 27) := StW.new w _ _ _
  have HA : Hid (Old w (w.alloc (.cells #[.bool false, .slice none 0 0] 27))) := (Old.refl w).alloc _
  clear hv hu hf h h2 hb hR hc7 hln
  generalize coN rs ps = r at *
  go_enter Tryz.func9, Tryz.ntmps9
  go_wp2_with fail
  refine (c _ (HV.out.old HA.out) (HU.out.old HA.out)).mono ?_
  rintro e w1 ⟨rfl, g1⟩
  have S1 : Hid (StW w1 w.heap.size (.bool false) (.slice none 0 0) 27) := HS.out.old g1
  have HG1 : Hid (Old w w1) := Old.trans HA.out g1
  clear g1
  go_wp2_with fail
  refine (c2 _ (HV.out.old HG1.out) (HU.out.old HG1.out)).mono ?_
  rintro e w2 ⟨v2, rfl, g2, o2⟩
  obtain ⟨a2, cap2, rfl⟩ := o2.slice
  have S2 : Hid (StW w2 w.heap.size (.bool false) (.slice none 0 0) 27) := S1.out.old g2
  have HG2 : Hid (Old w w2) := Old.trans HG1.out g2
  have HR2 : Hid (Row w2 (.slice a2 (toI (dig r)).length cap2) (toI (dig r))) := o2
  clear g2 o2
  go_wp2_with fail
  refine (c3 _ _ HR2.out).mono ?_
  rintro e w3 ⟨v3, rfl, g3, o3⟩
  obtain ⟨a3, cap3, rfl⟩ := (Own.row o3).slice
  have S3 : Hid (StW w3 w.heap.size (.bool false) (.slice none 0 0) 27) := S2.out.old g3
  have HG3 : Hid (Old w w3) := Old.trans HG2.out g3
  have HO3 : Hid (Own w3 w2.heap.size (.slice a3 (toI (dig r)).length cap3) (toI (dig r))) := o3
  have hs2 : w.heap.size < w2.heap.size := S2.out.lt
  have q0 := S3.out.c0
  have q1 := S3.out.c1
  have f0 := S3.out.f0
  have f1 := S3.out.f1
  clear g3 o3
  go_wp2_with fail
  have MD := two_made (rb := false) HG3.out HO3.out S3.out (Nat.le_of_lt hs2) (Nat.le_refl _) hs2
  exact bodyPost_ret (ret_wb Tryz.results9 _ _ rfl rfl MD.st) rfl ⟨_, rfl, MD.old, MD.own⟩
end Go.Proofs.YtfgooclnohnkmaaGreatDoor
