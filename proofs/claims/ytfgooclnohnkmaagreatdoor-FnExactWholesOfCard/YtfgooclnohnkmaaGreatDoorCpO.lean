/- Proved: l4Compose and l4Centre of the model: what they tell lies in memory of its own. -/
import Derived.Test.YtfgooclnohnkmaaGreatDoorCompT
import Derived.Test.YtfgooclnohnkmaaGreatDoorCentS
namespace Go.Proofs.YtfgooclnohnkmaaGreatDoor
open Go.ChangeShapes Go.WideShapes Go.ChangeAt Go.RowKit
open M2
set_option linter.unusedVariables false
set_option linter.unusedSimpArgs false
set_option maxRecDepth 100000 in
set_option maxHeartbeats 8000000 in
theorem spec_composeO (rs ps : List Nat) (v u : Value) (w : World) (hv : Row w v (toZ rs)) (hu : Row w u (toZ ps)) (h : Res rs ps) :
    Calls Tryz.prog 60 #[v, u] w fun e w' => ∃ v', e = .returned v' ∧ Old w w' ∧ Own w' w.heap.size v' (toI (dig (coN rs ps))) := by
  have hb := h.bas
  have hrl := h.len
  have hl6 := hb.len6
  have hl1 := hb.len1
  have HU : Hid (Row w u (toZ ps)) := hu
  obtain ⟨b1, o1, cap1, rfl, hb1, hc1⟩ := hv.atZ (by omega)
  obtain ⟨b2, o2, cap2, rfl, hb2, hc2⟩ := hu.atZ (by omega)
  rw [hrl] at hc1 ⊢
  have HC1 : Hid (∀ j, j < ps.length → w.cell? ⟨b1, o1 + j, none⟩ = some (.int .i64 ((rs.getD j 0 : Nat) : Int))) := hc1
  have HC2 : Hid (∀ j, j < ps.length → w.cell? ⟨b2, o2 + j, none⟩ = some (.int .i64 ((ps.getD j 0 : Nat) : Int))) := hc2
  have HB : Hid (Bas ps) := hb
  have HR : Hid (∀ i, i < ps.length → rs.getD i 0 < ps.getD i 0) := h.lt
  have HS0 : Hid (sumN rs ps 0 = 0) := rfl
  have cpr := fun W h3 => spec_product ps (.slice (some ⟨b2, o2, none⟩) ps.length cap2) W h3 hl6 hb.hi
  have HNR : Hid (Nrm (dig (prodN ps))) := dig_nrm _
  have HNE : Hid (dig (prodN ps) ≠ []) := fun e => by
    have h1 := cnt_pos hb.pos
    unfold cnt at h1
    rw [e] at h1
    simp at h1
  have HLP : Hid ((dig (prodN ps)).length ≤ 1048000) := Nat.le_trans hb.cnt (by omega)
  have HLS : Hid ((dig (sumN rs ps ps.length)).length ≤ 1048576) := Nat.le_trans (sumN_cnt hb _ (Nat.le_refl _)) (by omega)
  have HE : Hid (sumN rs ps ps.length % prodN ps = coN rs ps) := rfl
  clear hv hu hc1 hc2 hb h hrl
  go_enter Tryz.func60, Tryz.ntmps60
  go_wp2_with fail
  go_loopw [5, 13] (fun x j W => ∃ (k : Nat) (a : Option Addr) (n c : Nat), k ≤ ps.length ∧ j = .int .i64 k ∧ x = .slice a n c ∧ Hid (Row W (.slice a n c) (toI (dig (sumN rs ps k)))) ∧ Hid (Old w W)) (fun _ j _ => ps.length - (intOf j).toNat)
  case atStart => exact ⟨0, _, _, _, by omega, rfl, rfl, (by show Row _ _ _; rw [HS0.out, dig_zero]; exact Or.inl ⟨none, 0, rfl, rfl⟩), Old.refl _⟩
  case round =>
    obtain ⟨k, a, n, c, hk, rfl, rfl, HA, HG⟩ := hrel
    by_cases hlt : k < ps.length
    · have d1 : decide ((k : Int) < (ps.length : Int)) = true := by simp; omega
      have c1 : wr.cell? ⟨b1, o1 + k, none⟩ = some (.int .i64 ((rs.getD k 0 : Nat) : Int)) := (HG.out.cell (p := ⟨b1, o1 + k, none⟩) hb1).trans (HC1.out k hlt)
      have c2 : wr.cell? ⟨b2, o2 + k, none⟩ = some (.int .i64 ((ps.getD k 0 : Nat) : Int)) := (HG.out.cell (p := ⟨b2, o2 + k, none⟩) hb2).trans (HC2.out k hlt)
      have civ := fun W h3 => spec_inverse ps (.slice (some ⟨b2, o2, none⟩) ps.length cap2) k W h3 hlt (by omega) HB.out.lo HB.out.hi
      have hyl := yN_lt (rs := rs) HB.out hlt
      have hivl : ivN ps k ≤ 268435456 := by
        have : ivN ps k < ps.getD k 0 := by
          have hm : ps.getD k 0 ∈ ps := by simp [List.getD, hlt]
          have h2 := HB.out.lo _ hm
          unfold ivN
          exact invM_lt _ _ (by omega)
        omega
      have hrk := HR.out k hlt
      have cpu := fun W h3 => spec_punct ps (.slice (some ⟨b2, o2, none⟩) ps.length cap2) k W h3 HB.out hlt
      have HC1' : Hid ((dig (prodN (oth ps k))).length ≤ 1048576) := Nat.le_trans (oth_cnt HB.out hlt) (by omega)
      have HC2' : Hid ((dig (yN rs ps k)).length ≤ 1048576) := Nat.le_trans (cnt_word (by omega)) (by omega)
      have HC3' : Hid ((dig (sumN rs ps k)).length ≤ 1048576) := Nat.le_trans (sumN_cnt HB.out k hk) (by omega)
      have HC4' : Hid ((dig (prodN (oth ps k) * yN rs ps k)).length ≤ 1048576) := Nat.le_trans (part_cnt HB.out hlt) (by omega)
      have HF : Hid (∀ W u, Row W u (toI (dig (sumN rs ps k + prodN (oth ps k) * yN rs ps k))) → Row W u (toI (dig (sumN rs ps (k + 1))))) := fun W u h => h
      have HYE : Hid (rs.getD k 0 * ivN ps k % ps.getD k 0 = yN rs ps k) := rfl
      generalize prodN (oth ps k) = po at *
      generalize yN rs ps k = y at *
      generalize ivN ps k = iv at *
      generalize rs.getD k 0 = rk at *
      generalize ps.getD k 0 = p at *
      generalize sumN rs ps k = S1 at *
      obtain ⟨y0, hy0⟩ : ∃ y0, rk * iv = y0 := ⟨_, rfl⟩
      have hb2' : y0 ≤ 72057594037927936 := by rw [← hy0]; exact Nat.le_trans (Nat.mul_le_mul (show rk ≤ 268435456 by omega) hivl) (by decide)
      have t2 : IntKind.i64.wrap ((rk : Int) * (iv : Int)) = (y0 : Int) := by rw [← Int.natCast_mul, hy0, IntKind.wrap_i64]; omega
      have hye := HYE.out
      rw [hy0] at hye
      have t3 : Int.tmod (y0 : Int) (p : Int) = (y : Int) := by rw [Int.tmod_eq_emod_of_nonneg (by omega), ← hye]; rfl
      have hp0 : ¬ p = 0 := by omega
      have i1 : (k : Int) < (ps.length : Int) := by omega
      have HAS : Hid (∀ W', Old wr W' → W'.cell? ⟨b1, o1 + k, none⟩ = some (.int .i64 (rk : Int))) := fun W' g => (g.cell (p := ⟨b1, o1 + k, none⟩) (Nat.lt_of_lt_of_le hb1 HG.out.size)).trans c1
      clear HYE hy0 hye
      go_wp2_with fail
      go_region_held3 (fun W' => W'.cell? ⟨b1, o1 + k, none⟩ = some (.int .i64 (rk : Int))) (first | exact HAS.out _ G1.out | exact HAS.out _ (Below.drew (Old.refl wr)) | exact HAS.out _ (Old.refl wr) | fail) (first
        | (go_at_call 122; refine (civ _ (HU.out.old (Old.trans HG.out (Below.drew (Old.refl wr))))).mono ?_; rintro e w1 ⟨rfl, g1⟩; have G1 : Hid (Old wr w1) := Old.trans (Below.drew (Old.refl wr)) g1; clear g1)
        | fail)
      have HG1 : Hid (Old w w1) := Old.trans HG.out G1.out
      have HA1 : Hid (Row w1 (.slice a n c) (toI (dig S1))) := HA.out.old G1.out
      clear c1 c2 HAS t2 t3
      go_wp2_with fail
      refine (cpu _ (HU.out.old HG1.out)).mono ?_
      rintro e w2 ⟨v2, rfl, g2, r2⟩
      have HG2 : Hid (Old w w2) := Old.trans HG1.out g2
      have HA2 : Hid (Row w2 (.slice a n c) (toI (dig S1))) := HA1.out.old g2
      have HP2 : Hid (Row w2 v2 (toI (dig po))) := r2
      obtain ⟨a2, cap2', rfl⟩ := r2.slice
      clear g2 r2
      go_wp2_with fail
      refine (of_any y _ (by omega)).mono ?_
      rintro e w3 ⟨v3, rfl, g3, o3⟩
      have HG3 : Hid (Old w w3) := Old.trans HG2.out g3
      have HA3 : Hid (Row w3 (.slice a n c) (toI (dig S1))) := HA2.out.old g3
      have HP3 : Hid (Row w3 (.slice a2 (toI (dig po)).length cap2') (toI (dig po))) := HP2.out.old g3
      have HY3 : Hid (Row w3 v3 (toI (dig y))) := Own.row o3
      obtain ⟨a3, cap3, rfl⟩ := (Own.row o3).slice
      clear g3 o3
      go_wp2_with fail
      refine (mul_any (dig po) (dig y) _ _ _ HP3.out HY3.out (dig_lim po) (dig_lim y) HC1'.out HC2'.out).mono ?_
      rw [val_dig, val_dig]
      rintro e w4 ⟨v4, rfl, g4, o4⟩
      have HG4 : Hid (Old w w4) := Old.trans HG3.out g4
      have HA4 : Hid (Row w4 (.slice a n c) (toI (dig S1))) := HA3.out.old g4
      have HM4 : Hid (Row w4 v4 (toI (dig (po * y)))) := Own.row o4
      obtain ⟨a4, cap4, rfl⟩ := (Own.row o4).slice
      clear g4 o4
      go_wp2_with fail
      refine (add_any (dig S1) (dig (po * y)) _ _ _ HA4.out HM4.out (dig_lim S1) (dig_lim _) HC3'.out HC4'.out).mono ?_
      rw [val_dig, val_dig]
      rintro e w5 ⟨v5, rfl, g5, o5⟩
      have HG5 : Hid (Old w w5) := Old.trans HG4.out g5
      have HN5 : Hid (Row w5 v5 (toI (dig (S1 + po * y)))) := Own.row o5
      obtain ⟨a5, cap5, rfl⟩ := (Own.row o5).slice
      clear g5 o5
      go_wp2_with fail
      exact ⟨⟨k + 1, _, _, _, by omega, by go_num, rfl, HF.out _ _ HN5.out, HG5⟩, by simp [intOf]; omega⟩
    · have d1 : decide ((k : Int) < (ps.length : Int)) = false := by simp; omega
      obtain rfl : k = ps.length := by omega
      have HF : Hid (∀ W u, Own W w.heap.size u (toI (dig (sumN rs ps ps.length % prodN ps))) → Own W w.heap.size u (toI (dig (coN rs ps)))) := fun W u h => h
      generalize sumN rs ps ps.length = S1 at *
      generalize prodN ps = P at *
      go_wp2_with fail
      refine (cpr _ (HU.out.old HG.out)).mono ?_
      rintro e w2 ⟨v2, rfl, g2, r2⟩
      have HG2 : Hid (Old w w2) := Old.trans HG.out g2
      have HA2 : Hid (Row w2 (.slice a n c) (toI (dig S1))) := HA.out.old g2
      have HP2 : Hid (Row w2 v2 (toI (dig P))) := r2
      obtain ⟨a2, cap2', rfl⟩ := r2.slice
      clear g2 r2
      go_wp2_with fail
      refine (div_any (dig S1) (dig P) _ _ _ HA2.out HP2.out (dig_lim S1) HNR.out HNE.out HLS.out HLP.out).mono ?_
      rw [val_dig, val_dig]
      rintro e w3 ⟨v3, v4, rfl, g3, o3, o4⟩
      have HG3 : Hid (Old w w3) := Old.trans HG2.out g3
      have HN3 : Hid (Own w3 w.heap.size v4 (toI (dig (S1 % P)))) := o4.low HG2.out.size
      obtain ⟨a3, cap3, rfl⟩ := (Own.row o3).slice
      obtain ⟨a4, cap4, rfl⟩ := (Own.row o4).slice
      clear g3 o3 o4
      go_wp2_with fail
      go_ret
      exact ⟨_, rfl, HG3.out, HF.out _ _ HN3.out⟩
set_option maxRecDepth 100000 in
set_option maxHeartbeats 2000000 in
theorem centre_anyO (a q base : Nat) (v u : Value) (w : World) (hvo : Own w base v (toI (dig a))) (hbase : base ≤ w.heap.size) (hu : Row w u (toI (dig q))) (la : (dig a).length ≤ 1000) (lq : (dig q).length ≤ 1000) (l2 : (dig (a * 2)).length ≤ 1000) (hlt : a < q) :
    Calls Tryz.prog 153 #[v, u] w fun e w' => ∃ v', e = .returned (.agg #[.bool (decide (q ≤ a * 2)), v']) ∧ Old w w' ∧ Own w' base v' (toI (dig (if a * 2 < q then a else q - a))) := by
  have hv := Own.row hvo
  have HV : Hid (Row w v (toI (dig a))) := hv
  have HVO : Hid (Own w base v (toI (dig a))) := hvo
  have HU : Hid (Row w u (toI (dig q))) := hu
  obtain ⟨va, vc, rfl⟩ := hv.slice
  obtain ⟨ua, uc, rfl⟩ := hu.slice
  have HS : Hid (StW ((w.alloc (.cells #[.bool false, .slice none 0 0] 101)).alloc (.cells #[.int .i64 2] 3)) w.heap.size (.bool false) (.slice none 0 0) 101) := (StW.new w _ _ _).old ((Old.refl _).alloc _)
  have HA : Hid (Old w ((w.alloc (.cells #[.bool false, .slice none 0 0] 101)).alloc (.cells #[.int .i64 2] 3))) := ((Old.refl w).alloc _).alloc _
  have HT : Hid (Row ((w.alloc (.cells #[.bool false, .slice none 0 0] 101)).alloc (.cells #[.int .i64 2] 3)) (.slice (some ⟨w.heap.size + 1, 0, none⟩) 1 1) (toI [2])) := by
    have := two_row (w.alloc (.cells #[.bool false, .slice none 0 0] 101)) 3
    simp at this
    exact this
  have cm := fun x W h1 h2 => mul_any (dig a) [2] x (.slice (some ⟨w.heap.size + 1, 0, none⟩) 1 1) W h1 h2 (dig_lim a) (Lim.cons (by decide) Lim.nil) (by omega) (by simp)
  rw [val_dig, val_two] at cm
  have cc := fun x y W h1 h2 => cmp_any (dig (a * 2)) (dig q) x y W h1 h2 (dig_nrm _) (dig_nrm _) (by omega) (by omega)
  rw [val_dig, val_dig] at cc
  have cs := fun x y W h1 h2 => sub_any (dig q) (dig a) x y W h1 h2 (dig_nrm _) (dig_nrm _) (by omega) (by omega) (by rw [val_dig, val_dig]; omega)
  rw [val_dig, val_dig] at cs
  clear hv hu la lq l2 hvo
  by_cases hc : a * 2 < q
  · have dz : decide (0 ≤ cmpN (a * 2) q) = false := decide_eq_false (by unfold cmpN; rw [if_pos hc]; decide)
    rw [if_pos hc, decide_eq_false (by omega)]
    generalize cmpN (a * 2) q = z at *
    clear hc hlt cs
    go_enter Tryz.func153, Tryz.ntmps153
    go_wp2_with fail
    refine (cm _ _ (HV.out.old HA.out) HT.out).mono ?_
    rintro e w1 ⟨v1, rfl, g1, o1⟩
    have S1 : Hid (StW w1 w.heap.size (.bool false) (.slice none 0 0) 101) := HS.out.old g1
    have HG1 : Hid (Old w w1) := Old.trans HA.out g1
    have HM1 : Hid (Row w1 v1 (toI (dig (a * 2)))) := Own.row o1
    obtain ⟨a1, cap1, rfl⟩ := (Own.row o1).slice
    clear g1 o1
    go_wp2_with fail
    refine (cc _ _ _ HM1.out (HU.out.old HG1.out)).mono ?_
    rintro e w2 ⟨rfl, g2⟩
    have S2 : Hid (StW w2 w.heap.size (.bool false) (.slice none 0 0) 101) := S1.out.old g2
    have HG2 : Hid (Old w w2) := Old.trans HG1.out g2
    have q0 := S2.out.c0
    have q1 := S2.out.c1
    have f0 := S2.out.f0
    have f1 := S2.out.f1
    clear g2
    go_wp2_with fail
    refine bodyPost_ret (ret_w2 Tryz.results153 _ _ rfl (st_put S2.out (.bool false) _)) rfl ⟨_, rfl, ?_, ?_⟩
    · exact (HG2.out.own (p := ⟨w.heap.size, 0, none⟩) (Nat.le_refl _) _).own (p := ⟨w.heap.size, 1, none⟩) (Nat.le_refl _) _
    · exact HVO.out.old ((HG2.out.own (p := ⟨w.heap.size, 0, none⟩) (Nat.le_refl _) _).own (p := ⟨w.heap.size, 1, none⟩) (Nat.le_refl _) _)
  · have dz : decide (0 ≤ cmpN (a * 2) q) = true := decide_eq_true (by unfold cmpN; rw [if_neg hc]; split <;> decide)
    rw [if_neg hc, decide_eq_true (by omega)]
    generalize cmpN (a * 2) q = z at *
    generalize q - a = d at *
    clear hc hlt
    go_enter Tryz.func153, Tryz.ntmps153
    go_wp2_with fail
    refine (cm _ _ (HV.out.old HA.out) HT.out).mono ?_
    rintro e w1 ⟨v1, rfl, g1, o1⟩
    have S1 : Hid (StW w1 w.heap.size (.bool false) (.slice none 0 0) 101) := HS.out.old g1
    have HG1 : Hid (Old w w1) := Old.trans HA.out g1
    have HM1 : Hid (Row w1 v1 (toI (dig (a * 2)))) := Own.row o1
    obtain ⟨a1, cap1, rfl⟩ := (Own.row o1).slice
    clear g1 o1
    go_wp2_with fail
    refine (cc _ _ _ HM1.out (HU.out.old HG1.out)).mono ?_
    rintro e w2 ⟨rfl, g2⟩
    have S2 : Hid (StW w2 w.heap.size (.bool false) (.slice none 0 0) 101) := S1.out.old g2
    have HG2 : Hid (Old w w2) := Old.trans HG1.out g2
    clear g2
    go_wp2_with fail
    refine (cs _ _ _ (HU.out.old HG2.out) (HV.out.old HG2.out)).mono ?_
    rintro e w3 ⟨v3, rfl, g3, o3⟩
    have S3 : Hid (StW w3 w.heap.size (.bool false) (.slice none 0 0) 101) := S2.out.old g3
    have HG3 : Hid (Old w w3) := Old.trans HG2.out g3
    have HO3 : Hid (Own w3 w2.heap.size v3 (toI (dig d))) := o3
    have hs2 : w.heap.size < w2.heap.size := S2.out.lt
    obtain ⟨a3, cap3, rfl⟩ := (Own.row o3).slice
    have q0 := S3.out.c0
    have q1 := S3.out.c1
    have f0 := S3.out.f0
    have f1 := S3.out.f1
    clear g3 o3
    go_wp2_with fail
    refine bodyPost_ret (ret_w2 Tryz.results153 _ _ rfl (st_put S3.out (.bool true) _)) rfl ⟨_, rfl, ?_, ?_⟩
    · exact (HG3.out.own (p := ⟨w.heap.size, 0, none⟩) (Nat.le_refl _) _).own (p := ⟨w.heap.size, 1, none⟩) (Nat.le_refl _) _
    · refine Own.low (base := w2.heap.size) (base' := base) (ownsRow_setCell_other (ownsRow_setCell_other HO3.out (fun e => ?_) _) (fun e => ?_) _) (by omega)
      · have := (HO3.out.lt w.heap.size e).1; omega
      · have := (HO3.out.lt w.heap.size e).1; omega
end Go.Proofs.YtfgooclnohnkmaaGreatDoor
