/- Proved: several texts in one: what each proves is said ahead of it. -/
import Derived.Test.YtfcdfielbpdloaaDoorX21
import Derived.Test.YtfcdfielbpdloaaDoorX18
import Derived.Test.YtfcdfielbpdloaaDoorX00
import Derived.Test.YtfcdfielbpdloaaDoorX02
import Derived.Deep.WholeRow
import Derived.Laws.ResultCell
import Derived.Deep.LoopGhost
import Derived.Laws.BitsLemmas
import Derived.Laws.CopyOwn
import Derived.Deep.RegionLaw
import Derived.Test.YtfcdfielbpdloaaDoorX03
import Derived.Deep.RegionHeld3
import Derived.Deep.DeepCutAuto
import Derived.ScopeJumps
import Derived.Test.YtfcdfielbpdloaaDoorX15
import Derived.Lib.BitFns
import Derived.Test.YtfcdfielbpdloaaDoorRows
import Derived.Lib.Walk
import Derived.Test.YtfcdfielbpdloaaDoorX27
import Derived.Test.YtfcdfielbpdloaaDoorTab
/- Proved: contracts of the model's l4Compose and ComposeWhole. -/
namespace Go.Proofs.YtfcdfielbpdloaaDoor
open Go.ChangeShapes Go.WideShapes Go.ChangeAt Go.RowKit
open M2
set_option linter.unusedVariables false
set_option linter.unusedSimpArgs false
set_option maxRecDepth 100000 in
set_option maxHeartbeats 8000000 in
theorem spec_compose (rs ps : List Nat) (v u : Value) (w : World) (hv : Row w v (toZ rs)) (hu : Row w u (toZ ps)) (h : Res rs ps) :
    Calls Tryd.prog 22 #[v, u] w fun e w' => ∃ v', e = .returned v' ∧ Old w w' ∧ Row w' v' (toI (dig (coN rs ps))) := by
  have hb := h.bas
  have hrl := h.len
  have hl6 := hb.len6
  have hl1 := hb.len1
  have HU : Hid (Row w u (toZ ps)) := hu
  obtain ⟨b1, o1, cap1, rfl, hb1, hc1⟩ := hv.atZ (by omega)
  obtain ⟨b2, o2, cap2, rfl, hb2, hc2⟩ := hu.atZ (by omega)
  rw [hrl] at hc1 ⊢
  have HC1 : Hid (∀ j, j < ps.length → w.cell? ⟨b1, o1 + j, none⟩ = some (.int .i64 ((rs.getD j 0 : Nat) : Int))) := hc1
  have HC2 : Hid (∀ j, j < ps.length → w.cell? ⟨b2, o2 + j, none⟩ = some (.int .i64 ((ps.getD j 0 : Nat) : Int))) := hc2
  have HB : Hid (Bas ps) := hb
  have HR : Hid (∀ i, i < ps.length → rs.getD i 0 < ps.getD i 0) := h.lt
  have HS0 : Hid (sumN rs ps 0 = 0) := rfl
  have cpr := fun W h3 => spec_product ps (.slice (some ⟨b2, o2, none⟩) ps.length cap2) W h3 hl6 hb.hi
  have HNR : Hid (Nrm (dig (prodN ps))) := dig_nrm _
  have HNE : Hid (dig (prodN ps) ≠ []) := fun e => by
    have h1 := cnt_pos hb.pos
    unfold cnt at h1
    rw [e] at h1
    simp at h1
  have HLP : Hid ((dig (prodN ps)).length ≤ 1048000) := Nat.le_trans hb.cnt (by omega)
  have HLS : Hid ((dig (sumN rs ps ps.length)).length ≤ 1048576) := Nat.le_trans (sumN_cnt hb _ (Nat.le_refl _)) (by omega)
  have HE : Hid (sumN rs ps ps.length % prodN ps = coN rs ps) := rfl
  clear hv hu hc1 hc2 hb h hrl
  go_enter Tryd.func22, Tryd.ntmps22
  go_wp2_with fail
  go_loopw [5, 13] (fun x j W => ∃ (k : Nat) (a : Option Addr) (n c : Nat), k ≤ ps.length ∧ j = .int .i64 k ∧ x = .slice a n c ∧ Hid (Row W (.slice a n c) (toI (dig (sumN rs ps k)))) ∧ Hid (Old w W)) (fun _ j _ => ps.length - (intOf j).toNat)
  case atStart => exact ⟨0, _, _, _, by omega, rfl, rfl, (by show Row _ _ _; rw [HS0.out, dig_zero]; exact Or.inl ⟨none, 0, rfl, rfl⟩), Old.refl _⟩
  case round =>
    obtain ⟨k, a, n, c, hk, rfl, rfl, HA, HG⟩ := hrel
    by_cases hlt : k < ps.length
    · have d1 : decide ((k : Int) < (ps.length : Int)) = true := by simp; omega
      have c1 : wr.cell? ⟨b1, o1 + k, none⟩ = some (.int .i64 ((rs.getD k 0 : Nat) : Int)) := (HG.out.cell (p := ⟨b1, o1 + k, none⟩) hb1).trans (HC1.out k hlt)
      have c2 : wr.cell? ⟨b2, o2 + k, none⟩ = some (.int .i64 ((ps.getD k 0 : Nat) : Int)) := (HG.out.cell (p := ⟨b2, o2 + k, none⟩) hb2).trans (HC2.out k hlt)
      have civ := fun W h3 => spec_inverse ps (.slice (some ⟨b2, o2, none⟩) ps.length cap2) k W h3 hlt (by omega) HB.out.lo HB.out.hi
      have hyl := yN_lt (rs := rs) HB.out hlt
      have hivl : ivN ps k ≤ 268435456 := by
        have : ivN ps k < ps.getD k 0 := by
          have hm : ps.getD k 0 ∈ ps := by simp [List.getD, hlt]
          have h2 := HB.out.lo _ hm
          unfold ivN
          exact invM_lt _ _ (by omega)
        omega
      have hrk := HR.out k hlt
      have cpu := fun W h3 => spec_punct ps (.slice (some ⟨b2, o2, none⟩) ps.length cap2) k W h3 HB.out hlt
      have HC1' : Hid ((dig (prodN (oth ps k))).length ≤ 1048576) := Nat.le_trans (oth_cnt HB.out hlt) (by omega)
      have HC2' : Hid ((dig (yN rs ps k)).length ≤ 1048576) := Nat.le_trans (cnt_word (by omega)) (by omega)
      have HC3' : Hid ((dig (sumN rs ps k)).length ≤ 1048576) := Nat.le_trans (sumN_cnt HB.out k hk) (by omega)
      have HC4' : Hid ((dig (prodN (oth ps k) * yN rs ps k)).length ≤ 1048576) := Nat.le_trans (part_cnt HB.out hlt) (by omega)
      have HF : Hid (∀ W u, Row W u (toI (dig (sumN rs ps k + prodN (oth ps k) * yN rs ps k))) → Row W u (toI (dig (sumN rs ps (k + 1))))) := fun W u h => h
      have HYE : Hid (rs.getD k 0 * ivN ps k % ps.getD k 0 = yN rs ps k) := rfl
      generalize prodN (oth ps k) = po at *
      generalize yN rs ps k = y at *
      generalize ivN ps k = iv at *
      generalize rs.getD k 0 = rk at *
      generalize ps.getD k 0 = p at *
      generalize sumN rs ps k = S1 at *
      obtain ⟨y0, hy0⟩ : ∃ y0, rk * iv = y0 := ⟨_, rfl⟩
      have hb2' : y0 ≤ 72057594037927936 := by rw [← hy0]; exact Nat.le_trans (Nat.mul_le_mul (show rk ≤ 268435456 by omega) hivl) (by decide)
      have t2 : IntKind.i64.wrap ((rk : Int) * (iv : Int)) = (y0 : Int) := by rw [← Int.natCast_mul, hy0, IntKind.wrap_i64]; omega
      have hye := HYE.out
      rw [hy0] at hye
      have t3 : Int.tmod (y0 : Int) (p : Int) = (y : Int) := by rw [Int.tmod_eq_emod_of_nonneg (by omega), ← hye]; rfl
      have hp0 : ¬ p = 0 := by omega
      have i1 : (k : Int) < (ps.length : Int) := by omega
      have HAS : Hid (∀ W', Old wr W' → W'.cell? ⟨b1, o1 + k, none⟩ = some (.int .i64 (rk : Int))) := fun W' g => (g.cell (p := ⟨b1, o1 + k, none⟩) (Nat.lt_of_lt_of_le hb1 HG.out.size)).trans c1
      clear HYE hy0 hye
      go_wp2_with fail
      go_region_held3 (fun W' => W'.cell? ⟨b1, o1 + k, none⟩ = some (.int .i64 (rk : Int))) (first | exact HAS.out _ G1.out | exact HAS.out _ (Below.drew (Old.refl wr)) | exact HAS.out _ (Old.refl wr) | fail) (first
        | (go_at_call 61; refine (civ _ (HU.out.old (Old.trans HG.out (Below.drew (Old.refl wr))))).mono ?_; rintro e w1 ⟨rfl, g1⟩; have G1 : Hid (Old wr w1) := Old.trans (Below.drew (Old.refl wr)) g1; clear g1)
        | fail)
      have HG1 : Hid (Old w w1) := Old.trans HG.out G1.out
      have HA1 : Hid (Row w1 (.slice a n c) (toI (dig S1))) := HA.out.old G1.out
      clear c1 c2 HAS t2 t3
      go_wp2_with fail
      refine (cpu _ (HU.out.old HG1.out)).mono ?_
      rintro e w2 ⟨v2, rfl, g2, r2⟩
      have HG2 : Hid (Old w w2) := Old.trans HG1.out g2
      have HA2 : Hid (Row w2 (.slice a n c) (toI (dig S1))) := HA1.out.old g2
      have HP2 : Hid (Row w2 v2 (toI (dig po))) := r2
      obtain ⟨a2, cap2', rfl⟩ := r2.slice
      clear g2 r2
      go_wp2_with fail
      refine (of_any y _ (by omega)).mono ?_
      rintro e w3 ⟨v3, rfl, g3, o3⟩
      have HG3 : Hid (Old w w3) := Old.trans HG2.out g3
      have HA3 : Hid (Row w3 (.slice a n c) (toI (dig S1))) := HA2.out.old g3
      have HP3 : Hid (Row w3 (.slice a2 (toI (dig po)).length cap2') (toI (dig po))) := HP2.out.old g3
      have HY3 : Hid (Row w3 v3 (toI (dig y))) := Own.row o3
      obtain ⟨a3, cap3, rfl⟩ := (Own.row o3).slice
      clear g3 o3
      go_wp2_with fail
      refine (mul_any (dig po) (dig y) _ _ _ HP3.out HY3.out (dig_lim po) (dig_lim y) HC1'.out HC2'.out).mono ?_
      rw [val_dig, val_dig]
      rintro e w4 ⟨v4, rfl, g4, o4⟩
      have HG4 : Hid (Old w w4) := Old.trans HG3.out g4
      have HA4 : Hid (Row w4 (.slice a n c) (toI (dig S1))) := HA3.out.old g4
      have HM4 : Hid (Row w4 v4 (toI (dig (po * y)))) := Own.row o4
      obtain ⟨a4, cap4, rfl⟩ := (Own.row o4).slice
      clear g4 o4
      go_wp2_with fail
      refine (add_any (dig S1) (dig (po * y)) _ _ _ HA4.out HM4.out (dig_lim S1) (dig_lim _) HC3'.out HC4'.out).mono ?_
      rw [val_dig, val_dig]
      rintro e w5 ⟨v5, rfl, g5, o5⟩
      have HG5 : Hid (Old w w5) := Old.trans HG4.out g5
      have HN5 : Hid (Row w5 v5 (toI (dig (S1 + po * y)))) := Own.row o5
      obtain ⟨a5, cap5, rfl⟩ := (Own.row o5).slice
      clear g5 o5
      go_wp2_with fail
      exact ⟨⟨k + 1, _, _, _, by omega, by go_num, rfl, HF.out _ _ HN5.out, HG5⟩, by simp [intOf]; omega⟩
    · have d1 : decide ((k : Int) < (ps.length : Int)) = false := by simp; omega
      obtain rfl : k = ps.length := by omega
      have HF : Hid (∀ W u, Row W u (toI (dig (sumN rs ps ps.length % prodN ps))) → Row W u (toI (dig (coN rs ps)))) := fun W u h => h
      generalize sumN rs ps ps.length = S1 at *
      generalize prodN ps = P at *
      go_wp2_with fail
      refine (cpr _ (HU.out.old HG.out)).mono ?_
      rintro e w2 ⟨v2, rfl, g2, r2⟩
      have HG2 : Hid (Old w w2) := Old.trans HG.out g2
      have HA2 : Hid (Row w2 (.slice a n c) (toI (dig S1))) := HA.out.old g2
      have HP2 : Hid (Row w2 v2 (toI (dig P))) := r2
      obtain ⟨a2, cap2', rfl⟩ := r2.slice
      clear g2 r2
      go_wp2_with fail
      refine (div_any (dig S1) (dig P) _ _ _ HA2.out HP2.out (dig_lim S1) HNR.out HNE.out HLS.out HLP.out).mono ?_
      rw [val_dig, val_dig]
      rintro e w3 ⟨v3, v4, rfl, g3, o3, o4⟩
      have HG3 : Hid (Old w w3) := Old.trans HG2.out g3
      have HN3 : Hid (Row w3 v4 (toI (dig (S1 % P)))) := Own.row o4
      obtain ⟨a3, cap3, rfl⟩ := (Own.row o3).slice
      obtain ⟨a4, cap4, rfl⟩ := (Own.row o4).slice
      clear g3 o3 o4
      go_wp2_with fail
      go_ret
      exact ⟨_, rfl, HG3.out, HF.out _ _ HN3.out⟩
end Go.Proofs.YtfcdfielbpdloaaDoor
/- Proved: contracts of the model's l4Centre and CentredWhole. -/
namespace Go.Proofs.YtfcdfielbpdloaaDoor
open Go.ChangeShapes Go.WideShapes Go.ChangeAt Go.RowKit
open M2
set_option linter.unusedVariables false
set_option linter.unusedSimpArgs false
theorem infoW2 : (Tryd.prog.info? 52).map (·.size) = some 2 := by kernel_rfl
theorem ret_w2 {fn : Func} {p : Tmp} (h : fn.results = #[.cell p 52]) (tmps : Array Value) (w : World) {g : Nat} {x y : Value} (hp : tmps.getD p undef = .pointer (some ⟨g, 0, none⟩)) (hs : StW w g x y 52) :
    (results fn tmps).run Tryd.prog w = .ok (.agg #[x, y]) w :=
  results_cell_row h tmps w g 52 #[x, y] (0, 0) _ hp hs Tryd.underlying52 rfl infoW2
theorem st_put {w : World} {k : Nat} {x y : Value} {t : TypeId} (h : StW w k x y t) (x' y' : Value) : StW ((w.setCell ⟨k, 0, none⟩ x').setCell ⟨k, 1, none⟩ y') k x' y' t := by
  have h1 := heap_setCell_same w k 0 _ _ x' h
  have h2 := heap_setCell_same _ k 1 _ _ y' h1
  exact h2
theorem val_two : val [2] = 2 := by decide
set_option maxRecDepth 100000 in
set_option maxHeartbeats 2000000 in
theorem centre_any (a q : Nat) (v u : Value) (w : World) (hv : Row w v (toI (dig a))) (hu : Row w u (toI (dig q))) (la : (dig a).length ≤ 1000) (lq : (dig q).length ≤ 1000) (l2 : (dig (a * 2)).length ≤ 1000) (hlt : a < q) :
    Calls Tryd.prog 21 #[v, u] w fun e w' => ∃ v', e = .returned (.agg #[.bool (decide (q ≤ a * 2)), v']) ∧ Old w w' ∧ Row w' v' (toI (dig (if a * 2 < q then a else q - a))) := by
  have HV : Hid (Row w v (toI (dig a))) := hv
  have HU : Hid (Row w u (toI (dig q))) := hu
  obtain ⟨va, vc, rfl⟩ := hv.slice
  obtain ⟨ua, uc, rfl⟩ := hu.slice
  have HS : Hid (StW ((w.alloc (.cells #[.bool false, .slice none 0 0] 52)).alloc (.cells #[.int .i64 2] 3)) w.heap.size (.bool false) (.slice none 0 0) 52) := (StW.new w _ _ _).old ((Old.refl _).alloc _)
  have HA : Hid (Old w ((w.alloc (.cells #[.bool false, .slice none 0 0] 52)).alloc (.cells #[.int .i64 2] 3))) := ((Old.refl w).alloc _).alloc _
  have HT : Hid (Row ((w.alloc (.cells #[.bool false, .slice none 0 0] 52)).alloc (.cells #[.int .i64 2] 3)) (.slice (some ⟨w.heap.size + 1, 0, none⟩) 1 1) (toI [2])) := by
    have := two_row (w.alloc (.cells #[.bool false, .slice none 0 0] 52)) 3
    simp at this
    exact this
  have cm := fun x W h1 h2 => mul_any (dig a) [2] x (.slice (some ⟨w.heap.size + 1, 0, none⟩) 1 1) W h1 h2 (dig_lim a) (Lim.cons (by decide) Lim.nil) (by omega) (by simp)
  rw [val_dig, val_two] at cm
  have cc := fun x y W h1 h2 => cmp_any (dig (a * 2)) (dig q) x y W h1 h2 (dig_nrm _) (dig_nrm _) (by omega) (by omega)
  rw [val_dig, val_dig] at cc
  have cs := fun x y W h1 h2 => sub_any (dig q) (dig a) x y W h1 h2 (dig_nrm _) (dig_nrm _) (by omega) (by omega) (by rw [val_dig, val_dig]; omega)
  rw [val_dig, val_dig] at cs
  clear hv hu la lq l2
  by_cases hc : a * 2 < q
  · have dz : decide (0 ≤ cmpN (a * 2) q) = false := decide_eq_false (by unfold cmpN; rw [if_pos hc]; decide)
    rw [if_pos hc, decide_eq_false (by omega)]
    generalize cmpN (a * 2) q = z at *
    clear hc hlt cs
    go_enter Tryd.func21, Tryd.ntmps21
    go_wp2_with fail
    refine (cm _ _ (HV.out.old HA.out) HT.out).mono ?_
    rintro e w1 ⟨v1, rfl, g1, o1⟩
    have S1 : Hid (StW w1 w.heap.size (.bool false) (.slice none 0 0) 52) := HS.out.old g1
    have HG1 : Hid (Old w w1) := Old.trans HA.out g1
    have HM1 : Hid (Row w1 v1 (toI (dig (a * 2)))) := Own.row o1
    obtain ⟨a1, cap1, rfl⟩ := (Own.row o1).slice
    clear g1 o1
    go_wp2_with fail
    refine (cc _ _ _ HM1.out (HU.out.old HG1.out)).mono ?_
    rintro e w2 ⟨rfl, g2⟩
    have S2 : Hid (StW w2 w.heap.size (.bool false) (.slice none 0 0) 52) := S1.out.old g2
    have HG2 : Hid (Old w w2) := Old.trans HG1.out g2
    have q0 := S2.out.c0
    have q1 := S2.out.c1
    have f0 := S2.out.f0
    have f1 := S2.out.f1
    clear g2
    go_wp2_with fail
    refine bodyPost_ret (ret_w2 Tryd.results21 _ _ rfl (st_put S2.out (.bool false) _)) rfl ⟨_, rfl, ?_, ?_⟩
    · exact (HG2.out.own (p := ⟨w.heap.size, 0, none⟩) (Nat.le_refl _) _).own (p := ⟨w.heap.size, 1, none⟩) (Nat.le_refl _) _
    · exact HV.out.old ((HG2.out.own (p := ⟨w.heap.size, 0, none⟩) (Nat.le_refl _) _).own (p := ⟨w.heap.size, 1, none⟩) (Nat.le_refl _) _)
  · have dz : decide (0 ≤ cmpN (a * 2) q) = true := decide_eq_true (by unfold cmpN; rw [if_neg hc]; split <;> decide)
    rw [if_neg hc, decide_eq_true (by omega)]
    generalize cmpN (a * 2) q = z at *
    generalize q - a = d at *
    clear hc hlt
    go_enter Tryd.func21, Tryd.ntmps21
    go_wp2_with fail
    refine (cm _ _ (HV.out.old HA.out) HT.out).mono ?_
    rintro e w1 ⟨v1, rfl, g1, o1⟩
    have S1 : Hid (StW w1 w.heap.size (.bool false) (.slice none 0 0) 52) := HS.out.old g1
    have HG1 : Hid (Old w w1) := Old.trans HA.out g1
    have HM1 : Hid (Row w1 v1 (toI (dig (a * 2)))) := Own.row o1
    obtain ⟨a1, cap1, rfl⟩ := (Own.row o1).slice
    clear g1 o1
    go_wp2_with fail
    refine (cc _ _ _ HM1.out (HU.out.old HG1.out)).mono ?_
    rintro e w2 ⟨rfl, g2⟩
    have S2 : Hid (StW w2 w.heap.size (.bool false) (.slice none 0 0) 52) := S1.out.old g2
    have HG2 : Hid (Old w w2) := Old.trans HG1.out g2
    clear g2
    go_wp2_with fail
    refine (cs _ _ _ (HU.out.old HG2.out) (HV.out.old HG2.out)).mono ?_
    rintro e w3 ⟨v3, rfl, g3, o3⟩
    have S3 : Hid (StW w3 w.heap.size (.bool false) (.slice none 0 0) 52) := S2.out.old g3
    have HG3 : Hid (Old w w3) := Old.trans HG2.out g3
    have HO3 : Hid (Own w3 w2.heap.size v3 (toI (dig d))) := o3
    have hs2 : w.heap.size < w2.heap.size := S2.out.lt
    obtain ⟨a3, cap3, rfl⟩ := (Own.row o3).slice
    have q0 := S3.out.c0
    have q1 := S3.out.c1
    have f0 := S3.out.f0
    have f1 := S3.out.f1
    clear g3 o3
    go_wp2_with fail
    refine bodyPost_ret (ret_w2 Tryd.results21 _ _ rfl (st_put S3.out (.bool true) _)) rfl ⟨_, rfl, ?_, ?_⟩
    · exact (HG3.out.own (p := ⟨w.heap.size, 0, none⟩) (Nat.le_refl _) _).own (p := ⟨w.heap.size, 1, none⟩) (Nat.le_refl _) _
    · refine Own.row (base := w2.heap.size) (ownsRow_setCell_other (ownsRow_setCell_other HO3.out (fun e => ?_) _) (fun e => ?_) _)
      · have := (HO3.out.lt w.heap.size e).1; omega
      · have := (HO3.out.lt w.heap.size e).1; omega
set_option maxRecDepth 100000 in
set_option maxHeartbeats 2000000 in
theorem spec_CentredWhole_no (rs xs : List Int) (v u : Value) (w : World) (hv : Row w v rs) (hu : Row w u xs) (hf : Fit u) (hl : xs.length ≤ 9223372036854775807) (hlr : rs.length ≤ 9223372036854775807) (hx : ∀ x ∈ xs, -9223372036854775808 ≤ x ∧ x ≤ 9223372036854775807) (h : ¬ (basB xs = true ∧ rsB rs xs = true)) :
    Calls Tryd.prog 5 #[v, u] w (Wh w false [] false) := by
  have c := fun W h1 h3 => l4Good_any rs xs v u W h1 h3 hf hl hlr hx
  have hB : (basB xs && rsB rs xs) = false := by
    cases h1 : basB xs <;> cases h2 : rsB rs xs <;> first | rfl | exact absurd ⟨h1, h2⟩ h
  rw [hB] at c
  have HV : Hid (Row w v rs) := hv
  have HU : Hid (Row w u xs) := hu
  have HS : Hid (StW (w.alloc (.cells #[.bool false, .slice none 0 0] 27)) w.heap.size (.bool false) (.slice none 0 0) 27) := StW.new w _ _ _
  have HA : Hid (Old w (w.alloc (.cells #[.bool false, .slice none 0 0] 27))) := (Old.refl w).alloc _
  obtain ⟨a0, c0, rfl⟩ := hv.slice
  obtain ⟨a1, c1, rfl⟩ := hu.slice
  clear hv hu hf h hB hx
  go_enter Tryd.func5, Tryd.ntmps5
  go_wp2_with fail
  refine (c _ (HV.out.old HA.out) (HU.out.old HA.out)).mono ?_
  rintro e w1 ⟨rfl, g1⟩
  have S1 : Hid (StW w1 w.heap.size (.bool false) (.slice none 0 0) 27) := HS.out.old g1
  have HG1 : Hid (Old w w1) := Old.trans HA.out g1
  have q0 := S1.out.c0
  have q1 := S1.out.c1
  have f0 := S1.out.f0
  have f1 := S1.out.f1
  clear g1
  go_wp2_with fail
  have MD : Made w false [] ((w1.setCell ⟨w.heap.size, 0, none⟩ (.bool false)).setCell ⟨w.heap.size, 1, none⟩ (.slice none 0 0)) w.heap.size none 0 := two_made (rb := false) (rl := []) (a := none) (cap := 0) (base := w.heap.size + 1) HG1.out (nil_own w1 _) S1.out (by omega) (Nat.le_refl _) (by omega)
  exact bodyPost_ret (ret_wb (x := .bool false) (y := .slice none 0 0) (z := .bool false) Tryd.results5 _ _ rfl rfl MD.st) rfl ⟨.slice none 0 0, rfl, MD.old, MD.own⟩
set_option maxRecDepth 100000 in
set_option maxHeartbeats 2000000 in
theorem spec_CentredWhole_yes (rs ps : List Nat) (v u : Value) (w : World) (hv : Row w v (toZ rs)) (hu : Row w u (toZ ps)) (hf : Fit u) (hR : Res rs ps) (h : basB (toZ ps) = true) (h2 : rsB (toZ rs) (toZ ps) = true) :
    Calls Tryd.prog 5 #[v, u] w (Wh w (decide (prodN ps ≤ coN rs ps * 2)) (dig (if coN rs ps * 2 < prodN ps then coN rs ps else prodN ps - coN rs ps)) true) := by
  have hb := hR.bas
  have hl6 := hb.len6
  have hln := hR.len
  have c := fun W h1 h3 => l4Good_any (toZ rs) (toZ ps) v u W h1 h3 hf (by rw [toZ_len]; omega) (by rw [toZ_len]; omega) (fun x hx => by
    obtain ⟨n, hn, rfl⟩ := List.mem_map.1 hx
    have := hb.hi n hn
    omega)
  rw [h, h2] at c
  have c2 := fun W h1 h3 => spec_compose rs ps v u W h1 h3 hR
  have c4 := fun W h3 => spec_product ps u W h3 hl6 hb.hi
  have hlt : coN rs ps < prodN ps := Nat.mod_lt _ (Nat.pos_of_ne_zero hb.pos)
  have hc2 : cnt (coN rs ps * 2) ≤ 8 := by
    refine cnt_le ?_
    have h1 := cnt_lt (coN rs ps)
    have h3 : LB ^ cnt (coN rs ps) ≤ LB ^ 7 := Nat.pow_le_pow_right LB_pos (coN_cnt hR)
    have h4 : LB ^ 8 = LB ^ 7 * LB := Nat.pow_succ ..
    have h5 : LB ^ 7 * 2 ≤ LB ^ 7 * LB := Nat.mul_le_mul_left _ (by decide)
    omega
  have c5 := fun x y W h1 h3 => centre_any (coN rs ps) (prodN ps) x y W h1 h3 (Nat.le_trans (coN_cnt hR) (by omega)) (Nat.le_trans hb.cnt (by omega)) (Nat.le_trans hc2 (by omega)) hlt
  have hcr : (dig (if coN rs ps * 2 < prodN ps then coN rs ps else prodN ps - coN rs ps)).length ≤ 40 := by
    split
    · exact Nat.le_trans (coN_cnt hR) (by omega)
    · exact Nat.le_trans (cnt_mono (Nat.sub_le _ _)) (Nat.le_trans hb.cnt (by omega))
  have c3 := fun n u W h4 => out_any n (dig (if coN rs ps * 2 < prodN ps then coN rs ps else prodN ps - coN rs ps)) u W h4 hcr
  have HV : Hid (Row w v (toZ rs)) := hv
  have HU : Hid (Row w u (toZ ps)) := hu
  obtain ⟨va, vc, rfl⟩ : ∃ a c, v = .slice a rs.length c := by have := hv.slice; rwa [toZ_len] at this
  obtain ⟨ua, uc, rfl⟩ : ∃ a c, u = .slice a ps.length c := by have := hu.slice; rwa [toZ_len] at this
  have HS : Hid (StW (w.alloc (.cells #[.bool false, .slice none 0 0] 27)) w.heap.size (.bool false) (.slice none 0 0) 27) := StW.new w _ _ _
  have HA : Hid (Old w (w.alloc (.cells #[.bool false, .slice none 0 0] 27))) := (Old.refl w).alloc _
  clear hv hu hf h h2 hb hR hlt hc2 hcr hln
  generalize (if coN rs ps * 2 < prodN ps then coN rs ps else prodN ps - coN rs ps) = r at *
  generalize decide (prodN ps ≤ coN rs ps * 2) = ng at *
  generalize coN rs ps = a at *
  generalize prodN ps = P at *
  go_enter Tryd.func5, Tryd.ntmps5
  go_wp2_with fail
  refine (c _ (HV.out.old HA.out) (HU.out.old HA.out)).mono ?_
  rintro e w1 ⟨rfl, g1⟩
  have S1 : Hid (StW w1 w.heap.size (.bool false) (.slice none 0 0) 27) := HS.out.old g1
  have HG1 : Hid (Old w w1) := Old.trans HA.out g1
  clear g1
  go_wp2_with fail
  refine (c2 _ (HV.out.old HG1.out) (HU.out.old HG1.out)).mono ?_
  rintro e w2 ⟨v2, rfl, g2, o2⟩
  obtain ⟨a2, cap2, rfl⟩ := o2.slice
  have S2 : Hid (StW w2 w.heap.size (.bool false) (.slice none 0 0) 27) := S1.out.old g2
  have HG2 : Hid (Old w w2) := Old.trans HG1.out g2
  have HR2 : Hid (Row w2 (.slice a2 (toI (dig a)).length cap2) (toI (dig a))) := o2
  clear g2 o2
  go_wp2_with fail
  refine (c4 _ (HU.out.old HG2.out)).mono ?_
  rintro e w4 ⟨v4, rfl, g4, o4⟩
  obtain ⟨a4, cap4, rfl⟩ := o4.slice
  have S4 : Hid (StW w4 w.heap.size (.bool false) (.slice none 0 0) 27) := S2.out.old g4
  have HG4 : Hid (Old w w4) := Old.trans HG2.out g4
  have HR4 : Hid (Row w4 (.slice a2 (toI (dig a)).length cap2) (toI (dig a))) := HR2.out.old g4
  have HP4 : Hid (Row w4 (.slice a4 (toI (dig P)).length cap4) (toI (dig P))) := o4
  clear g4 o4
  go_wp2_with fail
  refine (c5 _ _ _ HR4.out HP4.out).mono ?_
  rintro e w5 ⟨v5, rfl, g5, o5⟩
  obtain ⟨a5, cap5, rfl⟩ := o5.slice
  have S5 : Hid (StW w5 w.heap.size (.bool false) (.slice none 0 0) 27) := S4.out.old g5
  have HG5 : Hid (Old w w5) := Old.trans HG4.out g5
  have HR5 : Hid (Row w5 (.slice a5 (toI (dig r)).length cap5) (toI (dig r))) := o5
  clear g5 o5
  go_wp2_with fail
  refine (c3 _ _ _ HR5.out).mono ?_
  rintro e w3 ⟨v3, rfl, g3, o3⟩
  obtain ⟨a3, cap3, rfl⟩ := (Own.row o3).slice
  have S3 : Hid (StW w3 w.heap.size (.bool false) (.slice none 0 0) 27) := S5.out.old g3
  have HG3 : Hid (Old w w3) := Old.trans HG5.out g3
  have HO3 : Hid (Own w3 w5.heap.size (.slice a3 (toI (dig r)).length cap3) (toI (dig r))) := o3
  have hs2 : w.heap.size < w5.heap.size := S5.out.lt
  have q0 := S3.out.c0
  have q1 := S3.out.c1
  have f0 := S3.out.f0
  have f1 := S3.out.f1
  clear g3 o3
  go_wp2_with fail
  have MD := two_made (rb := ng) HG3.out HO3.out S3.out (Nat.le_of_lt hs2) (Nat.le_refl _) hs2
  exact bodyPost_ret (ret_wb Tryd.results5 _ _ rfl rfl MD.st) rfl ⟨_, rfl, MD.old, MD.own⟩
end Go.Proofs.YtfcdfielbpdloaaDoor
/- Proved: converted exactly, a number of at most half a product is itself: its residues. -/
namespace Go.Proofs.YtfcdfielbpdloaaDoor
open Go.ChangeShapes Go.WideShapes Go.ChangeAt Go.RowKit
open M2
set_option linter.unusedVariables false
set_option linter.unusedSimpArgs false
theorem pr_isP {p : Nat} (hp : isP p = true) (hb : p ≤ 268435456) : F1.Pr p := by
  have hn : p ≠ 268435456 := fun e => by
    subst e
    revert hp
    decide
  exact F1.pr_of_isP p hp (by omega)
theorem inv_ok {a p : Nat} (hp : F1.Pr p) (ha : ¬ p ∣ a) : a * M1.invM a p % p = 1 := by
  rcases inv_cases a p with ⟨_, h⟩ | ⟨_, h⟩
  · exfalso
    have hf := hp.fermat ha
    have h2 := hp.1
    refine h (a ^ (p - 2) % p) (Nat.mod_lt _ (by omega)) ?_
    rw [Nat.mul_mod, Nat.mod_mod, ← Nat.mul_mod, Nat.mul_comm, ← Nat.pow_succ]
    rw [show (p - 2).succ = p - 1 by omega]
    exact hf
  · exact h
theorem not_dvd_prod {p : Nat} (hp : F1.Pr p) : ∀ l : List Nat, (∀ q ∈ l, ¬ p ∣ q) → ¬ p ∣ prodN l := by
  intro l h hd
  have key : ∀ (l : List Nat) (x : Nat), (∀ q ∈ l, ¬ p ∣ q) → ¬ p ∣ x → ¬ p ∣ l.foldl (fun a p => a * p) x := by
    intro l
    induction l with
    | nil => intro x _ hx; exact hx
    | cons y l ih =>
      intro x hl hx
      refine ih (x * y) (fun q hq => hl q (List.mem_cons_of_mem _ hq)) (fun hxy => ?_)
      rcases hp.euclid hxy with h1 | h1
      · exact hx h1
      · exact hl y (List.mem_cons_self ..) h1
  refine key l 1 h (fun h1 => ?_) hd
  have := hp.1
  have := Nat.le_of_dvd (by omega) h1
  omega
theorem bas_prime {ps : List Nat} (h : basB (toZ ps) = true) (q : Nat) (hq : q ∈ ps) : F1.Pr q := by
  obtain ⟨k, hk, e⟩ := List.getElem_of_mem hq
  simp only [basB, Bool.and_eq_true] at h
  have h5 := of_decide_eq_true h.2 k (by rw [toZ_len]; exact hk) (Nat.zero_le _)
  simp only [gbAt, Bool.and_eq_true, pmB] at h5
  have e2 : (toZ ps).getD k 0 = ((q : Nat) : Int) := by simp [toZ, List.getD, hk, e]
  rw [e2] at h5
  obtain ⟨⟨h6, h7⟩, _⟩ := h5
  have hb := (modB_yes h6).2
  exact pr_isP (by simpa using h7) (by omega)
theorem ex_over {E A v : Nat} {S Q : Nat} {X : Int} (hE : F1.Pr E) (hQ : ¬ E ∣ Q) (hv : (S : Int) - (v : Int) * (Q : Int) = X) (hA : (A : Int) = X % (E : Int)) (hs : 2 * v < E) :
    cenM ((((S % E : Nat) : Int) - (A : Int)) * ((M1.invM (Q % E) E : Nat) : Int)) E = (v : Int) := by
  have hE2 := hE.1
  have hi := inv_ok (a := Q % E) hE (fun hd => hQ ((Nat.dvd_mod_iff (Nat.dvd_refl E)).1 hd))
  have h1 : ((Q : Int) * ((M1.invM (Q % E) E : Nat) : Int)) % (E : Int) = 1 := by
    have h2 : (((Q % E * M1.invM (Q % E) E % E : Nat)) : Int) = 1 := by rw [hi]; rfl
    rw [Int.natCast_emod, Int.natCast_mul, Int.natCast_emod, Int.mul_emod, Int.emod_emod, ← Int.mul_emod] at h2
    exact h2
  have h3 : ((((S % E : Nat) : Int) - (A : Int)) * ((M1.invM (Q % E) E : Nat) : Int)) % (E : Int) = (v : Int) := by
    have e1 : (((S % E : Nat) : Int) - (A : Int)) % (E : Int) = ((v : Int) * (Q : Int)) % (E : Int) := by
      rw [hA, Int.natCast_emod, Int.sub_emod, Int.emod_emod, Int.emod_emod, ← Int.sub_emod]
      congr 1
      omega
    rw [Int.mul_emod, e1, ← Int.mul_emod, Int.mul_assoc, Int.mul_emod, h1, Int.mul_one, Int.emod_emod]
    exact Int.emod_eq_of_lt (by omega) (by omega)
  unfold cenM
  rw [h3, if_neg (by omega)]
def cenX (rs ps : List Nat) : Int := if coN rs ps * 2 < prodN ps then (coN rs ps : Int) else -((prodN ps - coN rs ps : Nat) : Int)
theorem ex_exact {E A : Nat} {rs ps : List Nat} (hb : Bas ps) (hE : F1.Pr E) (h3 : E % 2 = 1) (hbp : basB (toZ ps) = true) (hne : E ∉ ps) (hA : (A : Int) = cenX rs ps % (E : Int)) (hs : 4 * ps.length + 4 < E) :
    ((sumN rs ps ps.length : Nat) : Int) + exO E A ps (yL rs ps) * ((prodN ps : Nat) : Int) = cenX rs ps := by
  have hQ : ¬ E ∣ prodN ps := not_dvd_prod hE ps (fun q hq hd => by
    rcases (bas_prime hbp q hq).2 E hd with h | h
    · have := hE.1
      omega
    · exact hne (h ▸ hq))
  have hq0 := prodN_posF hb
  obtain ⟨o1, _⟩ := over_lt (rs := rs) hb
  have hco := co_over (rs := rs) hb
  have hcl := Nat.mod_lt (sumN rs ps ps.length) hq0
  have hAE : A < E := by
    have := Int.emod_lt_of_pos (cenX rs ps) (show (0 : Int) < (E : Int) by have := hE.1; omega)
    omega
  have ho := ex_o E A rs ps h3 (by omega) hAE
  obtain ⟨v, hv1, hv2⟩ : ∃ v : Nat, v ≤ ps.length ∧ ((sumN rs ps ps.length : Nat) : Int) - (v : Int) * ((prodN ps : Nat) : Int) = cenX rs ps := by
    unfold cenX coN
    generalize sumN rs ps ps.length / prodN ps = o at *
    generalize sumN rs ps ps.length % prodN ps = c at *
    split
    · refine ⟨o, by omega, ?_⟩
      rw [← hco, Int.natCast_add, Int.natCast_mul]
      omega
    · refine ⟨o + 1, by omega, ?_⟩
      rw [← hco, Int.natCast_add, Int.natCast_mul, Int.natCast_add, Int.add_mul, Int.natCast_sub (by omega)]
      simp only [Int.natCast_one, Int.one_mul]
      omega
  rw [ex_over hE hQ hv2 hA (by omega)] at ho
  have e : exO E A ps (yL rs ps) = -(v : Int) := by omega
  rw [e, Int.neg_mul, ← hv2]
  omega
end Go.Proofs.YtfcdfielbpdloaaDoor
