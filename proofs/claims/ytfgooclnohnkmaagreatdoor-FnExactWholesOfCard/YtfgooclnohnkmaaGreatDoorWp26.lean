/- Proved: several texts in one: what each proves is said ahead of it. -/
import Derived.Test.YtfgooclnohnkmaaGreatDoorWp25
import Derived.Test.YtfgooclnohnkmaaGreatDoorWp09
import Derived.Test.YtfgooclnohnkmaaGreatDoorWp13
import Derived.Test.YtfgooclnohnkmaaGreatDoorWp16
import Derived.Test.YtfgooclnohnkmaaGreatDoorWp06
import Derived.Test.YtfgooclnohnkmaaGreatDoorBoth
import Derived.Test.YtfgooclnohnkmaaGreatDoorCards
import Derived.Test.YtfgooclnohnkmaaGreatDoorTie
import Derived.Deep.DeepHandedRow
import Derived.Lib.LaidTab
import Derived.Stop.LaidErr
import Derived.Lib.SmallJoins
/- Proved: contracts of the model's l5Of and RowsOf. -/
namespace Go.Proofs.YtfgooclnohnkmaaGreatDoor
open Go.ChangeShapes Go.WideShapes Go.ChangeAt Go.RowKit
open M2
set_option linter.unusedVariables false
set_option linter.unusedSimpArgs false
theorem Tryz.infoL2W : (Tryz.prog.info? 101).map (fun i => (i.zero, i.size, i.bytes)) = some (some (.agg #[.bool false, .slice none 0 0]), 2, 32) := by kernel_rfl
theorem two_newR (w : World) (x y : Value) (t : TypeId) {k : Nat} (hk : w.heap.size = k) (j : Nat) (u : Value) (h : [x, y][j]? = some u) : (w.alloc (.cells #[x, y] t)).cell? ((⟨k, 0, none⟩ : Addr).add j) = some u := by
  have hb : Bk (w.alloc (.cells #[x, y] t)) k #[x, y] t := Bk.new' w _ _ hk
  match j with
  | 0 =>
    simp at h
    subst h
    exact hb.c (i := 0) rfl
  | 1 =>
    simp at h
    subst h
    exact hb.c (i := 1) rfl
  | j + 2 => simp at h
/-- cells that are known, and own no block -/
def TC (cs0 : List Value) : Thing := fun W B cs => cs = cs0 ∧ ∀ b, ¬ B b
theorem TC.rowW {T : TypeId} {bs : List Bool} {xss : List (List Int)} {us : Nat → Value} {W : World} {lo hi : Nat} {v : Value} (hb : bs.length = xss.length) (hu : ∀ j, j < xss.length → Row W (us j) (xss.getD j [])) (h : Ows (TS T 2 xss.length (fun j => TC [.bool (bs.getD j false), us j])) W lo hi [v]) : RowW W v bs xss := by
  obtain ⟨_, B, hT, _⟩ := h
  refine ⟨hb, ?_⟩
  rcases hT with ⟨h0, h1, _⟩ | ⟨p, cap, vs, Bs, e, hc, _⟩
  · simp at h1
    exact .inl ⟨none, 0, h1, List.length_eq_zero_iff.1 h0⟩
  · simp at e
    subst e
    rcases Nat.eq_zero_or_pos xss.length with h0 | h0
    · rw [h0]
      exact .inl ⟨_, _, rfl, List.length_eq_zero_iff.1 h0⟩
    · refine .inr ⟨p, 0, cap, us, rfl, ownsRow_lt hc.row, h0, fun j hj => ?_⟩
      have e1 := (hc.el j hj).1
      have c0 := hc.cell j 0 hj (by omega)
      have c1 := hc.cell j 1 hj (by omega)
      rw [e1] at c0 c1
      rw [Nat.zero_add]
      exact ⟨c0, c1, hu j hj⟩
end Go.Proofs.YtfgooclnohnkmaaGreatDoor
/- Proved: contracts of the model's l4Centre and CentredWhole. -/
namespace Go.Proofs.YtfgooclnohnkmaaGreatDoor
open Go.ChangeShapes Go.WideShapes Go.ChangeAt Go.RowKit
open M2
set_option linter.unusedVariables false
set_option linter.unusedSimpArgs false
theorem infoW2 : (Tryz.prog.info? 101).map (·.size) = some 2 := by kernel_rfl
theorem ret_w2 {fn : Func} {p : Tmp} (h : fn.results = #[.cell p 101]) (tmps : Array Value) (w : World) {g : Nat} {x y : Value} (hp : tmps.getD p undef = .pointer (some ⟨g, 0, none⟩)) (hs : StW w g x y 101) :
    (results fn tmps).run Tryz.prog w = .ok (.agg #[x, y]) w :=
  results_cell_row h tmps w g 101 #[x, y] (0, 0) _ hp hs Tryz.underlying101 rfl infoW2
theorem st_put {w : World} {k : Nat} {x y : Value} {t : TypeId} (h : StW w k x y t) (x' y' : Value) : StW ((w.setCell ⟨k, 0, none⟩ x').setCell ⟨k, 1, none⟩ y') k x' y' t := by
  have h1 := heap_setCell_same w k 0 _ _ x' h
  have h2 := heap_setCell_same _ k 1 _ _ y' h1
  exact h2
theorem val_two : val [2] = 2 := by decide
end Go.Proofs.YtfgooclnohnkmaaGreatDoor
/- Proved: l4Compose and l4Centre of the model: what they tell lies in memory of its own. -/
namespace Go.Proofs.YtfgooclnohnkmaaGreatDoor
open Go.ChangeShapes Go.WideShapes Go.ChangeAt Go.RowKit
open M2
set_option linter.unusedVariables false
set_option linter.unusedSimpArgs false
set_option maxRecDepth 100000 in
set_option maxHeartbeats 8000000 in
theorem spec_composeO (rs ps : List Nat) (v u : Value) (w : World) (hv : Row w v (toZ rs)) (hu : Row w u (toZ ps)) (h : Res rs ps) :
    Calls Tryz.prog 60 #[v, u] w fun e w' => ∃ v', e = .returned v' ∧ Old w w' ∧ Own w' w.heap.size v' (toI (dig (coN rs ps))) := by
  have hb := h.bas
  have hrl := h.len
  have hl6 := hb.len6
  have hl1 := hb.len1
  have HU : Hid (Row w u (toZ ps)) := hu
  obtain ⟨b1, o1, cap1, rfl, hb1, hc1⟩ := hv.atZ (by omega)
  obtain ⟨b2, o2, cap2, rfl, hb2, hc2⟩ := hu.atZ (by omega)
  rw [hrl] at hc1 ⊢
  have HC1 : Hid (∀ j, j < ps.length → w.cell? ⟨b1, o1 + j, none⟩ = some (.int .i64 ((rs.getD j 0 : Nat) : Int))) := hc1
  have HC2 : Hid (∀ j, j < ps.length → w.cell? ⟨b2, o2 + j, none⟩ = some (.int .i64 ((ps.getD j 0 : Nat) : Int))) := hc2
  have HB : Hid (Bas ps) := hb
  have HR : Hid (∀ i, i < ps.length → rs.getD i 0 < ps.getD i 0) := h.lt
  have HS0 : Hid (sumN rs ps 0 = 0) := rfl
  have cpr := fun W h3 => spec_product ps (.slice (some ⟨b2, o2, none⟩) ps.length cap2) W h3 hl6 hb.hi
  have HNR : Hid (Nrm (dig (prodN ps))) := dig_nrm _
  have HNE : Hid (dig (prodN ps) ≠ []) := fun e => by
    have h1 := cnt_pos hb.pos
    unfold cnt at h1
    rw [e] at h1
    simp at h1
  have HLP : Hid ((dig (prodN ps)).length ≤ 1048000) := Nat.le_trans hb.cnt (by omega)
  have HLS : Hid ((dig (sumN rs ps ps.length)).length ≤ 1048576) := Nat.le_trans (sumN_cnt hb _ (Nat.le_refl _)) (by omega)
  have HE : Hid (sumN rs ps ps.length % prodN ps = coN rs ps) := rfl
  clear hv hu hc1 hc2 hb h hrl
  go_enter Tryz.func60, Tryz.ntmps60
  go_wp2_with fail
  go_loopw [5, 13] (fun x j W => ∃ (k : Nat) (a : Option Addr) (n c : Nat), k ≤ ps.length ∧ j = .int .i64 k ∧ x = .slice a n c ∧ Hid (Row W (.slice a n c) (toI (dig (sumN rs ps k)))) ∧ Hid (Old w W)) (fun _ j _ => ps.length - (intOf j).toNat)
  case atStart => exact ⟨0, _, _, _, by omega, rfl, rfl, (by show Row _ _ _; rw [HS0.out, dig_zero]; exact Or.inl ⟨none, 0, rfl, rfl⟩), Old.refl _⟩
  case round =>
    obtain ⟨k, a, n, c, hk, rfl, rfl, HA, HG⟩ := hrel
    by_cases hlt : k < ps.length
    · have d1 : decide ((k : Int) < (ps.length : Int)) = true := by simp; omega
      have c1 : wr.cell? ⟨b1, o1 + k, none⟩ = some (.int .i64 ((rs.getD k 0 : Nat) : Int)) := (HG.out.cell (p := ⟨b1, o1 + k, none⟩) hb1).trans (HC1.out k hlt)
      have c2 : wr.cell? ⟨b2, o2 + k, none⟩ = some (.int .i64 ((ps.getD k 0 : Nat) : Int)) := (HG.out.cell (p := ⟨b2, o2 + k, none⟩) hb2).trans (HC2.out k hlt)
      have civ := fun W h3 => spec_inverse ps (.slice (some ⟨b2, o2, none⟩) ps.length cap2) k W h3 hlt (by omega) HB.out.lo HB.out.hi
      have hyl := yN_lt (rs := rs) HB.out hlt
      have hivl : ivN ps k ≤ 268435456 := by
        have : ivN ps k < ps.getD k 0 := by
          have hm : ps.getD k 0 ∈ ps := by simp [List.getD, hlt]
          have h2 := HB.out.lo _ hm
          unfold ivN
          exact invM_lt _ _ (by omega)
        omega
      have hrk := HR.out k hlt
      have cpu := fun W h3 => spec_punct ps (.slice (some ⟨b2, o2, none⟩) ps.length cap2) k W h3 HB.out hlt
      have HC1' : Hid ((dig (prodN (oth ps k))).length ≤ 1048576) := Nat.le_trans (oth_cnt HB.out hlt) (by omega)
      have HC2' : Hid ((dig (yN rs ps k)).length ≤ 1048576) := Nat.le_trans (cnt_word (by omega)) (by omega)
      have HC3' : Hid ((dig (sumN rs ps k)).length ≤ 1048576) := Nat.le_trans (sumN_cnt HB.out k hk) (by omega)
      have HC4' : Hid ((dig (prodN (oth ps k) * yN rs ps k)).length ≤ 1048576) := Nat.le_trans (part_cnt HB.out hlt) (by omega)
      have HF : Hid (∀ W u, Row W u (toI (dig (sumN rs ps k + prodN (oth ps k) * yN rs ps k))) → Row W u (toI (dig (sumN rs ps (k + 1))))) := fun W u h => h
      have HYE : Hid (rs.getD k 0 * ivN ps k % ps.getD k 0 = yN rs ps k) := rfl
      generalize prodN (oth ps k) = po at *
      generalize yN rs ps k = y at *
      generalize ivN ps k = iv at *
      generalize rs.getD k 0 = rk at *
      generalize ps.getD k 0 = p at *
      generalize sumN rs ps k = S1 at *
      obtain ⟨y0, hy0⟩ : ∃ y0, rk * iv = y0 := ⟨_, rfl⟩
      have hb2' : y0 ≤ 72057594037927936 := by rw [← hy0]; exact Nat.le_trans (Nat.mul_le_mul (show rk ≤ 268435456 by omega) hivl) (by decide)
      have t2 : IntKind.i64.wrap ((rk : Int) * (iv : Int)) = (y0 : Int) := by rw [← Int.natCast_mul, hy0, IntKind.wrap_i64]; omega
      have hye := HYE.out
      rw [hy0] at hye
      have t3 : Int.tmod (y0 : Int) (p : Int) = (y : Int) := by rw [Int.tmod_eq_emod_of_nonneg (by omega), ← hye]; rfl
      have hp0 : ¬ p = 0 := by omega
      have i1 : (k : Int) < (ps.length : Int) := by omega
      have HAS : Hid (∀ W', Old wr W' → W'.cell? ⟨b1, o1 + k, none⟩ = some (.int .i64 (rk : Int))) := fun W' g => (g.cell (p := ⟨b1, o1 + k, none⟩) (Nat.lt_of_lt_of_le hb1 HG.out.size)).trans c1
      clear HYE hy0 hye
      go_wp2_with fail
      go_region_held3 (fun W' => W'.cell? ⟨b1, o1 + k, none⟩ = some (.int .i64 (rk : Int))) (first | exact HAS.out _ G1.out | exact HAS.out _ (Below.drew (Old.refl wr)) | exact HAS.out _ (Old.refl wr) | fail) (first
        | (go_at_call 122; refine (civ _ (HU.out.old (Old.trans HG.out (Below.drew (Old.refl wr))))).mono ?_; rintro e w1 ⟨rfl, g1⟩; have G1 : Hid (Old wr w1) := Old.trans (Below.drew (Old.refl wr)) g1; clear g1)
        | fail)
      have HG1 : Hid (Old w w1) := Old.trans HG.out G1.out
      have HA1 : Hid (Row w1 (.slice a n c) (toI (dig S1))) := HA.out.old G1.out
      clear c1 c2 HAS t2 t3
      go_wp2_with fail
      refine (cpu _ (HU.out.old HG1.out)).mono ?_
      rintro e w2 ⟨v2, rfl, g2, r2⟩
      have HG2 : Hid (Old w w2) := Old.trans HG1.out g2
      have HA2 : Hid (Row w2 (.slice a n c) (toI (dig S1))) := HA1.out.old g2
      have HP2 : Hid (Row w2 v2 (toI (dig po))) := r2
      obtain ⟨a2, cap2', rfl⟩ := r2.slice
      clear g2 r2
      go_wp2_with fail
      refine (of_any y _ (by omega)).mono ?_
      rintro e w3 ⟨v3, rfl, g3, o3⟩
      have HG3 : Hid (Old w w3) := Old.trans HG2.out g3
      have HA3 : Hid (Row w3 (.slice a n c) (toI (dig S1))) := HA2.out.old g3
      have HP3 : Hid (Row w3 (.slice a2 (toI (dig po)).length cap2') (toI (dig po))) := HP2.out.old g3
      have HY3 : Hid (Row w3 v3 (toI (dig y))) := Own.row o3
      obtain ⟨a3, cap3, rfl⟩ := (Own.row o3).slice
      clear g3 o3
      go_wp2_with fail
      refine (mul_any (dig po) (dig y) _ _ _ HP3.out HY3.out (dig_lim po) (dig_lim y) HC1'.out HC2'.out).mono ?_
      rw [val_dig, val_dig]
      rintro e w4 ⟨v4, rfl, g4, o4⟩
      have HG4 : Hid (Old w w4) := Old.trans HG3.out g4
      have HA4 : Hid (Row w4 (.slice a n c) (toI (dig S1))) := HA3.out.old g4
      have HM4 : Hid (Row w4 v4 (toI (dig (po * y)))) := Own.row o4
      obtain ⟨a4, cap4, rfl⟩ := (Own.row o4).slice
      clear g4 o4
      go_wp2_with fail
      refine (add_any (dig S1) (dig (po * y)) _ _ _ HA4.out HM4.out (dig_lim S1) (dig_lim _) HC3'.out HC4'.out).mono ?_
      rw [val_dig, val_dig]
      rintro e w5 ⟨v5, rfl, g5, o5⟩
      have HG5 : Hid (Old w w5) := Old.trans HG4.out g5
      have HN5 : Hid (Row w5 v5 (toI (dig (S1 + po * y)))) := Own.row o5
      obtain ⟨a5, cap5, rfl⟩ := (Own.row o5).slice
      clear g5 o5
      go_wp2_with fail
      exact ⟨⟨k + 1, _, _, _, by omega, by go_num, rfl, HF.out _ _ HN5.out, HG5⟩, by simp [intOf]; omega⟩
    · have d1 : decide ((k : Int) < (ps.length : Int)) = false := by simp; omega
      obtain rfl : k = ps.length := by omega
      have HF : Hid (∀ W u, Own W w.heap.size u (toI (dig (sumN rs ps ps.length % prodN ps))) → Own W w.heap.size u (toI (dig (coN rs ps)))) := fun W u h => h
      generalize sumN rs ps ps.length = S1 at *
      generalize prodN ps = P at *
      go_wp2_with fail
      refine (cpr _ (HU.out.old HG.out)).mono ?_
      rintro e w2 ⟨v2, rfl, g2, r2⟩
      have HG2 : Hid (Old w w2) := Old.trans HG.out g2
      have HA2 : Hid (Row w2 (.slice a n c) (toI (dig S1))) := HA.out.old g2
      have HP2 : Hid (Row w2 v2 (toI (dig P))) := r2
      obtain ⟨a2, cap2', rfl⟩ := r2.slice
      clear g2 r2
      go_wp2_with fail
      refine (div_any (dig S1) (dig P) _ _ _ HA2.out HP2.out (dig_lim S1) HNR.out HNE.out HLS.out HLP.out).mono ?_
      rw [val_dig, val_dig]
      rintro e w3 ⟨v3, v4, rfl, g3, o3, o4⟩
      have HG3 : Hid (Old w w3) := Old.trans HG2.out g3
      have HN3 : Hid (Own w3 w.heap.size v4 (toI (dig (S1 % P)))) := o4.low HG2.out.size
      obtain ⟨a3, cap3, rfl⟩ := (Own.row o3).slice
      obtain ⟨a4, cap4, rfl⟩ := (Own.row o4).slice
      clear g3 o3 o4
      go_wp2_with fail
      go_ret
      exact ⟨_, rfl, HG3.out, HF.out _ _ HN3.out⟩
set_option maxRecDepth 100000 in
set_option maxHeartbeats 2000000 in
theorem centre_anyO (a q base : Nat) (v u : Value) (w : World) (hvo : Own w base v (toI (dig a))) (hbase : base ≤ w.heap.size) (hu : Row w u (toI (dig q))) (la : (dig a).length ≤ 1000) (lq : (dig q).length ≤ 1000) (l2 : (dig (a * 2)).length ≤ 1000) (hlt : a < q) :
    Calls Tryz.prog 153 #[v, u] w fun e w' => ∃ v', e = .returned (.agg #[.bool (decide (q ≤ a * 2)), v']) ∧ Old w w' ∧ Own w' base v' (toI (dig (if a * 2 < q then a else q - a))) := by
  have hv := Own.row hvo
  have HV : Hid (Row w v (toI (dig a))) := hv
  have HVO : Hid (Own w base v (toI (dig a))) := hvo
  have HU : Hid (Row w u (toI (dig q))) := hu
  obtain ⟨va, vc, rfl⟩ := hv.slice
  obtain ⟨ua, uc, rfl⟩ := hu.slice
  have HS : Hid (StW ((w.alloc (.cells #[.bool false, .slice none 0 0] 101)).alloc (.cells #[.int .i64 2] 3)) w.heap.size (.bool false) (.slice none 0 0) 101) := (StW.new w _ _ _).old ((Old.refl _).alloc _)
  have HA : Hid (Old w ((w.alloc (.cells #[.bool false, .slice none 0 0] 101)).alloc (.cells #[.int .i64 2] 3))) := ((Old.refl w).alloc _).alloc _
  have HT : Hid (Row ((w.alloc (.cells #[.bool false, .slice none 0 0] 101)).alloc (.cells #[.int .i64 2] 3)) (.slice (some ⟨w.heap.size + 1, 0, none⟩) 1 1) (toI [2])) := by
    have := two_row (w.alloc (.cells #[.bool false, .slice none 0 0] 101)) 3
    simp at this
    exact this
  have cm := fun x W h1 h2 => mul_any (dig a) [2] x (.slice (some ⟨w.heap.size + 1, 0, none⟩) 1 1) W h1 h2 (dig_lim a) (Lim.cons (by decide) Lim.nil) (by omega) (by simp)
  rw [val_dig, val_two] at cm
  have cc := fun x y W h1 h2 => cmp_any (dig (a * 2)) (dig q) x y W h1 h2 (dig_nrm _) (dig_nrm _) (by omega) (by omega)
  rw [val_dig, val_dig] at cc
  have cs := fun x y W h1 h2 => sub_any (dig q) (dig a) x y W h1 h2 (dig_nrm _) (dig_nrm _) (by omega) (by omega) (by rw [val_dig, val_dig]; omega)
  rw [val_dig, val_dig] at cs
  clear hv hu la lq l2 hvo
  by_cases hc : a * 2 < q
  · have dz : decide (0 ≤ cmpN (a * 2) q) = false := decide_eq_false (by unfold cmpN; rw [if_pos hc]; decide)
    rw [if_pos hc, decide_eq_false (by omega)]
    generalize cmpN (a * 2) q = z at *
    clear hc hlt cs
    go_enter Tryz.func153, Tryz.ntmps153
    go_wp2_with fail
    refine (cm _ _ (HV.out.old HA.out) HT.out).mono ?_
    rintro e w1 ⟨v1, rfl, g1, o1⟩
    have S1 : Hid (StW w1 w.heap.size (.bool false) (.slice none 0 0) 101) := HS.out.old g1
    have HG1 : Hid (Old w w1) := Old.trans HA.out g1
    have HM1 : Hid (Row w1 v1 (toI (dig (a * 2)))) := Own.row o1
    obtain ⟨a1, cap1, rfl⟩ := (Own.row o1).slice
    clear g1 o1
    go_wp2_with fail
    refine (cc _ _ _ HM1.out (HU.out.old HG1.out)).mono ?_
    rintro e w2 ⟨rfl, g2⟩
    have S2 : Hid (StW w2 w.heap.size (.bool false) (.slice none 0 0) 101) := S1.out.old g2
    have HG2 : Hid (Old w w2) := Old.trans HG1.out g2
    have q0 := S2.out.c0
    have q1 := S2.out.c1
    have f0 := S2.out.f0
    have f1 := S2.out.f1
    clear g2
    go_wp2_with fail
    refine bodyPost_ret (ret_w2 Tryz.results153 _ _ rfl (st_put S2.out (.bool false) _)) rfl ⟨_, rfl, ?_, ?_⟩
    · exact (HG2.out.own (p := ⟨w.heap.size, 0, none⟩) (Nat.le_refl _) _).own (p := ⟨w.heap.size, 1, none⟩) (Nat.le_refl _) _
    · exact HVO.out.old ((HG2.out.own (p := ⟨w.heap.size, 0, none⟩) (Nat.le_refl _) _).own (p := ⟨w.heap.size, 1, none⟩) (Nat.le_refl _) _)
  · have dz : decide (0 ≤ cmpN (a * 2) q) = true := decide_eq_true (by unfold cmpN; rw [if_neg hc]; split <;> decide)
    rw [if_neg hc, decide_eq_true (by omega)]
    generalize cmpN (a * 2) q = z at *
    generalize q - a = d at *
    clear hc hlt
    go_enter Tryz.func153, Tryz.ntmps153
    go_wp2_with fail
    refine (cm _ _ (HV.out.old HA.out) HT.out).mono ?_
    rintro e w1 ⟨v1, rfl, g1, o1⟩
    have S1 : Hid (StW w1 w.heap.size (.bool false) (.slice none 0 0) 101) := HS.out.old g1
    have HG1 : Hid (Old w w1) := Old.trans HA.out g1
    have HM1 : Hid (Row w1 v1 (toI (dig (a * 2)))) := Own.row o1
    obtain ⟨a1, cap1, rfl⟩ := (Own.row o1).slice
    clear g1 o1
    go_wp2_with fail
    refine (cc _ _ _ HM1.out (HU.out.old HG1.out)).mono ?_
    rintro e w2 ⟨rfl, g2⟩
    have S2 : Hid (StW w2 w.heap.size (.bool false) (.slice none 0 0) 101) := S1.out.old g2
    have HG2 : Hid (Old w w2) := Old.trans HG1.out g2
    clear g2
    go_wp2_with fail
    refine (cs _ _ _ (HU.out.old HG2.out) (HV.out.old HG2.out)).mono ?_
    rintro e w3 ⟨v3, rfl, g3, o3⟩
    have S3 : Hid (StW w3 w.heap.size (.bool false) (.slice none 0 0) 101) := S2.out.old g3
    have HG3 : Hid (Old w w3) := Old.trans HG2.out g3
    have HO3 : Hid (Own w3 w2.heap.size v3 (toI (dig d))) := o3
    have hs2 : w.heap.size < w2.heap.size := S2.out.lt
    obtain ⟨a3, cap3, rfl⟩ := (Own.row o3).slice
    have q0 := S3.out.c0
    have q1 := S3.out.c1
    have f0 := S3.out.f0
    have f1 := S3.out.f1
    clear g3 o3
    go_wp2_with fail
    refine bodyPost_ret (ret_w2 Tryz.results153 _ _ rfl (st_put S3.out (.bool true) _)) rfl ⟨_, rfl, ?_, ?_⟩
    · exact (HG3.out.own (p := ⟨w.heap.size, 0, none⟩) (Nat.le_refl _) _).own (p := ⟨w.heap.size, 1, none⟩) (Nat.le_refl _) _
    · refine Own.low (base := w2.heap.size) (base' := base) (ownsRow_setCell_other (ownsRow_setCell_other HO3.out (fun e => ?_) _) (fun e => ?_) _) (by omega)
      · have := (HO3.out.lt w.heap.size e).1; omega
      · have := (HO3.out.lt w.heap.size e).1; omega
end Go.Proofs.YtfgooclnohnkmaaGreatDoor
/- Proved: contracts of the model's l5Wholes and WholesOf. -/
namespace Go.Proofs.YtfgooclnohnkmaaGreatDoor
open Go.ChangeShapes Go.WideShapes Go.ChangeAt Go.RowKit
open M2
set_option linter.unusedVariables false
set_option linter.unusedSimpArgs false
theorem TSW.rowW {T : TypeId} {bs : List Bool} {xss : List (List Int)} {W : World} {B : Nat → Prop} {v : Value} (hb : bs.length = xss.length) (h : TS T 2 xss.length (elW bs xss) W B [v]) : RowW W v bs xss := by
  refine ⟨hb, ?_⟩
  rcases h with ⟨h0, h1, _⟩ | ⟨p, cap, vs, Bs, e, hc, _⟩
  · simp at h1
    exact .inl ⟨none, 0, h1, List.length_eq_zero_iff.1 h0⟩
  · simp at e
    subst e
    rcases Nat.eq_zero_or_pos xss.length with h0 | h0
    · rw [h0]
      exact .inl ⟨_, _, rfl, List.length_eq_zero_iff.1 h0⟩
    · refine .inr ⟨p, 0, cap, fun j => (cellsJ 2 vs j).getD 1 (.slice none 0 0), rfl, ownsRow_lt hc.row, h0, fun j hj => ?_⟩
      obtain ⟨x, e0, e1, hE⟩ := TB.two (hc.el j hj)
      have c0 := hc.cell j 0 hj (by omega)
      have c1 := hc.cell j 1 hj (by omega)
      have ex : (cellsJ 2 vs j).getD 1 (.slice none 0 0) = x := by simp [List.getD, e1]
      show W.cell? ⟨p, 0 + j * 2, none⟩ = _ ∧ W.cell? ⟨p, 0 + j * 2 + 1, none⟩ = some ((cellsJ 2 vs j).getD 1 (.slice none 0 0)) ∧ Row W ((cellsJ 2 vs j).getD 1 (.slice none 0 0)) _
      rw [ex, Nat.zero_add]
      exact ⟨c0.trans e0, c1.trans e1, hE.row⟩
set_option maxRecDepth 100000 in
set_option maxHeartbeats 1000000 in
theorem spec_l5Wholes (Nn : Nat) (ps : List Int) (zss : List (List Int)) (v u : Value) (w : World) (hv : Row w v ps) (h1 : RowS w u zss) (hN : 1 ≤ Nn ∧ Nn ≤ 16) (hps : 1 ≤ ps.length ∧ ps.length ≤ 6) (hG : Gr Nn ps zss) :
    Calls Tryz.prog 84 #[.agg #[.int .i64 Nn, v], u] w fun e w' => ∃ v', e = .returned v' ∧ Old w w' ∧ RowW w' v' (whB Nn ps zss) (whX Nn ps zss) := by
  obtain ⟨i0, hi, hz0, hz1, hz2⟩ := info_parts Tryz.infoInt
  obtain ⟨j0, ji, jz0, jz1, jz2⟩ := info_parts Tryz.infoL2W
  obtain ⟨ep, hb⟩ := hG.ps
  have hzl : zss.length = ps.length := hG.len
  obtain ⟨a0, c0, ev⟩ := hv.slice
  obtain ⟨a1, cap1, e1⟩ := h1.slice
  rw [hzl] at e1
  subst ev e1
  obtain ⟨pz, hpz⟩ : ∃ pz, pz = toI (dig (prodN (pnN ps))) := ⟨_, rfl⟩
  obtain ⟨cz, hcz⟩ : ∃ cz : Nat → List Int, ∀ i, cz i = toI (dig (coN (cqN zss i) (pnN ps))) := ⟨_, fun i => rfl⟩
  have HPR : Hid (∀ W, Old w W → Calls Tryz.prog 69 #[.slice a0 ps.length c0] W fun e w' => ∃ v', e = .returned v' ∧ Old W w' ∧ Row w' v' pz) := fun W g => by rw [hpz]; exact spec_product (pnN ps) _ W (by rw [← ep]; exact hv.old g) hb.len6 hb.hi
  have HCP : Hid (∀ i, i < Nn → ∀ W v', Old w W → Row W v' (colZ zss i) → Calls Tryz.prog 60 #[v', .slice a0 ps.length c0] W fun e w' => ∃ v2, e = .returned v2 ∧ Old W w' ∧ Own w' W.heap.size v2 (cz i)) := fun i hi W v' g hr => by
    obtain ⟨e1, hR⟩ := hG.col i hi
    rw [hcz i]
    exact spec_composeO (cqN zss i) (pnN ps) v' _ W (by rw [← e1]; exact hr) (by rw [← ep]; exact hv.old g) hR
  have HCT : Hid (∀ i, i < Nn → ∀ W x y base, Own W base x (cz i) → base ≤ W.heap.size → Row W y pz → Calls Tryz.prog 153 #[x, y] W fun e w' => ∃ v3, e = .returned (.agg #[.bool ((whB Nn ps zss).getD i false), v3]) ∧ Old W w' ∧ Own w' base v3 ((whX Nn ps zss).getD i [])) := fun i hi W x y base hx hbase hy => by
    obtain ⟨e1, hR⟩ := hG.col i hi
    rw [whB_get Nn ps zss i hi, whX_get Nn ps zss i hi]
    rw [hcz i] at hx
    rw [hpz] at hy
    have hc2 : cnt (coN (cqN zss i) (pnN ps) * 2) ≤ 8 := by
      refine cnt_le ?_
      have h1 := cnt_lt (coN (cqN zss i) (pnN ps))
      have h3 : LB ^ cnt (coN (cqN zss i) (pnN ps)) ≤ LB ^ 7 := Nat.pow_le_pow_right LB_pos (coN_cnt hR)
      have h4 : LB ^ 8 = LB ^ 7 * LB := Nat.pow_succ ..
      have h5 : LB ^ 7 * 2 ≤ LB ^ 7 * LB := Nat.mul_le_mul_left _ (by decide)
      omega
    exact centre_anyO (coN (cqN zss i) (pnN ps)) (prodN (pnN ps)) base x y W hx hbase hy (Nat.le_trans (coN_cnt hR) (by omega)) (Nat.le_trans hb.cnt (by omega)) (Nat.le_trans hc2 (by omega)) (Nat.mod_lt _ (Nat.pos_of_ne_zero hb.pos))
  have HRL : Hid (∀ j, j < ps.length → (zss.getD j []).length = Nn) := fun j hj => (hG.row j hj).1
  have HCG : Hid (∀ i j, j < ps.length → (colZ zss i).getD j 0 = (zss.getD j []).getD i 0) := fun i j hj => colZ_get zss i j (by omega)
  have HCL : Hid (∀ i, (colZ zss i).length = ps.length) := fun i => by rw [colZ_len, hzl]
  have HBL : (whB Nn ps zss).length = (whX Nn ps zss).length := by rw [whB_len, whX_len]
  have HXL : Hid ((whX Nn ps zss).length = Nn) := whX_len Nn ps zss
  rcases h1 with ⟨a, cap, e, e'⟩ | ⟨b1, o1, cap, us1, e_1, hb1, h01, hc1⟩
  · subst e'
    simp at hzl
    omega
  simp only [Value.slice.injEq] at e_1
  obtain ⟨rfl, hle1, rfl⟩ := e_1
  clear hle1
  have HC1 : Hid (∀ j, j < ps.length → w.cell? ⟨b1, o1 + j, none⟩ = some (us1 j) ∧ Row w (us1 j) (zss.getD j [])) := fun j hj => hc1 j (by omega)
  have HAO : Hid (Old w (w.alloc (.cells #[.int .i64 Nn, .slice a0 ps.length c0] 56))) := (Old.refl w).alloc _
  have BA : Hid (Bk (w.alloc (.cells #[.int .i64 Nn, .slice a0 ps.length c0] 56)) w.heap.size #[.int .i64 Nn, .slice a0 ps.length c0] 56) := Bk.new' w _ _ rfl
  have HFI : Hid (∀ W v', Ows (TS 101 2 Nn (elW (whB Nn ps zss) (whX Nn ps zss))) W w.heap.size W.heap.size [v'] → RowW W v' (whB Nn ps zss) (whX Nn ps zss)) := fun W v' h2 => by
    obtain ⟨_, B, hT, _⟩ := h2
    refine TSW.rowW (T := 101) (B := B) HBL ?_
    rw [whX_len]
    exact hT
  have HEL : Hid (∀ k, elW (whB Nn ps zss) (whX Nn ps zss) k = TB ((whB Nn ps zss).getD k false) (TI ((whX Nn ps zss).getD k []))) := fun k => rfl
  have HGD : Hid (∀ j, GoodT (elW (whB Nn ps zss) (whX Nn ps zss) j)) := good_elW _ _
  generalize elW (whB Nn ps zss) (whX Nn ps zss) = Es at *
  generalize whB Nn ps zss = bs at *
  generalize whX Nn ps zss = yss at *
  clear hc1 hv hG hb ep hzl HBL hpz hcz
  go_enter Tryz.func84, Tryz.ntmps84
  go_wp2_with fail
  refine (HPR.out _ HAO.out).mono ?_
  rintro e w1 ⟨vq, rfl, g1, rq⟩
  obtain ⟨aq, cq, rfl⟩ := rq.slice
  have RQ : Hid (Row w1 (.slice aq pz.length cq) pz) := rq
  have HG1 : Hid (Old w w1) := Old.trans HAO.out g1
  have B1 : Hid (Bk w1 w.heap.size #[.int .i64 Nn, .slice a0 ps.length c0] 56) := BA.out.old g1
  clear g1 rq
  go_wp2_with fail
  go_loopw [6, 7] (fun x i W => ∃ (k : Nat) (a : Option Addr) (c : Nat), k ≤ Nn ∧ i = .int .i64 k ∧ x = .slice a k c ∧ Hid (Ows (TS 101 2 k Es) W w1.heap.size W.heap.size [.slice a k c]) ∧ Hid (Old w1 W)) (fun _ i _ => Nn - (intOf i).toNat)
  case atStart => exact ⟨0, none, 0, by omega, rfl, rfl, Ows.nil (Nat.le_refl _), Old.refl _⟩
  case round =>
    obtain ⟨k, a, c, hk, rfl, rfl, HO, HG2⟩ := hrel
    have HGW : Hid (Old w wr) := Old.trans HG1.out HG2.out
    have B2 : Hid (Bk wr w.heap.size #[.int .i64 Nn, .slice a0 ps.length c0] 56) := B1.out.old HG2.out
    have z0 := B2.out.c (i := 0) rfl
    have z1 := B2.out.c (i := 1) rfl
    have hsw := HGW.out.size
    have hsw1 := HG2.out.size
    by_cases hlt : k < Nn
    · have d1 : decide ((k : Int) < (Nn : Int)) = true := by simp; omega
      have ilt : (k : Int) < (Nn : Int) := by omega
      have kcp := HCP.out k hlt
      have kct := HCT.out k hlt
      have HT : Hid (∀ j, j < ps.length → (colZ zss k).take (j + 1) = (colZ zss k).take j ++ [(zss.getD j []).getD k 0]) := fun j hj => by
        rw [take_succI _ _ (by rw [HCL.out k]; exact hj), HCG.out k j hj]
      have HTL : Hid ((colZ zss k).length = ps.length) := HCL.out k
      generalize colZ zss k = zs at *
      generalize cz k = czk at *
      rename World => wq
      go_wp2_with fail
      go_loopw [8, 22, 9] (fun x i _ W => ∃ (j : Nat) (ra : Option Addr) (rc : Nat), j ≤ ps.length ∧ i = .int .i64 j ∧ x = .slice ra j rc ∧ Hid (Own W wq.heap.size (.slice ra j rc) (zs.take j)) ∧ Hid (Old wq W)) (fun _ i _ _ => ps.length - (intOf i).toNat)
      case atStart => exact ⟨0, none, 0, by omega, rfl, rfl, (by exact own_nil _ _), Old.refl _⟩
      case round =>
        obtain ⟨j, ra, rc, hj, rfl, rfl, HO2, HG3⟩ := hrel
        have hs2 := HG3.out.size
        have HGX : Hid (Old w wr) := Old.trans HGW.out HG3.out
        by_cases hjl : j < ps.length
        · have d2 : decide ((j : Int) < (ps.length : Int)) = true := by simp; omega
          have jlt : (j : Int) < (ps.length : Int) := by omega
          obtain ⟨p1, p2⟩ := HC1.out j hjl
          have hrl := HRL.out j hjl
          rcases p2 with ⟨x, y, e, e'⟩ | ⟨b3, o3, cap3, e, hb3, h03, hc3⟩
          · rw [e'] at hrl
            simp at hrl
            omega
          have q1 : wr.cell? ⟨b1, o1 + j, none⟩ = some (.slice (some ⟨b3, o3, none⟩) Nn cap3) := ((HGX.out.cell (p := ⟨b1, o1 + j, none⟩) hb1).trans p1).trans (by rw [e, hrl])
          have q2 : wr.cell? ⟨b3, o3 + k, none⟩ = some (.int .i64 ((zss.getD j []).getD k 0)) := (HGX.out.cell (p := ⟨b3, o3 + k, none⟩) hb3).trans (hc3 k (by omega))
          have htk : (zs.take j).length = j := by rw [List.length_take]; have := HTL.out; omega
          have HT2 : Hid (zs.take (j + 1) = zs.take j ++ [(zss.getD j []).getD k 0]) := HT.out j hjl
          clear p1 e hc3 hrl h03
          generalize (zss.getD j []).getD k 0 = q at *
          go_wp2_with (at_builtin; go_loud (refine wpList_append_own _ rfl _ _ 23 rfl wq.heap.size 3 i0 (.int .i64 0) 1 8 Tryz.underlying23 hi hz0 hz1 hz2 rfl (by decide) _ _ _ rfl (by have := HO2.out.alloc (.cells #[.int .i64 q] 3); unfold Own at this; rw [htk] at this; exact this) ⟨wr.heap.size, 0, none⟩ 1 1 [.int .i64 q] rfl rfl (one_cell _ _ _) (one_one _) (by unfold maxLen; omega) (by omega) (by simp; omega) ?_; intro v5 w5 o5 g5 x5; have O5 : Hid (Own w5 wq.heap.size v5 (zs.take (j + 1))) := (by have := HT2.out; show Own _ _ _ _; rw [this]; exact Own.snoc (by rw [htk]; exact o5)); have G5 : Hid (Old wq w5) := Below.grown (HG3.out.alloc (.cells #[.int .i64 q] 3)) g5 (HG3.out.alloc (.cells #[.int .i64 q] 3)).size (fun j hj => (HO2.out.lt j hj).1); clear o5 g5 x5))
          obtain ⟨a5, cap5, rfl⟩ := (Own.row O5.out).slice
          have htk1 : (zs.take (j + 1)).length = j + 1 := by rw [List.length_take]; have := HTL.out; omega
          rw [htk1] at O5 ⊢
          exact ⟨⟨j + 1, _, _, by omega, by go_num, rfl, O5, G5⟩, by simp [intOf]; omega⟩
        · have d2 : decide ((j : Int) < (ps.length : Int)) = false := by simp; omega
          obtain rfl : j = ps.length := by omega
          have RZ : Hid (Row wr (.slice ra ps.length rc) zs) := by
            have := HO2.out
            rw [List.take_of_length_le (by have := HTL.out; omega)] at this
            exact Own.row this
          have z1' : wr.cell? ⟨w.heap.size, 1, none⟩ = some (.slice a0 ps.length c0) := (B2.out.old HG3.out).c (i := 1) rfl
          clear HO2
          go_wp2_with fail
          refine (kcp _ _ HGX.out RZ.out).mono ?_
          rintro e w3 ⟨v3, rfl, g3, r3⟩
          obtain ⟨x3, y3, rfl⟩ := (Own.row r3).slice
          have R3 : Hid (Own w3 wr.heap.size (.slice x3 czk.length y3) czk) := r3
          have G3 : Hid (Old wq w3) := Old.trans HG3.out g3
          have hs3 := g3.size
          clear g3 r3
          go_wp2_with fail
          refine (kct _ _ _ wr.heap.size R3.out hs3 (RQ.out.old (Old.trans HG2.out G3.out))).mono ?_
          rintro e w4 ⟨v4, rfl, g4, r4⟩
          obtain ⟨x4, y4, rfl⟩ := (Own.row r4).slice
          have HEK : Hid (Es k = TB (bs.getD k false) (TI (yss.getD k []))) := HEL.out k
          generalize bs.getD k false = sg at *
          generalize yss.getD k [] = xs at *
          have G4 : Old wq w4 := Old.trans G3.out g4
          have HG4 : Hid (Old w w4) := Old.trans HGW.out G4
          obtain ⟨B, hTI, hBlo⟩ := TI.of r4
          have HAP : Hid (∀ o1 : Obj, ∃ vs, (w4.alloc o1).ownsRow 0 101 2 (.slice a k c) k vs ∧ (∀ b, (Value.slice a k c).ownBlock = some b → w1.heap.size ≤ b) ∧ ∀ v' w', w'.ownsRow 0 101 2 v' (k + 1) (vs ++ [.bool sg, .slice x4 xs.length y4]) → (w4.alloc o1).grownBy w' (Value.slice a k c).ownBlock → (v'.ownBlock = (Value.slice a k c).ownBlock ∨ v'.ownBlock = some (w4.alloc o1).heap.size) → Ows (TS 101 2 (k + 1) Es) w' w1.heap.size w'.heap.size [v']) := fun o1 => by
            have hE : TB sg (TI xs) (w4.alloc o1) B [.bool sg, .slice x4 xs.length y4] := ⟨_, rfl, (good_TI xs).far hTI (fun b hb => ((Old.refl w4).alloc o1).block b ((good_TI xs).lt hTI b hb))⟩
            obtain ⟨vs, p1, p2, p3⟩ := Ows.app HGD.out (good_TB sg (good_TI xs)) HO.out hsw1 (G4.alloc o1) hE (fun b hb => by have := hBlo b hb; omega) rfl
            refine ⟨vs, p1, p2, fun v' w' q1 q2 q3 => ?_⟩
            obtain ⟨hh, B', hT', hB'⟩ := p3 v' w' q1 q2 q3
            exact ⟨hh, B', TS.ext (fun j hj => by by_cases e : j = k <;> simp [e, HEK.out]) hT', hB'⟩
          obtain ⟨vs, p1, p2, p3⟩ := HAP.out (.cells #[.bool sg, .slice x4 xs.length y4] 101)
          have P1 : Hid ((w4.alloc (.cells #[.bool sg, .slice x4 xs.length y4] 101)).ownsRow 0 101 2 (.slice a k c) k vs) := p1
          have P2 : Hid (∀ b, (Value.slice a k c).ownBlock = some b → w1.heap.size ≤ b) := p2
          have P3 : Hid (∀ v' w', w'.ownsRow 0 101 2 v' (k + 1) (vs ++ [.bool sg, .slice x4 xs.length y4]) → (w4.alloc (.cells #[.bool sg, .slice x4 xs.length y4] 101)).grownBy w' (Value.slice a k c).ownBlock → (v'.ownBlock = (Value.slice a k c).ownBlock ∨ v'.ownBlock = some (w4.alloc (.cells #[.bool sg, .slice x4 xs.length y4] 101)).heap.size) → Ows (TS 101 2 (k + 1) Es) w' w1.heap.size w'.heap.size [v']) := p3
          have HGA : Hid (Old w1 (w4.alloc (.cells #[.bool sg, .slice x4 xs.length y4] 101))) := (Old.trans HG2.out G4).alloc _
          have HNW : Hid (∀ (j : Nat) (u : Value), [Value.bool sg, .slice x4 xs.length y4][j]? = some u → (w4.alloc (.cells #[.bool sg, .slice x4 xs.length y4] 101)).cell? ((⟨w4.heap.size, 0, none⟩ : Addr).add j) = some u) := two_newR _ _ _ _ rfl
          clear p1 p2 p3 HAP HO g4 r4 hTI hBlo HEK G4
          go_wp2_with (at_builtin; go_loud (refine wpList_append_own_at _ rfl _ _ 123 rfl 0 101 j0 (.agg #[.bool false, .slice none 0 0]) 2 32 Tryz.underlying123 ji jz0 jz1 jz2 rfl (by decide) _ _ _ rfl P1.out ⟨w4.heap.size, 0, none⟩ 1 1 [.bool sg, .slice x4 xs.length y4] rfl rfl HNW.out (by simp [Value.oneCell']) (by unfold maxLen; omega) (by omega) (Nat.zero_le _) ?_; intro v5 w5 o5 g5 x5 l5; have O5 : Hid (Ows (TS 101 2 (k + 1) Es) w5 w1.heap.size w5.heap.size [v5]) := P3.out v5 w5 o5 g5 l5; have G5 : Hid (Old w1 w5) := Below.grown HGA.out g5 HGA.out.size (fun j hj => P2.out j hj); clear o5 g5 x5 l5))
          obtain ⟨a5, c5, rfl⟩ : ∃ a c, v5 = .slice a (k + 1) c := by obtain ⟨_, B5, hT5, _⟩ := O5.out; exact TS.slice hT5
          exact ⟨⟨k + 1, a5, c5, by omega, by go_num, rfl, O5, G5⟩, by simp [intOf]; omega⟩
    · have d1 : decide ((k : Int) < (Nn : Int)) = false := by simp; omega
      obtain rfl : k = Nn := by omega
      have HE : Hid (RowW wr (.slice a k c) bs yss) := HFI.out _ _ (HO.out.low HG1.out.size (Nat.le_refl _) (Nat.le_refl _))
      go_wp2_with fail
      go_ret
      exact ⟨_, rfl, HGW.out, HE.out⟩
set_option maxRecDepth 100000 in
set_option maxHeartbeats 1000000 in
theorem spec_WholesOf_no (N : Int) (ps : List Int) (a : Bool) (xss : List (List Int)) (v : Value) (a1 : Option Addr) (c1 : Nat) (w : World) (hv : Row w v ps)
    (cg : ∀ W, Old w W → Calls Tryz.prog 83 #[.agg #[.int .i64 N, v], .agg #[.bool a, .slice a1 xss.length c1]] W fun e w' => e = .returned (.bool false) ∧ Old W w') :
    Calls Tryz.prog 25 #[.agg #[.int .i64 N, v], .agg #[.bool a, .slice a1 xss.length c1]] w (Ws w [] [] false) := by
  obtain ⟨a0, c0, rfl⟩ := hv.slice
  have HA : Hid (Old w ((w.alloc (.cells #[.int .i64 N, .slice a0 ps.length c0] 56)).alloc (.cells #[.bool a, .slice a1 xss.length c1] 58))) := ((Old.refl w).alloc _).alloc _
  have BA : Hid (Bk ((w.alloc (.cells #[.int .i64 N, .slice a0 ps.length c0] 56)).alloc (.cells #[.bool a, .slice a1 xss.length c1] 58)) w.heap.size #[.int .i64 N, .slice a0 ps.length c0] 56) := (Bk.new' w _ _ rfl).alloc _
  have BR : Hid (Bk ((w.alloc (.cells #[.int .i64 N, .slice a0 ps.length c0] 56)).alloc (.cells #[.bool a, .slice a1 xss.length c1] 58)) (w.heap.size + 1) #[.bool a, .slice a1 xss.length c1] 58) := Bk.new' _ _ _ (by simp)
  clear hv
  go_enter Tryz.func25, Tryz.ntmps25
  go_wp2_with fail
  refine (cg _ HA.out).mono ?_
  rintro e w2 ⟨rfl, g2⟩
  have HG2 : Hid (Old w w2) := Old.trans HA.out g2
  clear g2
  go_wp2_with fail
  go_ret2
  exact ws_nil HG2.out
set_option maxRecDepth 100000 in
set_option maxHeartbeats 2000000 in
theorem spec_WholesOf_yes (N : Int) (ps : List Int) (a : Bool) (xss zss : List (List Int)) (bs : List Bool) (yss : List (List Int)) (n : Nat) (v : Value) (a1 : Option Addr) (c1 : Nat) (w : World) (hv : Row w v ps) (hN : 1 ≤ n ∧ n ≤ 16) (hyl : yss.length = n)
    (hout : ∀ k, k < n → ∀ W u, Row W u (yss.getD k []) → Calls Tryz.prog 59 #[.agg #[.bool (bs.getD k false), u]] W fun e w' => ∃ v, e = .returned (.tuple #[.agg #[.bool (bs.getD k false), v], .bool true]) ∧ Old W w' ∧ Own w' W.heap.size v (yss.getD k []))
    (cg : ∀ W, Old w W → Calls Tryz.prog 83 #[.agg #[.int .i64 N, v], .agg #[.bool a, .slice a1 xss.length c1]] W fun e w' => e = .returned (.bool true) ∧ Old W w')
    (cb : ∀ W, Old w W → Calls Tryz.prog 85 #[.agg #[.int .i64 N, v], .agg #[.bool a, .slice a1 xss.length c1]] W fun e w' => ∃ x y z, e = .returned (.slice x y z) ∧ Old W w' ∧ RowS w' (.slice x y z) zss)
    (cw : ∀ W u, Old w W → RowS W u zss → Calls Tryz.prog 84 #[.agg #[.int .i64 N, v], u] W fun e w' => ∃ x z, e = .returned (.slice x n z) ∧ Old W w' ∧ RowW w' (.slice x n z) bs yss) :
    Calls Tryz.prog 25 #[.agg #[.int .i64 N, v], .agg #[.bool a, .slice a1 xss.length c1]] w (Ws w bs yss true) := by
  obtain ⟨i0, hi, hz0, hz1, hz2⟩ := info_parts Tryz.infoWhole
  obtain ⟨a0, c0, rfl⟩ := hv.slice
  have HA : Hid (Old w ((w.alloc (.cells #[.int .i64 N, .slice a0 ps.length c0] 56)).alloc (.cells #[.bool a, .slice a1 xss.length c1] 58))) := ((Old.refl w).alloc _).alloc _
  have BA : Hid (Bk ((w.alloc (.cells #[.int .i64 N, .slice a0 ps.length c0] 56)).alloc (.cells #[.bool a, .slice a1 xss.length c1] 58)) w.heap.size #[.int .i64 N, .slice a0 ps.length c0] 56) := (Bk.new' w _ _ rfl).alloc _
  have BR : Hid (Bk ((w.alloc (.cells #[.int .i64 N, .slice a0 ps.length c0] 56)).alloc (.cells #[.bool a, .slice a1 xss.length c1] 58)) (w.heap.size + 1) #[.bool a, .slice a1 xss.length c1] 58) := Bk.new' _ _ _ (by simp)
  have HOU : Hid (∀ k, k < n → ∀ W u, Row W u (yss.getD k []) → Calls Tryz.prog 59 #[.agg #[.bool (bs.getD k false), u]] W fun e w' => ∃ v, e = .returned (.tuple #[.agg #[.bool (bs.getD k false), v], .bool true]) ∧ Old W w' ∧ Own w' W.heap.size v (yss.getD k [])) := hout
  have HF : Hid (∀ w' v', Old w w' → Ows (TS 27 2 n (elW bs yss)) w' w.heap.size w'.heap.size [v'] → Ws w bs yss true (.returned (.tuple #[v', .bool true])) w') := fun w' v' g o => ⟨v', rfl, g, by show Ows (TS _ _ _ _) _ _ _ _; rw [hyl]; exact o⟩
  have HEL : Hid (∀ k, elW bs yss k = TB (bs.getD k false) (TI (yss.getD k []))) := fun k => rfl
  have HGD : Hid (∀ j, GoodT (elW bs yss j)) := good_elW _ _
  have HYL : Hid (yss.length = n) := hyl
  generalize elW bs yss = Es at *
  clear hv hout hyl
  go_enter Tryz.func25, Tryz.ntmps25
  go_wp2_with fail
  refine (cg _ HA.out).mono ?_
  rintro e w1 ⟨rfl, g1⟩
  have HG1 : Hid (Old w w1) := Old.trans HA.out g1
  have HAS : Hid (∀ W', Old w1 W' → (W'.cell? ⟨w.heap.size, 0, none⟩ = some (.int .i64 N) ∧ W'.cell? ⟨w.heap.size, 1, none⟩ = some (.slice a0 ps.length c0) ∧ W'.cell? ⟨w.heap.size + 1, 0, none⟩ = some (.bool a) ∧ W'.cell? ⟨w.heap.size + 1, 1, none⟩ = some (.slice a1 xss.length c1))) := fun W' q => by
    have b1 := (BA.out.old g1).old q
    have b2 := (BR.out.old g1).old q
    exact ⟨b1.c (i := 0) rfl, b1.c (i := 1) rfl, b2.c (i := 0) rfl, b2.c (i := 1) rfl⟩
  clear g1 cg
  obtain ⟨s0, s1, s2, s3⟩ := HAS.out w1 (Old.refl _)
  go_wp2_with fail
  go_region_held3 (fun W' => W'.cell? ⟨w.heap.size, 0, none⟩ = some (.int .i64 N) ∧ W'.cell? ⟨w.heap.size, 1, none⟩ = some (.slice a0 ps.length c0) ∧ W'.cell? ⟨w.heap.size + 1, 0, none⟩ = some (.bool a) ∧ W'.cell? ⟨w.heap.size + 1, 1, none⟩ = some (.slice a1 xss.length c1)) (first | with_reducible exact HAS.out _ Q6.out | with_reducible exact HAS.out _ Q5.out | with_reducible exact HAS.out _ (Below.drew (Old.refl _)) | with_reducible exact HAS.out _ (Old.refl _)) (first
    | (go_at_call 85; refine (cb _ (Below.drew HG1.out)).mono ?_; rintro e w5 ⟨x5, y5, z5, rfl, q5, o5⟩; have Q5 : Hid (Old w1 w5) := Old.trans (Below.drew (Old.refl _)) q5; have O5 : Hid (RowS w5 (.slice x5 y5 z5) zss) := o5; clear q5 o5)
    | (go_at_call 84; refine (cw _ _ (Old.trans HG1.out Q5.out) O5.out).mono ?_; rintro e w6 ⟨x6, z6, rfl, q6, o6⟩; have Q6 : Hid (Old w1 w6) := Old.trans Q5.out q6; have O6 : Hid (RowW w6 (.slice x6 n z6) bs yss) := o6; clear q6 o6)
    | fail)
  have HG6 : Hid (Old w w6) := Old.trans HG1.out Q6.out
  obtain ⟨us, b, o, ex6, hb, hcc⟩ : ∃ us : Nat → Value, ∃ b o, x6 = some ⟨b, o, none⟩ ∧ b < w6.heap.size ∧ ∀ j, j < n → w6.cell? ⟨b, o + j * 2, none⟩ = some (.bool (bs.getD j false)) ∧ w6.cell? ⟨b, o + j * 2 + 1, none⟩ = some (us j) ∧ Row w6 (us j) (yss.getD j []) := by
    obtain ⟨_, ⟨a, cap, e, e2⟩ | ⟨b, o, cap, us, e, hb2, h3, hc⟩⟩ := O6.out
    · have := HYL.out
      rw [e2] at this
      simp at this
      omega
    · simp only [Value.slice.injEq] at e
      exact ⟨us, b, o, e.1, hb2, fun j hj => hc j (by rw [HYL.out]; exact hj)⟩
  subst ex6
  have HC : Hid (∀ j, j < n → w6.cell? ⟨b, o + j * 2, none⟩ = some (.bool (bs.getD j false)) ∧ w6.cell? ⟨b, o + j * 2 + 1, none⟩ = some (us j) ∧ Row w6 (us j) (yss.getD j [])) := hcc
  clear hcc s0 s1 s2 s3 cb cw HAS O6 O5
  go_wp2_with fail
  go_loopw [21, 6, 8, 9, 10] (fun i x _ _ _ W => ∃ (k : Nat) (a : Option Addr) (c : Nat), k ≤ n ∧ i = .int .i64 k ∧ x = .slice a k c ∧ Hid (Ows (TS 27 2 k Es) W w6.heap.size W.heap.size [.slice a k c]) ∧ Hid (Old w6 W)) (fun i _ _ _ _ _ => n - (intOf i).toNat)
  case atStart => exact ⟨0, none, 0, by omega, rfl, rfl, Ows.nil (Nat.le_refl _), Old.refl _⟩
  case round =>
    obtain ⟨k, a, c, hk, rfl, rfl, H1, HG4⟩ := hrel
    have HG5 : Hid (Old w wr) := Old.trans HG6.out HG4.out
    by_cases hlt : k < n
    · have d1 : decide ((k : Int) < (n : Int)) = true := by simp; omega
      obtain ⟨e0, e1, r0⟩ := HC.out k hlt
      obtain ⟨x1, y1, e2⟩ := r0.slice
      rw [e2] at e1 r0
      have q0 := (HG4.out.cell (p := ⟨b, o + k * 2, none⟩) hb).trans e0
      have q1 := (HG4.out.cell (p := ⟨b, o + k * 2 + 1, none⟩) hb).trans e1
      have R1 : Hid (Row wr (.slice x1 (yss.getD k []).length y1) (yss.getD k [])) := r0.old HG4.out
      have ko := HOU.out k hlt
      have HEK : Hid (Es k = TB (bs.getD k false) (TI (yss.getD k []))) := HEL.out k
      clear e0 e1 r0 e2
      generalize bs.getD k false = sg at *
      generalize yss.getD k [] = xs at *
      go_wp2_with fail
      refine (ko _ _ (R1.out.old ((Old.refl wr).alloc _))).mono ?_
      rintro e w3 ⟨v3, rfl, g3, o3⟩
      obtain ⟨a2, c2, rfl⟩ := (Own.row o3).slice
      obtain ⟨B, hTI, hBlo⟩ := TI.of o3
      have G3 : Old wr w3 := Old.trans ((Old.refl wr).alloc _) g3
      have hsw := HG4.out.size
      have hBl2 : ∀ b, B b → wr.heap.size ≤ b := fun b hb => by have := hBlo b hb; simp at this; omega
      have HAP : Hid (∀ o1 o2 : Obj, ∃ vs, ((w3.alloc o1).alloc o2).ownsRow 0 27 2 (.slice a k c) k vs ∧ (∀ b, (Value.slice a k c).ownBlock = some b → w6.heap.size ≤ b) ∧ ∀ v' w', w'.ownsRow 0 27 2 v' (k + 1) (vs ++ [.bool sg, .slice a2 xs.length c2]) → ((w3.alloc o1).alloc o2).grownBy w' (Value.slice a k c).ownBlock → (v'.ownBlock = (Value.slice a k c).ownBlock ∨ v'.ownBlock = some ((w3.alloc o1).alloc o2).heap.size) → Ows (TS 27 2 (k + 1) Es) w' w6.heap.size w'.heap.size [v']) := fun o1 o2 => by
        have hE : TB sg (TI xs) ((w3.alloc o1).alloc o2) B [.bool sg, .slice a2 xs.length c2] := ⟨_, rfl, (good_TI xs).far hTI (fun b hb => (((Old.refl w3).alloc o1).alloc o2).block b ((good_TI xs).lt hTI b hb))⟩
        obtain ⟨vs, p1, p2, p3⟩ := Ows.app HGD.out (good_TB sg (good_TI xs)) H1.out hsw ((G3.alloc o1).alloc o2) hE hBl2 rfl
        refine ⟨vs, p1, p2, fun v' w' q1 q2 q3 => ?_⟩
        obtain ⟨hh, B', hT', hB'⟩ := p3 v' w' q1 q2 q3
        exact ⟨hh, B', TS.ext (fun j hj => by by_cases e : j = k <;> simp [e, HEK.out]) hT', hB'⟩
      obtain ⟨vs, p1, p2, p3⟩ := HAP.out (.cells #[.bool sg, .slice a2 xs.length c2] 27) (.cells #[.bool sg, .slice a2 xs.length c2] 27)
      have P1 : Hid (((w3.alloc (.cells #[.bool sg, .slice a2 xs.length c2] 27)).alloc (.cells #[.bool sg, .slice a2 xs.length c2] 27)).ownsRow 0 27 2 (.slice a k c) k vs) := p1
      have P2 : Hid (∀ b, (Value.slice a k c).ownBlock = some b → w6.heap.size ≤ b) := p2
      have P3 : Hid (∀ v' w', w'.ownsRow 0 27 2 v' (k + 1) (vs ++ [.bool sg, .slice a2 xs.length c2]) → ((w3.alloc (.cells #[.bool sg, .slice a2 xs.length c2] 27)).alloc (.cells #[.bool sg, .slice a2 xs.length c2] 27)).grownBy w' (Value.slice a k c).ownBlock → (v'.ownBlock = (Value.slice a k c).ownBlock ∨ v'.ownBlock = some ((w3.alloc (.cells #[.bool sg, .slice a2 xs.length c2] 27)).alloc (.cells #[.bool sg, .slice a2 xs.length c2] 27)).heap.size) → Ows (TS 27 2 (k + 1) Es) w' w6.heap.size w'.heap.size [v']) := p3
      have HGA : Hid (Old w6 ((w3.alloc (.cells #[.bool sg, .slice a2 xs.length c2] 27)).alloc (.cells #[.bool sg, .slice a2 xs.length c2] 27))) := ((Old.trans HG4.out G3).alloc _).alloc _
      have HNW : Hid (∀ (j : Nat) (u : Value), [Value.bool sg, .slice a2 xs.length c2][j]? = some u → ((w3.alloc (.cells #[.bool sg, .slice a2 xs.length c2] 27)).alloc (.cells #[.bool sg, .slice a2 xs.length c2] 27)).cell? ((⟨w3.heap.size + 1, 0, none⟩ : Addr).add j) = some u) := two_newR _ _ _ _ (by simp)
      clear p1 p2 p3 HAP H1 g3 o3 hTI hBlo hBl2 G3 HEK
      go_wp2_with (at_builtin; go_loud (refine wpList_append_own_at _ rfl _ _ 53 rfl 0 27 i0 (.agg #[.bool false, .slice none 0 0]) 2 32 Tryz.underlying53 hi hz0 hz1 hz2 rfl (by decide) _ _ _ rfl P1.out ⟨w3.heap.size + 1, 0, none⟩ 1 1 [.bool sg, .slice a2 xs.length c2] rfl rfl HNW.out (by simp [Value.oneCell']) (by unfold maxLen; omega) (by omega) (Nat.zero_le _) ?_; intro v5 w5 o5 g5 x5 l5; have O5 : Hid (Ows (TS 27 2 (k + 1) Es) w5 w6.heap.size w5.heap.size [v5]) := P3.out v5 w5 o5 g5 l5; have G5 : Hid (Old w6 w5) := Below.grown HGA.out g5 HGA.out.size (fun j hj => P2.out j hj); clear o5 g5 x5 l5))
      obtain ⟨a5, c5, rfl⟩ : ∃ a c, v5 = .slice a (k + 1) c := by obtain ⟨_, B5, hT5, _⟩ := O5.out; exact TS.slice hT5
      exact ⟨⟨k + 1, a5, c5, by omega, by go_num, rfl, O5, G5⟩, by simp [intOf]; omega⟩
    · have d1 : decide ((k : Int) < (n : Int)) = false := by simp; omega
      obtain rfl : k = n := by omega
      go_wp2_with fail
      go_ret2
      exact HF.out _ _ HG5.out (H1.out.low HG6.out.size (Nat.le_refl _) (Nat.le_refl _))
end Go.Proofs.YtfgooclnohnkmaaGreatDoor
/- Proved: the statement on WholesOf at every space and rows, in a world in which the two tables are laid. -/
namespace Go.Proofs.YtfgooclnohnkmaaGreatDoor
open Go.ChangeShapes Go.WideShapes Go.ChangeAt Go.RowKit
set_option linter.unusedVariables false
set_option linter.unusedSimpArgs false
open M1 M2
theorem invL_ltW (P N R : Nat) (xs : List Nat) (hP : 0 < P) : ∀ x ∈ invL P N R xs, x < P := fun x hx => by
  unfold invL at hx
  rw [List.mem_map] at hx
  obtain ⟨i, _, rfl⟩ := hx
  exact Nat.mod_lt _ hP
theorem toZ_bd {P : Nat} {ys : List Nat} (h : ∀ y ∈ ys, y < P) (i : Nat) (hi : i < ys.length) : 0 ≤ (toZ ys).getD i 0 ∧ (toZ ys).getD i 0 < (P : Int) := by
  have e : (toZ ys).getD i 0 = ((ys[i] : Nat) : Int) := by simp [toZ, List.getD, hi]
  have := h ys[i] (List.getElem_mem hi)
  rw [e]
  omega
theorem gr_back {N : Int} {ps : List Int} {xss : List (List Int)} {Rf : Nat → Int} (n : Bool) (hR : ∀ k, RingOk (ps.getD k 0) N → ((0 ≤ Rf k ∧ Rf k < ps.getD k 0) ∧ (∀ W, PrsW W → TabW W → Calls Tryz.prog 163 #[.int .i64 (ps.getD k 0), .int .i64 N] W fun e w' => e = .returned (.tuple #[.agg #[.int .i64 (ps.getD k 0), .int .i64 N, .int .i64 (Rf k)], .bool true]) ∧ Old W w')) ∧ (∀ W, Calls Tryz.prog 185 #[.int .i64 (ps.getD k 0), .int .i64 N] W fun e w' => e = .returned (.tuple #[.agg #[.int .i64 (ps.getD k 0), .int .i64 N, .int .i64 (Rf k)], .bool true]) ∧ Old W w') ∧ ∃ P M R : Nat, ps.getD k 0 = P ∧ N = M ∧ Rf k = R ∧ R < P ∧ RingOk P M ∧ (F1.Pr P → Rt P (2 * M) R)) (h : grB N ps xss = true) (Nn : Nat) (hn : N = Nn) :
    Gr Nn ps (mkL (backF N n) ps Rf xss) := by
  have hs : spB N ps = true := by
    unfold grB at h
    rw [Bool.and_eq_true] at h
    exact h.1
  refine ⟨(sp_ring hs).2.1, mkL_len _ _ _ _, fun j hj => ?_⟩
  rw [mkL_get _ _ _ _ j hj]
  obtain ⟨P, M, R, ys, e1, e2, e3, e4, hlt, hP2, hS, la, ha, r1, r2⟩ := row_open hR h j hj
  have hM : M = Nn := by omega
  subst hM
  rw [e1, e3, e4, e2]
  unfold backF
  cases n
  · simp only [Bool.false_eq_true, if_false]
    refine ⟨by rw [toZ_len, la], fun i hi => toZ_bd ha i (by omega)⟩
  · simp only [if_true]
    rw [bkZ_toZ]
    refine ⟨by rw [toZ_len, invL_len], fun i hi => toZ_bd (invL_ltW P M R ys (by omega)) i (by rw [invL_len]; exact hi)⟩
set_option maxRecDepth 100000 in
theorem WholesOf_any (N : Int) (ps : List Int) (n : Bool) (xss : List (List Int)) (v u : Value) (w : World) (hv : Row w v ps) (hl : ps.length ≤ 9223372036854775807) (hx : ∀ x ∈ ps, -9223372036854775808 ≤ x ∧ x ≤ 9223372036854775807) (hu : RowS w u xss) (hlx : xss.length ≤ 9223372036854775807) (hlr : ∀ r ∈ xss, r.length ≤ 9223372036854775807) (hP : PrsW w) (hT : TabW w) :
    Calls Tryz.prog 5 #[.agg #[.int .i64 N, v], .agg #[.bool n, u]] w fun e w' => e = .returned (.bool true) ∧ Old w w' := by
  obtain ⟨Rf, hR⟩ := Rings_both N ps
  obtain ⟨a0, c0, rfl⟩ := hv.slice
  obtain ⟨a1, c1, rfl⟩ := hu.slice
  have bnd : ∀ {A : Prop}, ¬ leftN 1048576 ps.length < 0 → ¬ leftSS (leftN 1048576 ps.length) xss < 0 → (ps.length ≤ 1048576 → xss.length ≤ 1048576 → (∀ r ∈ xss, r.length ≤ 1048576) → offL xss xss.length ≤ 1048576 → A) → A := fun h1 h2 k => by
    obtain ⟨q1, q2, q3⟩ := leftN_ok h1 (by omega)
    obtain ⟨p1, p2, p3, p4⟩ := leftSS_ok q3 h2
    have o1 := offL_leftSS q3 h2
    exact k (by omega) (by omega) (fun r hr => by have := p4 r hr; omega) (by omega)
  obtain ⟨bs, yss, ok, hb, z1, z2, hcase⟩ : ∃ (bs : List Bool) (yss : List (List Int)) (ok : Bool), bs.length = yss.length ∧ yss.length ≤ 16 ∧ (∀ r ∈ yss, r.length ≤ 7) ∧ ((grB N ps xss = false ∧ bs = [] ∧ yss = [] ∧ ok = false) ∨ (grB N ps xss = true ∧ ok = true ∧ ∃ Nn : Nat, N = Nn ∧ (1 ≤ Nn ∧ Nn ≤ 16) ∧ (1 ≤ ps.length ∧ ps.length ≤ 6) ∧ Gr Nn ps (mkL (backF N n) ps Rf xss) ∧ bs = whB Nn ps (mkL (backF N n) ps Rf xss) ∧ yss = whX Nn ps (mkL (backF N n) ps Rf xss))) := by
    cases h : grB N ps xss
    · exact ⟨[], [], false, rfl, by simp, (fun r hr => by cases hr), .inl ⟨rfl, rfl, rfl, rfl⟩⟩
    · have hs : spB N ps = true := by
        unfold grB at h
        rw [Bool.and_eq_true] at h
        exact h.1
      have hN := (sp_ring hs).1
      have hb := (bas_at (sp_ring hs).2.1).1
      have hG := gr_back n hR h N.toNat (by omega)
      exact ⟨_, _, true, by rw [whB_len, whX_len], by rw [whX_len]; omega, whX_row hG, .inr ⟨rfl, rfl, N.toNat, by omega, by omega, hb, hG, rfl, rfl⟩⟩
  have ho : offW yss yss.length ≤ 128 := by
    have := offW_row z2
    omega
  have z2' : ∀ r ∈ yss, r.length ≤ 1048576 := fun r hr => by have := z2 r hr; omega
  refine law9_WholesOf w N ps.length a0 c0 n xss.length a1 c1 yss.length ok (leftN 1048576 ps.length) (leftSS (leftN 1048576 ps.length) xss)
    (fun W g => ks_sz N a0 ps.length c0 1048576 W hl (by omega) (by omega))
    (fun h W g => by
      obtain ⟨q1, q2, q3⟩ := leftN_ok h (by omega)
      exact kr_sz n xss _ _ W (hu.old g) hlx hlr q3 (by omega))
    (XS N ps) (far_XS N ps) shape_XS (fun h1 h2 W g => bnd h1 h2 fun d1 d2 d3 d6 => ks_to N ps _ W (hv.old g) d1) (fun h1 h2 W lo hi g lo' hi' g' k k' => bnd h1 h2 fun d1 d2 d3 d6 => ks_eq N ps W lo hi g lo' hi' g' k k' (by omega))
    (1 + ps.length) (by omega) (fun h1 h2 W lo hi g k => bnd h1 h2 fun d1 d2 d3 d6 => ks_mark N ps 1 W lo hi g k d1 (by omega) (by omega))
    (XR n xss) (far_XR n xss) shape_XR (fun h1 h2 W g => bnd h1 h2 fun d1 d2 d3 d6 => kr_to n xss _ W (hu.old g) d2 d3) (fun h1 h2 W lo hi g lo' hi' g' k k' => bnd h1 h2 fun d1 d2 d3 d6 => kr_eq n xss W lo hi g lo' hi' g' k k' d2 d3)
    (1 + ps.length + offL xss xss.length) (by omega) (fun h1 h2 W lo hi g k => bnd h1 h2 fun d1 d2 d3 d6 => (kr_mark n xss _ W lo hi g k d2 d3 (by omega) (by omega)).mono (fun e w' h => ⟨h.1, h.2.1⟩))
    (YW bs yss) (far_YW _ _) shape_YW (YW bs yss) (far_YW _ _) shape_YW (YWm 1 yss) (far_YWm _ _) shape_YWm
    (fun h1 h2 W lo0 hi0 g0 lo1 hi1 g1 k0 k1 q => bnd h1 h2 fun d1 d2 d3 d6 => ?_) (fun h1 h2 W lo0 hi0 g0 lo1 hi1 g1 k0 k1 q => bnd h1 h2 fun d1 d2 d3 d6 => ?_)
    (fun h1 h2 W lo hi p lo' hi' p' k k' => yw_eq bs yss hb W lo hi p lo' hi' p' k k' (by omega) z2')
    (1 + offW yss yss.length) (by omega) (fun h1 h2 W lo hi p k => yw_mark bs yss 1 W lo hi p k (by omega) z2' (by omega) (by omega))
    (fun h1 h2 W lo hi p k => yw_held yss 1 W lo hi p k (by omega) z2' (by omega) (by omega))
  · obtain ⟨a, c, rfl, o, f⟩ := k0
    obtain ⟨a', c', rfl, o'⟩ := k1
    have cg := fun W' (g : Old W W') => spec_goodRows N ps n xss _ _ W' (o.row.old g) f (o'.rowS.old g) d1 hx d2 d3
    obtain ⟨hg, rfl, rfl, rfl⟩ | ⟨hg, rfl, Nn, hNn, hN, hps, hG, eb, ey⟩ := hcase
    · rw [hg] at cg
      exact spec_WholesOf_no N ps n xss _ _ _ W o.row cg
    · rw [hg] at cg
      refine spec_WholesOf_yes N ps n xss (mkL (backF N n) ps Rf xss) bs yss Nn _ _ _ W o.row hN (by rw [ey, whX_len]) (fun k hk W' u' hr => ?_) cg (fun W' g => (spec_l5Back_any N ps n xss Rf hR _ _ W' (o.row.old g) (o'.rowS.old g) hg).mono fun e w' h => ?_) (fun W' u' g hr => ?_)
      · rw [eb, ey, whB_get _ _ _ k hk, whX_get _ _ _ k hk] at *
        exact out_any _ (dig (ctN ps (mkL (backF N n) ps Rf xss) k)) u' W' hr (by have := ctN_cnt hG k hk; omega)
      · obtain ⟨v', rfl, g', o2⟩ := h
        obtain ⟨x, z, rfl⟩ := o2.slice
        exact ⟨_, _, _, rfl, g', o2.rowS⟩
      · rw [hNn] at hr hG eb ey ⊢
        rw [eb, ey]
        refine (spec_l5Wholes Nn ps _ _ u' W' (o.row.old g) hr hN hps hG).mono fun e w' h => ?_
        obtain ⟨v', rfl, g', o2⟩ := h
        obtain ⟨x, z, e⟩ := o2.slice
        rw [whX_len] at e
        subst e
        exact ⟨_, _, rfl, g', o2⟩
  · obtain ⟨a, c, rfl, o, f⟩ := k0
    obtain ⟨a', c', rfl, o'⟩ := k1
    obtain ⟨hg, rfl, rfl, rfl⟩ | ⟨hg, rfl, Nn, hNn, hN, hps, hG, eb, ey⟩ := hcase
    · exact impl_WholesOf_no N ps n xss _ _ _ W o.row (fun W' g => (impl_BackRows N ps n xss Rf hR _ _ W' _ _ ((hP.old q).old g) ((hT.old q).old g) (o.row.old g) f ((far_OwS xss).old o' g o'.1) d1 d2 d3).mono fun e w' h => h.2 hg)
    · rw [hNn] at hG eb ey ⊢
      rw [eb, ey]
      refine impl_WholesOf_yes Nn ps n xss _ _ _ _ W o.row f hN hps hG (fun W' g => ?_)
      rw [← hNn]
      exact (impl_BackRows N ps n xss Rf hR _ _ W' _ _ ((hP.old q).old g) ((hT.old q).old g) (o.row.old g) f ((far_OwS xss).old o' g o'.1) d1 d2 d3).mono fun e w' h => h.1 hg
end Go.Proofs.YtfgooclnohnkmaaGreatDoor
/- Proved: the two tables that the program's text lays, read; a ring and a list of numbers that come in, opened; a world in which the tables are laid. -/
namespace Go.Proofs.YtfgooclnohnkmaaGreatDoor
open Go.ChangeShapes Go.WideShapes Go.ChangeAt Go.RowKit Go.Joins
set_option linter.unusedVariables false
set_option linter.unusedSimpArgs false
set_option maxRecDepth 100000
theorem laidOut : laidOutB Tryz.prog = true := by kernel_rfl
theorem ownKnobNone : ownKnob Tryz.prog.godebug = none := by kernel_rfl
theorem gTab : Tryz.prog.globalNamed "math/bits.deBruijn64tab" = some 1 := by kernel_rfl
theorem gTabType : (Tryz.prog.globals[1]?).map (·.type) = some 225 := by kernel_rfl
theorem gPrs : Tryz.prog.globalNamed "loop.example/g00133/impl.smallPrimes" = some 0 := by kernel_rfl
theorem gPrsType : (Tryz.prog.globals[0]?).map (·.type) = some 212 := by kernel_rfl
theorem cellsTabT : Tryz.prog.cellsOf 225 = 64 := by kernel_rfl
theorem cellsPrsT : Tryz.prog.cellsOf 212 = 12 := by kernel_rfl
theorem cellsU8 : Tryz.prog.cellsOf 5 = 1 := by kernel_rfl
theorem cellsU64 : Tryz.prog.cellsOf 87 = 1 := by kernel_rfl
theorem cellsIntT : Tryz.prog.cellsOf 3 = 1 := by kernel_rfl
theorem rowedPrs : varsRowed Tryz.prog ["loop.example/g00133/impl.smallPrimes"] = true := by kernel_rfl
def tabI : List Int := [0, 1, 56, 2, 57, 49, 28, 3, 61, 58, 42, 50, 38, 29, 17, 4, 62, 47, 59, 36, 45, 43, 51, 22, 53, 39, 33, 30, 24, 18, 12, 5, 63, 55, 48, 27, 60, 41, 37, 16, 46, 35, 44, 21, 52, 32, 23, 11, 54, 26, 40, 15, 34, 20, 31, 10, 25, 14, 19, 9, 13, 8, 7, 6]
def prsI : List Int := [2, 3, 5, 7, 11, 13, 17, 19, 23, 29, 31, 37]
/-- what a row's list gives: the cells of the table of bits -/
theorem tab_of {W : World} {L : List (String × DataW Unit)} (h : laidMet Tryz.prog (("math/bits.deBruijn64tab", Lib.tabData .u8 tabI) :: L) W) : TabW W := by
  have t1 := Lib.tabIs_of_head gTab gTabType Tryz.underlying225 Tryz.underlying5 cellsU8 cellsTabT h
  intro j hj
  rw [t1.cell gTab j hj]
  exact congrArg (fun z => some (Value.int .u8 z)) ((show ∀ j, j < 64 → tabI.getD j 0 = ((Lib.deBruijn64tab.getD j 0 : Nat) : Int) by decide) j hj)
theorem prs_of {W : World} {L : List (String × DataW Unit)} (h : laidMet Tryz.prog (("loop.example/g00133/impl.smallPrimes", Lib.tabData .u64 prsI) :: L) W) : PrsW W := by
  have t2 := Lib.tabIs_of_head gPrs gPrsType Tryz.underlying212 Tryz.underlying87 cellsU64 cellsPrsT h
  intro j hj
  rw [t2.cell gPrs j hj]
  exact congrArg (fun z => some (Value.int .u64 z)) ((show ∀ j, j < 12 → prsI.getD j 0 = ((smallP.getD j 0 : Nat) : Int) by decide) j hj)
theorem row_of_ints {w : World} {a : Addr} {len cap : Nat} {zs : List Int} (hl : len ≤ cap) (hz : zs.length = cap) (hc : ∀ i, i < zs.length → w.cell? (a.add i) = some (.int .i64 (zs.getD i 0))) : Row w (.slice (some a) len cap) (zs.take len) := by
  have el : (zs.take len).length = len := by rw [List.length_take, Nat.min_eq_left (by omega)]
  rcases Nat.eq_zero_or_pos len with h0 | h0
  · subst h0
    exact Or.inl ⟨some a, cap, rfl, by simp⟩
  · obtain ⟨b, o, spot⟩ := a
    have hspot : spot = none := by simpa [Addr.add] using World.cell?_spot (hc 0 (by omega))
    subst hspot
    refine Or.inr ⟨b, o, cap, by rw [el], ?_, by omega, fun j hj => ?_⟩
    · have := block_lt_of_cell (hc 0 (by omega))
      simpa [Addr.add] using this
    · rw [el] at hj
      have h1 := hc j (by omega)
      have e1 : (zs.take len).getD j 0 = zs.getD j 0 := by simp [List.getD, List.getElem?_take, hj]
      rw [e1, ← h1]
      by_cases hj0 : j = 0
      · subst hj0; simp [Addr.add]
      · simp [Addr.add, hj0]
/-- a world's blocks, the two tables laid -/
def layHeap (h : Array Obj) : Array Obj := (h.modify 0 fun o => match o with
  | .cells _ t frozen => .cells #[.int .u64 2, .int .u64 3, .int .u64 5, .int .u64 7, .int .u64 11, .int .u64 13, .int .u64 17, .int .u64 19, .int .u64 23, .int .u64 29, .int .u64 31, .int .u64 37] t frozen
  | o => o).modify 1 fun o => match o with
  | .cells _ t frozen => .cells #[.int .u8 0, .int .u8 1, .int .u8 56, .int .u8 2, .int .u8 57, .int .u8 49, .int .u8 28, .int .u8 3, .int .u8 61, .int .u8 58, .int .u8 42, .int .u8 50, .int .u8 38, .int .u8 29, .int .u8 17, .int .u8 4, .int .u8 62, .int .u8 47, .int .u8 59, .int .u8 36, .int .u8 45, .int .u8 43, .int .u8 51, .int .u8 22, .int .u8 53, .int .u8 39, .int .u8 33, .int .u8 30, .int .u8 24, .int .u8 18, .int .u8 12, .int .u8 5, .int .u8 63, .int .u8 55, .int .u8 48, .int .u8 27, .int .u8 60, .int .u8 41, .int .u8 37, .int .u8 16, .int .u8 46, .int .u8 35, .int .u8 44, .int .u8 21, .int .u8 52, .int .u8 32, .int .u8 23, .int .u8 11, .int .u8 54, .int .u8 26, .int .u8 40, .int .u8 15, .int .u8 34, .int .u8 20, .int .u8 31, .int .u8 10, .int .u8 25, .int .u8 14, .int .u8 19, .int .u8 9, .int .u8 13, .int .u8 8, .int .u8 7, .int .u8 6] t frozen
  | o => o
def lay (w : World) : World := { w with heap := layHeap w.heap }
end Go.Proofs.YtfgooclnohnkmaaGreatDoor
