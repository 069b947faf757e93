/- Proved: the contract of the model's l6Sum. -/
import Derived.Test.YtejkejfhahmhcaaDoorCompS
import Derived.Test.YtejkejfhahmhcaaDoorCompB
namespace Go.Proofs.YtejkejfhahmhcaaDoor
open Go.ChangeShapes Go.WideShapes Go.ChangeAt Go.RowKit
open M2
set_option linter.unusedVariables false
set_option linter.unusedSimpArgs false
set_option maxRecDepth 100000 in
set_option maxHeartbeats 8000000 in
theorem spec_sum (rs ps : List Nat) (v u : Value) (w : World) (hv : Row w v (toZ rs)) (hu : Row w u (toZ ps)) (h : Res rs ps) :
    Calls Tryd.prog 46 #[v, u] w fun e w' => ∃ v', e = .returned v' ∧ Old w w' ∧ Row w' v' (toI (dig (sumN rs ps ps.length))) := by
  have hb := h.bas
  have hrl := h.len
  have hl6 := hb.len6
  have hl1 := hb.len1
  have HU : Hid (Row w u (toZ ps)) := hu
  obtain ⟨b1, o1, cap1, rfl, hb1, hc1⟩ := hv.atZ (by omega)
  obtain ⟨b2, o2, cap2, rfl, hb2, hc2⟩ := hu.atZ (by omega)
  rw [hrl] at hc1 ⊢
  have HC1 : Hid (∀ j, j < ps.length → w.cell? ⟨b1, o1 + j, none⟩ = some (.int .i64 ((rs.getD j 0 : Nat) : Int))) := hc1
  have HC2 : Hid (∀ j, j < ps.length → w.cell? ⟨b2, o2 + j, none⟩ = some (.int .i64 ((ps.getD j 0 : Nat) : Int))) := hc2
  have HB : Hid (Bas ps) := hb
  have HR : Hid (∀ i, i < ps.length → rs.getD i 0 < ps.getD i 0) := h.lt
  have HS0 : Hid (sumN rs ps 0 = 0) := rfl
  clear hv hu hc1 hc2 hb h hrl
  go_enter Tryd.func46, Tryd.ntmps46
  go_wp2_with fail
  go_loopw [5, 10] (fun x j W => ∃ (k : Nat) (a : Option Addr) (n c : Nat), k ≤ ps.length ∧ j = .int .i64 k ∧ x = .slice a n c ∧ Hid (Row W (.slice a n c) (toI (dig (sumN rs ps k)))) ∧ Hid (Old w W)) (fun _ j _ => ps.length - (intOf j).toNat)
  case atStart => exact ⟨0, _, _, _, by omega, rfl, rfl, (by show Row _ _ _; rw [HS0.out, dig_zero]; exact Or.inl ⟨none, 0, rfl, rfl⟩), Old.refl _⟩
  case round =>
    obtain ⟨k, a, n, c, hk, rfl, rfl, HA, HG⟩ := hrel
    by_cases hlt : k < ps.length
    · have d1 : decide ((k : Int) < (ps.length : Int)) = true := by simp; omega
      have c1 : wr.cell? ⟨b1, o1 + k, none⟩ = some (.int .i64 ((rs.getD k 0 : Nat) : Int)) := (HG.out.cell (p := ⟨b1, o1 + k, none⟩) hb1).trans (HC1.out k hlt)
      have c2 : wr.cell? ⟨b2, o2 + k, none⟩ = some (.int .i64 ((ps.getD k 0 : Nat) : Int)) := (HG.out.cell (p := ⟨b2, o2 + k, none⟩) hb2).trans (HC2.out k hlt)
      have civ := fun W h3 => spec_inverse ps (.slice (some ⟨b2, o2, none⟩) ps.length cap2) k W h3 hlt (by omega) HB.out.lo HB.out.hi
      have hyl := yN_lt (rs := rs) HB.out hlt
      have hivl : ivN ps k ≤ 268435456 := by
        have : ivN ps k < ps.getD k 0 := by
          have hm : ps.getD k 0 ∈ ps := by simp [List.getD, hlt]
          have h2 := HB.out.lo _ hm
          unfold ivN
          exact invM_lt _ _ (by omega)
        omega
      have hrk := HR.out k hlt
      have cpu := fun W h3 => spec_punct ps (.slice (some ⟨b2, o2, none⟩) ps.length cap2) k W h3 HB.out hlt
      have HC1' : Hid ((dig (prodN (oth ps k))).length ≤ 1048576) := Nat.le_trans (oth_cnt HB.out hlt) (by omega)
      have HC2' : Hid ((dig (yN rs ps k)).length ≤ 1048576) := Nat.le_trans (cnt_word (by omega)) (by omega)
      have HC3' : Hid ((dig (sumN rs ps k)).length ≤ 1048576) := Nat.le_trans (sumN_cnt HB.out k hk) (by omega)
      have HC4' : Hid ((dig (prodN (oth ps k) * yN rs ps k)).length ≤ 1048576) := Nat.le_trans (part_cnt HB.out hlt) (by omega)
      have HF : Hid (∀ W u, Row W u (toI (dig (sumN rs ps k + prodN (oth ps k) * yN rs ps k))) → Row W u (toI (dig (sumN rs ps (k + 1))))) := fun W u h => h
      have HYE : Hid (rs.getD k 0 * ivN ps k % ps.getD k 0 = yN rs ps k) := rfl
      generalize prodN (oth ps k) = po at *
      generalize yN rs ps k = y at *
      generalize ivN ps k = iv at *
      generalize rs.getD k 0 = rk at *
      generalize ps.getD k 0 = p at *
      generalize sumN rs ps k = S1 at *
      obtain ⟨y0, hy0⟩ : ∃ y0, rk * iv = y0 := ⟨_, rfl⟩
      have hb2' : y0 ≤ 72057594037927936 := by rw [← hy0]; exact Nat.le_trans (Nat.mul_le_mul (show rk ≤ 268435456 by omega) hivl) (by decide)
      have t2 : IntKind.i64.wrap ((rk : Int) * (iv : Int)) = (y0 : Int) := by rw [← Int.natCast_mul, hy0, IntKind.wrap_i64]; omega
      have hye := HYE.out
      rw [hy0] at hye
      have t3 : Int.tmod (y0 : Int) (p : Int) = (y : Int) := by rw [Int.tmod_eq_emod_of_nonneg (by omega), ← hye]; rfl
      have hp0 : ¬ p = 0 := by omega
      have i1 : (k : Int) < (ps.length : Int) := by omega
      have HAS : Hid (∀ W', Old wr W' → W'.cell? ⟨b1, o1 + k, none⟩ = some (.int .i64 (rk : Int))) := fun W' g => (g.cell (p := ⟨b1, o1 + k, none⟩) (Nat.lt_of_lt_of_le hb1 HG.out.size)).trans c1
      clear HYE hy0 hye
      have HAK : Hid (∀ W', Old wr W' → Row W' (.slice a n c) (toI (dig S1))) := fun W' g => HA.out.old g
      go_wp2_with fail
      go_region_held3 (fun W' => W'.cell? ⟨b1, o1 + k, none⟩ = some (.int .i64 (rk : Int))) (first | with_reducible exact HAS.out _ G5.out | with_reducible exact HAS.out _ G4.out | with_reducible exact HAS.out _ G3.out | with_reducible exact HAS.out _ G2.out | with_reducible exact HAS.out _ G1.out | with_reducible exact HAS.out _ (Below.drew (Old.refl wr)) | with_reducible exact HAS.out _ (Old.refl wr)) (first
        | (go_at_call 87; refine (cpu _ (HU.out.old (Old.trans HG.out (Below.drew (Old.refl wr))))).mono ?_; rintro e w1 ⟨v1, rfl, g1, r1⟩; have G1 : Hid (Old wr w1) := Old.trans (Below.drew (Old.refl wr)) g1; have R1 : Hid (Row w1 v1 (toI (dig po))) := r1; obtain ⟨a1, cp1, rfl⟩ := r1.slice; clear g1 r1)
        | (go_at_call 84; refine (civ _ (HU.out.old (Old.trans HG.out G1.out))).mono ?_; rintro e w2 ⟨rfl, g2⟩; have G2 : Hid (Old wr w2) := Old.trans G1.out g2; have R2 : Hid (Row w2 (.slice a1 (toI (dig po)).length cp1) (toI (dig po))) := R1.out.old g2; clear g2)
        | (go_at_call 88; refine (of_any y _ (by omega)).mono ?_; rintro e w3 ⟨v3, rfl, g3, o3⟩; have G3 : Hid (Old wr w3) := Old.trans G2.out g3; have R3 : Hid (Row w3 (.slice a1 (toI (dig po)).length cp1) (toI (dig po))) := R2.out.old g3; have Y3 : Hid (Row w3 v3 (toI (dig y))) := Own.row o3; obtain ⟨a3, cp3, rfl⟩ := (Own.row o3).slice; clear g3 o3)
        | (go_at_call 86; refine (mul_any (dig po) (dig y) _ _ _ R3.out Y3.out (dig_lim po) (dig_lim y) HC1'.out HC2'.out).mono ?_; rw [val_dig, val_dig]; rintro e w4 ⟨v4, rfl, g4, o4⟩; have G4 : Hid (Old wr w4) := Old.trans G3.out g4; have M4 : Hid (Row w4 v4 (toI (dig (po * y)))) := Own.row o4; obtain ⟨a4, cp4, rfl⟩ := (Own.row o4).slice; clear g4 o4)
        | (go_at_call 85; refine (add_any (dig S1) (dig (po * y)) _ _ _ (HAK.out _ G4.out) M4.out (dig_lim S1) (dig_lim _) HC3'.out HC4'.out).mono ?_; rw [val_dig, val_dig]; rintro e w5 ⟨v5, rfl, g5, o5⟩; have G5 : Hid (Old wr w5) := Old.trans G4.out g5; have N5 : Hid (Row w5 v5 (toI (dig (S1 + po * y)))) := Own.row o5; obtain ⟨a5, cp5, rfl⟩ := (Own.row o5).slice; clear g5 o5)
        | fail)
      all_goals
        go_wp2_with fail
        exact ⟨⟨k + 1, _, _, _, by omega, by go_num, rfl, HF.out _ _ N5.out, Old.trans HG.out G5.out⟩, by simp [intOf]; omega⟩
    · have d1 : decide ((k : Int) < (ps.length : Int)) = false := by simp; omega
      obtain rfl : k = ps.length := by omega
      go_wp2_with fail
      go_ret
      exact ⟨_, rfl, HG.out, HA.out⟩
end Go.Proofs.YtejkejfhahmhcaaDoor
