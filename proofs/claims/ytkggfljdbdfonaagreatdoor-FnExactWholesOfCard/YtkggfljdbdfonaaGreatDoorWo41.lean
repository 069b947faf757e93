/- Proved: several texts in one: what each proves is said ahead of it. -/
import Derived.Test.YtkggfljdbdfonaaGreatDoorWo11
import Derived.Test.YtkggfljdbdfonaaGreatDoorWo09
import Derived.Deep.RegionHeld3
import Derived.Test.YtkggfljdbdfonaaGreatDoorWo35
/- Proved: the contract of the program's sharesOf. -/
namespace Go.Proofs.YtkggfljdbdfonaaGreatDoor
open Go.ChangeShapes Go.WideShapes Go.ChangeAt Go.RowKit
open M2
set_option linter.unusedVariables false
set_option linter.unusedSimpArgs false
theorem cellS (w : World) (g j : Nat) (x : Value) {b o : Nat} (h : b ≠ g) : (w.setCell ⟨g, j, none⟩ x).cell? ⟨b, o, none⟩ = w.cell? ⟨b, o, none⟩ := World.cell?_of_block (heap_setCell_other w ⟨g, j, none⟩ b x h)
set_option maxRecDepth 100000 in
set_option maxHeartbeats 4000000 in
theorem shares_any (rs ps : List Nat) (v u : Value) (w : World) (hv : Row w v (toZ rs)) (hu : Row w u (toZ ps)) (hf : Fit u) (hb : Bas ps) (hrl : rs.length = ps.length) (hr : ∀ i, i < ps.length → rs.getD i 0 < ps.getD i 0) :
    Calls Tryz.prog 196 #[v, u] w fun e w' => ∃ g, e = .returned (.slice (some ⟨g, 0, none⟩) ps.length ps.length) ∧ Old w w' ∧ Own w' w.heap.size (.slice (some ⟨g, 0, none⟩) ps.length ps.length) (toZ (yL rs ps)) := by
  obtain ⟨i0, hi, hz0, hz1, hz2⟩ := info_parts Tryz.infoInt
  have hl6 := hb.len6
  have hl1 := hb.len1
  have HU : Hid (Row w u (toZ ps)) := hu
  obtain ⟨b1, o1, cap1, rfl, hb1, hc1⟩ := hv.atZ (by omega)
  obtain ⟨b2, o2, cap2, rfl, hb2, hc2⟩ := hu.atZ (by omega)
  rw [hrl] at hc1 ⊢
  have HC1 : Hid (∀ j, j < ps.length → w.cell? ⟨b1, o1 + j, none⟩ = some (.int .i64 ((rs.getD j 0 : Nat) : Int))) := hc1
  have HC2 : Hid (∀ j, j < ps.length → w.cell? ⟨b2, o2 + j, none⟩ = some (.int .i64 ((ps.getD j 0 : Nat) : Int))) := hc2
  have HB : Hid (Bas ps) := hb
  have HR : Hid (∀ i, i < ps.length → rs.getD i 0 < ps.getD i 0) := hr
  have HF : Hid (Fit (.slice (some ⟨b2, o2, none⟩) ps.length cap2)) := hf
  have hlen : (toZ (yL rs ps)).length = ps.length := by rw [toZ_len, yL_len]
  have HE : Hid (∀ k, k < ps.length → (toZ (yL rs ps)).getD k 0 = ((yN rs ps k : Nat) : Int)) := fun k hk => by rw [toZ_get, yL_get _ _ _ hk]
  generalize toZ (yL rs ps) = zs at *
  clear hv hu hc1 hc2 hb hr hf hrl
  go_enter Tryz.func196, Tryz.ntmps196
  go_wp2_with (at_make; refine wpList_make_full _ rfl _ _ 22 rfl w.heap.size 3 i0 (.int .i64 0) 1 Tryz.underlying22 hi hz0 hz1 .i64 .i64 _ _ ps.length rfl rfl rfl rfl (by rw [hz2]; omega) (by unfold maxLen; omega) (Nat.le_refl _) ?_; intro w3 hown hgrow)
  have HO : Hid (OwnI w3 w.heap.size w.heap.size ps.length (List.replicate ps.length 0)) := by
    rw [made_ints] at hown
    exact hown
  have HG3 : Hid (Old w w3) := Old.by_ (Old.refl _) hgrow (fun b hb => by cases hb)
  clear hown hgrow
  go_loopw [13] (fun i W => ∃ k : Nat, k ≤ ps.length ∧ i = .int .i64 k ∧ Hid (OwnI W w.heap.size w.heap.size ps.length (fillN zs k)) ∧ Hid (Old w W)) (fun i _ => ps.length - (intOf i).toNat)
  case atStart => exact ⟨0, by omega, rfl, (by show OwnI _ _ _ _ _; rw [fillN_zero, hlen]; exact HO.out), HG3⟩
  case round =>
    obtain ⟨k, hk, rfl, HO1, HG⟩ := hrel
    clear HO HG3
    by_cases hlt : k < ps.length
    · have d1 : decide ((k : Int) < (ps.length : Int)) = true := by simp; omega
      have c1 : wr.cell? ⟨b1, o1 + k, none⟩ = some (.int .i64 ((rs.getD k 0 : Nat) : Int)) := (HG.out.cell (p := ⟨b1, o1 + k, none⟩) hb1).trans (HC1.out k hlt)
      have c2 : wr.cell? ⟨b2, o2 + k, none⟩ = some (.int .i64 ((ps.getD k 0 : Nat) : Int)) := (HG.out.cell (p := ⟨b2, o2 + k, none⟩) hb2).trans (HC2.out k hlt)
      have civ := fun W h3 => inverseAt_any ps (.slice (some ⟨b2, o2, none⟩) ps.length cap2) k W h3 HF.out hlt (by omega) HB.out.lo HB.out.hi
      have hyl := yN_lt (rs := rs) HB.out hlt
      have hivl : ivN ps k ≤ 268435456 := by
        have : ivN ps k < ps.getD k 0 := by
          have hm : ps.getD k 0 ∈ ps := by simp [List.getD, hlt]
          have h2 := HB.out.lo _ hm
          unfold ivN
          exact invM_lt _ _ (by omega)
        omega
      have hrk := HR.out k hlt
      have HX : Hid (zs.getD k 0 = ((yN rs ps k : Nat) : Int)) := HE.out k hlt
      have HYE : Hid (rs.getD k 0 * ivN ps k % ps.getD k 0 = yN rs ps k) := rfl
      generalize yN rs ps k = y at *
      generalize ivN ps k = iv at *
      generalize rs.getD k 0 = rk at *
      generalize ps.getD k 0 = p at *
      obtain ⟨y0, hy0⟩ : ∃ y0, rk * iv = y0 := ⟨_, rfl⟩
      have hb2' : y0 ≤ 72057594037927936 := by rw [← hy0]; exact Nat.le_trans (Nat.mul_le_mul (show rk ≤ 268435456 by omega) hivl) (by decide)
      have t2 : IntKind.i64.wrap ((rk : Int) * (iv : Int)) = (y0 : Int) := by rw [← Int.natCast_mul, hy0, IntKind.wrap_i64]; omega
      have hye := HYE.out
      rw [hy0] at hye
      have t3 : Int.tmod (y0 : Int) (p : Int) = (y : Int) := by rw [Int.tmod_eq_emod_of_nonneg (by omega), ← hye]; rfl
      have hp0 : ¬ p = 0 := by omega
      have i1 : (k : Int) < (ps.length : Int) := by omega
      have hbk1 : b1 < wr.heap.size := Nat.lt_of_lt_of_le hb1 HG.out.size
      have HAS : Hid (∀ W', Old wr W' → W'.cell? ⟨b1, o1 + k, none⟩ = some (.int .i64 (rk : Int))) := fun W' g => (g.cell (p := ⟨b1, o1 + k, none⟩) hbk1).trans c1
      have HAS2 : Hid (∀ W' z, Old wr W' → ((fun W' => W'.cell? ⟨b1, o1 + k, none⟩ = some (.int .i64 (rk : Int))) (W'.setCell ⟨w.heap.size, k, none⟩ z))) := fun W' z g => (cellS _ _ _ _ (by omega)).trans (HAS.out W' g)
      have HLK : Hid (zs.length = ps.length) := hlen
      clear HYE hy0 hye
      go_wp2_with fail
      go_region_held3 (fun W' => W'.cell? ⟨b1, o1 + k, none⟩ = some (.int .i64 (rk : Int))) (first | with_reducible exact HAS.out _ G5.out | with_reducible exact HAS.out _ (Below.drew (Old.refl wr)) | with_reducible exact HAS2.out _ _ G5.out | with_reducible exact HAS.out _ (Old.refl wr)) (first
        | (go_at_call 208; refine (civ _ (HU.out.old (Old.trans HG.out (Below.drew (Old.refl wr))))).mono ?_; rintro e w5 ⟨rfl, g5⟩; have G5 : Hid (Old wr w5) := Old.trans (Below.drew (Old.refl wr)) g5; clear g5; have c3 := (HO1.out.old G5.out).get (fillN_len zs k (by omega) |>.trans HLK.out) k hlt; have c4 := (HO1.out.old G5.out).free k; generalize (fillN zs k).getD k 0 = oldv at c3)
        | fail)
      all_goals
        have HP : Hid (OwnI (w5.setCell ⟨w.heap.size, k, none⟩ (.int .i64 (y : Int))) w.heap.size w.heap.size ps.length (fillN zs (k + 1))) := by
          have := (HO1.out.old G5.out).put k (y : Int)
          rw [← HX.out, fillN_set zs k (by omega)] at this
          rw [← HX.out]
          exact this
        have HN2 : Hid (Old w (w5.setCell ⟨w.heap.size, k, none⟩ (.int .i64 (y : Int)))) := (Old.trans HG.out G5.out).own (Nat.le_refl _) _
        go_wp2_with fail
        exact ⟨⟨k + 1, by omega, by go_num, HP, HN2⟩, by simp [intOf]; omega⟩
    · have d1 : decide ((k : Int) < (ps.length : Int)) = false := by simp; omega
      obtain rfl : k = ps.length := by omega
      have HFI : Hid (Own wr w.heap.size (.slice (some ⟨w.heap.size, 0, none⟩) ps.length ps.length) zs) := by
        have := HO1.out.own ((fillN_len zs ps.length (by omega)).trans hlen)
        rw [show fillN zs ps.length = zs by rw [← hlen]; exact fillN_all zs] at this
        exact this
      go_wp2_with fail
      go_ret
      exact ⟨_, rfl, HG.out, HFI.out⟩
end Go.Proofs.YtkggfljdbdfonaaGreatDoor
/- Proved: residues of a basis opened; no function of the program. -/
namespace Go.Proofs.YtkggfljdbdfonaaGreatDoor
open Go.ChangeShapes Go.WideShapes Go.ChangeAt Go.RowKit
open M2
set_option linter.unusedVariables false
set_option linter.unusedSimpArgs false
/-- the number that has the residues -/
def coN (rs ps : List Nat) : Nat := sumN rs ps ps.length % prodN ps
/-- residues of a basis -/
structure Res (rs ps : List Nat) : Prop where
  bas : Bas ps
  len : rs.length = ps.length
  lt : ∀ i, i < ps.length → rs.getD i 0 < ps.getD i 0
theorem coN_cnt {rs ps : List Nat} (h : Res rs ps) : cnt (coN rs ps) ≤ 7 := Nat.le_trans (cnt_mono (Nat.mod_le _ _)) (sumN_cnt h.bas _ (Nat.le_refl _))
end Go.Proofs.YtkggfljdbdfonaaGreatDoor
