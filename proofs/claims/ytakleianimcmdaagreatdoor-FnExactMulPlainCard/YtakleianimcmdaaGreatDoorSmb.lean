/- Proved: the rows of small numbers, as the model makes them. -/
import Derived.Test.YtakleianimcmdaaGreatDoorAdl2
import Derived.Test.YtakleianimcmdaaGreatDoorM37
namespace Go.Proofs.YtakleianimcmdaaGreatDoor
open Go.ChangeShapes Go.WideShapes Go.ChangeAt Go.RowKit
open M1
set_option linter.unusedVariables false
set_option linter.unusedSimpArgs false
set_option maxRecDepth 100000 in
set_option maxHeartbeats 8000000 in
theorem spec_l8Small (N T E : Int) (ps : List Int) (xs : List Int) (v u1 : Value) (w : World) (hv : Row w v ps) (h1 : Row w u1 xs) (hps : 1 ≤ ps.length ∧ ps.length ≤ 6) (hxl : 1 ≤ xs.length ∧ xs.length ≤ 16)
    (hr : ∀ k, k < ps.length → 2 ≤ ps.getD k 0 ∧ ps.getD k 0 ≤ 268435456) (hxb : ∀ i, i < xs.length → -268435456 ≤ xs.getD i 0 ∧ xs.getD i 0 ≤ 268435456) :
    Calls Tryz.prog 82 #[.agg #[.int .i64 N, .int .i64 T, .int .i64 E, v], u1] w fun e w' => ∃ v', e = .returned v' ∧ Old w w' ∧ OwS (smS ps xs) w' w.heap.size w'.heap.size v' := by
  obtain ⟨i0, hi, hz0, hz1, hz2⟩ := info_parts Tryz.infoInt
  obtain ⟨j0, ji, jz0, jz1, jz2⟩ := info_parts Tryz.infoInts
  have HR : Hid (∀ k, k < ps.length → 2 ≤ ps.getD k 0 ∧ ps.getD k 0 ≤ 268435456) := hr
  have HB : Hid (∀ i, i < xs.length → -268435456 ≤ xs.getD i 0 ∧ xs.getD i 0 ≤ 268435456) := hxb
  have R1 : Hid (Row w u1 xs) := h1
  obtain ⟨a0, cap0, ev⟩ := hv.slice
  subst ev
  rcases hv with ⟨a, cap, e, e'⟩ | ⟨b, o, cap, e, hb, h0, hc⟩
  · subst e'
    simp at hps
  rcases h1 with ⟨a, cap, e, e'⟩ | ⟨b3, o3, cap3, e_1, hb3, h03, hc3⟩
  · subst e'
    simp at hxl
  simp only [Value.slice.injEq, true_and] at e
  obtain ⟨rfl, rfl⟩ := e
  subst e_1
  have HC : Hid (∀ j, j < ps.length → w.cell? ⟨b, o + j, none⟩ = some (.int .i64 (ps.getD j 0))) := hc
  have HC3 : Hid (∀ j, j < xs.length → w.cell? ⟨b3, o3 + j, none⟩ = some (.int .i64 (xs.getD j 0))) := hc3
  have HZ : Hid (∀ k, k < ps.length → (smS ps xs).take (k + 1) = (smS ps xs).take k ++ [smR (ps.getD k 0) xs]) := fun k hk => by
    rw [take_succL _ _ (by rw [smS_len]; exact hk), smS_get _ _ _ hk]
  have HZL : Hid ((smS ps xs).length = ps.length) := smS_len _ _
  generalize smS ps xs = zss at *
  clear hc hc3 hr hxb
  have HAO : Hid (Old w (w.alloc (.cells #[.int .i64 N, .int .i64 T, .int .i64 E, .slice (some ⟨b, o, none⟩) ps.length cap0] 28))) := (Old.refl w).alloc _
  go_enter Tryz.func82, Tryz.ntmps82
  go_wp2_with fail
  go_loopw [5, 14] (fun x i W => ∃ (k : Nat) (a : Option Addr) (cap : Nat), k ≤ ps.length ∧ i = .int .i64 k ∧ x = .slice a k cap ∧ Hid (OwS (zss.take k) W w.heap.size W.heap.size (.slice a k cap)) ∧ Hid (Old w W)) (fun _ i _ => ps.length - (intOf i).toNat)
  case atStart => exact ⟨0, none, 0, by omega, rfl, rfl, ⟨Nat.le_refl _, Or.inl ⟨rfl, by simp⟩⟩, HAO⟩
  case round =>
    obtain ⟨k, a, cap, hk, rfl, rfl, HO, HG⟩ := hrel
    have hsr := HG.out.size
    by_cases hlt : k < ps.length
    · have d1 : decide ((k : Int) < (ps.length : Int)) = true := by simp; omega
      have r3 := HR.out k hlt
      have c0 : wr.cell? ⟨b, o + k, none⟩ = some (.int .i64 (ps.getD k 0)) := (HG.out.cell (p := ⟨b, o + k, none⟩) hb).trans (HC.out k hlt)
      have HC4 : Hid (∀ j, j < xs.length → wr.cell? ⟨b3, o3 + j, none⟩ = some (.int .i64 (xs.getD j 0))) := fun j hj => (HG.out.cell (p := ⟨b3, o3 + j, none⟩) hb3).trans (HC3.out j hj)
      have HT : Hid (∀ i, i < xs.length → (smR (ps.getD k 0) xs).take (i + 1) = (smR (ps.getD k 0) xs).take i ++ [xs.getD i 0 % ps.getD k 0]) := fun i hi' => by
        rw [take_succI _ _ (by rw [smR_len]; exact hi'), smR_get _ _ _ hi']
      have HTL : Hid ((smR (ps.getD k 0) xs).length = xs.length) := smR_len _ _
      have HZK : Hid (zss.take (k + 1) = zss.take k ++ [smR (ps.getD k 0) xs]) := HZ.out k hlt
      have hbr3 : b3 < wr.heap.size := by omega
      generalize smR (ps.getD k 0) xs = zs at *
      generalize ps.getD k 0 = p at *
      have HEMB : Hid (∀ (W : World) (ra : Option Addr) (rc : Nat), Old wr W → Own W wr.heap.size (.slice ra zs.length rc) zs → zs.length ≤ rc → ∃ vs, W.ownsRow w.heap.size 22 1 (.slice a k cap) k vs ∧ (∀ v' w', w'.ownsRow w.heap.size 22 1 v' (k + 1) (vs ++ [.slice ra zs.length rc]) → W.grownBy w' (Value.slice a k cap).ownBlock → (v'.ownBlock = (Value.slice a k cap).ownBlock ∨ v'.ownBlock = some W.heap.size) → OwS (zss.take (k + 1)) w' w.heap.size w'.heap.size v')) := fun W ra rc g o hc => by
        have hl : (zss.take k).length = k := by rw [List.length_take]; have := HZL.out; omega
        have := OwS.app HO.out hsr g o hc
        rw [hl] at this
        rw [HZK.out]
        exact this
      have HOB : Hid (∀ p, (Value.slice a k cap).ownBlock = some p → w.heap.size ≤ p) := fun p hp => by
        obtain ⟨hh, ⟨e, e2⟩ | ⟨p', cap', vs, e, hcap, hl, hhi, _⟩⟩ := HO.out
        · rw [e] at hp
          cases hp
        · rw [e] at hp
          simp only [Value.ownBlock, Option.some.injEq] at hp
          omega
      rename World => wq
      go_wp2_with fail
      go_loopw [8, 20] (fun x i W => ∃ (j : Nat) (a : Option Addr) (cap : Nat), j ≤ xs.length ∧ i = .int .i64 j ∧ x = .slice a j cap ∧ Hid (Own W wq.heap.size (.slice a j cap) (zs.take j)) ∧ Hid (Old wq W)) (fun _ i _ => xs.length - (intOf i).toNat)
      case atStart => exact ⟨0, none, 0, by omega, rfl, rfl, (by exact own_nil _ _), Old.refl _⟩
      case round =>
        obtain ⟨j, ra, rc, hj, rfl, rfl, HO2, HG2⟩ := hrel
        have hs2 := HG2.out.size
        by_cases hjl : j < xs.length
        · have d2 : decide ((j : Int) < (xs.length : Int)) = true := by simp; omega
          obtain ⟨bx1, bx2⟩ := HB.out j hjl
          have HT1 := HT.out j hjl
          have k3 : wr.cell? ⟨b3, o3 + j, none⟩ = some (.int .i64 (xs.getD j 0)) := (HG2.out.cell (p := ⟨b3, o3 + j, none⟩) hbr3).trans (HC4.out j hjl)
          have htk : (zs.take j).length = j := by rw [List.length_take]; have := HTL.out; omega
          have HW1 : Hid (∀ d o, Own ((wr.alloc o).drewN d) wq.heap.size (.slice ra j rc) (zs.take j)) := fun d o => HO2.out.old (((Old.refl wr).alloc o).drewN d)
          have HG5 : Hid (∀ d o, Old wq ((wr.alloc o).drewN d)) := fun d o => (HG2.out.alloc o).drewN d
          have HT2 : Hid (zs.take (j + 1) = zs.take j ++ [xs.getD j 0 % p]) := HT1
          clear HT1
          have hp0 : ¬ p = 0 := by omega
          generalize xs.getD j 0 = x at *
          obtain ⟨q, hq⟩ : ∃ q, x % p = q := ⟨_, rfl⟩
          have hqb : 0 ≤ q ∧ q < 268435456 := by
            have g1 := Int.emod_nonneg x (show p ≠ 0 by omega)
            have g2 := Int.emod_lt_of_pos x (show 0 < p by omega)
            omega
          have cm := fun W => spec_mod x p W (by omega) (by omega)
          rw [hq] at cm HT2
          clear hq
          go_wp2_with fail
          refine (cm _).mono ?_
          rintro e w4 ⟨rfl, hw4⟩
          replace hw4 := hw4.symm
          subst hw4
          go_wp2_with (at_builtin; go_loud (refine wpList_append_own _ rfl _ _ 22 rfl wq.heap.size 3 i0 (.int .i64 0) 1 8 Tryz.underlying22 hi hz0 hz1 hz2 rfl (by decide) _ _ _ rfl (by have := HO2.out.alloc (.cells #[.int .i64 q] 3); unfold Own at this; rw [htk] at this; exact this) ⟨wr.heap.size, 0, none⟩ 1 1 [.int .i64 q] rfl rfl (one_cell _ _ _) (one_one _) (by unfold maxLen; omega) (by omega) (by simp; omega) ?_; intro v5 w5 o5 g5 x5; have O5 : Hid (Own w5 wq.heap.size v5 (zs.take (j + 1))) := (by have := HT2.out; show Own _ _ _ _; rw [this]; exact Own.snoc (by rw [htk]; exact o5)); have G5 : Hid (Old wq w5) := Below.grown (HG2.out.alloc (.cells #[.int .i64 q] 3)) g5 (HG2.out.alloc (.cells #[.int .i64 q] 3)).size (fun j hj => (HO2.out.lt j hj).1); clear o5 g5 x5))
          obtain ⟨a5, cap5, rfl⟩ := (Own.row O5.out).slice
          have htk1 : (zs.take (j + 1)).length = j + 1 := by rw [List.length_take]; have := HTL.out; omega
          rw [htk1] at O5 ⊢
          exact ⟨⟨j + 1, _, _, by omega, by go_num, rfl, O5, G5⟩, by simp [intOf]; omega⟩
        · have d2 : decide ((j : Int) < (xs.length : Int)) = false := by simp; omega
          obtain rfl : j = xs.length := by omega
          have hzl := HTL.out
          have own2 := HO2.out
          rw [List.take_of_length_le (by omega)] at own2
          have hrc : xs.length ≤ rc := by
            rcases own2.2 with ⟨e, hn⟩ | ⟨_, _, _, e, _, _, hn, _⟩
            · simp only [Value.slice.injEq] at e
              omega
            · simp only [Value.slice.injEq, true_and] at e
              omega
          rw [← hzl] at own2 hrc
          obtain ⟨vs, ov, hem⟩ := HEMB.out (wr.alloc (.cells #[.slice ra zs.length rc] 22)) ra rc (HG2.out.alloc _) (own2.alloc _) hrc
          rw [hzl] at ov hem
          have OV : Hid ((wr.alloc (.cells #[.slice ra xs.length rc] 22)).ownsRow w.heap.size 22 1 (.slice a k cap) k vs) := ov
          have HEM : Hid (∀ v' w', w'.ownsRow w.heap.size 22 1 v' (k + 1) (vs ++ [.slice ra xs.length rc]) → (wr.alloc (.cells #[.slice ra xs.length rc] 22)).grownBy w' (Value.slice a k cap).ownBlock → (v'.ownBlock = (Value.slice a k cap).ownBlock ∨ v'.ownBlock = some (wr.alloc (.cells #[.slice ra xs.length rc] 22)).heap.size) → OwS (zss.take (k + 1)) w' w.heap.size w'.heap.size v') := hem
          have HWW : Hid (Old w (wr.alloc (.cells #[.slice ra xs.length rc] 22))) := (Old.trans HG.out HG2.out).alloc _
          clear own2 ov hem hzl hrc HO2
          go_wp2_with (at_builtin; (refine wpList_append_own_at _ rfl _ _ 93 rfl w.heap.size 22 j0 (.slice none 0 0) 1 24 Tryz.underlying93 ji jz0 jz1 jz2 rfl (by decide) _ _ _ rfl OV.out ⟨wr.heap.size, 0, none⟩ 1 1 [.slice ra xs.length rc] rfl rfl (one_cell _ _ _) (one_sl _ _ _) (by unfold maxLen; omega) (by omega) (by simp; omega) ?_; intro v5 w5 o5 g5 x5 l5; have O5 : Hid (OwS (zss.take (k + 1)) w5 w.heap.size w5.heap.size v5) := HEM.out v5 w5 o5 g5 l5; have G5 : Hid (Old w w5) := Below.grown HWW.out g5 HWW.out.size (fun j hj => HOB.out j hj); clear o5 g5 x5 l5))
          have hl1 : (zss.take (k + 1)).length = k + 1 := by rw [List.length_take]; have := HZL.out; omega
          obtain ⟨a5, cap5, e5⟩ := O5.out.slice
          subst e5
          rw [hl1] at O5 ⊢
          exact ⟨⟨k + 1, _, _, by omega, by go_num, rfl, O5, G5⟩, by simp [intOf]; omega⟩
    · have d1 : decide ((k : Int) < (ps.length : Int)) = false := by simp; omega
      obtain rfl : k = ps.length := by omega
      have HF : Hid (OwS zss wr w.heap.size wr.heap.size (.slice a ps.length cap)) := by
        have := HO.out
        rw [List.take_of_length_le (by have := HZL.out; omega)] at this
        exact this
      go_wp2_with fail
      go_ret
      exact ⟨_, rfl, HG.out, HF.out⟩
end Go.Proofs.YtakleianimcmdaaGreatDoor
