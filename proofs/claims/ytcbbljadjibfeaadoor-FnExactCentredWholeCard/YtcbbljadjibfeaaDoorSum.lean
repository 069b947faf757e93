/- Proved: the contract of the program's sumOfParts. -/
import Derived.Test.YtcbbljadjibfeaaDoorRs6
import Derived.Test.YtcbbljadjibfeaaDoorKI
import Derived.Test.YtcbbljadjibfeaaDoorKG
import Derived.Test.YtcbbljadjibfeaaDoorKS
import Derived.Test.YtcbbljadjibfeaaDoorSzAdd
namespace Go.Proofs.YtcbbljadjibfeaaDoor
open Go.ChangeShapes Go.WideShapes Go.ChangeAt Go.RowKit
open M2
set_option linter.unusedVariables false
set_option linter.unusedSimpArgs false
/-- how often the product of all others is taken -/
def yN (rs ps : List Nat) (i : Nat) : Nat := rs.getD i 0 * ivN ps i % ps.getD i 0
/-- the parts of the first k primes -/
def sumN (rs ps : List Nat) : Nat → Nat
  | 0 => 0
  | k + 1 => sumN rs ps k + prodN (oth ps k) * yN rs ps k
theorem oth_len' (ps : List Nat) (i : Nat) (h : i < ps.length) : (oth ps i).length = ps.length - 1 := by simp [oth]; omega
theorem prodN_all (ps : List Nat) (hb : ∀ p ∈ ps, p ≤ 268435456) : prodN ps ≤ LB ^ ps.length := by
  have := prodN_le ps hb ps.length (Nat.le_refl _)
  rwa [List.take_length] at this
theorem oth_le {ps : List Nat} (hb : Bas ps) {i : Nat} (hi : i < ps.length) : prodN (oth ps i) ≤ LB ^ 5 := by
  have h1 := prodN_all (oth ps i) (fun p hp => hb.hi p (oth_mem hp))
  rw [oth_len' ps i hi] at h1
  exact Nat.le_trans h1 (Nat.pow_le_pow_right LB_pos (by have := hb.len6; omega))
theorem yN_lt {rs ps : List Nat} (hb : Bas ps) {i : Nat} (hi : i < ps.length) : yN rs ps i < ps.getD i 0 ∧ ps.getD i 0 ≤ 268435456 := by
  have hm : ps.getD i 0 ∈ ps := by simp [List.getD, hi]
  have := hb.lo _ hm
  exact ⟨Nat.mod_lt _ (by omega), hb.hi _ hm⟩
theorem part_le {rs ps : List Nat} (hb : Bas ps) {i : Nat} (hi : i < ps.length) : prodN (oth ps i) * yN rs ps i ≤ LB ^ 6 := by
  have h1 := oth_le hb hi
  have h2 := yN_lt (rs := rs) hb hi
  have h3 : yN rs ps i ≤ LB := by show _ ≤ 268435456; omega
  rw [Nat.pow_succ LB 5]
  exact Nat.mul_le_mul h1 h3
theorem sumN_le {rs ps : List Nat} (hb : Bas ps) : ∀ k, k ≤ ps.length → sumN rs ps k ≤ k * LB ^ 6
  | 0, _ => by simp [sumN]
  | k + 1, h => by
    have h1 := sumN_le (rs := rs) hb k (by omega)
    have h2 := part_le (rs := rs) hb (show k < ps.length by omega)
    rw [sumN, Nat.add_mul, Nat.one_mul]
    omega
theorem cnt_six {n : Nat} (h : n ≤ 6 * LB ^ 6) : cnt n ≤ 7 := by
  refine cnt_le (Nat.lt_of_le_of_lt h ?_)
  rw [Nat.pow_succ LB 6, Nat.mul_comm]
  exact Nat.mul_lt_mul_of_pos_left (by decide) (pw 6)
theorem sumN_cnt {rs ps : List Nat} (hb : Bas ps) (k : Nat) (h : k ≤ ps.length) : cnt (sumN rs ps k) ≤ 7 := by
  refine cnt_six (Nat.le_trans (sumN_le hb k h) (Nat.mul_le_mul_right _ (by have := hb.len6; omega)))
theorem oth_cnt {ps : List Nat} (hb : Bas ps) {i : Nat} (hi : i < ps.length) : cnt (prodN (oth ps i)) ≤ 7 := by
  refine cnt_six (Nat.le_trans (oth_le hb hi) ?_)
  rw [Nat.pow_succ LB 5]
  have := pw 5
  have h2 : LB ^ 5 * 1 ≤ LB ^ 5 * LB := Nat.mul_le_mul_left _ (by decide)
  omega
theorem part_cnt {rs ps : List Nat} (hb : Bas ps) {i : Nat} (hi : i < ps.length) : cnt (prodN (oth ps i) * yN rs ps i) ≤ 7 := by
  refine cnt_six (Nat.le_trans (part_le hb hi) ?_)
  have := pw 6
  omega
theorem invM_lt (a m : Nat) (hm : 0 < m) : M1.invM a m < m := by
  unfold M1.invM
  cases h : (List.range m).find? (fun i => a * i % m == 1) with
  | none => exact hm
  | some i =>
    have := List.mem_of_find?_eq_some h
    simpa using this
set_option maxRecDepth 100000 in
set_option maxHeartbeats 8000000 in
theorem sum_any (rs ps : List Nat) (v u : Value) (w : World) (hv : Row w v (toZ rs)) (hu : Row w u (toZ ps)) (hf : Fit u) (hb : Bas ps) (hrl : rs.length = ps.length) (hr : ∀ i, i < ps.length → rs.getD i 0 < ps.getD i 0) :
    Calls Tryd.prog 127 #[v, u] w fun e w' => e = .returned (.agg (szV (sumN rs ps ps.length))) ∧ Old w w' := by
  have hl6 := hb.len6
  have hl1 := hb.len1
  have HV : Hid (Row w v (toZ rs)) := hv
  have HU : Hid (Row w u (toZ ps)) := hu
  obtain ⟨b1, o1, cap1, rfl, hb1, hc1⟩ := hv.atZ (by omega)
  obtain ⟨b2, o2, cap2, rfl, hb2, hc2⟩ := hu.atZ (by omega)
  rw [hrl] at HV hc1 ⊢
  have HC1 : Hid (∀ j, j < ps.length → w.cell? ⟨b1, o1 + j, none⟩ = some (.int .i64 ((rs.getD j 0 : Nat) : Int))) := hc1
  have HC2 : Hid (∀ j, j < ps.length → w.cell? ⟨b2, o2 + j, none⟩ = some (.int .i64 ((ps.getD j 0 : Nat) : Int))) := hc2
  have HB : Hid (Bas ps) := hb
  have HR : Hid (∀ i, i < ps.length → rs.getD i 0 < ps.getD i 0) := hr
  have HF : Hid (Fit (.slice (some ⟨b2, o2, none⟩) ps.length cap2)) := hf
  obtain ⟨T, hT⟩ : ∃ T, sumN rs ps ps.length = T := ⟨_, rfl⟩
  rw [hT]
  have HTT : Hid (sumN rs ps ps.length = T) := hT
  have HLT : Hid ((pad T).length = 80) := by rw [← hT]; exact pad_len' (sumN_cnt hb _ (Nat.le_refl _)) (by omega)
  have HZ : Hid (Sz ((w.alloc (.cells Tryd.zeroCells82 82)).alloc (.cells Tryd.zeroCells82 82)) (w.heap.size + 1) (pad 0) (cnt 0)) := by
    have e : pad 0 = ext [] := by unfold pad; rw [dig_zero]
    show Sz _ _ _ _
    rw [e, cnt_zero]
    exact Sz.zero _ _ (by simp)
  have HY : Hid (Sz ((w.alloc (.cells Tryd.zeroCells82 82)).alloc (.cells Tryd.zeroCells82 82)) w.heap.size (ext []) 0) := (Sz.zero _ _ rfl).alloc _
  have HG0 : Hid (Old w ((w.alloc (.cells Tryd.zeroCells82 82)).alloc (.cells Tryd.zeroCells82 82))) := ((Old.refl w).alloc _).alloc _
  have HS0 : Hid (sumN rs ps 0 = 0) := rfl
  clear hv hu hc1 hc2 hb hr hf hT hrl
  unfold szV
  go_enter Tryd.func127, Tryd.ntmps127
  go_wp2_with fail
  go_loopw [11] (fun j W => ∃ k : Nat, k ≤ ps.length ∧ j = .int .i64 k ∧ Hid (Sz W (w.heap.size + 1) (pad (sumN rs ps k)) (cnt (sumN rs ps k))) ∧ Hid (Sz W w.heap.size (ext []) 0) ∧ Hid (Old w W)) (fun j _ => ps.length - (intOf j).toNat)
  case atStart => exact ⟨0, by omega, rfl, HZ, HY, HG0⟩
  case round =>
    obtain ⟨k, hk, rfl, HS, HR0, HG⟩ := hrel
    clear HZ HY HG0
    by_cases hlt : k < ps.length
    · have d1 : decide ((k : Int) < (ps.length : Int)) = true := by simp; omega
      have c1 : wr.cell? ⟨b1, o1 + k, none⟩ = some (.int .i64 ((rs.getD k 0 : Nat) : Int)) := (HG.out.cell (p := ⟨b1, o1 + k, none⟩) hb1).trans (HC1.out k hlt)
      have c2 : wr.cell? ⟨b2, o2 + k, none⟩ = some (.int .i64 ((ps.getD k 0 : Nat) : Int)) := (HG.out.cell (p := ⟨b2, o2 + k, none⟩) hb2).trans (HC2.out k hlt)
      have civ := fun W h3 => inverseAt_any ps (.slice (some ⟨b2, o2, none⟩) ps.length cap2) k W h3 HF.out hlt (by omega) HB.out.lo HB.out.hi
      have hyl := yN_lt (rs := rs) HB.out hlt
      have hivl : ivN ps k ≤ 268435456 := by
        have : ivN ps k < ps.getD k 0 := by
          have hm : ps.getD k 0 ∈ ps := by simp [List.getD, hlt]
          have h2 := HB.out.lo _ hm
          unfold ivN
          exact invM_lt _ _ (by omega)
        omega
      have hrk := HR.out k hlt
      have co := fun W h3 => others_any (toZ ps) (.slice (some ⟨b2, o2, none⟩) ps.length cap2) k W h3 HF.out (by rw [toZ_len]; exact hlt) (by rw [toZ_len]; omega)
      rw [oth_toZ] at co
      have cp := fun v' W h3 => productSize_sz (oth ps k) v' W h3 (Nat.le_trans (oth_len ps k) hl6) (fun p hp => HB.out.hi p (oth_mem hp))
      have cs := fun W => scaled_sz (prodN (oth ps k)) (yN rs ps k) 0 W (Nat.le_trans (oth_cnt HB.out hlt) (by omega)) (by omega) (by omega)
      rw [Nat.add_zero] at cs
      have cd := fun W => add_sz (sumN rs ps k) (prodN (oth ps k) * yN rs ps k) W (Nat.le_trans (sumN_cnt HB.out k hk) (by omega)) (Nat.le_trans (part_cnt HB.out hlt) (by omega))
      have HE : Hid (sumN rs ps k + prodN (oth ps k) * yN rs ps k = sumN rs ps (k + 1)) := rfl
      rw [HE.out] at cd
      have HLS : Hid ((pad (sumN rs ps (k + 1))).length = 80) := pad_len' (sumN_cnt HB.out (k + 1) hlt) (by omega)
      have HYE : Hid (rs.getD k 0 * ivN ps k % ps.getD k 0 = yN rs ps k) := rfl
      unfold szV at cp cs cd
      clear HE
      obtain ⟨S2, hS2⟩ : ∃ S2, sumN rs ps (k + 1) = S2 := ⟨_, rfl⟩
      have HFF : Hid (∀ W, Sz W (w.heap.size + 1) (pad S2) (cnt S2) → Sz W (w.heap.size + 1) (pad (sumN rs ps (k + 1))) (cnt (sumN rs ps (k + 1)))) := fun W h => by rw [hS2]; exact h
      rw [hS2] at cd HLS
      clear hS2
      generalize prodN (oth ps k) * yN rs ps k = pt at *
      generalize prodN (oth ps k) = po at *
      generalize yN rs ps k = y at *
      generalize ivN ps k = iv at *
      generalize rs.getD k 0 = rk at *
      generalize ps.getD k 0 = p at *
      generalize sumN rs ps k = S1 at *
      obtain ⟨y0, hy0⟩ : ∃ y0, rk * iv = y0 := ⟨_, rfl⟩
      have hb2' : y0 ≤ 72057594037927936 := by rw [← hy0]; exact Nat.le_trans (Nat.mul_le_mul (show rk ≤ 268435456 by omega) hivl) (by decide)
      have t2 : IntKind.i64.wrap ((rk : Int) * (iv : Int)) = (y0 : Int) := by rw [← Int.natCast_mul, hy0, IntKind.wrap_i64]; omega
      have hye := HYE.out
      rw [hy0] at hye
      have t3 : Int.tmod (y0 : Int) (p : Int) = (y : Int) := by rw [Int.tmod_eq_emod_of_nonneg (by omega), ← hye]; rfl
      have hp0 : ¬ p = 0 := by omega
      have i1 : (k : Int) < (ps.length : Int) := by omega
      have HAS : Hid (∀ W', Old wr W' → W'.cell? ⟨b1, o1 + k, none⟩ = some (.int .i64 (rk : Int))) := fun W' g => (g.cell (p := ⟨b1, o1 + k, none⟩) (Nat.lt_of_lt_of_le hb1 HG.out.size)).trans c1
      clear HYE hy0 hye
      go_wp2_with fail
      go_region_held3 (fun W' => W'.cell? ⟨b1, o1 + k, none⟩ = some (.int .i64 (rk : Int))) (first | exact HAS.out _ G1.out | exact HAS.out _ (Below.drew (Old.refl wr)) | exact HAS.out _ (Old.refl wr) | fail) (first
        | (go_at_call 139; refine (civ _ (HU.out.old (Old.trans HG.out (Below.drew (Old.refl wr))))).mono ?_; rintro e w1 ⟨rfl, g1⟩; have G1 : Hid (Old wr w1) := Old.trans (Below.drew (Old.refl wr)) g1; clear g1)
        | fail)
      go_wp2_with fail
      refine reg_s6 (pad S1) (pad po) (pad pt) (pad S2) (cnt S1) (cnt po) (cnt pt) (cnt S2) (w.heap.size + 1) k y ps.length cap2 (some ⟨b2, o2, none⟩) (toZ (oth ps k)) w1 (HS.out.old G1.out) HLS (fun W g => (co W (HU.out.old (Old.trans HG.out (Old.trans G1.out g)))).mono (fun e w' ⟨v', h1, h2, h3⟩ => ⟨v', h1, h2, Own.row h3⟩)) cp cs cd _ _ _ _ _ _ _ _ _ _ _ _ _ _ _ _ _ _ _ _ _ _ _ _ _ _ _ _ _ _ _ _ _ _ ?_
      intro W1 W u26 u27 u28 u29 u30 u31 u32 u33 g5 hW
      have HG5 : Hid (Old w W1) := Old.trans HG.out (Old.trans G1.out g5)
      have HS5 : Hid (Sz W1 (w.heap.size + 1) (pad S1) (cnt S1)) := HS.out.old (Old.trans G1.out g5)
      have HR5 : Hid (Sz W1 w.heap.size (ext []) 0) := HR0.out.old (Old.trans G1.out g5)
      subst hW
      clear g5
      go_wp2_with fail
      exact ⟨⟨k + 1, by omega, by go_num, HFF.out _ (HS5.out.row (pad S2) (cnt S2) HLS.out), HR5.out.otherRow (by omega) _, HG5.out.row (by omega) _⟩, by simp [intOf]; omega⟩
    · have d1 : decide ((k : Int) < (ps.length : Int)) = false := by simp; omega
      obtain rfl : k = ps.length := by omega
      have HS2 : Hid (Sz wr (w.heap.size + 1) (pad T) (cnt T)) := by
        have := HS.out
        rw [HTT.out] at this
        exact this
      clear HS
      go_wp2_with (first | ((with_reducible refine load_sz HS2.out ?_ ?_); exact rfl; simp only [Act.put, List.setIfInBounds_toArray, List.set_cons_succ, List.set_cons_zero]) | ((with_reducible refine store_sz HR0.out (pad T) (cnt T) HLT.out ?_ ?_ ?_); exact rfl; exact rfl; simp only [Act.put]) | ((with_reducible refine bodyPost_ret (ret_sz Tryd.results127 _ _ ?_ (HR0.out.row (pad T) (cnt T) HLT.out)) ?_ ?_); exact rfl; exact rfl; exact ⟨rfl, HG.out.row (Nat.le_refl _) _⟩))
end Go.Proofs.YtcbbljadjibfeaaDoor
