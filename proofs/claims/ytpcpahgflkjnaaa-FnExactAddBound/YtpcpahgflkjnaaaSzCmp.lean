/- Proved: the contracts of cmp.Compare over int and of the program's compareSizes. -/
import Derived.Test.YtpcpahgflkjnaaaSzAdd
namespace Go.Proofs.Ytpcpahgflkjnaaa
open Go.ChangeShapes Go.WideShapes Go.ChangeAt Go.RowKit
open M2
set_option linter.unusedVariables false
set_option linter.unusedSimpArgs false

theorem nan_any (x : Int) (w : World) : Calls Try.prog 32 #[.int .i64 x] w fun e w' => e = .returned (.bool false) ∧ w' = w := by
  have d : (x != x) = false := by simp
  go_enter Try.func32, Try.ntmps32
  go_wp2_with fail
  go_ret
  exact ⟨by first | rfl | simp, rfl⟩
theorem cmpInt_any (x y : Nat) (w : World) : Calls Try.prog 31 #[.int .i64 (x : Int), .int .i64 (y : Int)] w fun e w' => e = .returned (.int .i64 (cmpN x y)) ∧ w' = w := by
  have HC : Hid (cmpN x y = if x < y then -1 else if y < x then 1 else 0) := rfl
  generalize cmpN x y = z at *
  rcases Nat.lt_trichotomy x y with h | h | h
  · have d1 : decide (x < y) = true := decide_eq_true h
    have HE : Hid (z = -1) := by rw [HC.out, if_pos h]; rfl
    clear h HC
    go_enter Try.func31, Try.ntmps31
    go_wp2_with (go_at_call 32; refine (nan_any _ _).mono ?_; rintro e w' ⟨rfl, rfl⟩)
    go_ret
    exact ⟨congrArg (fun z => Ending.returned (.int .i64 z)) HE.out.symm, rfl⟩
  · subst h
    have HE : Hid (z = 0) := by rw [HC.out, if_neg (by omega), if_neg (by omega)]; rfl
    clear HC
    go_enter Try.func31, Try.ntmps31
    go_wp2_with (go_at_call 32; refine (nan_any _ _).mono ?_; rintro e w' ⟨rfl, rfl⟩)
    go_ret
    exact ⟨congrArg (fun z => Ending.returned (.int .i64 z)) HE.out.symm, rfl⟩
  · have d1 : decide (x < y) = false := decide_eq_false (by omega)
    have d2 : decide (y < x) = true := decide_eq_true h
    have HE : Hid (z = 1) := by rw [HC.out, if_neg (by omega), if_pos h]; rfl
    clear h HC
    go_enter Try.func31, Try.ntmps31
    go_wp2_with (go_at_call 32; refine (nan_any _ _).mono ?_; rintro e w' ⟨rfl, rfl⟩)
    go_ret
    exact ⟨congrArg (fun z => Ending.returned (.int .i64 z)) HE.out.symm, rfl⟩
theorem cmp_cnt {a b : Nat} (h : cnt a ≠ cnt b) : cmpN (cnt a) (cnt b) = cmpN a b := by
  rcases Nat.lt_or_gt_of_ne h with h1 | h1
  · have := cmp_short (dig_nrm a) (dig_nrm b) h1
    rw [val_dig, val_dig] at this
    unfold cmpN
    rw [if_pos h1, if_pos this]
  · have := cmp_short (dig_nrm b) (dig_nrm a) h1
    rw [val_dig, val_dig] at this
    unfold cmpN
    rw [if_neg (by omega), if_pos h1, if_neg (by omega), if_pos this]
theorem cmp_top {a b m : Nat} (hl : (dig a).length = (dig b).length) (hm : m < cnt a) (hd : (dig a).drop (m + 1) = (dig b).drop (m + 1)) (hne : (dig a).getD m 0 ≠ (dig b).getD m 0) : cmpN ((dig a).getD m 0) ((dig b).getD m 0) = cmpN a b := by
  have h1 := cmp_at (i := m) (dig_lim a) hm hl hd
  have h2 := cmp_at (i := m) (dig_lim b) (by unfold cnt at hm; omega) hl.symm hd.symm
  rw [val_dig, val_dig] at h1 h2
  rcases Nat.lt_or_gt_of_ne hne with h | h
  · have := h1 h
    unfold cmpN
    rw [if_pos h, if_pos this]
  · have := h2 h
    unfold cmpN
    rw [if_neg (by omega), if_pos h, if_neg (by omega), if_pos this]
set_option maxHeartbeats 2000000 in
theorem cmp_sz (a b : Nat) (w : World) (ha : cnt a ≤ 80) (hb : cnt b ≤ 80) :
    Calls Try.prog 27 #[.agg (szV a), .agg (szV b)] w fun e w' => e = .returned (.int .i64 (cmpN a b)) ∧ Old w w' := by
  have HLA := pad_len' ha (by omega)
  have HLB := pad_len' hb (by omega)
  have a80 := szA_cnt HLA (cnt a)
  have b80 := szA_cnt HLB (cnt b)
  have HPA : Hid ((pad a).length = 80) := HLA
  have HPB : Hid ((pad b).length = 80) := HLB
  clear HLA HLB
  unfold szV
  by_cases hlen : cnt a = cnt b
  · have d1 : ((cnt a : Int) != (cnt b : Int)) = false := by simp; omega
    have HL : Hid ((dig a).length = (dig b).length) := hlen
    clear hlen
    go_enter Try.func27, Try.ntmps27
    go_wp2_with fail
    clear a80 b80 d1
    go_loopw [5] (fun i W => ∃ k : Nat, k ≤ cnt a ∧ i = .int .i64 ((k : Int) - 1) ∧ Hid ((dig a).drop k = (dig b).drop k) ∧ Hid (Sz W w.heap.size (pad a) (cnt a)) ∧ Hid (Sz W (w.heap.size + 1) (pad b) (cnt b)) ∧ Hid (Old w W)) (fun i _ => (intOf i + 1).toNat)
    case atStart => exact ⟨cnt a, Nat.le_refl _, rfl, (by show (dig a).drop (dig a).length = (dig b).drop (dig a).length; rw [List.drop_length, HL.out, List.drop_length]), (Sz.new w _ _ HPA.out).alloc _, Sz.new' _ _ _ _ HPB.out (by simp), ((Old.refl w).alloc _).alloc _⟩
    case round =>
      obtain ⟨k, hk, rfl, HD, HSA, HSB, HG⟩ := hrel
      rcases Nat.eq_zero_or_pos k with hk0 | hk0
      · subst hk0
        have HE : Hid (cmpN a b = 0) := by
          have h1 : dig a = dig b := by simpa using HD.out
          have h2 : a = b := by rw [← val_dig a, h1, val_dig]
          rw [h2]
          show cmpN b b = 0
          unfold cmpN
          rw [if_neg (by omega), if_neg (by omega)]
        go_wp2_with fail
        go_ret
        exact ⟨congrArg (fun z => Ending.returned (.int .i64 z)) HE.out.symm, HG.out⟩
      · obtain ⟨m, rfl⟩ : ∃ m, k = m + 1 := ⟨k - 1, by omega⟩
        have c1 := HSA.out.at (j := m) (by omega)
        have c2 := HSB.out.at (j := m) (by omega)
        rw [pad_getD] at c1 c2
        have i1 : (m : Int) < 80 := by omega
        have d0 : decide ((0 : Int) ≤ (m : Int)) = true := by simp
        have em : ((m + 1 : Nat) : Int) - 1 = (m : Int) := by omega
        rw [em]
        clear em
        have HT : Hid ((dig a).getD m 0 ≠ (dig b).getD m 0 → cmpN ((dig a).getD m 0) ((dig b).getD m 0) = cmpN a b) := fun h => cmp_top HL.out (by omega) HD.out h
        have HE : Hid ((dig a).getD m 0 = (dig b).getD m 0 → (dig a).drop m = (dig b).drop m) := fun h => drop_step (by unfold cnt at hk; omega) HL.out HD.out h
        clear HD
        generalize (dig a).getD m 0 = x at *
        generalize (dig b).getD m 0 = y at *
        by_cases hxy : x = y
        · have HE3 : Hid ((dig a).drop m = (dig b).drop m) := HE.out hxy
          have d1 : ((x : Int) != (y : Int)) = false := by simp; omega
          clear HE HT hxy
          go_wp2_with fail
          go_quiet (fail)
          go_wp2_with fail
          exact ⟨⟨m, by omega, rfl, HE3, HSA.out.drew _, HSB.out.drew _, HG.out.drewN _⟩, by first | (simp [intOf]; done) | (simp [intOf]; omega)⟩
        · have HT2 : Hid (cmpN x y = cmpN a b) := HT.out hxy
          have d1 : ((x : Int) != (y : Int)) = true := by simp; omega
          clear HE HT hxy
          go_wp2_with fail
          go_quiet (fail)
          have c1' : (wr.drewN nq).cell? ⟨w.heap.size, m, none⟩ = some (.int .i64 (x : Int)) := c1
          have c2' : (wr.drewN nq).cell? ⟨w.heap.size + 1, m, none⟩ = some (.int .i64 (y : Int)) := c2
          have HG2 : Hid (Old w (wr.drewN nq)) := HG.out.drewN nq
          clear c1 c2 HG HSA HSB
          generalize wr.drewN nq = w2 at c1' c2' HG2 ⊢
          go_wp2_with fail
          go_quiet ((go_at_call 31; exact Calls.quiet_of_same (cmpInt_any _ _ _)))
          go_wp2_with fail
          go_ret
          exact ⟨congrArg (fun z => Ending.returned (.int .i64 z)) HT2.out, HG2.out.drewN _⟩
  · have d1 : ((cnt a : Int) != (cnt b : Int)) = true := by simp; omega
    have HE := cmp_cnt hlen
    have HE' : Hid (cmpN (cnt a) (cnt b) = cmpN a b) := HE
    clear HE hlen
    go_enter Try.func27, Try.ntmps27
    go_wp2_with (go_at_call 31; refine (cmpInt_any _ _ _).mono ?_; rintro e w' ⟨rfl, rfl⟩)
    go_ret
    exact ⟨congrArg (fun z => Ending.returned (.int .i64 z)) HE'.out, ((Old.refl w).alloc _).alloc _⟩
end Go.Proofs.Ytpcpahgflkjnaaa
