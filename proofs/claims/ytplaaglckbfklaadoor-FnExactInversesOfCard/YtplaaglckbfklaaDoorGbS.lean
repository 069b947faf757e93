/- Proved: whether a list is a basis, as the model tells it. -/
import Derived.Test.YtplaaglckbfklaaDoorGb
namespace Go.Proofs.YtplaaglckbfklaaDoor
open Go.ChangeShapes Go.WideShapes Go.ChangeAt Go.RowKit
open M1
set_option linter.unusedVariables false
set_option linter.unusedSimpArgs false
set_option maxRecDepth 100000 in
set_option maxHeartbeats 2000000 in
theorem spec_goodBasis (xs : List Int) (v : Value) (w : World) (hv : Row w v xs) (hf : Fit v) (hl : xs.length ≤ 9223372036854775807) (hx : ∀ x ∈ xs, -9223372036854775808 ≤ x ∧ x ≤ 9223372036854775807) :
    Calls Tryd.prog 49 #[v] w fun e w' => e = .returned (.bool (basB xs)) ∧ Old w w' := by
  have ci := fun W => spec_in (xs.length : Int) 1 6 W
  by_cases h0 : 1 ≤ xs.length ∧ xs.length ≤ 6
  · have HB : Hid (gb xs 0 = basB xs) := by
      show _ = _
      unfold basB
      rw [decide_eq_true h0, Bool.true_and]
    generalize basB xs = B at *
    have hin : inB (xs.length : Int) 1 6 = true := decide_eq_true (by omega)
    rw [hin] at ci
    have HV : Hid (Row w v xs) := hv
    rcases hv with ⟨a, cap, rfl, rfl⟩ | ⟨b, o, cap, rfl, hb, h1, hc⟩
    · simp at h0
    have HC : Hid (∀ j, j < xs.length → w.cell? ⟨b, o + j, none⟩ = some (.int .i64 (xs.getD j 0))) := hc
    have HX : Hid (∀ x ∈ xs, -9223372036854775808 ≤ x ∧ x ≤ 9223372036854775807) := hx
    obtain ⟨h2, h3⟩ := h0
    have hcap : xs.length ≤ cap := hf
    clear hc hf hx hin
    go_enter Tryd.func49, Tryd.ntmps49
    go_wp2_with (go_at_call 114; refine (ci _).mono ?_; rintro e w1 ⟨rfl, hw⟩; obtain rfl : w = w1 := hw.symm)
    clear ci
    go_loopw [13] (fun i W => ∃ k : Nat, k ≤ xs.length ∧ i = .int .i64 k ∧ Hid (gb xs k = B) ∧ Hid (Old w W)) (fun i _ => xs.length - (intOf i).toNat)
    case atStart => exact ⟨0, by omega, rfl, HB, Old.refl _⟩
    case round =>
      obtain ⟨k, hk, rfl, H1, HG⟩ := hrel
      clear HB
      by_cases hlt : k < xs.length
      · have d1 : decide ((k : Int) < (xs.length : Int)) = true := by simp; omega
        have c1 : wr.cell? ⟨b, o + k, none⟩ = some (.int .i64 (xs.getD k 0)) := (HG.out.cell (p := ⟨b, o + k, none⟩) hb).trans (HC.out k hlt)
        have hkc : k ≤ cap := by omega
        have hxm : xs.getD k 0 ∈ xs := by simp [List.getD, hlt]
        have hxb := HX.out _ hxm
        have HAT : Hid (gbAt xs k = (pmB (xs.getD k 0) && !((xs.take k).contains (xs.getD k 0)))) := rfl
        have HPM : Hid (pmB (xs.getD k 0) = (modB (xs.getD k 0) && isP (xs.getD k 0).toNat)) := rfl
        have HHN : Hid ((∀ j, j < k → (xs.getD k 0 == xs.getD j 0) = false) → (xs.take k).contains (xs.getD k 0) = false) := fun h => has_none _ _ (fun j hj => by
          rw [List.length_take] at hj
          have e : (xs.take k).getD j 0 = xs.getD j 0 := by simp [List.getD, List.getElem?_take, show j < k by omega]
          rw [e]
          exact h j (by omega))
        have HHY : Hid (∀ j, j < k → (xs.getD k 0 == xs.getD j 0) = true → (xs.take k).contains (xs.getD k 0) = true) := fun j hj h => has_at _ _ j (by rw [List.length_take]; omega) (by
          have e : (xs.take k).getD j 0 = xs.getD j 0 := by simp [List.getD, List.getElem?_take, hj]
          rw [e]
          exact h)
        have cm := fun W => spec_modulus (xs.getD k 0) W
        cases hm : modB (xs.getD k 0)
        · have H3 : Hid (false = B) := by
            have := H1.out
            rw [gb_no hlt (by rw [HAT.out, HPM.out, hm]; rfl)] at this
            exact this
          rw [hm] at cm
          clear HAT HPM HHN HHY hm H1 hxm
          generalize xs.getD k 0 = x at *
          go_wp2_with (go_at_call 115; refine (cm _).mono ?_; rintro e w' ⟨rfl, rfl⟩)
          go_ret
          exact ⟨ret_bb H3.out, HG.out⟩
        · rw [hm] at cm
          obtain ⟨m1, m2⟩ := modB_yes hm
          have cp := fun W => spec_IsPrime (xs.getD k 0).toNat W (by omega)
          rw [Int.toNat_of_nonneg (by omega)] at cp
          cases hp : isP (xs.getD k 0).toNat
          · have H3 : Hid (false = B) := by
              have := H1.out
              rw [gb_no hlt (by rw [HAT.out, HPM.out, hm, hp]; rfl)] at this
              exact this
            rw [hp] at cp
            clear HAT HPM HHN HHY hm hp H1 hxm
            generalize xs.getD k 0 = x at *
            go_wp2_with (go_at_call 115; refine (cm _).mono ?_; rintro e w' ⟨rfl, rfl⟩)
            refine (cp _).mono ?_
            rintro e w2 ⟨rfl, g2⟩
            have HG2 : Hid (Old w w2) := Old.trans HG.out g2
            clear g2
            go_wp2_with fail
            go_ret
            exact ⟨ret_bb H3.out, HG2.out⟩
          · have HY : Hid ((xs.take k).contains (xs.getD k 0) = false → gb xs (k + 1) = B) := fun hct => by
              have := H1.out
              rw [gb_yes (by rw [HAT.out, HPM.out, hm, hp, hct]; rfl)] at this
              exact this
            have HN : Hid ((xs.take k).contains (xs.getD k 0) = true → false = B) := fun hct => by
              have := H1.out
              rw [gb_no hlt (by rw [HAT.out, HPM.out, hm, hp, hct]; rfl)] at this
              exact this
            rw [hp] at cp
            have HY2 : Hid ((∀ j, j < k → (xs.getD k 0 == xs.getD j 0) = false) → gb xs (k + 1) = B) := fun h => HY.out (HHN.out h)
            have HN2 : Hid (∀ j, j < k → (xs.getD k 0 == xs.getD j 0) = true → false = B) := fun j hj h => HN.out (HHY.out j hj h)
            clear HAT HPM HHN HHY HY HN hm hp H1 hxm
            generalize xs.getD k 0 = x at *
            go_wp2_with (go_at_call 115; refine (cm _).mono ?_; rintro e w' ⟨rfl, rfl⟩)
            refine (cp _).mono ?_
            rintro e w2 ⟨rfl, g2⟩
            have HG2 : Hid (Old w w2) := Old.trans HG.out g2
            clear g2 HG c1 cp cm d1
            go_wp2_with fail
            go_loopw [31] (fun i W => ∃ j : Nat, j ≤ k ∧ i = .int .i64 j ∧ Hid (∀ i, i < j → (x == xs.getD i 0) = false) ∧ Hid (Old w W)) (fun i _ => k - (intOf i).toNat)
            case atStart => exact ⟨0, by omega, rfl, fun j hj => by omega, HG2⟩
            case round =>
              obtain ⟨j, hj, rfl, H4, HG4⟩ := hrel
              by_cases hjk : j < k
              · have d2 : decide ((j : Int) < (k : Int)) = true := by simp; omega
                have c2 : wr.cell? ⟨b, o + j, none⟩ = some (.int .i64 (xs.getD j 0)) := (HG4.out.cell (p := ⟨b, o + j, none⟩) hb).trans (HC.out j (by omega))
                cases hq : (x == xs.getD j 0)
                · have H5 : Hid (∀ i, i < j + 1 → (x == xs.getD i 0) = false) := fun i hi => by
                    rcases Nat.lt_or_ge i j with h | h
                    · exact H4.out i h
                    · obtain rfl : i = j := by omega
                      exact hq
                  clear H4
                  generalize xs.getD j 0 = y at *
                  go_wp2_with fail
                  exact ⟨⟨j + 1, by omega, by go_num, H5, HG4⟩, by simp [intOf]; omega⟩
                · have H5 : Hid (false = B) := HN2.out j hjk hq
                  clear H4
                  generalize xs.getD j 0 = y at *
                  go_wp2_with fail
                  go_ret
                  exact ⟨ret_bb H5.out, HG4.out⟩
              · have d2 : decide ((j : Int) < (k : Int)) = false := by simp; omega
                have H5 : Hid (gb xs (k + 1) = B) := HY2.out (fun i hi => H4.out i (by omega))
                clear H4
                go_wp2_with fail
                exact ⟨⟨k + 1, by omega, by go_num, H5, HG4⟩, by simp [intOf]; omega⟩
      · have d1 : decide ((k : Int) < (xs.length : Int)) = false := by simp; omega
        have H3 : Hid (true = B) := by
          have := H1.out
          rw [gb_end (by omega)] at this
          exact this
        clear H1
        go_wp2_with fail
        go_ret
        exact ⟨ret_bb H3.out, HG.out⟩
  · have HB : Hid (false = basB xs) := by
      show _ = _
      unfold basB
      rw [decide_eq_false h0, Bool.false_and]
    generalize basB xs = B at *
    have hin : inB (xs.length : Int) 1 6 = false := decide_eq_false (by omega)
    rw [hin] at ci
    obtain ⟨a, cap, rfl⟩ := hv.slice
    clear hv hf h0 hin hx
    go_enter Tryd.func49, Tryd.ntmps49
    go_wp2_with (go_at_call 114; refine (ci _).mono ?_; rintro e w1 ⟨rfl, hw⟩; obtain rfl : w = w1 := hw.symm)
    go_ret
    exact ⟨ret_bb HB.out, Old.refl _⟩
end Go.Proofs.YtplaaglckbfklaaDoor
