/- Proved: the contract of the program's GoodWhole: it answers as the model's does, at every whole number that comes in. -/
import Derived.Test.YtpcpahgflkjnaaaGood
namespace Go.Proofs.Ytpcpahgflkjnaaa
open Go.ChangeShapes Go.WideShapes Go.ChangeAt Go.RowKit
open M2
set_option linter.unusedVariables false
set_option linter.unusedSimpArgs false
set_option maxHeartbeats 2000000 in
theorem good_impl (n : Bool) (xs : List Int) (v : Value) (w : World) (hv : Row w v xs) (hl : xs.length ≤ 1048576) :
    Calls Try.prog 23 #[.agg #[.bool n, v]] w fun e w' => e = .returned (.bool (decide (Good n xs))) ∧ Old w w' := by
  have HV : Hid (Row w v xs) := hv
  obtain ⟨a0, cap0, rfl⟩ := hv.slice
  clear hv
  obtain ⟨B, hB⟩ : ∃ B, decide (Good n xs) = B := ⟨_, rfl⟩
  rw [hB]
  have HB : Hid (decide (Good n xs) = B) := hB
  clear hB
  rcases Nat.eq_zero_or_pos xs.length with hx0 | hx0
  · obtain rfl := List.length_eq_zero_iff.1 hx0
    have HT : Hid (B = !n) := by
      rw [← HB.out]
      cases n with
      | false => exact decide_eq_true ⟨by simp, by simp, fun j hj => by simp at hj⟩
      | true => exact decide_eq_false (fun h => h.2.1 ⟨rfl, rfl⟩)
    clear hx0
    go_enter Try.func23, Try.ntmps23
    go_wp2_with fail
    go_ret
    exact ⟨congrArg (fun z => Ending.returned (.bool z)) HT.out.symm, (Old.refl w).alloc _⟩
  · have dx0 : ((xs.length : Int) == 0) = false := by simp; intro h; rw [h] at hx0; simp at hx0
    by_cases h40 : xs.length ≤ 40
    · have d40 : decide ((40 : Int) < (xs.length : Int)) = false := dlt_no (by omega)
      obtain ⟨b, o, rfl, hb, hc⟩ : ∃ b o, a0 = some ⟨b, o, none⟩ ∧ b < w.heap.size ∧ ∀ j, j < xs.length → w.cell? ⟨b, o + j, none⟩ = some (.int .i64 (xs.getD j 0)) := by
        rcases HV.out with ⟨a', cap', e, e2⟩ | ⟨b, o, cap', e, hb, _, hc⟩
        · rw [e2] at hx0; simp at hx0
        · simp only [Value.slice.injEq] at e
          obtain ⟨rfl, _, _⟩ := e
          exact ⟨b, o, rfl, hb, hc⟩
      have HC2 : Hid (∀ j, j < xs.length → w.cell? ⟨b, o + j, none⟩ = some (.int .i64 (xs.getD j 0))) := hc
      clear hc HV
      obtain ⟨m, hm⟩ : ∃ m, xs.length = m + 1 := ⟨xs.length - 1, by omega⟩
      have HM : Hid (xs.length = m + 1) := hm
      have hm' : (xs.length : Int) - 1 = (m : Int) := by omega
      have hmt : ((xs.length : Int) - 1).toNat = m := by omega
      have i1 : (0 : Int) ≤ (xs.length : Int) - 1 := by omega
      have i2 : (xs.length : Int) - 1 < (xs.length : Int) := by omega
      have c0 : w.cell? ⟨b, o + m, none⟩ = some (.int .i64 (xs.getD m 0)) := HC2.out m (by omega)
      clear hm
      by_cases hz : xs.getD m 0 = 0
      · have HT : Hid (B = false) := by
          rw [← HB.out]
          exact decide_eq_false (fun h => (h.2.2 m (by have := HM.out; omega)).2 ⟨hz, HM.out.symm⟩)
        have dz : (xs.getD m 0 == 0) = true := by rw [hz]; rfl
        generalize xs.getD m 0 = x at *
        clear hz
        go_enter Try.func23, Try.ntmps23
        go_wp2_with fail
        go_ret
        exact ⟨congrArg (fun z => Ending.returned (.bool z)) HT.out.symm, (Old.refl w).alloc _⟩
      · have dz : (xs.getD m 0 == 0) = false := beq_eq_false_iff_ne.2 hz
        have HG0 : Hid (Good n xs ↔ ∀ j, j < xs.length → 0 ≤ xs.getD j 0 ∧ xs.getD j 0 ≤ 268435455) := by
          refine ⟨fun h j hj => (h.2.2 j hj).1, fun h => ⟨h40, fun h => by omega, fun j hj => ⟨h j hj, fun h2 => hz ?_⟩⟩⟩
          rw [show m = j by have := HM.out; omega]; exact h2.1
        generalize xs.getD m 0 = x at *
        clear hz
        go_enter Try.func23, Try.ntmps23
        go_wp2_with fail
        clear c0 dz i1 i2 hmt hm'
        go_loopw [28] (fun i W => ∃ k : Nat, k ≤ xs.length ∧ i = .int .i64 k ∧ Hid (∀ j, j < k → 0 ≤ xs.getD j 0 ∧ xs.getD j 0 ≤ 268435455) ∧ W = w.alloc (.cells #[.bool n, .slice (some ⟨b, o, none⟩) xs.length cap0] 26)) (fun i _ => xs.length - (intOf i).toNat)
        case atStart => exact ⟨0, by omega, rfl, fun j hj => absurd hj (by omega), rfl⟩
        case round =>
          obtain ⟨k, hk, rfl, HF, rfl⟩ := hrel
          by_cases hlt : k < xs.length
          · have c1 : (w.alloc (.cells #[.bool n, .slice (some ⟨b, o, none⟩) xs.length cap0] 26)).cell? ⟨b, o + k, none⟩ = some (.int .i64 (xs.getD k 0)) := (cell_lt _ _ _ _ hb).trans (HC2.out k hlt)
            by_cases hok : 0 ≤ xs.getD k 0 ∧ xs.getD k 0 ≤ 268435455
            · have HF2 : Hid (∀ j, j < k + 1 → 0 ≤ xs.getD j 0 ∧ xs.getD j 0 ≤ 268435455) := fun j hj => by
                by_cases hjk : j = k
                · rw [hjk]; exact hok
                · exact HF.out j (by omega)
              have d1 : decide (xs.getD k 0 < 0) = false := decide_eq_false (by omega)
              have d2 : decide ((268435456 : Int) ≤ xs.getD k 0) = false := decide_eq_false (by omega)
              generalize xs.getD k 0 = y at *
              clear hok
              go_wp2_with fail
              exact ⟨⟨k + 1, by omega, by go_num, HF2, by first | rfl | trivial⟩, by simp [intOf]; omega⟩
            · have HT : Hid (B = false) := by rw [← HB.out]; exact decide_eq_false (fun h => hok (HG0.out.1 h k hlt))
              by_cases hn : xs.getD k 0 < 0
              · have d1 : decide (xs.getD k 0 < 0) = true := decide_eq_true hn
                generalize xs.getD k 0 = y at *
                clear hok
                go_wp2_with fail
                go_ret
                exact ⟨congrArg (fun z => Ending.returned (.bool z)) HT.out.symm, (Old.refl w).alloc _⟩
              · have d1 : decide (xs.getD k 0 < 0) = false := decide_eq_false hn
                have d2 : decide ((268435456 : Int) ≤ xs.getD k 0) = true := decide_eq_true (by omega)
                generalize xs.getD k 0 = y at *
                clear hok
                go_wp2_with fail
                go_ret
                exact ⟨congrArg (fun z => Ending.returned (.bool z)) HT.out.symm, (Old.refl w).alloc _⟩
          · have HT : Hid (B = true) := by rw [← HB.out]; exact decide_eq_true (HG0.out.2 (fun j hj => HF.out j (by omega)))
            go_wp2_with fail
            go_ret
            exact ⟨congrArg (fun z => Ending.returned (.bool z)) HT.out.symm, (Old.refl w).alloc _⟩
    · have HT : Hid (B = false) := by rw [← HB.out]; exact decide_eq_false (fun h => h40 h.1)
      have d40 : decide ((40 : Int) < (xs.length : Int)) = true := dlt_yes (by omega)
      go_enter Try.func23, Try.ntmps23
      go_wp2_with fail
      go_ret
      exact ⟨congrArg (fun z => Ending.returned (.bool z)) HT.out.symm, (Old.refl w).alloc _⟩
end Go.Proofs.Ytpcpahgflkjnaaa
