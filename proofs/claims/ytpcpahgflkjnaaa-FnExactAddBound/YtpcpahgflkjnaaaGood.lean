/- Proved: the contract of the model's GoodWhole. -/
import Derived.Test.YtpcpahgflkjnaaaLimbs
namespace Go.Proofs.Ytpcpahgflkjnaaa
open Go.ChangeShapes Go.WideShapes Go.ChangeAt Go.RowKit
open M2
set_option linter.unusedVariables false
set_option linter.unusedSimpArgs false
/-- a limb at its place is as it should be -/
abbrev okAt (xs : List Int) (j : Nat) : Prop := (0 ≤ xs.getD j 0 ∧ xs.getD j 0 ≤ 268435455) ∧ ¬ (xs.getD j 0 = 0 ∧ j + 1 = xs.length)
/-- a whole number is as it should be -/
abbrev Good (n : Bool) (xs : List Int) : Prop := xs.length ≤ 40 ∧ ¬ (xs.length = 0 ∧ n = true) ∧ ∀ j, j < xs.length → okAt xs j
theorem specIn (x lo hi : Int) (w : World) :
    Calls Try.prog 21 #[.int .i64 x, .int .i64 lo, .int .i64 hi] w fun e w' => e = .returned (.bool (decide (lo ≤ x ∧ x ≤ hi))) ∧ w' = w := by
  by_cases h1 : lo ≤ x
  · by_cases h2 : x ≤ hi
    · rw [decide_eq_true ⟨h1, h2⟩]
      go_enter Try.func21, Try.ntmps21
      go_wp2_with fail
      go_ret
      exact ⟨by simp [h1, h2], rfl⟩
    · rw [decide_eq_false (fun h => h2 h.2)]
      go_enter Try.func21, Try.ntmps21
      go_wp2_with fail
      go_ret
      exact ⟨by simp [h1, h2], rfl⟩
  · rw [decide_eq_false (fun h => h1 h.1)]
    go_enter Try.func21, Try.ntmps21
    go_wp2_with fail
    go_ret
    exact ⟨by simp [h1], rfl⟩
set_option maxHeartbeats 2000000 in
theorem good_any (n : Bool) (xs : List Int) (v : Value) (w : World) (hv : Row w v xs) (hl : xs.length ≤ 1048576) :
    Calls Try.prog 12 #[.agg #[.bool n, v]] w fun e w' => e = .returned (.bool (decide (Good n xs))) ∧ Old w w' := by
  have HV : Hid (Row w v xs) := hv
  obtain ⟨a0, cap0, rfl⟩ := hv.slice
  clear hv
  by_cases h40 : xs.length ≤ 40
  · by_cases h0 : xs.length = 0 ∧ n = true
    · have e : decide (Good n xs) = false := decide_eq_false (fun h => h.2.1 h0)
      rw [e]
      obtain ⟨h01, rfl⟩ := h0
      obtain rfl := List.length_eq_zero_iff.1 h01
      clear e h01
      go_enter Try.func12, Try.ntmps12
      go_wp2_with fail
      go_ret
      exact ⟨rfl, (Old.refl w).alloc _⟩
    · have HG0 : Hid (Good n xs ↔ ∀ j, j < xs.length → okAt xs j) := ⟨fun h => h.2.2, fun h => ⟨h40, h0, h⟩⟩
      have d40 : decide ((40 : Int) < (xs.length : Int)) = false := dlt_no (by omega)
      have dn : xs.length = 0 → n = false := fun h => by
        cases n with
        | false => rfl
        | true => exact absurd ⟨h, rfl⟩ h0
      obtain ⟨B, hB⟩ : ∃ B, decide (Good n xs) = B := ⟨_, rfl⟩
      rw [hB]
      have HB : Hid (decide (Good n xs) = B) := hB
      clear hB h0
      rcases Nat.eq_zero_or_pos xs.length with hx0 | hx0
      · obtain rfl := List.length_eq_zero_iff.1 hx0
        obtain rfl := dn rfl
        have HT : Hid (B = true) := by rw [← HB.out]; exact decide_eq_true (HG0.out.2 (fun j hj => by simp at hj))
        clear dn hx0
        go_enter Try.func12, Try.ntmps12
        go_wp2_with fail
        refine wp_loop_rounds 1 ?_
        rw [rounds_succ]
        go_wp2_with fail
        go_ret
        exact ⟨congrArg (fun z => Ending.returned (.bool z)) HT.out.symm, (Old.refl w).alloc _⟩
      · have dx0 : ((xs.length : Int) == 0) = false := by simp; intro h; rw [h] at hx0; simp at hx0
        have HC : Hid (∃ b o, a0 = some ⟨b, o, none⟩ ∧ b < w.heap.size ∧ ∀ j, j < xs.length → w.cell? ⟨b, o + j, none⟩ = some (.int .i64 (xs.getD j 0))) := by
          rcases HV.out with ⟨a', cap', e, e2⟩ | ⟨b, o, cap', e, hb, _, hc⟩
          · rw [e2] at hx0; simp at hx0
          · simp only [Value.slice.injEq] at e
            obtain ⟨rfl, _, _⟩ := e
            exact ⟨b, o, rfl, hb, hc⟩
        obtain ⟨b, o, rfl, hb, hc⟩ := HC.out
        have HC2 : Hid (∀ j, j < xs.length → w.cell? ⟨b, o + j, none⟩ = some (.int .i64 (xs.getD j 0))) := hc
        clear hc HC dn HV
        go_enter Try.func12, Try.ntmps12
        go_wp2_with fail
        go_loopw [22] (fun i W => ∃ k : Nat, k ≤ xs.length ∧ i = .int .i64 k ∧ Hid (∀ j, j < k → okAt xs j) ∧ W = w.alloc (.cells #[.bool n, .slice (some ⟨b, o, none⟩) xs.length cap0] 26)) (fun i _ => xs.length - (intOf i).toNat)
        case atStart => exact ⟨0, by omega, rfl, fun j hj => absurd hj (by omega), rfl⟩
        case round =>
          obtain ⟨k, hk, rfl, HF, rfl⟩ := hrel
          by_cases hlt : k < xs.length
          · have c1 : (w.alloc (.cells #[.bool n, .slice (some ⟨b, o, none⟩) xs.length cap0] 26)).cell? ⟨b, o + k, none⟩ = some (.int .i64 (xs.getD k 0)) := (cell_lt _ _ _ _ hb).trans (HC2.out k hlt)
            have c2 : (w.alloc (.cells #[.bool n, .slice (some ⟨b, o, none⟩) xs.length cap0] 26)).cell? ⟨w.heap.size, 1, none⟩ = some (.slice (some ⟨b, o, none⟩) xs.length cap0) := cell_at _ _ _ _ _ rfl
            by_cases hok : okAt xs k
            · have HF2 : Hid (∀ j, j < k + 1 → okAt xs j) := fun j hj => by
                by_cases hjk : j = k
                · rw [hjk]; exact hok
                · exact HF.out j (by omega)
              obtain ⟨⟨h1, h2⟩, h3⟩ := hok
              have din : decide (0 ≤ xs.getD k 0 ∧ xs.getD k 0 ≤ 268435455) = true := decide_eq_true ⟨h1, h2⟩
              have cin := fun W => specIn (xs.getD k 0) 0 268435455 W
              rw [din] at cin
              generalize xs.getD k 0 = x at *
              clear din
              by_cases hx : x = 0
              · have hne : ¬ k + 1 = xs.length := fun h => h3 ⟨hx, h⟩
                have dk : ((k : Int) == (xs.length : Int) - 1) = false := by simp; omega
                have dz : (x == 0) = true := by simp [hx]
                clear hx h3
                go_wp2_with fail
                refine (cin _).mono ?_
                rintro e w' ⟨rfl, rfl⟩
                go_wp2_with fail
                exact ⟨⟨k + 1, by omega, by go_num, HF2, by first | rfl | trivial⟩, by simp [intOf]; omega⟩
              · have dz : (x == 0) = false := by simp [hx]
                clear hx h3
                go_wp2_with fail
                refine (cin _).mono ?_
                rintro e w' ⟨rfl, rfl⟩
                go_wp2_with fail
                exact ⟨⟨k + 1, by omega, by go_num, HF2, by first | rfl | trivial⟩, by simp [intOf]; omega⟩
            · have HT : Hid (B = false) := by rw [← HB.out]; exact decide_eq_false (fun h => hok (HG0.out.1 h k hlt))
              by_cases hin : 0 ≤ xs.getD k 0 ∧ xs.getD k 0 ≤ 268435455
              · have hz : xs.getD k 0 = 0 ∧ k + 1 = xs.length := by
                  apply Classical.byContradiction
                  intro h
                  exact hok ⟨hin, h⟩
                have cin := fun W => specIn (xs.getD k 0) 0 268435455 W
                rw [decide_eq_true hin] at cin
                have dk : ((k : Int) == (xs.length : Int) - 1) = true := by simp; omega
                have dz : (xs.getD k 0 == 0) = true := by rw [hz.1]; rfl
                generalize xs.getD k 0 = x at *
                clear hz hin hok
                go_wp2_with fail
                refine (cin _).mono ?_
                rintro e w' ⟨rfl, rfl⟩
                go_wp2_with fail
                go_ret
                exact ⟨congrArg (fun z => Ending.returned (.bool z)) HT.out.symm, (Old.refl w).alloc _⟩
              · have cin := fun W => specIn (xs.getD k 0) 0 268435455 W
                rw [decide_eq_false hin] at cin
                generalize xs.getD k 0 = x at *
                clear hin hok
                go_wp2_with fail
                refine (cin _).mono ?_
                rintro e w' ⟨rfl, rfl⟩
                go_wp2_with fail
                go_ret
                exact ⟨congrArg (fun z => Ending.returned (.bool z)) HT.out.symm, (Old.refl w).alloc _⟩
          · have HT : Hid (B = true) := by rw [← HB.out]; exact decide_eq_true (HG0.out.2 (fun j hj => HF.out j (by omega)))
            go_wp2_with fail
            go_ret
            exact ⟨congrArg (fun z => Ending.returned (.bool z)) HT.out.symm, (Old.refl w).alloc _⟩
  · have e : decide (Good n xs) = false := decide_eq_false (fun h => h40 h.1)
    rw [e]
    have d40 : decide ((40 : Int) < (xs.length : Int)) = true := dlt_yes (by omega)
    clear e
    go_enter Try.func12, Try.ntmps12
    go_wp2_with fail
    go_ret
    exact ⟨rfl, (Old.refl w).alloc _⟩
end Go.Proofs.Ytpcpahgflkjnaaa
