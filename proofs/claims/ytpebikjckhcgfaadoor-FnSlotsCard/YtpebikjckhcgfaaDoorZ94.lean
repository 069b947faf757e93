/- Proved: several texts in one: what each proves is said ahead of it. -/
import Derived.Test.YtpebikjckhcgfaaDoorZ00
/- Proved: laws.sameInts says yes of equal lists. -/
namespace Go.Proofs.YtpebikjckhcgfaaDoor
open Go.ChangeShapes Go.WideShapes Go.ChangeAt Go.RowKit
set_option linter.unusedVariables false
set_option linter.unusedSimpArgs false
set_option maxRecDepth 100000 in
set_option maxHeartbeats 4000000 in
theorem same_yes (xs : List Int) (v u : Value) (w : World) (hv : Row w v xs) (hu : Row w u xs) (hl : xs.length ≤ 1048576) :
    Calls Tryd.prog 19 #[v, u] w fun e w' => e = .returned (.bool true) ∧ Old w w' := by
  obtain ⟨a0, c0, rfl⟩ := hv.slice
  obtain ⟨a1, c1, rfl⟩ := hu.slice
  have HV : Hid (∀ j, j < xs.length → ∃ b o, a0 = some ⟨b, o, none⟩ ∧ b < w.heap.size ∧ w.cell? ⟨b, o + j, none⟩ = some (.int .i64 (xs.getD j 0))) := fun j hj => by
    rcases hv with ⟨a, c, e, e2⟩ | ⟨b, o, cap, e, hb, h3, hc⟩
    · rw [e2] at hj; simp at hj
    · simp only [Value.slice.injEq] at e
      exact ⟨b, o, e.1, hb, hc j hj⟩
  have HU : Hid (∀ j, j < xs.length → ∃ b o, a1 = some ⟨b, o, none⟩ ∧ b < w.heap.size ∧ w.cell? ⟨b, o + j, none⟩ = some (.int .i64 (xs.getD j 0))) := fun j hj => by
    rcases hu with ⟨a, c, e, e2⟩ | ⟨b, o, cap, e, hb, h3, hc⟩
    · rw [e2] at hj; simp at hj
    · simp only [Value.slice.injEq] at e
      exact ⟨b, o, e.1, hb, hc j hj⟩
  clear hv hu
  go_enter Tryd.func19, Tryd.ntmps19
  go_wp2_with fail
  go_loopw [13, 5] (fun i _ W => ∃ k : Nat, k ≤ xs.length ∧ i = .int .i64 k ∧ Hid (Old w W)) (fun i _ _ => xs.length - (intOf i).toNat)
  case atStart => exact ⟨0, by omega, rfl, Old.refl _⟩
  case round =>
    obtain ⟨k, hk, rfl, HG⟩ := hrel
    by_cases hlt : k < xs.length
    · have d1 : decide ((k : Int) < (xs.length : Int)) = true := by simp; omega
      obtain ⟨b, o, rfl, hb, hc⟩ := HV.out k hlt
      obtain ⟨b', o', rfl, hb', hc'⟩ := HU.out k hlt
      have q1 := (HG.out.cell (p := ⟨b, o + k, none⟩) hb).trans hc
      have q2 := (HG.out.cell (p := ⟨b', o' + k, none⟩) hb').trans hc'
      have ilt : (k : Int) < (xs.length : Int) := by omega
      generalize xs.getD k 0 = y at *
      clear hc hc'
      go_wp2_with fail
      go_quiet (fail)
      go_wp2_with fail
      exact ⟨⟨k + 1, by omega, by go_num, HG.out.drewN _⟩, by simp [intOf]; omega⟩
    · have d1 : decide ((k : Int) < (xs.length : Int)) = false := by simp; omega
      go_wp2_with fail
      go_ret
      exact ⟨rfl, HG.out⟩
end Go.Proofs.YtpebikjckhcgfaaDoor
