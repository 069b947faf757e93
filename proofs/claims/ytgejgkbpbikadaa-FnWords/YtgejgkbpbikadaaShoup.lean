import Derived.Test.YtgejgkbpbikadaaRows
import Derived.WalkKit
import Derived.ProofKit
import Derived.OpenShut

namespace Go.Proofs.Ytgejgkbpbikadaa
open Go.ChangeShapes Go.WideShapes Go.ChangeAt Go.RowKit
/-- the numbers at which ShoupOf answers -/
def shoB (a p : Int) : Bool := decide (2 ≤ p ∧ p ≤ 268435456 ∧ 0 ≤ a ∧ a < p)
theorem shoB_yes {a p : Int} (h : shoB a p = true) : 2 ≤ p ∧ p ≤ 268435456 ∧ 0 ≤ a ∧ a < p := by simpa [shoB] using h
theorem shoB_no {a p : Int} (h : shoB a p = false) : p < 2 ∨ (2 ≤ p ∧ 268435456 < p) ∨ (2 ≤ p ∧ p ≤ 268435456 ∧ a < 0) ∨ (2 ≤ p ∧ p ≤ 268435456 ∧ 0 ≤ a ∧ p ≤ a) := by simp [shoB] at h; omega
set_option maxHeartbeats 400000 in
theorem impl_ShoupOf_yes (a p : Int) (w : World) (h : shoB a p = true) :
    Calls Try.prog 17 #[.int .i64 a, .int .i64 p] w fun e w' => e = .returned (.tuple #[.int .i64 (a * 4294967296 / p), .bool true]) ∧ w' = w := by
  obtain ⟨h1, h2, h3, h4⟩ := shoB_yes h
  clear h
  go_enter Try.func17, Try.ntmps17
  go_wp2
  go_ret2
  exact ⟨rfl, rfl⟩
set_option maxHeartbeats 400000 in
theorem impl_ShoupOf_no (a p : Int) (w : World) (h : shoB a p = false) :
    Calls Try.prog 17 #[.int .i64 a, .int .i64 p] w fun e w' => e = .returned (.tuple #[.int .i64 0, .bool false]) ∧ w' = w := by
  rcases shoB_no h with h1 | ⟨h1, h2⟩ | ⟨h1, h2, h3⟩ | ⟨h1, h2, h3, h4⟩
  all_goals
    clear h
    try (have d : decide (a < p) = false := by simp; omega)
    go_enter Try.func17, Try.ntmps17
    go_wp2
    go_ret2
    exact ⟨rfl, rfl⟩
set_option maxHeartbeats 400000 in
theorem spec_ShoupOf_yes (a p : Int) (w : World) (h : shoB a p = true) :
    Calls Try.prog 32 #[.int .i64 a, .int .i64 p] w fun e w' => e = .returned (.tuple #[.int .i64 (a * 4294967296 / p), .bool true]) ∧ w' = w := by
  obtain ⟨h1, h2, h3, h4⟩ := shoB_yes h
  clear h
  have d : decide (a ≤ p - 1) = true := by simp; omega
  go_enter Try.func32, Try.ntmps32
  go_wp2
  go_ret2
  exact ⟨rfl, rfl⟩
set_option maxHeartbeats 400000 in
theorem spec_ShoupOf_no (a p : Int) (w : World) (h : shoB a p = false) :
    Calls Try.prog 32 #[.int .i64 a, .int .i64 p] w fun e w' => e = .returned (.tuple #[.int .i64 0, .bool false]) ∧ w' = w := by
  rcases shoB_no h with h1 | ⟨h1, h2⟩ | ⟨h1, h2, h3⟩ | ⟨h1, h2, h3, h4⟩
  all_goals
    clear h
    try (have d : decide (a ≤ p - 1) = false := by simp; omega)
    go_enter Try.func32, Try.ntmps32
    go_wp2
    go_ret2
    exact ⟨rfl, rfl⟩
end Go.Proofs.Ytgejgkbpbikadaa
