/- Proved: several texts in one: what each proves is said ahead of it. -/
import Derived.Test.YtanijpekdnkicaaGreatDoorRows
import Derived.WalkKit
import Derived.ProofKit
import Derived.OpenShut
import Derived.Handy
/- Proved: contracts of BitBack and of the model's l3Back: a number's bits from the last to the first; 0 where an argument is out of its bounds. -/
namespace Go.Proofs.YtanijpekdnkicaaGreatDoor
open Go.ChangeShapes Go.WideShapes Go.ChangeAt Go.RowKit
set_option linter.unusedVariables false
def resB (x p : Int) : Bool := decide (0 ≤ x) && decide (x < p)
theorem residue_any (x p : Int) (w : World) : Calls Tryz.prog 156 #[.int .i64 x, .int .i64 p] w fun e w' => e = .returned (.bool (resB x p)) ∧ w' = w := by
  by_cases h : 0 ≤ x
  · have hd : decide (x ≥ 0) = true := by simp; omega
    have hd2 : decide (0 ≤ x) = true := by simp; omega
    go_enter Tryz.func156, Tryz.ntmps156
    go_wp2_with fail
    go_ret
    exact ⟨by simp [resB, hd2], rfl⟩
  · have hd : decide (x ≥ 0) = false := by simp; omega
    have hd2 : decide (0 ≤ x) = false := by simp; omega
    go_enter Tryz.func156, Tryz.ntmps156
    go_wp2_with fail
    go_ret
    exact ⟨by simp [resB, hd2], rfl⟩
end Go.Proofs.YtanijpekdnkicaaGreatDoor
/- Proved: the contract of the model's BitBack: a number's bits from the last to the first; 0 where an argument is out of its bounds. -/
namespace Go.Proofs.YtanijpekdnkicaaGreatDoor
open Go.ChangeShapes Go.WideShapes Go.ChangeAt Go.RowKit
set_option linter.unusedVariables false
def inQ (x lo hi : Int) : Bool := decide (lo ≤ x) && decide (x ≤ hi)
theorem in_any (x lo hi : Int) (w : World) :
    Calls Tryz.prog 91 #[.int .i64 x, .int .i64 lo, .int .i64 hi] w fun e w' => e = .returned (.bool (inQ x lo hi)) ∧ w' = w := by
  by_cases h : lo ≤ x
  · have hd2 : decide (lo ≤ x) = true := by simp; omega
    go_enter Tryz.func91, Tryz.ntmps91
    go_wp2_with fail
    go_ret
    exact ⟨by simp [inQ, hd2], rfl⟩
  · have hd2 : decide (lo ≤ x) = false := by simp; omega
    go_enter Tryz.func91, Tryz.ntmps91
    go_wp2_with fail
    go_ret
    exact ⟨by simp [inQ, hd2], rfl⟩
end Go.Proofs.YtanijpekdnkicaaGreatDoor
