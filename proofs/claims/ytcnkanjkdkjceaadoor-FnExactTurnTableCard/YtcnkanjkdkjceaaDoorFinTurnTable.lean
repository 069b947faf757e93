/- Proved: the statement on TurnTable at every size and turn, in a world in which the table of bits is laid. -/
import Derived.Test.YtcnkanjkdkjceaaDoorTabS
import Derived.Test.YtcnkanjkdkjceaaDoorLawTurnTable
namespace Go.Proofs.YtcnkanjkdkjceaaDoor
open Go.ChangeShapes Go.WideShapes Go.ChangeAt Go.RowKit
set_option linter.unusedVariables false
theorem TurnTable_any (n t : Int) (w : World) (ht : -9223372036854775808 ≤ t ∧ t ≤ 9223372036854775807) (hT : TabW w) :
    Calls Tryd.prog 11 #[.int .i64 n, .int .i64 t] w fun e w' => e = .returned (.bool true) ∧ Old w w' := by
  cases hok : (rgB n && turnB n t)
  · exact law_TurnTable n t w hT false [] (by simp)
      (fun W => (spec_TurnTable_no n t W ht hok).mono fun e w' ⟨h1, h2⟩ => ⟨_, h1, h2, own_nil _ _⟩)
      (fun W _ => (impl_TurnTable_no n t W ht hok).mono fun e w' ⟨h1, h2⟩ => ⟨_, h1, h2, own_nil _ _⟩)
  · have hk : rgB n = true ∧ turnB n t = true := by simpa using hok
    have hz := rgB_yes hk.1
    obtain ⟨N, rfl⟩ := Int.eq_ofNat_of_zero_le (show 0 ≤ n by omega)
    have hS : Sz4 N := by omega
    have hb := hk.2
    simp only [turnB, Bool.and_eq_true, decide_eq_true_eq, beq_iff_eq] at hb
    obtain ⟨T, rfl⟩ := Int.eq_ofNat_of_zero_le (show 0 ≤ t by omega)
    have e := tab_same hS (show T < 2 * N by omega) (show T % 2 = 1 by omega)
    refine law_TurnTable _ _ w hT true (toZ (tabN N T)) (by rw [toZ_len, tabN_len]; omega)
      (fun W => by have := spec_TurnTable_yes N T W hS hk.2 (by omega); rw [e] at this; exact this)
      (fun W hT => impl_TurnTable_yes N T W hT hS hk.2 (by omega))
end Go.Proofs.YtcnkanjkdkjceaaDoor
