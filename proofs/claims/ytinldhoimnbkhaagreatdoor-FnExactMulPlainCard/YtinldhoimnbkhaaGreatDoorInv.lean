/- Proved: contracts of InvMod, of the program and of the model: both answer the inverse by Euclid, 0 where there is none or the modulus is out of bounds. -/
import Derived.Test.YtinldhoimnbkhaaGreatDoorRows
import Derived.WalkKit
import Derived.ProofKit
import Derived.OpenShut
import Derived.Test.YtinldhoimnbkhaaGreatDoorZc01
namespace Go.Proofs.YtinldhoimnbkhaaGreatDoor
open Go.ChangeShapes Go.WideShapes Go.ChangeAt Go.RowKit
open M1
theorem ret_int {k : IntKind} {a b : Int} (h : a = b) : Ending.returned (.int k a) = .returned (.int k b) := by rw [h]
set_option maxHeartbeats 1000000 in
theorem impl_InvMod_yes (a m : Int) (w : World) (ha : -9223372036854775808 ≤ a ∧ a ≤ 9223372036854775807) (hm : modB m = true) :
    Calls Tryz.prog 103 #[.int .i64 a, .int .i64 m] w fun e w' => e = .returned (.int .i64 (invM (a % m).toNat m.toNat)) ∧ w' = w := by
  obtain ⟨h1, h2⟩ := modB_yes hm
  obtain ⟨h3, h4⟩ := ha
  have r0 := Int.emod_nonneg a (show m ≠ 0 by omega)
  have r1 := Int.emod_lt_of_pos a (b := m) (by omega)
  have S := Eu.start (a % m) m r0 r1
  generalize hA : a % m = A at *
  have HA : Hid (a % m = A) := hA
  clear hA
  go_enter Tryz.func103, Tryz.ntmps103
  go_wp2_with (first | (go_at_call 113; refine (impl_isModulus _ _).mono ?_; rintro e w' ⟨rfl, rfl⟩) | (go_at_call 70; refine (impl_residueOf _ _ _ ⟨h3, h4⟩ ⟨by omega, by omega⟩).mono ?_; rintro e w' ⟨rfl, rfl⟩; rw [HA.out]))
  go_loop [5, 6, 7, 8] (fun y x v u => ∃ x' y' u' v' : Int, Eu A m x' y' u' v' ∧ x = .int .i64 x' ∧ y = .int .i64 y' ∧ u = .int .i64 u' ∧ v = .int .i64 v') (fun _ x _ _ => (intOf x).toNat)
  case atStart => exact ⟨_, _, _, _, S, rfl, rfl, rfl, rfl⟩
  case round =>
    obtain ⟨x, y, u, v, E, rfl, rfl, rfl, rfl⟩ := hrel
    clear S
    obtain ⟨e1, e2, e3⟩ : 0 ≤ x ∧ x < y ∧ y ≤ m := ⟨E.x0, E.xy, E.ym⟩
    obtain ⟨b1, b2⟩ := E.bu
    obtain ⟨b3, b4⟩ := E.bv
    have HE : Hid (Eu A m x y u v) := E
    clear E
    by_cases hx : x = 0
    · subst hx
      by_cases hy : y = 1
      · subst hy
        have HD : Hid (v % m = (invM A.toNat m.toNat : Int)) := HE.out.done1 h1 r0
        go_wp2_with fail
        refine (impl_residueOf _ _ _ ⟨by omega, by omega⟩ ⟨by omega, by omega⟩).mono ?_
        rintro e w2 ⟨rfl, rfl⟩
        rw [HD.out]
        go_wp2_with fail
        go_ret
        exact ⟨rfl, rfl⟩
      · have HD : Hid ((0 : Int) = (invM A.toNat m.toNat : Int)) := HE.out.done0 h1 r0 hy
        have hy' : (y != 1) = true := by simp [hy]
        go_wp2_with fail
        go_ret
        exact ⟨ret_int HD.out, rfl⟩
    · obtain ⟨E', ⟨q1, q2⟩, ⟨q3, q4⟩, ⟨q5, q6⟩⟩ := HE.out.step hx
      have HE' : Hid (Eu A m (y - y / x * x) x (v - y / x * u) u) := E'
      have n1 : 0 ≤ y - y / x * x := E'.x0
      have n2 : y - y / x * x < x := E'.xy
      obtain ⟨n3, n4⟩ := E'.bu
      clear E' HE
      have hx' : (x != 0) = true := by simp [hx]
      go_wp2_with fail
      go_round
      case rel => exact ⟨_, _, _, _, HE'.out, rfl, rfl, rfl, rfl⟩
      case measure => simp [intOf]; omega
end Go.Proofs.YtinldhoimnbkhaaGreatDoor
