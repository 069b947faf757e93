/- Proved: contracts of MontOf, of the program and of the model: both answer the modulus, the opposite of its inverse modulo the word, and the square of the word modulo it. -/
import Derived.Test.YtgejgkbpbikadaaRows
import Derived.WalkKit
import Derived.ProofKit
import Derived.OpenShut
import Derived.Handy
import Derived.Deep.QuietTactic
import Derived.BigQuiet
import Derived.Deep.RegionWith
import Derived.Test.YtgejgkbpbikadaaMonInv
namespace Go.Proofs.Ytgejgkbpbikadaa
open Go.ChangeShapes Go.WideShapes Go.ChangeAt Go.RowKit
open M1
/-- what MontOf answers for an odd modulus -/
abbrev monV (p i t : Nat) : Array Value := #[.int .i64 p, .int .i64 i, .int .i64 t]
theorem impl_MontOf_no (p : Int) (w : World) (h : oddB p = false) :
    Calls Try.prog 15 #[.int .i64 p] w fun e w' => e = .returned (.tuple #[.agg #[.int .i64 0, .int .i64 0, .int .i64 0], .bool false]) ∧ Grown w w' := by
  go_enter Try.func15, Try.ntmps15
  go_wp2_with (go_at_call 40; refine (impl_isOdd _ _).mono ?_; rintro en w' ⟨rfl, rfl⟩)
  exact bodyPost_ret (v := .tuple #[.agg #[.int .i64 0, .int .i64 0, .int .i64 0], .bool false]) (by simp [results, Try.results15, go_sem]) rfl ⟨rfl, Grown.alloc (Grown.refl _) _ _⟩
set_option maxHeartbeats 2000000 in
set_option maxRecDepth 100000 in
theorem impl_MontOf_yes (p : Nat) (w : World) (h : oddB p = true) :
    Calls Try.prog 15 #[.int .i64 p] w fun e w' => e = .returned (.tuple #[.agg (monV p (monI p) (monT p)), .bool true]) ∧ Grown w w' := by
  obtain ⟨h1, h2, h3, h4⟩ := oddB_yes h
  have c := fun W => impl_negInverse p W (by omega) (by omega)
  have r1 : 4294967296 % p < p := Nat.mod_lt _ (by omega)
  have b1 : 4294967296 % p * (4294967296 % p) ≤ 268435456 * 268435456 := Nat.mul_le_mul (by omega) (by omega)
  have HT : Hid (4294967296 % p * (4294967296 % p) % p = monT p) := rfl
  generalize monI p = I at *
  generalize monT p = T at *
  have e1 : (4294967296 : Int) % (p : Int) = ((4294967296 % p : Nat) : Int) := by simp
  generalize 4294967296 % p = q at *
  have e2 : (q : Int) * (q : Int) = ((q * q : Nat) : Int) := by simp
  generalize q * q = Q at *
  have HT2 : Hid ((IntKind.i64.wrap (Q : Int)).tmod (p : Int) = (T : Int)) := by
    show _ = _
    rw [← HT.out, show IntKind.i64.wrap (Q : Int) = (Q : Int) by rw [IntKind.wrap_i64]; omega, Int.tmod_eq_emod_of_nonneg (by omega)]
    simp
  have E1 : Hid ((4294967296 : Int) % (p : Int) = (q : Int)) := e1
  clear e1
  have hpn : ¬ p = 0 := by omega
  go_enter Try.func15, Try.ntmps15
  go_wp2_with (go_at_call 40; refine (impl_isOdd _ _).mono ?_; rintro en w' ⟨rfl, rfl⟩)
  rw [E1.out]
  clear E1 h1 h h4 r1
  go_region_with (first | (go_at_call 41; refine (c _).mono ?_; rintro en w1 ⟨rfl, rfl⟩))
  all_goals
    go_wp2_with fail
    rw [HT2.out]
    exact bodyPost_ret (v := .tuple #[.agg (monV p I T), .bool true]) (by simp [results, Try.results15, go_sem]) rfl ⟨rfl, Grown.drew (Grown.alloc (Grown.refl _) _ _)⟩
theorem spec_MontOf_no (p : Int) (w : World) (h : oddB p = false) :
    Calls Try.prog 28 #[.int .i64 p] w fun e w' => e = .returned (.tuple #[.agg #[.int .i64 0, .int .i64 0, .int .i64 0], .bool false]) ∧ Grown w w' := by
  rcases oddB_no h with h1 | ⟨h1, h2, h3, h4⟩
  · clear h
    go_enter Try.func28, Try.ntmps28
    go_wp2_with (go_at_call 45; refine (spec_modulus _ _).mono ?_; rintro en w' ⟨rfl, rfl⟩)
    exact bodyPost_ret (v := .tuple #[.agg #[.int .i64 0, .int .i64 0, .int .i64 0], .bool false]) (by simp [results, Try.results28, go_sem]) rfl ⟨rfl, Grown.alloc (Grown.refl _) _ _⟩
  · clear h
    have d : (p % 2 == 0) = true := by simp; omega
    go_enter Try.func28, Try.ntmps28
    go_wp2_with (go_at_call 45; refine (spec_modulus _ _).mono ?_; rintro en w' ⟨rfl, rfl⟩)
    exact bodyPost_ret (v := .tuple #[.agg #[.int .i64 0, .int .i64 0, .int .i64 0], .bool false]) (by simp [results, Try.results28, go_sem]) rfl ⟨rfl, Grown.alloc (Grown.refl _) _ _⟩
set_option maxHeartbeats 2000000 in
theorem spec_MontOf_yes (p : Nat) (w : World) (h : oddB p = true) :
    Calls Try.prog 28 #[.int .i64 p] w fun e w' => e = .returned (.tuple #[.agg (monV p (monI p) (monT p)), .bool true]) ∧ Grown w w' := by
  obtain ⟨h1, h2, h3, h4⟩ := oddB_yes h
  have r1 : 4294967296 % p < p := Nat.mod_lt _ (by omega)
  have b1 : 4294967296 % p * (4294967296 % p) ≤ 268435456 * 268435456 := Nat.mul_le_mul (by omega) (by omega)
  have HT : Hid (4294967296 % p * (4294967296 % p) % p = monT p) := rfl
  generalize hI : monI p = I at *
  have HI : Hid (monI p = I) := hI
  clear hI
  generalize monT p = T at *
  have e1 : (4294967296 : Int) % (p : Int) = ((4294967296 % p : Nat) : Int) := by simp
  generalize 4294967296 % p = q at *
  have e2 : (q : Int) * (q : Int) = ((q * q : Nat) : Int) := by simp
  have HT2 : Hid ((q : Int) * (q : Int) % (p : Int) = (T : Int)) := by show _ = _; rw [e2, ← HT.out]; simp
  have z1 : 0 ≤ (q : Int) * (q : Int) := by omega
  have z2 : (q : Int) * (q : Int) ≤ 72057594037927936 := by omega
  have E1 : Hid ((4294967296 : Int) % (p : Int) = (q : Int)) := e1
  have FT : Hid ((wrap64 (4294967296 % (p : Int) * (4294967296 % (p : Int)))).tmod (p : Int) = (T : Int)) := by
    show _ = _
    rw [e1, show wrap64 ((q : Int) * (q : Int)) = (q : Int) * (q : Int) by unfold wrap64; omega, Int.tmod_eq_emod_of_nonneg z1]
    exact HT2.out
  clear e1 e2 HT b1
  have d : ((p : Int) % 2 == 0) = false := by simp; omega
  have S : (2 : Int) ∣ (p : Int) * ((1 : Nat) : Int) - 1 := by simp; omega
  clear h4 h
  go_enter Try.func28, Try.ntmps28
  go_wp2_with (go_at_call 45; refine (spec_modulus _ _).mono ?_; rintro en w' ⟨rfl, rfl⟩)
  go_loopw [4, 5] (fun x k W => ∃ x' k' : Nat, x' < 4294967296 ∧ k' ≤ 5 ∧ Hid (dS k' ∣ (p : Int) * (x' : Int) - 1) ∧ x = .int .i64 x' ∧ k = .int .i64 k' ∧ Hid (W = w.alloc (.cells #[.int .i64 0, .int .i64 0, .int .i64 0] 30))) (fun _ k _ => 5 - (intOf k).toNat)
  case atStart => exact ⟨1, 0, by omega, by omega, S, rfl, rfl, rfl⟩
  case round =>
    obtain ⟨x, k, hx, hk, H1, rfl, rfl, HW⟩ := hrel
    obtain rfl := HW.out
    clear HW
    clear S
    by_cases hlt : k < 5
    · have hd : decide ((k : Int) < 5) = true := by simp; omega
      obtain ⟨r, hr, _, hr2, hr3⟩ := nstep p x
      have H2 : Hid (dS (k + 1) ∣ (p : Int) * (r : Int) - 1) := newton p x r 4294967296 (dS k) (dS (k + 1)) H1.out hr3 (dS_step k).1 (dS_step k).2
      have HR1 : Hid ((x : Int) * ((2 - (p : Int) * (x : Int) % 4294967296) % 4294967296) % 4294967296 = (r : Int)) := hr2
      clear hr2 hr3
      have y0 := Int.emod_nonneg ((p : Int) * (x : Int)) (show (4294967296 : Int) ≠ 0 by omega)
      have y1 := Int.emod_lt_of_pos ((p : Int) * (x : Int)) (b := 4294967296) (by omega)
      generalize hY : (p : Int) * (x : Int) % 4294967296 = Y at *
      have HY : Hid ((p : Int) * (x : Int) % 4294967296 = Y) := hY
      clear hY
      have u0 := Int.emod_nonneg (2 - Y) (show (4294967296 : Int) ≠ 0 by omega)
      have u1 := Int.emod_lt_of_pos (2 - Y) (b := 4294967296) (by omega)
      generalize hU : (2 - Y) % 4294967296 = U at *
      have HU : Hid ((2 - Y) % 4294967296 = U) := hU
      clear hU
      go_wp2_with fail
      refine (spec_word _ _ _ ⟨by omega, by omega⟩ ⟨by omega, by omega⟩).mono ?_
      rintro en w1 ⟨rfl, rfl⟩
      rw [HY.out]
      go_wp2_with fail
      refine (spec_mod _ _ _ ⟨by omega, by omega⟩ ⟨by omega, by omega⟩).mono ?_
      rintro en w1 ⟨rfl, rfl⟩
      rw [HU.out]
      go_wp2_with fail
      refine (spec_word _ _ _ ⟨by omega, by omega⟩ ⟨by omega, by omega⟩).mono ?_
      rintro en w1 ⟨rfl, rfl⟩
      rw [HR1.out]
      go_wp2_with fail
      go_roundw
      case rel => exact ⟨r, k + 1, hr, by omega, H2, rfl, by go_num, True.intro⟩
      case measure => simp [intOf]; omega
    · have hd : decide ((k : Int) < 5) = false := by simp; omega
      obtain rfl : k = 5 := by omega
      have hm := mInv_of p x hx H1.out
      have hpos := mInv_pos p x H1.out
      have HQ : Hid (-(x : Int) % 4294967296 = (I : Int)) := by
        show _ = _
        rw [← HI.out]
        unfold monI
        rw [hm]
        omega
      have hIx : (I : Int) < 4294967296 := by have := HQ.out; omega
      clear hm
      have hpn : ¬ p = 0 := by omega
      go_wp2_with fail
      go_quiet (fail)
      go_wp2_with fail
      refine (spec_mod _ _ _ ⟨by omega, by omega⟩ ⟨by omega, by omega⟩).mono ?_
      rintro en w1 ⟨rfl, rfl⟩
      rw [HQ.out]
      go_wp2_with fail
      rw [FT.out]
      exact bodyPost_ret (v := .tuple #[.agg (monV p I T), .bool true]) (by simp [results, Try.results28, go_sem]) rfl ⟨rfl, Grown.setCell (Grown.setCell (Grown.setCell (grown_trans (Grown.alloc (Grown.refl _) _ _) (grown_drewN _ _)) (Nat.le_refl _) _) (Nat.le_refl _) _) (Nat.le_refl _) _⟩
theorem eqMont_same (a b c : Int) (w : World) :
    Calls Try.prog 29 #[.agg #[.int .i64 a, .int .i64 b, .int .i64 c], .agg #[.int .i64 a, .int .i64 b, .int .i64 c]] w fun e w' => e = .returned (.bool true) ∧ Grown w w' := by
  have da : (a != a) = false := by simp
  have db : (b != b) = false := by simp
  have dc : (c != c) = false := by simp
  go_enter Try.func29, Try.ntmps29
  go_wp2
  go_ret
  exact ⟨rfl, by repeat (first | exact Grown.refl _ | apply Grown.drew | apply Grown.alloc)⟩
set_option maxHeartbeats 1000000 in
theorem montOf_law (p a b c : Int) (t : Bool) (w : World)
    (c1 : ∀ W, Calls Try.prog 28 #[.int .i64 p] W fun e w' => e = .returned (.tuple #[.agg #[.int .i64 a, .int .i64 b, .int .i64 c], .bool t]) ∧ Grown W w')
    (c2 : ∀ W, Calls Try.prog 15 #[.int .i64 p] W fun e w' => e = .returned (.tuple #[.agg #[.int .i64 a, .int .i64 b, .int .i64 c], .bool t]) ∧ Grown W w') :
    Calls Try.prog 8 #[.int .i64 p] w fun e w' => e = .returned (.bool true) ∧ Grown w w' := by
  have db : (t != t) = false := by simp
  go_enter Try.func8, Try.ntmps8
  go_wp2_with fail
  refine (c1 _).mono ?_
  rintro e w1 ⟨rfl, g1⟩
  go_wp2_with fail
  refine (c2 _).mono ?_
  rintro e w2 ⟨rfl, g2⟩
  have q0 := gcell g2 0 (b := w1.heap.size) (by simp)
  have q1 := gcell g2 1 (b := w1.heap.size) (by simp)
  have q2 := gcell g2 2 (b := w1.heap.size) (by simp)
  simp at q0 q1 q2
  have hsz : w1.heap.size < w2.heap.size := by have := g2.2.2; simp at this; omega
  go_wp2_with fail
  refine (eqMont_same _ _ _ _).mono ?_
  rintro e w3 ⟨rfl, g3⟩
  go_wp2_with fail
  go_ret
  exact ⟨rfl, grown_trans g1 (grown_trans (Grown.alloc (Grown.refl _) _ _) (grown_trans g2 (grown_trans (Grown.alloc (Grown.refl _) _ _) g3)))⟩
end Go.Proofs.Ytgejgkbpbikadaa
