/- Proved: the walk of the statement on roots, out of the contracts of RootOf and PowMod, whatever is drawn. -/
import Derived.Test.YtgejgkbpbikadaaDoorRows
import Derived.WalkKit
import Derived.ProofKit
import Derived.OpenShut
import Derived.Handy
import Derived.Deep.QuietTactic
import Derived.BigQuiet
import Derived.Test.YtgejgkbpbikadaaDoorRootVal
namespace Go.Proofs.YtgejgkbpbikadaaDoor
open Go.ChangeShapes Go.WideShapes Go.ChangeAt Go.RowKit
open M1
set_option linter.unusedVariables false
theorem grown_drew2 {A B : World} (h : Grown A B) (k : Nat) : Grown A (B.drewN k) := h
set_option maxRecDepth 100000 in
set_option maxHeartbeats 4000000 in
theorem roots_any (code : Value) (len : Nat) (w : World) (h0 : InW w code len) (hl : len ≤ 9223372036854775807) (hT : TabW w) (hP : PrsW w) :
    Calls Tryd.prog 3 #[code] w fun e w' => e = .returned (.bool true) ∧ Grown w w' := by
  obtain ⟨a1, cap1, rfl⟩ := h0.slice
  by_cases hbig : 1048576 < len
  · have dbig : decide ((1048576 : Int) < (len : Int)) = true := by simp; omega
    clear h0 hbig
    go_enter Tryd.func3, Tryd.ntmps3
    go_wp2_with fail
    go_ret
    exact ⟨rfl, Grown.refl _⟩
  · have dbig : decide ((1048576 : Int) < (len : Int)) = false := by simp; omega
    have cd := drawRoot_any _ len w h0 (by omega)
    have HT : Hid (TabW w) := hT
    have HP : Hid (PrsW w) := hP
    clear h0 hbig hT hP
    go_enter Tryd.func3, Tryd.ntmps3
    go_wp2_with fail
    refine cd.mono ?_
    rintro e w1 ⟨⟨p, n, hdm, ⟨hn1, hn2⟩, rfl⟩, gw1⟩
    have HG1 : Hid (Grown w w1) := gw1
    clear gw1 cd
    by_cases h : RootOk p n
    · obtain ⟨q, rfl⟩ := Int.eq_ofNat_of_zero_le (show 0 ≤ p by have := modB_yes h.md; omega)
      obtain ⟨m, rfl⟩ := Int.eq_ofNat_of_zero_le (show 0 ≤ n by omega)
      obtain ⟨q1, q2⟩ := modB_yes h.md
      have hpr := h.pr
      rw [Int.toNat_natCast] at hpr
      obtain ⟨R, hRq, ⟨hR1, f1, f2, f3⟩, c2, c1⟩ := RootOf_val q m h (drawn_Pr q hdm h.md hpr)
      have eh : ((m / 2 : Nat) : Int) = (m : Int) / 2 := by omega
      have i1 := fun W => impl_PowN R m q W (by omega) (by omega) (by omega) (by omega)
      have i2 := fun W => impl_PowN R (m / 2) q W (by omega) (by omega) (by omega) (by omega)
      have s1 := fun (x : Nat) (hx : x ≤ 200) W => spec_PowN x m q W (by omega) (by omega) (by omega) (by omega)
      have s2 := fun (x : Nat) (hx : x ≤ 200) W => spec_PowN x (m / 2) q W (by omega) (by omega) (by omega) (by omega)
      rw [eh] at i2
      simp only [eh] at s2
      rw [f1] at i1
      have F3 : Hid (∀ x, x < R → ¬ (x ^ m % q = 1 ∧ x ^ (m / 2) % q ≠ 1)) := f3
      have S1 : Hid (∀ (x : Nat), x ≤ 200 → ∀ W, Calls Tryd.prog 10 #[.int .i64 x, .int .i64 m, .int .i64 q] W fun en w' => en = .returned (.int .i64 ((x ^ m % q : Nat) : Int)) ∧ w' = W) := s1
      have S2 : Hid (∀ (x : Nat), x ≤ 200 → ∀ W, Calls Tryd.prog 10 #[.int .i64 x, .int .i64 ((m : Int) / 2), .int .i64 q] W fun en w' => en = .returned (.int .i64 ((x ^ (m / 2) % q : Nat) : Int)) ∧ w' = W) := s2
      clear h hpr hdm f1 f3 eh s1 s2
      generalize R ^ (m / 2) % q = Y at *
      have dRR : ((R : Int) != (R : Int)) = false := by simp
      have dY : ((Y : Int) == 1) = false := by simp; omega
      clear f2
      go_wp2_with fail
      refine (c2 _ (HP.out.grown HG1.out) (HT.out.grown HG1.out)).mono ?_
      rintro e w2 ⟨rfl, k, rfl⟩
      have HG2 : Hid (Grown w (w1.drewN k)) := grown_drew2 HG1.out k
      clear HG1 c2
      go_wp2_with fail
      refine (c1 _).mono ?_
      rintro e w3 ⟨rfl, g3⟩
      have HG3 : Hid (Grown w w3) := grown_trans HG2.out g3
      clear HG2 g3 c1
      go_wp2_with fail
      refine (i1 _).mono ?_
      rintro e w4 ⟨rfl, k4, rfl⟩
      go_wp2_with fail
      refine (i2 _).mono ?_
      rintro e w5 ⟨rfl, k5, rfl⟩
      have HG5 : Hid (Grown w ((w3.drewN k4).drewN k5)) := grown_drew2 (grown_drew2 HG3.out k4) k5
      clear HG3 i1 i2
      go_wp2_with fail
      go_loopw [9] (fun x W => ∃ (x' : Nat), 1 ≤ x' ∧ x' ≤ 200 ∧ x = .int .i64 x' ∧ Hid (Grown w W)) (fun x _ => 200 - (intOf x).toNat)
      case atStart => exact ⟨1, by omega, by omega, rfl, HG5⟩
      case round =>
        obtain ⟨x, hx1, hx2, rfl, HG⟩ := hrel
        clear HG5
        by_cases hxR : x < R
        · by_cases hx200 : x < 200
          · have d1 : decide ((x : Int) < (R : Int)) = true := by simp; omega
            have d2 : decide ((x : Int) < 200) = true := by simp; omega
            have t1 := fun W => S1.out x hx2 W
            have t2 := fun W => S2.out x hx2 W
            have hno := F3.out x hxR
            generalize x ^ m % q = U at *
            generalize x ^ (m / 2) % q = V at *
            by_cases hU : U = 1
            · have hV : V = 1 := by
                by_cases hV : V = 1
                · exact hV
                · exact absurd ⟨hU, hV⟩ hno
              have dU : ((U : Int) == 1) = true := by simp; omega
              have dV : ((V : Int) != 1) = false := by simp; omega
              clear hU hV hno
              go_wp2_with fail
              refine (t1 _).mono ?_
              rintro e w' ⟨rfl, rfl⟩
              go_wp2_with fail
              refine (t2 _).mono ?_
              rintro e w' ⟨rfl, rfl⟩
              go_wp2_with fail
              exact ⟨⟨x + 1, by omega, by omega, by go_num, HG⟩, by simp [intOf]; omega⟩
            · have dU : ((U : Int) == 1) = false := by simp; omega
              clear hU hno t2
              go_wp2_with fail
              refine (t1 _).mono ?_
              rintro e w' ⟨rfl, rfl⟩
              go_wp2_with fail
              exact ⟨⟨x + 1, by omega, by omega, by go_num, HG⟩, by simp [intOf]; omega⟩
          · have d1 : decide ((x : Int) < (R : Int)) = true := by simp; omega
            have d2 : decide ((x : Int) < 200) = false := by simp; omega
            go_wp2_with fail
            go_ret
            exact ⟨rfl, HG.out⟩
        · have d1 : decide ((x : Int) < (R : Int)) = false := by simp; omega
          go_wp2_with fail
          go_ret
          exact ⟨rfl, HG.out⟩
    · have c2 := fun W h1 h2 => impl_RootOf_no p n W h1 h2 h
      have c1 := fun W => spec_RootOf_no p n W h
      clear h hdm
      go_wp2_with fail
      refine (c2 _ (HP.out.grown HG1.out) (HT.out.grown HG1.out)).mono ?_
      rintro e w2 ⟨rfl, k, rfl⟩
      have HG2 : Hid (Grown w (w1.drewN k)) := grown_drew2 HG1.out k
      clear HG1 c2
      go_wp2_with fail
      refine (c1 _).mono ?_
      rintro e w3 ⟨rfl, g3⟩
      have HG3 : Hid (Grown w w3) := grown_trans HG2.out g3
      clear HG2 g3 c1
      go_wp2_with fail
      go_ret
      exact ⟨rfl, HG3.out⟩
end Go.Proofs.YtgejgkbpbikadaaDoor
