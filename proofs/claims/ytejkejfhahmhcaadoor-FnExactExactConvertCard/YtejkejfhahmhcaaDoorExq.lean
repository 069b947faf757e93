/- Proved: the questions that ExactConvert asks, of the program and of the model. -/
import Derived.Test.YtejkejfhahmhcaaDoorCvf
import Derived.Test.YtejkejfhahmhcaaDoorCvh
import Derived.Test.YtejkejfhahmhcaaDoorResI
namespace Go.Proofs.YtejkejfhahmhcaaDoor
open Go.ChangeShapes Go.WideShapes Go.ChangeAt Go.RowKit
open M2
set_option linter.unusedVariables false
set_option linter.unusedSimpArgs false
/-- what is asked of the prime that is extra -/
def exB (e : Int) (xs ts : List Int) : Bool := ((pmB e && decide (2 * (xs.length : Int) < e)) && !xs.contains e) && !ts.contains e
set_option maxRecDepth 100000 in
set_option maxHeartbeats 8000000 in
theorem extra_any (e : Int) (xs ts : List Int) (u q : Value) (w : World) (hP : PrsW w) (hT : TabW w) (hu : Row w u xs) (hq : Row w q ts) (hl : xs.length ≤ 1048576) (hlq : ts.length ≤ 1048576) :
    Calls Tryd.prog 66 #[.int .i64 e, u, q] w fun en w' => en = .returned (.bool (exB e xs ts)) ∧ Old w w' := by
  have K1 : ∀ W, Old w W → Calls Tryd.prog 89 #[.int .i64 e] W fun en w' => en = .returned (.bool (pmB e)) ∧ Old W w' := fun W g => (impl_isPM e W (hP.old g) (hT.old g)).mono (fun en w' h => ⟨h.1, by obtain ⟨_, k, hk⟩ := h; rw [hk]; exact (Old.refl W).drewN k⟩)
  have t2 : IntKind.i64.wrap (2 * (xs.length : Int)) = 2 * (xs.length : Int) := by rw [IntKind.wrap_i64]; omega
  have K3 : ∀ W, Old w W → Calls Tryd.prog 76 #[u, .int .i64 e] W fun en w' => en = .returned (.bool (xs.contains e)) ∧ Old W w' := fun W g => contains_any xs e u W (hu.old g) (by omega)
  have K4 : ∀ W, Old w W → Calls Tryd.prog 76 #[q, .int .i64 e] W fun en w' => en = .returned (.bool (ts.contains e)) ∧ Old W w' := fun W g => contains_any ts e q W (hq.old g) (by omega)
  have HX : Hid (exB e xs ts = (((pmB e && decide (2 * (xs.length : Int) < e)) && !xs.contains e) && !ts.contains e)) := rfl
  generalize xs.contains e = bx at *
  generalize ts.contains e = bt at *
  rw [HX.out]
  obtain ⟨ua, uc, rfl⟩ := hu.slice
  obtain ⟨qa, qc, rfl⟩ := hq.slice
  have HG0 : Hid (Old w w) := Old.refl w
  clear hP hT hu hq HX
  cases hB1 : pmB e
  case false =>
    rw [hB1] at K1
    simp only [Bool.false_and, Bool.and_false, Bool.true_and, Bool.and_true, Bool.not_true, Bool.not_false]
    clear hB1 K3 K4
    go_enter Tryd.func66, Tryd.ntmps66
    go_wp2_with fail
    refine (K1 _ HG0.out).mono ?_
    rintro en w1 ⟨rfl, g1⟩
    have HG1 : Hid (Old w w1) := Old.trans HG0.out g1
    clear g1
    go_wp2_with fail
    go_ret
    exact ⟨rfl, HG1.out⟩
  case true =>
    rw [hB1] at K1
    cases hB2 : decide (2 * (xs.length : Int) < e)
    case false =>
      have D2 := hB2
      simp only [Bool.false_and, Bool.and_false, Bool.true_and, Bool.and_true, Bool.not_true, Bool.not_false]
      clear hB1 hB2 K3 K4
      go_enter Tryd.func66, Tryd.ntmps66
      go_wp2_with fail
      refine (K1 _ HG0.out).mono ?_
      rintro en w1 ⟨rfl, g1⟩
      have HG1 : Hid (Old w w1) := Old.trans HG0.out g1
      clear g1
      go_wp2_with fail
      go_ret
      exact ⟨rfl, HG1.out⟩
    case true =>
      have D2 := hB2
      cases hB3 : bx
      case true =>
        rw [hB3] at K3
        simp only [Bool.false_and, Bool.and_false, Bool.true_and, Bool.and_true, Bool.not_true, Bool.not_false]
        clear hB1 hB2 hB3 K4
        go_enter Tryd.func66, Tryd.ntmps66
        go_wp2_with fail
        refine (K1 _ HG0.out).mono ?_
        rintro en w1 ⟨rfl, g1⟩
        have HG1 : Hid (Old w w1) := Old.trans HG0.out g1
        clear g1
        go_wp2_with fail
        refine (K3 _ HG1.out).mono ?_
        rintro en w3 ⟨rfl, g3⟩
        have HG3 : Hid (Old w w3) := Old.trans HG1.out g3
        clear g3
        go_wp2_with fail
        go_ret
        exact ⟨rfl, HG3.out⟩
      case false =>
        rw [hB3] at K3
        cases hB4 : bt
        case true =>
          rw [hB4] at K4
          simp only [Bool.false_and, Bool.and_false, Bool.true_and, Bool.and_true, Bool.not_true, Bool.not_false]
          clear hB1 hB2 hB3 hB4
          go_enter Tryd.func66, Tryd.ntmps66
          go_wp2_with fail
          refine (K1 _ HG0.out).mono ?_
          rintro en w1 ⟨rfl, g1⟩
          have HG1 : Hid (Old w w1) := Old.trans HG0.out g1
          clear g1
          go_wp2_with fail
          refine (K3 _ HG1.out).mono ?_
          rintro en w3 ⟨rfl, g3⟩
          have HG3 : Hid (Old w w3) := Old.trans HG1.out g3
          clear g3
          go_wp2_with fail
          refine (K4 _ HG3.out).mono ?_
          rintro en w4 ⟨rfl, g4⟩
          have HG4 : Hid (Old w w4) := Old.trans HG3.out g4
          clear g4
          go_wp2_with fail
          go_ret
          exact ⟨rfl, HG4.out⟩
        case false =>
          rw [hB4] at K4
          simp only [Bool.false_and, Bool.and_false, Bool.true_and, Bool.and_true, Bool.not_true, Bool.not_false]
          clear hB1 hB2 hB3 hB4
          go_enter Tryd.func66, Tryd.ntmps66
          go_wp2_with fail
          refine (K1 _ HG0.out).mono ?_
          rintro en w1 ⟨rfl, g1⟩
          have HG1 : Hid (Old w w1) := Old.trans HG0.out g1
          clear g1
          go_wp2_with fail
          refine (K3 _ HG1.out).mono ?_
          rintro en w3 ⟨rfl, g3⟩
          have HG3 : Hid (Old w w3) := Old.trans HG1.out g3
          clear g3
          go_wp2_with fail
          refine (K4 _ HG3.out).mono ?_
          rintro en w4 ⟨rfl, g4⟩
          have HG4 : Hid (Old w w4) := Old.trans HG3.out g4
          clear g4
          go_wp2_with fail
          go_ret
          exact ⟨rfl, HG4.out⟩
/-- what ExactConvert asks for -/
def ecB (rs xs : List Int) (e a : Int) (ts : List Int) : Bool := (((basB xs && basB ts) && rsB rs xs) && exB e xs ts) && resB a e
set_option maxRecDepth 100000 in
set_option maxHeartbeats 8000000 in
theorem impl_ExactConvert_no (rs xs ts : List Int) (x a : Int) (v u q : Value) (w : World) (hP : PrsW w) (hT : TabW w) (hv : Row w v rs) (hu : Row w u xs) (hf : Fit u) (hq : Row w q ts) (hfq : Fit q) (hl : xs.length ≤ 1048576) (hlr : rs.length ≤ 9223372036854775807) (hlq : ts.length ≤ 1048576) (h : ecB rs xs x a ts = false) :
    Calls Tryd.prog 27 #[v, u, .int .i64 x, .int .i64 a, q] w (Ls w [] false) := by
  have K1 : ∀ W, Old w W → Calls Tryd.prog 47 #[v, u, q] W fun e w' => e = .returned (.bool ((basB xs && basB ts) && rsB rs xs)) ∧ Old W w' := fun W g => convertible_any rs xs ts v u q W (hP.old g) (hT.old g) (hv.old g) (hu.old g) (hq.old g) hf hfq (by omega) (by omega)
  have K2 : ∀ W, Old w W → Calls Tryd.prog 66 #[.int .i64 x, u, q] W fun e w' => e = .returned (.bool (exB x xs ts)) ∧ Old W w' := fun W g => extra_any x xs ts u q W (hP.old g) (hT.old g) (hu.old g) (hq.old g) hl hlq
  have K3 : ∀ W, Old w W → Calls Tryd.prog 67 #[.int .i64 a, .int .i64 x] W fun e w' => e = .returned (.bool (resB a x)) ∧ Old W w' := fun W g => (residue_any a x W).mono (fun e w' h => ⟨h.1, by rw [h.2]; exact Old.refl _⟩)
  unfold ecB at h
  obtain ⟨va, vc, rfl⟩ := hv.slice
  obtain ⟨ua, uc, rfl⟩ := hu.slice
  obtain ⟨qa, qc, rfl⟩ := hq.slice
  have HG0 : Hid (Old w w) := Old.refl w
  clear hP hT hv hu hq hf hfq
  cases hB1 : ((basB xs && basB ts) && rsB rs xs)
  · rw [hB1] at K1
    clear h hB1 K2 K3
    go_enter Tryd.func27, Tryd.ntmps27
    go_wp2_with fail
    refine (K1 _ HG0.out).mono ?_
    rintro e w1 ⟨rfl, g1⟩
    have HG1 : Hid (Old w w1) := Old.trans HG0.out g1
    clear g1
    go_wp2_with fail
    go_ret2
    exact ⟨_, rfl, HG1.out, own_none _ _⟩
  · rw [hB1] at K1
    cases hB2 : exB x xs ts
    · rw [hB2] at K2
      clear h hB1 hB2 K3
      go_enter Tryd.func27, Tryd.ntmps27
      go_wp2_with fail
      refine (K1 _ HG0.out).mono ?_
      rintro e w1 ⟨rfl, g1⟩
      have HG1 : Hid (Old w w1) := Old.trans HG0.out g1
      clear g1
      go_wp2_with fail
      refine (K2 _ HG1.out).mono ?_
      rintro e w2 ⟨rfl, g2⟩
      have HG2 : Hid (Old w w2) := Old.trans HG1.out g2
      clear g2
      go_wp2_with fail
      go_ret2
      exact ⟨_, rfl, HG2.out, own_none _ _⟩
    · rw [hB2] at K2
      have hB3 : resB a x = false := by
        cases hh : resB a x
        · rfl
        · exfalso; simp [hB1, hB2, hh] at h
      rw [hB3] at K3
      clear h hB1 hB2 hB3
      go_enter Tryd.func27, Tryd.ntmps27
      go_wp2_with fail
      refine (K1 _ HG0.out).mono ?_
      rintro e w1 ⟨rfl, g1⟩
      have HG1 : Hid (Old w w1) := Old.trans HG0.out g1
      clear g1
      go_wp2_with fail
      refine (K2 _ HG1.out).mono ?_
      rintro e w2 ⟨rfl, g2⟩
      have HG2 : Hid (Old w w2) := Old.trans HG1.out g2
      clear g2
      go_wp2_with fail
      refine (K3 _ HG2.out).mono ?_
      rintro e w3 ⟨rfl, g3⟩
      have HG3 : Hid (Old w w3) := Old.trans HG2.out g3
      clear g3
      go_wp2_with fail
      go_ret2
      exact ⟨_, rfl, HG3.out, own_none _ _⟩
theorem le_no {x y : Int} (h : decide (x ≤ y) = false) : decide (y < x) = true := by simp at h ⊢; omega
theorem le_yes {x y : Int} (h : decide (x ≤ y) = true) : decide (y < x) = false := by simp at h ⊢; omega
set_option maxRecDepth 100000 in
set_option maxHeartbeats 8000000 in
theorem spec_ExactConvert_no (rs xs ts : List Int) (x a : Int) (v u q : Value) (w : World) (hv : Row w v rs) (hu : Row w u xs) (hf : Fit u) (hq : Row w q ts) (hfq : Fit q) (hl : xs.length ≤ 1048576) (hlr : rs.length ≤ 9223372036854775807) (hlq : ts.length ≤ 1048576) (hx : ∀ x ∈ xs, -9223372036854775808 ≤ x ∧ x ≤ 9223372036854775807) (ht : ∀ x ∈ ts, -9223372036854775808 ≤ x ∧ x ≤ 9223372036854775807) (h : ecB rs xs x a ts = false) :
    Calls Tryd.prog 26 #[v, u, .int .i64 x, .int .i64 a, q] w (Ls w [] false) := by
  have K1 : ∀ W, Old w W → Calls Tryd.prog 34 #[v, u] W fun e w' => e = .returned (.bool (basB xs && rsB rs xs)) ∧ Old W w' := fun W g => l4Good_any rs xs v u W (hv.old g) (hu.old g) hf (by omega) hlr hx
  have K2 : ∀ W, Old w W → Calls Tryd.prog 44 #[q] W fun e w' => e = .returned (.bool (basB ts)) ∧ Old W w' := fun W g => spec_goodBasis ts q W (hq.old g) hfq (by omega) ht
  have K3 : ∀ W, Old w W → Calls Tryd.prog 56 #[.int .i64 x] W fun e w' => e = .returned (.bool (modB x)) ∧ Old W w' := fun W g => (spec_modulus x W).mono (fun e w' h => ⟨h.1, by rw [h.2]; exact Old.refl _⟩)
  unfold ecB exB pmB at h
  have HV : Hid (Row w v rs) := hv
  cases hS : modB x
  · obtain ⟨va, vc, rfl⟩ := hv.slice
    obtain ⟨ua, uc, rfl⟩ := hu.slice
    obtain ⟨qa, qc, rfl⟩ := hq.slice
    have HG0 : Hid (Old w w) := Old.refl w
    clear hv hu hq hf hfq hx ht
    cases hB1 : (basB xs && rsB rs xs)
    · rw [hB1] at K1
      clear h hS hB1 K2 K3
      go_enter Tryd.func26, Tryd.ntmps26
      go_wp2_with fail
      refine (K1 _ HG0.out).mono ?_
      rintro e w1 ⟨rfl, g1⟩
      have HG1 : Hid (Old w w1) := Old.trans HG0.out g1
      clear g1
      go_wp2_with fail
      go_ret2
      exact ⟨_, rfl, HG1.out, own_none _ _⟩
    · rw [hB1] at K1
      cases hB2 : basB ts
      · rw [hB2] at K2
        clear h hS hB1 hB2 K3
        go_enter Tryd.func26, Tryd.ntmps26
        go_wp2_with fail
        refine (K1 _ HG0.out).mono ?_
        rintro e w1 ⟨rfl, g1⟩
        have HG1 : Hid (Old w w1) := Old.trans HG0.out g1
        clear g1
        go_wp2_with fail
        refine (K2 _ HG1.out).mono ?_
        rintro e w2 ⟨rfl, g2⟩
        have HG2 : Hid (Old w w2) := Old.trans HG1.out g2
        clear g2
        go_wp2_with fail
        go_ret2
        exact ⟨_, rfl, HG2.out, own_none _ _⟩
      · rw [hB2] at K2
        have hB3 : modB x = false := by
          cases hh : modB x
          · rfl
          · exfalso; simp [hS] at hh
        rw [hB3] at K3
        clear h hS hB1 hB2 hB3
        go_enter Tryd.func26, Tryd.ntmps26
        go_wp2_with fail
        refine (K1 _ HG0.out).mono ?_
        rintro e w1 ⟨rfl, g1⟩
        have HG1 : Hid (Old w w1) := Old.trans HG0.out g1
        clear g1
        go_wp2_with fail
        refine (K2 _ HG1.out).mono ?_
        rintro e w2 ⟨rfl, g2⟩
        have HG2 : Hid (Old w w2) := Old.trans HG1.out g2
        clear g2
        go_wp2_with fail
        refine (K3 _ HG2.out).mono ?_
        rintro e w3 ⟨rfl, g3⟩
        have HG3 : Hid (Old w w3) := Old.trans HG2.out g3
        clear g3
        go_wp2_with fail
        go_ret2
        exact ⟨_, rfl, HG3.out, own_none _ _⟩
  · obtain ⟨m1, m2⟩ := modB_yes hS
    have K4 : ∀ W, Old w W → Calls Tryd.prog 57 #[.int .u64 x] W fun e w' => e = .returned (.bool (isP x.toNat)) ∧ Old W w' := fun W g => by
      have := spec_IsPrime x.toNat W (by omega)
      rwa [Int.toNat_of_nonneg (by omega)] at this
    have t2 : IntKind.i64.wrap (2 * (xs.length : Int)) = 2 * (xs.length : Int) := by rw [IntKind.wrap_i64]; omega
    have t1 : IntKind.i64.wrap (x - 1) = x - 1 := by rw [IntKind.wrap_i64]; omega
    have K6 : ∀ W, Old w W → Calls Tryd.prog 58 #[u, .int .i64 x] W fun e w' => e = .returned (.bool (xs.contains x)) ∧ Old W w' := fun W g => has_any xs x u W (hu.old g) (by omega)
    have K7 : ∀ W, Old w W → Calls Tryd.prog 58 #[q, .int .i64 x] W fun e w' => e = .returned (.bool (ts.contains x)) ∧ Old W w' := fun W g => has_any ts x q W (hq.old g) (by omega)
    have K8 : ∀ W, Old w W → Calls Tryd.prog 59 #[.int .i64 a, .int .i64 0, .int .i64 (x - 1)] W fun e w' => e = .returned (.bool (resB a x)) ∧ Old W w' := fun W g => (spec_res a x W).mono (fun e w' h => ⟨h.1, by rw [h.2]; exact Old.refl _⟩)
    generalize xs.contains x = bx at *
    generalize ts.contains x = bt at *
    obtain ⟨va, vc, rfl⟩ := hv.slice
    obtain ⟨ua, uc, rfl⟩ := hu.slice
    obtain ⟨qa, qc, rfl⟩ := hq.slice
    have HG0 : Hid (Old w w) := Old.refl w
    clear hv hu hq hf hfq hx ht
    cases hB1 : (basB xs && rsB rs xs)
    · rw [hB1] at K1
      clear h hS hB1 K2 K3 K4 K6 K7 K8
      go_enter Tryd.func26, Tryd.ntmps26
      go_wp2_with fail
      refine (K1 _ HG0.out).mono ?_
      rintro e w1 ⟨rfl, g1⟩
      have HG1 : Hid (Old w w1) := Old.trans HG0.out g1
      clear g1
      go_wp2_with fail
      go_ret2
      exact ⟨_, rfl, HG1.out, own_none _ _⟩
    · rw [hB1] at K1
      cases hB2 : basB ts
      · rw [hB2] at K2
        clear h hS hB1 hB2 K3 K4 K6 K7 K8
        go_enter Tryd.func26, Tryd.ntmps26
        go_wp2_with fail
        refine (K1 _ HG0.out).mono ?_
        rintro e w1 ⟨rfl, g1⟩
        have HG1 : Hid (Old w w1) := Old.trans HG0.out g1
        clear g1
        go_wp2_with fail
        refine (K2 _ HG1.out).mono ?_
        rintro e w2 ⟨rfl, g2⟩
        have HG2 : Hid (Old w w2) := Old.trans HG1.out g2
        clear g2
        go_wp2_with fail
        go_ret2
        exact ⟨_, rfl, HG2.out, own_none _ _⟩
      · rw [hB2] at K2
        cases hB3 : modB x
        · rw [hB3] at K3
          clear h hS hB1 hB2 hB3 K4 K6 K7 K8
          go_enter Tryd.func26, Tryd.ntmps26
          go_wp2_with fail
          refine (K1 _ HG0.out).mono ?_
          rintro e w1 ⟨rfl, g1⟩
          have HG1 : Hid (Old w w1) := Old.trans HG0.out g1
          clear g1
          go_wp2_with fail
          refine (K2 _ HG1.out).mono ?_
          rintro e w2 ⟨rfl, g2⟩
          have HG2 : Hid (Old w w2) := Old.trans HG1.out g2
          clear g2
          go_wp2_with fail
          refine (K3 _ HG2.out).mono ?_
          rintro e w3 ⟨rfl, g3⟩
          have HG3 : Hid (Old w w3) := Old.trans HG2.out g3
          clear g3
          go_wp2_with fail
          go_ret2
          exact ⟨_, rfl, HG3.out, own_none _ _⟩
        · rw [hB3] at K3
          cases hB4 : isP x.toNat
          · rw [hB4] at K4
            clear h hS hB1 hB2 hB3 hB4 K6 K7 K8
            go_enter Tryd.func26, Tryd.ntmps26
            go_wp2_with fail
            refine (K1 _ HG0.out).mono ?_
            rintro e w1 ⟨rfl, g1⟩
            have HG1 : Hid (Old w w1) := Old.trans HG0.out g1
            clear g1
            go_wp2_with fail
            refine (K2 _ HG1.out).mono ?_
            rintro e w2 ⟨rfl, g2⟩
            have HG2 : Hid (Old w w2) := Old.trans HG1.out g2
            clear g2
            go_wp2_with fail
            refine (K3 _ HG2.out).mono ?_
            rintro e w3 ⟨rfl, g3⟩
            have HG3 : Hid (Old w w3) := Old.trans HG2.out g3
            clear g3
            go_wp2_with fail
            refine (K4 _ HG3.out).mono ?_
            rintro e w4 ⟨rfl, g4⟩
            have HG4 : Hid (Old w w4) := Old.trans HG3.out g4
            clear g4
            go_wp2_with fail
            go_ret2
            exact ⟨_, rfl, HG4.out, own_none _ _⟩
          · rw [hB4] at K4
            cases hB5 : decide (x ≤ 2 * (xs.length : Int))
            case true =>
              have D5 := hB5
              clear h hS hB1 hB2 hB3 hB4 hB5 K6 K7 K8
              go_enter Tryd.func26, Tryd.ntmps26
              go_wp2_with fail
              refine (K1 _ HG0.out).mono ?_
              rintro e w1 ⟨rfl, g1⟩
              have HG1 : Hid (Old w w1) := Old.trans HG0.out g1
              clear g1
              go_wp2_with fail
              refine (K2 _ HG1.out).mono ?_
              rintro e w2 ⟨rfl, g2⟩
              have HG2 : Hid (Old w w2) := Old.trans HG1.out g2
              clear g2
              go_wp2_with fail
              refine (K3 _ HG2.out).mono ?_
              rintro e w3 ⟨rfl, g3⟩
              have HG3 : Hid (Old w w3) := Old.trans HG2.out g3
              clear g3
              go_wp2_with fail
              refine (K4 _ HG3.out).mono ?_
              rintro e w4 ⟨rfl, g4⟩
              have HG4 : Hid (Old w w4) := Old.trans HG3.out g4
              clear g4
              go_wp2_with fail
              go_ret2
              exact ⟨_, rfl, HG4.out, own_none _ _⟩
            case false =>
              have D5 := hB5
              cases hB6 : bx
              case true =>
                rw [hB6] at K6
                clear h hS hB1 hB2 hB3 hB4 hB5 hB6 K7 K8
                go_enter Tryd.func26, Tryd.ntmps26
                go_wp2_with fail
                refine (K1 _ HG0.out).mono ?_
                rintro e w1 ⟨rfl, g1⟩
                have HG1 : Hid (Old w w1) := Old.trans HG0.out g1
                clear g1
                go_wp2_with fail
                refine (K2 _ HG1.out).mono ?_
                rintro e w2 ⟨rfl, g2⟩
                have HG2 : Hid (Old w w2) := Old.trans HG1.out g2
                clear g2
                go_wp2_with fail
                refine (K3 _ HG2.out).mono ?_
                rintro e w3 ⟨rfl, g3⟩
                have HG3 : Hid (Old w w3) := Old.trans HG2.out g3
                clear g3
                go_wp2_with fail
                refine (K4 _ HG3.out).mono ?_
                rintro e w4 ⟨rfl, g4⟩
                have HG4 : Hid (Old w w4) := Old.trans HG3.out g4
                clear g4
                go_wp2_with fail
                refine (K6 _ HG4.out).mono ?_
                rintro e w6 ⟨rfl, g6⟩
                have HG6 : Hid (Old w w6) := Old.trans HG4.out g6
                clear g6
                go_wp2_with fail
                go_ret2
                exact ⟨_, rfl, HG6.out, own_none _ _⟩
              case false =>
                rw [hB6] at K6
                cases hB7 : bt
                case true =>
                  rw [hB7] at K7
                  clear h hS hB1 hB2 hB3 hB4 hB5 hB6 hB7 K8
                  go_enter Tryd.func26, Tryd.ntmps26
                  go_wp2_with fail
                  refine (K1 _ HG0.out).mono ?_
                  rintro e w1 ⟨rfl, g1⟩
                  have HG1 : Hid (Old w w1) := Old.trans HG0.out g1
                  clear g1
                  go_wp2_with fail
                  refine (K2 _ HG1.out).mono ?_
                  rintro e w2 ⟨rfl, g2⟩
                  have HG2 : Hid (Old w w2) := Old.trans HG1.out g2
                  clear g2
                  go_wp2_with fail
                  refine (K3 _ HG2.out).mono ?_
                  rintro e w3 ⟨rfl, g3⟩
                  have HG3 : Hid (Old w w3) := Old.trans HG2.out g3
                  clear g3
                  go_wp2_with fail
                  refine (K4 _ HG3.out).mono ?_
                  rintro e w4 ⟨rfl, g4⟩
                  have HG4 : Hid (Old w w4) := Old.trans HG3.out g4
                  clear g4
                  go_wp2_with fail
                  refine (K6 _ HG4.out).mono ?_
                  rintro e w6 ⟨rfl, g6⟩
                  have HG6 : Hid (Old w w6) := Old.trans HG4.out g6
                  clear g6
                  go_wp2_with fail
                  refine (K7 _ HG6.out).mono ?_
                  rintro e w7 ⟨rfl, g7⟩
                  have HG7 : Hid (Old w w7) := Old.trans HG6.out g7
                  clear g7
                  go_wp2_with fail
                  go_ret2
                  exact ⟨_, rfl, HG7.out, own_none _ _⟩
                case false =>
                  rw [hB7] at K7
                  have hB8 : resB a x = false := by
                    cases hh : resB a x
                    · rfl
                    · exfalso; have hB5b := le_no hB5; simp [hB1, hB2, hB3, hB4, hB5b, hB6, hB7, hh] at h
                  rw [hB8] at K8
                  clear h hS hB1 hB2 hB3 hB4 hB5 hB6 hB7 hB8
                  go_enter Tryd.func26, Tryd.ntmps26
                  go_wp2_with fail
                  refine (K1 _ HG0.out).mono ?_
                  rintro e w1 ⟨rfl, g1⟩
                  have HG1 : Hid (Old w w1) := Old.trans HG0.out g1
                  clear g1
                  go_wp2_with fail
                  refine (K2 _ HG1.out).mono ?_
                  rintro e w2 ⟨rfl, g2⟩
                  have HG2 : Hid (Old w w2) := Old.trans HG1.out g2
                  clear g2
                  go_wp2_with fail
                  refine (K3 _ HG2.out).mono ?_
                  rintro e w3 ⟨rfl, g3⟩
                  have HG3 : Hid (Old w w3) := Old.trans HG2.out g3
                  clear g3
                  go_wp2_with fail
                  refine (K4 _ HG3.out).mono ?_
                  rintro e w4 ⟨rfl, g4⟩
                  have HG4 : Hid (Old w w4) := Old.trans HG3.out g4
                  clear g4
                  go_wp2_with fail
                  refine (K6 _ HG4.out).mono ?_
                  rintro e w6 ⟨rfl, g6⟩
                  have HG6 : Hid (Old w w6) := Old.trans HG4.out g6
                  clear g6
                  go_wp2_with fail
                  refine (K7 _ HG6.out).mono ?_
                  rintro e w7 ⟨rfl, g7⟩
                  have HG7 : Hid (Old w w7) := Old.trans HG6.out g7
                  clear g7
                  go_wp2_with fail
                  refine (K8 _ HG7.out).mono ?_
                  rintro e w8 ⟨rfl, g8⟩
                  have HG8 : Hid (Old w w8) := Old.trans HG7.out g8
                  clear g8
                  go_wp2_with fail
                  go_ret2
                  exact ⟨_, rfl, HG8.out, own_none _ _⟩
end Go.Proofs.YtejkejfhahmhcaaDoor
