/- Proved: several texts in one: what each proves is said ahead of it. -/
import Derived.Test.YtfcdfielbpdloaaDoorX19
import Derived.Test.YtfcdfielbpdloaaDoorExpC
import Derived.Test.YtfcdfielbpdloaaDoorX00
import Derived.Test.YtfcdfielbpdloaaDoorX02
import Derived.Deep.WholeRow
import Derived.Laws.ResultCell
import Derived.Deep.LoopGhost
import Derived.Laws.BitsLemmas
import Derived.Laws.CopyOwn
import Derived.Deep.RegionLaw
import Derived.Test.YtfcdfielbpdloaaDoorX18
import Derived.Test.YtfcdfielbpdloaaDoorX13
/- Proved: contracts of ResiduesOf, of the program and of the model. -/
namespace Go.Proofs.YtfcdfielbpdloaaDoor
open Go.ChangeShapes Go.WideShapes Go.ChangeAt Go.RowKit
open M2
set_option linter.unusedVariables false
set_option linter.unusedSimpArgs false
def resL (n : Bool) (xs : List Int) (ps : List Nat) : List Int := ps.map (fun p => sv n (nat xs) % ((p : Nat) : Int))
theorem resL_len (n : Bool) (xs : List Int) (ps : List Nat) : (resL n xs ps).length = ps.length := by simp [resL]
theorem resL_get (n : Bool) (xs : List Int) (ps : List Nat) (k : Nat) (h : k < ps.length) : (resL n xs ps).getD k 0 = sv n (nat xs) % ((ps.getD k 0 : Nat) : Int) := by simp [resL, List.getD, h]
abbrev Ls (W : World) (zs : List Int) (ok : Bool) (e : Ending) (w' : World) : Prop := ∃ v', e = .returned (.tuple #[v', .bool ok]) ∧ Old W w' ∧ Own w' W.heap.size v' zs
theorem own_none (w : World) (base : Nat) : Own w base (.slice none 0 0) [] := ⟨rfl, Or.inl ⟨rfl, rfl⟩⟩
end Go.Proofs.YtfcdfielbpdloaaDoor
/- Proved: the questions that ExactConvert asks, of the program and of the model. -/
namespace Go.Proofs.YtfcdfielbpdloaaDoor
open Go.ChangeShapes Go.WideShapes Go.ChangeAt Go.RowKit
open M2
set_option linter.unusedVariables false
set_option linter.unusedSimpArgs false
def exB (e : Int) (xs ts : List Int) : Bool := ((pmB e && decide (2 * (xs.length : Int) < e)) && !xs.contains e) && !ts.contains e
set_option maxRecDepth 100000 in
set_option maxHeartbeats 8000000 in
theorem extra_any (e : Int) (xs ts : List Int) (u q : Value) (w : World) (hP : PrsW w) (hT : TabW w) (hu : Row w u xs) (hq : Row w q ts) (hl : xs.length ≤ 1048576) (hlq : ts.length ≤ 1048576) :
    Calls Tryd.prog 29 #[.int .i64 e, u, q] w fun en w' => en = .returned (.bool (exB e xs ts)) ∧ Old w w' := by
  have K1 : ∀ W, Old w W → Calls Tryd.prog 67 #[.int .i64 e] W fun en w' => en = .returned (.bool (pmB e)) ∧ Old W w' := fun W g => (impl_isPM e W (hP.old g) (hT.old g)).mono (fun en w' h => ⟨h.1, by obtain ⟨_, k, hk⟩ := h; rw [hk]; exact (Old.refl W).drewN k⟩)
  have t2 : IntKind.i64.wrap (2 * (xs.length : Int)) = 2 * (xs.length : Int) := by rw [IntKind.wrap_i64]; omega
  have K3 : ∀ W, Old w W → Calls Tryd.prog 68 #[u, .int .i64 e] W fun en w' => en = .returned (.bool (xs.contains e)) ∧ Old W w' := fun W g => contains_any xs e u W (hu.old g) (by omega)
  have K4 : ∀ W, Old w W → Calls Tryd.prog 68 #[q, .int .i64 e] W fun en w' => en = .returned (.bool (ts.contains e)) ∧ Old W w' := fun W g => contains_any ts e q W (hq.old g) (by omega)
  have HX : Hid (exB e xs ts = (((pmB e && decide (2 * (xs.length : Int) < e)) && !xs.contains e) && !ts.contains e)) := rfl
  generalize xs.contains e = bx at *
  generalize ts.contains e = bt at *
  rw [HX.out]
  obtain ⟨ua, uc, rfl⟩ := hu.slice
  obtain ⟨qa, qc, rfl⟩ := hq.slice
  have HG0 : Hid (Old w w) := Old.refl w
  clear hP hT hu hq HX
  cases hB1 : pmB e
  case false =>
    rw [hB1] at K1
    simp only [Bool.false_and, Bool.and_false, Bool.true_and, Bool.and_true, Bool.not_true, Bool.not_false]
    clear hB1 K3 K4
    go_enter Tryd.func29, Tryd.ntmps29
    go_wp2_with fail
    refine (K1 _ HG0.out).mono ?_
    rintro en w1 ⟨rfl, g1⟩
    have HG1 : Hid (Old w w1) := Old.trans HG0.out g1
    clear g1
    go_wp2_with fail
    go_ret
    exact ⟨rfl, HG1.out⟩
  case true =>
    rw [hB1] at K1
    cases hB2 : decide (2 * (xs.length : Int) < e)
    case false =>
      have D2 := hB2
      simp only [Bool.false_and, Bool.and_false, Bool.true_and, Bool.and_true, Bool.not_true, Bool.not_false]
      clear hB1 hB2 K3 K4
      go_enter Tryd.func29, Tryd.ntmps29
      go_wp2_with fail
      refine (K1 _ HG0.out).mono ?_
      rintro en w1 ⟨rfl, g1⟩
      have HG1 : Hid (Old w w1) := Old.trans HG0.out g1
      clear g1
      go_wp2_with fail
      go_ret
      exact ⟨rfl, HG1.out⟩
    case true =>
      have D2 := hB2
      cases hB3 : bx
      case true =>
        rw [hB3] at K3
        simp only [Bool.false_and, Bool.and_false, Bool.true_and, Bool.and_true, Bool.not_true, Bool.not_false]
        clear hB1 hB2 hB3 K4
        go_enter Tryd.func29, Tryd.ntmps29
        go_wp2_with fail
        refine (K1 _ HG0.out).mono ?_
        rintro en w1 ⟨rfl, g1⟩
        have HG1 : Hid (Old w w1) := Old.trans HG0.out g1
        clear g1
        go_wp2_with fail
        refine (K3 _ HG1.out).mono ?_
        rintro en w3 ⟨rfl, g3⟩
        have HG3 : Hid (Old w w3) := Old.trans HG1.out g3
        clear g3
        go_wp2_with fail
        go_ret
        exact ⟨rfl, HG3.out⟩
      case false =>
        rw [hB3] at K3
        cases hB4 : bt
        case true =>
          rw [hB4] at K4
          simp only [Bool.false_and, Bool.and_false, Bool.true_and, Bool.and_true, Bool.not_true, Bool.not_false]
          clear hB1 hB2 hB3 hB4
          go_enter Tryd.func29, Tryd.ntmps29
          go_wp2_with fail
          refine (K1 _ HG0.out).mono ?_
          rintro en w1 ⟨rfl, g1⟩
          have HG1 : Hid (Old w w1) := Old.trans HG0.out g1
          clear g1
          go_wp2_with fail
          refine (K3 _ HG1.out).mono ?_
          rintro en w3 ⟨rfl, g3⟩
          have HG3 : Hid (Old w w3) := Old.trans HG1.out g3
          clear g3
          go_wp2_with fail
          refine (K4 _ HG3.out).mono ?_
          rintro en w4 ⟨rfl, g4⟩
          have HG4 : Hid (Old w w4) := Old.trans HG3.out g4
          clear g4
          go_wp2_with fail
          go_ret
          exact ⟨rfl, HG4.out⟩
        case false =>
          rw [hB4] at K4
          simp only [Bool.false_and, Bool.and_false, Bool.true_and, Bool.and_true, Bool.not_true, Bool.not_false]
          clear hB1 hB2 hB3 hB4
          go_enter Tryd.func29, Tryd.ntmps29
          go_wp2_with fail
          refine (K1 _ HG0.out).mono ?_
          rintro en w1 ⟨rfl, g1⟩
          have HG1 : Hid (Old w w1) := Old.trans HG0.out g1
          clear g1
          go_wp2_with fail
          refine (K3 _ HG1.out).mono ?_
          rintro en w3 ⟨rfl, g3⟩
          have HG3 : Hid (Old w w3) := Old.trans HG1.out g3
          clear g3
          go_wp2_with fail
          refine (K4 _ HG3.out).mono ?_
          rintro en w4 ⟨rfl, g4⟩
          have HG4 : Hid (Old w w4) := Old.trans HG3.out g4
          clear g4
          go_wp2_with fail
          go_ret
          exact ⟨rfl, HG4.out⟩
def ecB (rs xs : List Int) (e a : Int) (ts : List Int) : Bool := (((basB xs && basB ts) && rsB rs xs) && exB e xs ts) && resB a e
set_option maxRecDepth 100000 in
set_option maxHeartbeats 8000000 in
theorem impl_ExactConvert_no (rs xs ts : List Int) (x a : Int) (v u q : Value) (w : World) (hP : PrsW w) (hT : TabW w) (hv : Row w v rs) (hu : Row w u xs) (hf : Fit u) (hq : Row w q ts) (hfq : Fit q) (hl : xs.length ≤ 1048576) (hlr : rs.length ≤ 9223372036854775807) (hlq : ts.length ≤ 1048576) (h : ecB rs xs x a ts = false) :
    Calls Tryd.prog 7 #[v, u, .int .i64 x, .int .i64 a, q] w (Ls w [] false) := by
  have K1 : ∀ W, Old w W → Calls Tryd.prog 28 #[v, u, q] W fun e w' => e = .returned (.bool ((basB xs && basB ts) && rsB rs xs)) ∧ Old W w' := fun W g => convertible_any rs xs ts v u q W (hP.old g) (hT.old g) (hv.old g) (hu.old g) (hq.old g) hf hfq (by omega) (by omega)
  have K2 : ∀ W, Old w W → Calls Tryd.prog 29 #[.int .i64 x, u, q] W fun e w' => e = .returned (.bool (exB x xs ts)) ∧ Old W w' := fun W g => extra_any x xs ts u q W (hP.old g) (hT.old g) (hu.old g) (hq.old g) hl hlq
  have K3 : ∀ W, Old w W → Calls Tryd.prog 30 #[.int .i64 a, .int .i64 x] W fun e w' => e = .returned (.bool (resB a x)) ∧ Old W w' := fun W g => (residue_any a x W).mono (fun e w' h => ⟨h.1, by rw [h.2]; exact Old.refl _⟩)
  unfold ecB at h
  obtain ⟨va, vc, rfl⟩ := hv.slice
  obtain ⟨ua, uc, rfl⟩ := hu.slice
  obtain ⟨qa, qc, rfl⟩ := hq.slice
  have HG0 : Hid (Old w w) := Old.refl w
  clear hP hT hv hu hq hf hfq
  cases hB1 : ((basB xs && basB ts) && rsB rs xs)
  · rw [hB1] at K1
    clear h hB1 K2 K3
    go_enter Tryd.func7, Tryd.ntmps7
    go_wp2_with fail
    refine (K1 _ HG0.out).mono ?_
    rintro e w1 ⟨rfl, g1⟩
    have HG1 : Hid (Old w w1) := Old.trans HG0.out g1
    clear g1
    go_wp2_with fail
    go_ret2
    exact ⟨_, rfl, HG1.out, own_none _ _⟩
  · rw [hB1] at K1
    cases hB2 : exB x xs ts
    · rw [hB2] at K2
      clear h hB1 hB2 K3
      go_enter Tryd.func7, Tryd.ntmps7
      go_wp2_with fail
      refine (K1 _ HG0.out).mono ?_
      rintro e w1 ⟨rfl, g1⟩
      have HG1 : Hid (Old w w1) := Old.trans HG0.out g1
      clear g1
      go_wp2_with fail
      refine (K2 _ HG1.out).mono ?_
      rintro e w2 ⟨rfl, g2⟩
      have HG2 : Hid (Old w w2) := Old.trans HG1.out g2
      clear g2
      go_wp2_with fail
      go_ret2
      exact ⟨_, rfl, HG2.out, own_none _ _⟩
    · rw [hB2] at K2
      have hB3 : resB a x = false := by
        cases hh : resB a x
        · rfl
        · exfalso; simp [hB1, hB2, hh] at h
      rw [hB3] at K3
      clear h hB1 hB2 hB3
      go_enter Tryd.func7, Tryd.ntmps7
      go_wp2_with fail
      refine (K1 _ HG0.out).mono ?_
      rintro e w1 ⟨rfl, g1⟩
      have HG1 : Hid (Old w w1) := Old.trans HG0.out g1
      clear g1
      go_wp2_with fail
      refine (K2 _ HG1.out).mono ?_
      rintro e w2 ⟨rfl, g2⟩
      have HG2 : Hid (Old w w2) := Old.trans HG1.out g2
      clear g2
      go_wp2_with fail
      refine (K3 _ HG2.out).mono ?_
      rintro e w3 ⟨rfl, g3⟩
      have HG3 : Hid (Old w w3) := Old.trans HG2.out g3
      clear g3
      go_wp2_with fail
      go_ret2
      exact ⟨_, rfl, HG3.out, own_none _ _⟩
theorem le_no {x y : Int} (h : decide (x ≤ y) = false) : decide (y < x) = true := by simp at h ⊢; omega
set_option maxRecDepth 100000 in
set_option maxHeartbeats 8000000 in
theorem spec_ExactConvert_no (rs xs ts : List Int) (x a : Int) (v u q : Value) (w : World) (hv : Row w v rs) (hu : Row w u xs) (hf : Fit u) (hq : Row w q ts) (hfq : Fit q) (hl : xs.length ≤ 1048576) (hlr : rs.length ≤ 9223372036854775807) (hlq : ts.length ≤ 1048576) (hx : ∀ x ∈ xs, -9223372036854775808 ≤ x ∧ x ≤ 9223372036854775807) (ht : ∀ x ∈ ts, -9223372036854775808 ≤ x ∧ x ≤ 9223372036854775807) (h : ecB rs xs x a ts = false) :
    Calls Tryd.prog 8 #[v, u, .int .i64 x, .int .i64 a, q] w (Ls w [] false) := by
  have K1 : ∀ W, Old w W → Calls Tryd.prog 19 #[v, u] W fun e w' => e = .returned (.bool (basB xs && rsB rs xs)) ∧ Old W w' := fun W g => l4Good_any rs xs v u W (hv.old g) (hu.old g) hf (by omega) hlr hx
  have K2 : ∀ W, Old w W → Calls Tryd.prog 38 #[q] W fun e w' => e = .returned (.bool (basB ts)) ∧ Old W w' := fun W g => spec_goodBasis ts q W (hq.old g) hfq (by omega) ht
  have K3 : ∀ W, Old w W → Calls Tryd.prog 25 #[.int .i64 x] W fun e w' => e = .returned (.bool (modB x)) ∧ Old W w' := fun W g => (spec_modulus x W).mono (fun e w' h => ⟨h.1, by rw [h.2]; exact Old.refl _⟩)
  unfold ecB exB pmB at h
  have HV : Hid (Row w v rs) := hv
  cases hS : modB x
  · obtain ⟨va, vc, rfl⟩ := hv.slice
    obtain ⟨ua, uc, rfl⟩ := hu.slice
    obtain ⟨qa, qc, rfl⟩ := hq.slice
    have HG0 : Hid (Old w w) := Old.refl w
    clear hv hu hq hf hfq hx ht
    cases hB1 : (basB xs && rsB rs xs)
    · rw [hB1] at K1
      clear h hS hB1 K2 K3
      go_enter Tryd.func8, Tryd.ntmps8
      go_wp2_with fail
      refine (K1 _ HG0.out).mono ?_
      rintro e w1 ⟨rfl, g1⟩
      have HG1 : Hid (Old w w1) := Old.trans HG0.out g1
      clear g1
      go_wp2_with fail
      go_ret2
      exact ⟨_, rfl, HG1.out, own_none _ _⟩
    · rw [hB1] at K1
      cases hB2 : basB ts
      · rw [hB2] at K2
        clear h hS hB1 hB2 K3
        go_enter Tryd.func8, Tryd.ntmps8
        go_wp2_with fail
        refine (K1 _ HG0.out).mono ?_
        rintro e w1 ⟨rfl, g1⟩
        have HG1 : Hid (Old w w1) := Old.trans HG0.out g1
        clear g1
        go_wp2_with fail
        refine (K2 _ HG1.out).mono ?_
        rintro e w2 ⟨rfl, g2⟩
        have HG2 : Hid (Old w w2) := Old.trans HG1.out g2
        clear g2
        go_wp2_with fail
        go_ret2
        exact ⟨_, rfl, HG2.out, own_none _ _⟩
      · rw [hB2] at K2
        have hB3 : modB x = false := by
          cases hh : modB x
          · rfl
          · exfalso; simp [hS] at hh
        rw [hB3] at K3
        clear h hS hB1 hB2 hB3
        go_enter Tryd.func8, Tryd.ntmps8
        go_wp2_with fail
        refine (K1 _ HG0.out).mono ?_
        rintro e w1 ⟨rfl, g1⟩
        have HG1 : Hid (Old w w1) := Old.trans HG0.out g1
        clear g1
        go_wp2_with fail
        refine (K2 _ HG1.out).mono ?_
        rintro e w2 ⟨rfl, g2⟩
        have HG2 : Hid (Old w w2) := Old.trans HG1.out g2
        clear g2
        go_wp2_with fail
        refine (K3 _ HG2.out).mono ?_
        rintro e w3 ⟨rfl, g3⟩
        have HG3 : Hid (Old w w3) := Old.trans HG2.out g3
        clear g3
        go_wp2_with fail
        go_ret2
        exact ⟨_, rfl, HG3.out, own_none _ _⟩
  · obtain ⟨m1, m2⟩ := modB_yes hS
    have K4 : ∀ W, Old w W → Calls Tryd.prog 39 #[.int .u64 x] W fun e w' => e = .returned (.bool (isP x.toNat)) ∧ Old W w' := fun W g => by
      have := spec_IsPrime x.toNat W (by omega)
      rwa [Int.toNat_of_nonneg (by omega)] at this
    have t2 : IntKind.i64.wrap (2 * (xs.length : Int)) = 2 * (xs.length : Int) := by rw [IntKind.wrap_i64]; omega
    have t1 : IntKind.i64.wrap (x - 1) = x - 1 := by rw [IntKind.wrap_i64]; omega
    have K6 : ∀ W, Old w W → Calls Tryd.prog 40 #[u, .int .i64 x] W fun e w' => e = .returned (.bool (xs.contains x)) ∧ Old W w' := fun W g => has_any xs x u W (hu.old g) (by omega)
    have K7 : ∀ W, Old w W → Calls Tryd.prog 40 #[q, .int .i64 x] W fun e w' => e = .returned (.bool (ts.contains x)) ∧ Old W w' := fun W g => has_any ts x q W (hq.old g) (by omega)
    have K8 : ∀ W, Old w W → Calls Tryd.prog 41 #[.int .i64 a, .int .i64 0, .int .i64 (x - 1)] W fun e w' => e = .returned (.bool (resB a x)) ∧ Old W w' := fun W g => (spec_res a x W).mono (fun e w' h => ⟨h.1, by rw [h.2]; exact Old.refl _⟩)
    generalize xs.contains x = bx at *
    generalize ts.contains x = bt at *
    obtain ⟨va, vc, rfl⟩ := hv.slice
    obtain ⟨ua, uc, rfl⟩ := hu.slice
    obtain ⟨qa, qc, rfl⟩ := hq.slice
    have HG0 : Hid (Old w w) := Old.refl w
    clear hv hu hq hf hfq hx ht
    cases hB1 : (basB xs && rsB rs xs)
    · rw [hB1] at K1
      clear h hS hB1 K2 K3 K4 K6 K7 K8
      go_enter Tryd.func8, Tryd.ntmps8
      go_wp2_with fail
      refine (K1 _ HG0.out).mono ?_
      rintro e w1 ⟨rfl, g1⟩
      have HG1 : Hid (Old w w1) := Old.trans HG0.out g1
      clear g1
      go_wp2_with fail
      go_ret2
      exact ⟨_, rfl, HG1.out, own_none _ _⟩
    · rw [hB1] at K1
      cases hB2 : basB ts
      · rw [hB2] at K2
        clear h hS hB1 hB2 K3 K4 K6 K7 K8
        go_enter Tryd.func8, Tryd.ntmps8
        go_wp2_with fail
        refine (K1 _ HG0.out).mono ?_
        rintro e w1 ⟨rfl, g1⟩
        have HG1 : Hid (Old w w1) := Old.trans HG0.out g1
        clear g1
        go_wp2_with fail
        refine (K2 _ HG1.out).mono ?_
        rintro e w2 ⟨rfl, g2⟩
        have HG2 : Hid (Old w w2) := Old.trans HG1.out g2
        clear g2
        go_wp2_with fail
        go_ret2
        exact ⟨_, rfl, HG2.out, own_none _ _⟩
      · rw [hB2] at K2
        cases hB3 : modB x
        · rw [hB3] at K3
          clear h hS hB1 hB2 hB3 K4 K6 K7 K8
          go_enter Tryd.func8, Tryd.ntmps8
          go_wp2_with fail
          refine (K1 _ HG0.out).mono ?_
          rintro e w1 ⟨rfl, g1⟩
          have HG1 : Hid (Old w w1) := Old.trans HG0.out g1
          clear g1
          go_wp2_with fail
          refine (K2 _ HG1.out).mono ?_
          rintro e w2 ⟨rfl, g2⟩
          have HG2 : Hid (Old w w2) := Old.trans HG1.out g2
          clear g2
          go_wp2_with fail
          refine (K3 _ HG2.out).mono ?_
          rintro e w3 ⟨rfl, g3⟩
          have HG3 : Hid (Old w w3) := Old.trans HG2.out g3
          clear g3
          go_wp2_with fail
          go_ret2
          exact ⟨_, rfl, HG3.out, own_none _ _⟩
        · rw [hB3] at K3
          cases hB4 : isP x.toNat
          · rw [hB4] at K4
            clear h hS hB1 hB2 hB3 hB4 K6 K7 K8
            go_enter Tryd.func8, Tryd.ntmps8
            go_wp2_with fail
            refine (K1 _ HG0.out).mono ?_
            rintro e w1 ⟨rfl, g1⟩
            have HG1 : Hid (Old w w1) := Old.trans HG0.out g1
            clear g1
            go_wp2_with fail
            refine (K2 _ HG1.out).mono ?_
            rintro e w2 ⟨rfl, g2⟩
            have HG2 : Hid (Old w w2) := Old.trans HG1.out g2
            clear g2
            go_wp2_with fail
            refine (K3 _ HG2.out).mono ?_
            rintro e w3 ⟨rfl, g3⟩
            have HG3 : Hid (Old w w3) := Old.trans HG2.out g3
            clear g3
            go_wp2_with fail
            refine (K4 _ HG3.out).mono ?_
            rintro e w4 ⟨rfl, g4⟩
            have HG4 : Hid (Old w w4) := Old.trans HG3.out g4
            clear g4
            go_wp2_with fail
            go_ret2
            exact ⟨_, rfl, HG4.out, own_none _ _⟩
          · rw [hB4] at K4
            cases hB5 : decide (x ≤ 2 * (xs.length : Int))
            case true =>
              have D5 := hB5
              clear h hS hB1 hB2 hB3 hB4 hB5 K6 K7 K8
              go_enter Tryd.func8, Tryd.ntmps8
              go_wp2_with fail
              refine (K1 _ HG0.out).mono ?_
              rintro e w1 ⟨rfl, g1⟩
              have HG1 : Hid (Old w w1) := Old.trans HG0.out g1
              clear g1
              go_wp2_with fail
              refine (K2 _ HG1.out).mono ?_
              rintro e w2 ⟨rfl, g2⟩
              have HG2 : Hid (Old w w2) := Old.trans HG1.out g2
              clear g2
              go_wp2_with fail
              refine (K3 _ HG2.out).mono ?_
              rintro e w3 ⟨rfl, g3⟩
              have HG3 : Hid (Old w w3) := Old.trans HG2.out g3
              clear g3
              go_wp2_with fail
              refine (K4 _ HG3.out).mono ?_
              rintro e w4 ⟨rfl, g4⟩
              have HG4 : Hid (Old w w4) := Old.trans HG3.out g4
              clear g4
              go_wp2_with fail
              go_ret2
              exact ⟨_, rfl, HG4.out, own_none _ _⟩
            case false =>
              have D5 := hB5
              cases hB6 : bx
              case true =>
                rw [hB6] at K6
                clear h hS hB1 hB2 hB3 hB4 hB5 hB6 K7 K8
                go_enter Tryd.func8, Tryd.ntmps8
                go_wp2_with fail
                refine (K1 _ HG0.out).mono ?_
                rintro e w1 ⟨rfl, g1⟩
                have HG1 : Hid (Old w w1) := Old.trans HG0.out g1
                clear g1
                go_wp2_with fail
                refine (K2 _ HG1.out).mono ?_
                rintro e w2 ⟨rfl, g2⟩
                have HG2 : Hid (Old w w2) := Old.trans HG1.out g2
                clear g2
                go_wp2_with fail
                refine (K3 _ HG2.out).mono ?_
                rintro e w3 ⟨rfl, g3⟩
                have HG3 : Hid (Old w w3) := Old.trans HG2.out g3
                clear g3
                go_wp2_with fail
                refine (K4 _ HG3.out).mono ?_
                rintro e w4 ⟨rfl, g4⟩
                have HG4 : Hid (Old w w4) := Old.trans HG3.out g4
                clear g4
                go_wp2_with fail
                refine (K6 _ HG4.out).mono ?_
                rintro e w6 ⟨rfl, g6⟩
                have HG6 : Hid (Old w w6) := Old.trans HG4.out g6
                clear g6
                go_wp2_with fail
                go_ret2
                exact ⟨_, rfl, HG6.out, own_none _ _⟩
              case false =>
                rw [hB6] at K6
                cases hB7 : bt
                case true =>
                  rw [hB7] at K7
                  clear h hS hB1 hB2 hB3 hB4 hB5 hB6 hB7 K8
                  go_enter Tryd.func8, Tryd.ntmps8
                  go_wp2_with fail
                  refine (K1 _ HG0.out).mono ?_
                  rintro e w1 ⟨rfl, g1⟩
                  have HG1 : Hid (Old w w1) := Old.trans HG0.out g1
                  clear g1
                  go_wp2_with fail
                  refine (K2 _ HG1.out).mono ?_
                  rintro e w2 ⟨rfl, g2⟩
                  have HG2 : Hid (Old w w2) := Old.trans HG1.out g2
                  clear g2
                  go_wp2_with fail
                  refine (K3 _ HG2.out).mono ?_
                  rintro e w3 ⟨rfl, g3⟩
                  have HG3 : Hid (Old w w3) := Old.trans HG2.out g3
                  clear g3
                  go_wp2_with fail
                  refine (K4 _ HG3.out).mono ?_
                  rintro e w4 ⟨rfl, g4⟩
                  have HG4 : Hid (Old w w4) := Old.trans HG3.out g4
                  clear g4
                  go_wp2_with fail
                  refine (K6 _ HG4.out).mono ?_
                  rintro e w6 ⟨rfl, g6⟩
                  have HG6 : Hid (Old w w6) := Old.trans HG4.out g6
                  clear g6
                  go_wp2_with fail
                  refine (K7 _ HG6.out).mono ?_
                  rintro e w7 ⟨rfl, g7⟩
                  have HG7 : Hid (Old w w7) := Old.trans HG6.out g7
                  clear g7
                  go_wp2_with fail
                  go_ret2
                  exact ⟨_, rfl, HG7.out, own_none _ _⟩
                case false =>
                  rw [hB7] at K7
                  have hB8 : resB a x = false := by
                    cases hh : resB a x
                    · rfl
                    · exfalso; have hB5b := le_no hB5; simp [hB1, hB2, hB3, hB4, hB5b, hB6, hB7, hh] at h
                  rw [hB8] at K8
                  clear h hS hB1 hB2 hB3 hB4 hB5 hB6 hB7 hB8
                  go_enter Tryd.func8, Tryd.ntmps8
                  go_wp2_with fail
                  refine (K1 _ HG0.out).mono ?_
                  rintro e w1 ⟨rfl, g1⟩
                  have HG1 : Hid (Old w w1) := Old.trans HG0.out g1
                  clear g1
                  go_wp2_with fail
                  refine (K2 _ HG1.out).mono ?_
                  rintro e w2 ⟨rfl, g2⟩
                  have HG2 : Hid (Old w w2) := Old.trans HG1.out g2
                  clear g2
                  go_wp2_with fail
                  refine (K3 _ HG2.out).mono ?_
                  rintro e w3 ⟨rfl, g3⟩
                  have HG3 : Hid (Old w w3) := Old.trans HG2.out g3
                  clear g3
                  go_wp2_with fail
                  refine (K4 _ HG3.out).mono ?_
                  rintro e w4 ⟨rfl, g4⟩
                  have HG4 : Hid (Old w w4) := Old.trans HG3.out g4
                  clear g4
                  go_wp2_with fail
                  refine (K6 _ HG4.out).mono ?_
                  rintro e w6 ⟨rfl, g6⟩
                  have HG6 : Hid (Old w w6) := Old.trans HG4.out g6
                  clear g6
                  go_wp2_with fail
                  refine (K7 _ HG6.out).mono ?_
                  rintro e w7 ⟨rfl, g7⟩
                  have HG7 : Hid (Old w w7) := Old.trans HG6.out g7
                  clear g7
                  go_wp2_with fail
                  refine (K8 _ HG7.out).mono ?_
                  rintro e w8 ⟨rfl, g8⟩
                  have HG8 : Hid (Old w w8) := Old.trans HG7.out g8
                  clear g8
                  go_wp2_with fail
                  go_ret2
                  exact ⟨_, rfl, HG8.out, own_none _ _⟩
end Go.Proofs.YtfcdfielbpdloaaDoor
/- Proved: the contract of the model's ResiduesOf. -/
namespace Go.Proofs.YtfcdfielbpdloaaDoor
open Go.ChangeShapes Go.WideShapes Go.ChangeAt Go.RowKit
open M2
set_option linter.unusedVariables false
set_option linter.unusedSimpArgs false
set_option maxRecDepth 100000 in
set_option maxHeartbeats 4000000 in
theorem spec_residues (n : Bool) (ds : List Int) (ps : List Nat) (v u : Value) (w : World) (ha : Row w v ds) (hv : Row w u (toZ ps)) (hg : Good n ds) (hb : Bas ps) :
    Calls Tryd.prog 46 #[.agg #[.bool n, v], u] w fun e w' => ∃ v', e = .returned v' ∧ Old w w' ∧ Own w' w.heap.size v' (resL n ds ps) := by
  obtain ⟨i0, hi, hz0, hz1, hz2⟩ := info_parts Tryd.infoInt
  obtain ⟨ex, gx, lx⟩ := good_gw hg
  have hl6 := hb.len6
  have HA : Hid (Row w v (toI (nat ds))) := by show Row w v (toI (nat ds)); rw [ex]; exact ha
  obtain ⟨a1, cap1, rfl⟩ := ha.slice
  obtain ⟨b, o, cap0, rfl, hbb, hc⟩ := hv.atZ (by have := hb.len1; omega)
  have HC : Hid (∀ j, j < ps.length → w.cell? ⟨b, o + j, none⟩ = some (.int .i64 ((ps.getD j 0 : Nat) : Int))) := hc
  have HM : Hid (∀ k, k < ps.length → ∀ W, Row W (.slice a1 ds.length cap1) (toI (nat ds)) → Calls Tryd.prog 26 #[.agg #[.bool n, .slice a1 ds.length cap1], .int .i64 ((ps.getD k 0 : Nat) : Int)] W fun e w' => e = .returned (.int .i64 ((resL n ds ps).getD k 0)) ∧ Old W w') := fun k hk W hr => by
    have hm : ps.getD k 0 ∈ ps := by simp [List.getD, hk]
    have := modulo_any n (nat ds) (ps.getD k 0) _ W hr gx.1.1 (by omega) (by have := hb.lo _ hm; omega) (hb.hi _ hm)
    rw [← resL_get n ds ps k hk] at this
    exact this
  have HE : Hid (∀ k, k < ps.length → (resL n ds ps).take (k + 1) = (resL n ds ps).take k ++ [(resL n ds ps).getD k 0]) := fun k hk => take_succI _ k (by rw [resL_len]; exact hk)
  have hlen : (resL n ds ps).length = ps.length := resL_len n ds ps
  generalize resL n ds ps = zs at *
  have HS : Hid (StW (w.alloc (.cells #[.bool n, .slice a1 ds.length cap1] 52)) w.heap.size (.bool n) (.slice a1 ds.length cap1) 52) := StW.new w _ _ _
  clear hc hv ha hg hb ex gx lx
  go_enter Tryd.func46, Tryd.ntmps46
  go_wp2_with fail
  go_loopw [5, 10] (fun x i W => ∃ (k : Nat) (a : Option Addr) (cap : Nat), k ≤ ps.length ∧ i = .int .i64 k ∧ x = .slice a k cap ∧ Hid (Own W (w.heap.size + 1) (.slice a k cap) (zs.take k)) ∧ Hid (Old (w.alloc (.cells #[.bool n, .slice a1 ds.length cap1] 52)) W)) (fun _ i _ => ps.length - (intOf i).toNat)
  case atStart => exact ⟨0, none, 0, by omega, rfl, rfl, (by exact own_none _ _), Old.refl _⟩
  case round =>
    obtain ⟨k, a, cap, hk, rfl, rfl, HO1, HG4⟩ := hrel
    have hs4 : w.heap.size + 1 ≤ wr.heap.size := by have := HG4.out.size; simp at this; omega
    have HG5 : Hid (Old w wr) := Old.trans ((Old.refl w).alloc _) HG4.out
    by_cases hlt : k < ps.length
    · have d1 : decide ((k : Int) < (ps.length : Int)) = true := by simp; omega
      have c1 : wr.cell? ⟨b, o + k, none⟩ = some (.int .i64 ((ps.getD k 0 : Nat) : Int)) := (HG5.out.cell (p := ⟨b, o + k, none⟩) hbb).trans (HC.out k hlt)
      have S3 : Hid (StW wr w.heap.size (.bool n) (.slice a1 ds.length cap1) 52) := HS.out.old HG4.out
      have z0 := S3.out.c0
      have z1 := S3.out.c1
      have cm := HM.out k hlt
      have HT2 : Hid (zs.take (k + 1) = zs.take k ++ [zs.getD k 0]) := HE.out k hlt
      have htk : (zs.take k).length = k := by rw [List.length_take]; omega
      generalize ps.getD k 0 = p at *
      generalize zs.getD k 0 = y at *
      go_wp2_with fail
      refine (cm _ (HA.out.old HG5.out)).mono ?_
      rintro e w4 ⟨rfl, g4⟩
      have HO4 : Hid (Own w4 (w.heap.size + 1) (.slice a k cap) (zs.take k)) := HO1.out.old g4
      have HG6 : Hid (Old (w.alloc (.cells #[.bool n, .slice a1 ds.length cap1] 52)) w4) := Old.trans HG4.out g4
      have hs5 : w.heap.size + 1 ≤ w4.heap.size := by have := g4.size; omega
      clear g4 z0 z1 c1
      go_wp2_with (at_builtin; refine wpList_append_own _ rfl _ _ 23 rfl (w.heap.size + 1) 3 i0 (.int .i64 0) 1 8 Tryd.underlying23 hi hz0 hz1 hz2 rfl (by decide) _ _ _ rfl (by have := HO4.out.alloc (.cells #[.int .i64 y] 3); unfold Own at this; rw [htk] at this; exact this) ⟨w4.heap.size, 0, none⟩ 1 1 [.int .i64 y] rfl rfl (one_cell _ _ _) (one_one _) (by unfold maxLen; omega) (by omega) (by simp; omega) ?_; intro v5 w5 o5 g5 x5; have O5 : Hid (Own w5 (w.heap.size + 1) v5 (zs.take (k + 1))) := (by have := HT2.out; show Own _ _ _ _; rw [this]; exact Own.snoc (by rw [htk]; exact o5)); have G5 : Hid (Old (w.alloc (.cells #[.bool n, .slice a1 ds.length cap1] 52)) w5) := Below.grown (HG6.out.alloc (.cells #[.int .i64 y] 3)) g5 (HG6.out.alloc (.cells #[.int .i64 y] 3)).size (fun j hj => by have := (HO4.out.lt j hj).1; simp; omega); clear o5 g5 x5)
      obtain ⟨a5, cap5, rfl⟩ := (Own.row O5.out).slice
      have htk1 : (zs.take (k + 1)).length = k + 1 := by rw [List.length_take]; omega
      rw [htk1] at O5 ⊢
      exact ⟨⟨k + 1, _, _, by omega, by go_num, rfl, O5, G5⟩, by simp [intOf]; omega⟩
    · have d1 : decide ((k : Int) < (ps.length : Int)) = false := by simp; omega
      obtain rfl : k = ps.length := by omega
      have HF : Hid (Own wr (w.heap.size + 1) (.slice a ps.length cap) zs) := by
        have := HO1.out
        rw [List.take_of_length_le (by omega)] at this
        exact this
      go_wp2_with fail
      go_ret
      exact ⟨_, rfl, HG5.out, HF.out.low (by omega)⟩
set_option maxRecDepth 100000 in
set_option maxHeartbeats 2000000 in
theorem spec_ResiduesOf_yes (n : Bool) (ds : List Int) (ps : List Nat) (v u : Value) (w : World) (ha : Row w v ds) (hv : Row w u (toZ ps)) (hf : Fit u) (hla : ds.length ≤ 1048576) (hg : Good n ds) (hb : Bas ps) (h : basB (toZ ps) = true) :
    Calls Tryd.prog 9 #[.agg #[.bool n, v], u] w (Ls w (resL n ds ps) true) := by
  have hl6 := hb.len6
  have c1 := fun W h3 => good_any n ds v W h3 hla
  have c2 := fun W h3 => spec_goodBasis (toZ ps) u W h3 hf (by rw [toZ_len]; omega) (fun x hx => by
    obtain ⟨n, hn, rfl⟩ := List.mem_map.1 hx
    have := hb.hi n hn
    omega)
  rw [decide_eq_true hg] at c1
  rw [h] at c2
  have c4 := fun W h1 h2 => spec_residues n ds ps v u W h1 h2 hg hb
  have HA : Hid (Row w v ds) := ha
  have HV : Hid (Row w u (toZ ps)) := hv
  obtain ⟨a1, cap1, rfl⟩ := ha.slice
  obtain ⟨a0, cap0, rfl⟩ : ∃ a c, u = .slice a ps.length c := by have := hv.slice; rwa [toZ_len] at this
  have c3 := fun W => in_anyW n a1 ds.length cap1 W
  generalize resL n ds ps = zs at *
  have HB : Hid (Old w (w.alloc (.cells #[.bool n, .slice a1 ds.length cap1] 27))) := (Old.refl w).alloc _
  have HS : Hid (StW (w.alloc (.cells #[.bool n, .slice a1 ds.length cap1] 27)) w.heap.size (.bool n) (.slice a1 ds.length cap1) 27) := StW.new w _ _ _
  clear hv ha hf hg hb h
  go_enter Tryd.func9, Tryd.ntmps9
  go_wp2_with fail
  refine (c1 _ (HA.out.old HB.out)).mono ?_
  rintro e w1 ⟨rfl, g1⟩
  have HG1 : Hid (Old w w1) := Old.trans HB.out g1
  have S1 : Hid (StW w1 w.heap.size (.bool n) (.slice a1 ds.length cap1) 27) := HS.out.old g1
  clear g1
  go_wp2_with fail
  refine (c2 _ (HV.out.old HG1.out)).mono ?_
  rintro e w2 ⟨rfl, g2⟩
  have HG2 : Hid (Old w w2) := Old.trans HG1.out g2
  have S2 : Hid (StW w2 w.heap.size (.bool n) (.slice a1 ds.length cap1) 27) := S1.out.old g2
  have z0 := S2.out.c0
  have z1 := S2.out.c1
  clear g2 S1 HG1
  go_wp2_with fail
  refine (c3 _).mono ?_
  rintro e w3 ⟨rfl, g3⟩
  have HG3 : Hid (Old w w3) := Old.trans HG2.out g3
  clear g3
  go_wp2_with fail
  refine (c4 _ (HA.out.old HG3.out) (HV.out.old HG3.out)).mono ?_
  rintro e w4 ⟨v4, rfl, g4, o4⟩
  have HG4 : Hid (Old w w4) := Old.trans HG3.out g4
  have HO4 : Hid (Own w4 w.heap.size v4 zs) := o4.low HG3.out.size
  obtain ⟨a4, cap4, rfl⟩ := (Own.row o4).slice
  clear g4 o4
  go_wp2_with fail
  go_ret2
  exact ⟨_, rfl, HG4.out, HO4.out⟩
end Go.Proofs.YtfcdfielbpdloaaDoor
