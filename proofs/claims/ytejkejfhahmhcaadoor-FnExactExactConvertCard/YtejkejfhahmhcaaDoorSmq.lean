/- Proved: the questions that SmallMont asks, of the program and of the model. -/
import Derived.Test.YtejkejfhahmhcaaDoorCvf
import Derived.Test.YtejkejfhahmhcaaDoorCvh
import Derived.Test.YtejkejfhahmhcaaDoorResI
namespace Go.Proofs.YtejkejfhahmhcaaDoor
open Go.ChangeShapes Go.WideShapes Go.ChangeAt Go.RowKit
open M2
set_option linter.unusedVariables false
set_option linter.unusedSimpArgs false
/-- a power of two from 4 up to 65536 -/
def smlB (m : Int) : Bool := inB m 4 65536 && (bits BinOp.and IntKind.i64 m (m - 1) == 0)
theorem isSmall_any (m : Int) (w : World) (hw : -9223372036854775808 ≤ m ∧ m ≤ 9223372036854775807) :
    Calls Tryd.prog 75 #[.int .i64 m] w fun e w' => e = .returned (.bool (smlB m)) ∧ w' = w := by
  cases h : inB m 4 65536
  · have ho : smlB m = false := by simp [smlB, h]
    rw [ho]
    rcases inB_not h with h1 | ⟨h1, h2⟩
    · have d : decide (4 ≤ m) = false := by simp; omega
      clear h ho
      go_enter Tryd.func75, Tryd.ntmps75
      go_wp2
      go_ret
      exact ⟨rfl, rfl⟩
    · have d : decide (4 ≤ m) = true := by simp; omega
      have d2 : decide (m ≤ 65536) = false := by simp; omega
      clear h ho
      go_enter Tryd.func75, Tryd.ntmps75
      go_wp2
      go_ret
      exact ⟨rfl, rfl⟩
  · have ho : smlB m = (bits BinOp.and IntKind.i64 m (m - 1) == 0) := by simp [smlB, h]
    rw [ho]
    obtain ⟨h1, h2⟩ := inB_out h
    clear h ho
    have d : decide (m ≤ 65536) = true := by simp; omega
    have d2 : decide (4 ≤ m) = true := by simp; omega
    go_enter Tryd.func75, Tryd.ntmps75
    go_wp2
    go_ret
    exact ⟨rfl, rfl⟩
theorem spec_isSmall (m : Int) (w : World) :
    Calls Tryd.prog 72 #[.int .i64 m, .int .i64 4, .int .i64 65536] w fun e w' => e = .returned (.bool (smlB m)) ∧ w' = w := by
  cases h : inB m 4 65536
  · have ho : smlB m = false := by simp [smlB, h]
    rw [ho]
    clear ho
    go_enter Tryd.func72, Tryd.ntmps72
    go_wp2_with (go_at_call 59; refine (spec_in _ _ _ _).mono ?_; rintro e w' ⟨rfl, rfl⟩)
    go_ret
    exact ⟨rfl, rfl⟩
  · have ho : smlB m = (bits BinOp.and IntKind.i64 m (m - 1) == 0) := by simp [smlB, h]
    rw [ho]
    obtain ⟨h1, h2⟩ := inB_out h
    clear ho
    go_enter Tryd.func72, Tryd.ntmps72
    go_wp2_with (go_at_call 59; refine (spec_in _ _ _ _).mono ?_; rintro e w' ⟨rfl, rfl⟩)
    go_ret
    exact ⟨rfl, rfl⟩
theorem smlB_out {m : Int} (h : smlB m = true) : 4 ≤ m ∧ m ≤ 65536 ∧ m % 2 = 0 := by
  simp only [smlB, Bool.and_eq_true, beq_iff_eq] at h
  obtain ⟨h1, h2⟩ := h
  obtain ⟨h3, h4⟩ := inB_out h1
  refine ⟨h3, h4, ?_⟩
  obtain ⟨n, rfl⟩ := Int.eq_ofNat_of_zero_le (show 0 ≤ m by omega)
  have e : ((n : Int) - 1) = ((n - 1 : Nat) : Int) := by omega
  rw [e, and_i64_nat n (n - 1) (by omega) (by omega)] at h2
  have h5 : n &&& (n - 1) = 0 := by omega
  rcases Nat.mod_two_eq_zero_or_one n with h6 | h6
  · omega
  · exfalso
    have h7 : (n &&& (n - 1)) / 2 = n / 2 &&& (n - 1) / 2 := Nat.and_div_two
    rw [h5, show (n - 1) / 2 = n / 2 by omega, Nat.and_self] at h7
    omega
/-- what SmallMont asks for -/
def smB (rs : List Int) (a : Int) (xs : List Int) (m : Int) (ts : List Int) : Bool := (((((basB xs && basB ts) && rsB rs xs) && smlB m) && resB a m) && !xs.contains 2) && !ts.contains 2
set_option maxRecDepth 100000 in
set_option maxHeartbeats 4000000 in
theorem impl_SmallMont_no (rs xs ts : List Int) (a m : Int) (v u q : Value) (w : World) (hP : PrsW w) (hT : TabW w) (hv : Row w v rs) (hu : Row w u xs) (hf : Fit u) (hq : Row w q ts) (hfq : Fit q) (hl : xs.length ≤ 9223372036854775807) (hlr : rs.length ≤ 9223372036854775807) (hlq : ts.length ≤ 9223372036854775807) (hm : -9223372036854775808 ≤ m ∧ m ≤ 9223372036854775807) (h : smB rs a xs m ts = false) :
    Calls Tryd.prog 29 #[v, .int .i64 a, u, .int .i64 m, q] w (Ls w [] false) := by
  have K1 : ∀ W, Old w W → Calls Tryd.prog 47 #[v, u, q] W fun e w' => e = .returned (.bool ((basB xs && basB ts) && rsB rs xs)) ∧ Old W w' := fun W g => convertible_any rs xs ts v u q W (hP.old g) (hT.old g) (hv.old g) (hu.old g) (hq.old g) hf hfq hl hlq
  have K2 : ∀ W, Old w W → Calls Tryd.prog 75 #[.int .i64 m] W fun e w' => e = .returned (.bool (smlB m)) ∧ Old W w' := fun W g => (isSmall_any m W hm).mono (fun e w' h => ⟨h.1, by rw [h.2]; exact Old.refl _⟩)
  have K3 : ∀ W, Old w W → Calls Tryd.prog 67 #[.int .i64 a, .int .i64 m] W fun e w' => e = .returned (.bool (resB a m)) ∧ Old W w' := fun W g => (residue_any a m W).mono (fun e w' h => ⟨h.1, by rw [h.2]; exact Old.refl _⟩)
  have K4 : ∀ W, Old w W → Calls Tryd.prog 76 #[u, .int .i64 2] W fun e w' => e = .returned (.bool (xs.contains 2)) ∧ Old W w' := fun W g => contains_any xs 2 u W (hu.old g) hl
  have K5 : ∀ W, Old w W → Calls Tryd.prog 76 #[q, .int .i64 2] W fun e w' => e = .returned (.bool (ts.contains 2)) ∧ Old W w' := fun W g => contains_any ts 2 q W (hq.old g) hlq
  unfold smB at h
  generalize xs.contains 2 = bx at *
  generalize ts.contains 2 = bt at *
  obtain ⟨va, vc, rfl⟩ := hv.slice
  obtain ⟨ua, uc, rfl⟩ := hu.slice
  obtain ⟨qa, qc, rfl⟩ := hq.slice
  have HG0 : Hid (Old w w) := Old.refl w
  clear hP hT hv hu hq hf hfq
  cases hB1 : ((basB xs && basB ts) && rsB rs xs)
  · rw [hB1] at K1
    clear h hB1 K2 K3 K4 K5
    go_enter Tryd.func29, Tryd.ntmps29
    go_wp2_with fail
    refine (K1 _ HG0.out).mono ?_
    rintro e w1 ⟨rfl, g1⟩
    have HG1 : Hid (Old w w1) := Old.trans HG0.out g1
    clear g1
    go_wp2_with fail
    go_ret2
    exact ⟨_, rfl, HG1.out, own_none _ _⟩
  · rw [hB1] at K1
    cases hB2 : smlB m
    · rw [hB2] at K2
      clear h hB1 hB2 K3 K4 K5
      go_enter Tryd.func29, Tryd.ntmps29
      go_wp2_with fail
      refine (K1 _ HG0.out).mono ?_
      rintro e w1 ⟨rfl, g1⟩
      have HG1 : Hid (Old w w1) := Old.trans HG0.out g1
      clear g1
      go_wp2_with fail
      refine (K2 _ HG1.out).mono ?_
      rintro e w2 ⟨rfl, g2⟩
      have HG2 : Hid (Old w w2) := Old.trans HG1.out g2
      clear g2
      go_wp2_with fail
      go_ret2
      exact ⟨_, rfl, HG2.out, own_none _ _⟩
    · rw [hB2] at K2
      cases hB3 : resB a m
      · rw [hB3] at K3
        clear h hB1 hB2 hB3 K4 K5
        go_enter Tryd.func29, Tryd.ntmps29
        go_wp2_with fail
        refine (K1 _ HG0.out).mono ?_
        rintro e w1 ⟨rfl, g1⟩
        have HG1 : Hid (Old w w1) := Old.trans HG0.out g1
        clear g1
        go_wp2_with fail
        refine (K2 _ HG1.out).mono ?_
        rintro e w2 ⟨rfl, g2⟩
        have HG2 : Hid (Old w w2) := Old.trans HG1.out g2
        clear g2
        go_wp2_with fail
        refine (K3 _ HG2.out).mono ?_
        rintro e w3 ⟨rfl, g3⟩
        have HG3 : Hid (Old w w3) := Old.trans HG2.out g3
        clear g3
        go_wp2_with fail
        go_ret2
        exact ⟨_, rfl, HG3.out, own_none _ _⟩
      · rw [hB3] at K3
        cases hB4 : bx
        case true =>
          rw [hB4] at K4
          clear h hB1 hB2 hB3 hB4 K5
          go_enter Tryd.func29, Tryd.ntmps29
          go_wp2_with fail
          refine (K1 _ HG0.out).mono ?_
          rintro e w1 ⟨rfl, g1⟩
          have HG1 : Hid (Old w w1) := Old.trans HG0.out g1
          clear g1
          go_wp2_with fail
          refine (K2 _ HG1.out).mono ?_
          rintro e w2 ⟨rfl, g2⟩
          have HG2 : Hid (Old w w2) := Old.trans HG1.out g2
          clear g2
          go_wp2_with fail
          refine (K3 _ HG2.out).mono ?_
          rintro e w3 ⟨rfl, g3⟩
          have HG3 : Hid (Old w w3) := Old.trans HG2.out g3
          clear g3
          go_wp2_with fail
          refine (K4 _ HG3.out).mono ?_
          rintro e w4 ⟨rfl, g4⟩
          have HG4 : Hid (Old w w4) := Old.trans HG3.out g4
          clear g4
          go_wp2_with fail
          go_ret2
          exact ⟨_, rfl, HG4.out, own_none _ _⟩
        case false =>
          rw [hB4] at K4
          have hB5 : bt = true := by
            cases hh : bt
            · exfalso; simp [hB1, hB2, hB3, hB4, hh] at h
            · rfl
          rw [hB5] at K5
          clear h hB1 hB2 hB3 hB4 hB5
          go_enter Tryd.func29, Tryd.ntmps29
          go_wp2_with fail
          refine (K1 _ HG0.out).mono ?_
          rintro e w1 ⟨rfl, g1⟩
          have HG1 : Hid (Old w w1) := Old.trans HG0.out g1
          clear g1
          go_wp2_with fail
          refine (K2 _ HG1.out).mono ?_
          rintro e w2 ⟨rfl, g2⟩
          have HG2 : Hid (Old w w2) := Old.trans HG1.out g2
          clear g2
          go_wp2_with fail
          refine (K3 _ HG2.out).mono ?_
          rintro e w3 ⟨rfl, g3⟩
          have HG3 : Hid (Old w w3) := Old.trans HG2.out g3
          clear g3
          go_wp2_with fail
          refine (K4 _ HG3.out).mono ?_
          rintro e w4 ⟨rfl, g4⟩
          have HG4 : Hid (Old w w4) := Old.trans HG3.out g4
          clear g4
          go_wp2_with fail
          refine (K5 _ HG4.out).mono ?_
          rintro e w5 ⟨rfl, g5⟩
          have HG5 : Hid (Old w w5) := Old.trans HG4.out g5
          clear g5
          go_wp2_with fail
          go_ret2
          exact ⟨_, rfl, HG5.out, own_none _ _⟩
set_option maxRecDepth 100000 in
set_option maxHeartbeats 4000000 in
theorem spec_SmallMont_no (rs xs ts : List Int) (a m : Int) (v u q : Value) (w : World) (hv : Row w v rs) (hu : Row w u xs) (hf : Fit u) (hq : Row w q ts) (hfq : Fit q) (hl : xs.length ≤ 9223372036854775807) (hlr : rs.length ≤ 9223372036854775807) (hlq : ts.length ≤ 9223372036854775807) (hx : ∀ x ∈ xs, -9223372036854775808 ≤ x ∧ x ≤ 9223372036854775807) (ht : ∀ x ∈ ts, -9223372036854775808 ≤ x ∧ x ≤ 9223372036854775807) (hm : -9223372036854775808 ≤ m ∧ m ≤ 9223372036854775807) (h : smB rs a xs m ts = false) :
    Calls Tryd.prog 28 #[v, .int .i64 a, u, .int .i64 m, q] w (Ls w [] false) := by
  have K1 : ∀ W, Old w W → Calls Tryd.prog 34 #[v, u] W fun e w' => e = .returned (.bool (basB xs && rsB rs xs)) ∧ Old W w' := fun W g => l4Good_any rs xs v u W (hv.old g) (hu.old g) hf hl hlr hx
  have K2 : ∀ W, Old w W → Calls Tryd.prog 44 #[q] W fun e w' => e = .returned (.bool (basB ts)) ∧ Old W w' := fun W g => spec_goodBasis ts q W (hq.old g) hfq hlq ht
  have K3 : ∀ W, Old w W → Calls Tryd.prog 72 #[.int .i64 m, .int .i64 4, .int .i64 65536] W fun e w' => e = .returned (.bool (smlB m)) ∧ Old W w' := fun W g => (spec_isSmall m W).mono (fun e w' h => ⟨h.1, by rw [h.2]; exact Old.refl _⟩)
  have K4 : ∀ W, Old w W → Calls Tryd.prog 59 #[.int .i64 a, .int .i64 0, .int .i64 (m - 1)] W fun e w' => e = .returned (.bool (resB a m)) ∧ Old W w' := fun W g => (spec_res a m W).mono (fun e w' h => ⟨h.1, by rw [h.2]; exact Old.refl _⟩)
  have K5 : ∀ W, Old w W → Calls Tryd.prog 58 #[u, .int .i64 2] W fun e w' => e = .returned (.bool (xs.contains 2)) ∧ Old W w' := fun W g => has_any xs 2 u W (hu.old g) hl
  have K6 : ∀ W, Old w W → Calls Tryd.prog 58 #[q, .int .i64 2] W fun e w' => e = .returned (.bool (ts.contains 2)) ∧ Old W w' := fun W g => has_any ts 2 q W (hq.old g) hlq
  unfold smB at h
  generalize xs.contains 2 = bx at *
  generalize ts.contains 2 = bt at *
  obtain ⟨va, vc, rfl⟩ := hv.slice
  obtain ⟨ua, uc, rfl⟩ := hu.slice
  obtain ⟨qa, qc, rfl⟩ := hq.slice
  have HG0 : Hid (Old w w) := Old.refl w
  clear hv hu hq hf hfq hx ht
  cases hS : smlB m
  · clear K4 K5 K6
    cases hB1 : (basB xs && rsB rs xs)
    · rw [hB1] at K1
      clear h hS hB1 K2 K3
      go_enter Tryd.func28, Tryd.ntmps28
      go_wp2_with fail
      refine (K1 _ HG0.out).mono ?_
      rintro e w1 ⟨rfl, g1⟩
      have HG1 : Hid (Old w w1) := Old.trans HG0.out g1
      clear g1
      go_wp2_with fail
      go_ret2
      exact ⟨_, rfl, HG1.out, own_none _ _⟩
    · rw [hB1] at K1
      cases hB2 : basB ts
      · rw [hB2] at K2
        clear h hS hB1 hB2 K3
        go_enter Tryd.func28, Tryd.ntmps28
        go_wp2_with fail
        refine (K1 _ HG0.out).mono ?_
        rintro e w1 ⟨rfl, g1⟩
        have HG1 : Hid (Old w w1) := Old.trans HG0.out g1
        clear g1
        go_wp2_with fail
        refine (K2 _ HG1.out).mono ?_
        rintro e w2 ⟨rfl, g2⟩
        have HG2 : Hid (Old w w2) := Old.trans HG1.out g2
        clear g2
        go_wp2_with fail
        go_ret2
        exact ⟨_, rfl, HG2.out, own_none _ _⟩
      · rw [hB2] at K2
        have hB3 : smlB m = false := by
          cases hh : smlB m
          · rfl
          · exfalso; simp [hS] at hh
        rw [hB3] at K3
        clear h hS hB1 hB2 hB3
        go_enter Tryd.func28, Tryd.ntmps28
        go_wp2_with fail
        refine (K1 _ HG0.out).mono ?_
        rintro e w1 ⟨rfl, g1⟩
        have HG1 : Hid (Old w w1) := Old.trans HG0.out g1
        clear g1
        go_wp2_with fail
        refine (K2 _ HG1.out).mono ?_
        rintro e w2 ⟨rfl, g2⟩
        have HG2 : Hid (Old w w2) := Old.trans HG1.out g2
        clear g2
        go_wp2_with fail
        refine (K3 _ HG2.out).mono ?_
        rintro e w3 ⟨rfl, g3⟩
        have HG3 : Hid (Old w w3) := Old.trans HG2.out g3
        clear g3
        go_wp2_with fail
        go_ret2
        exact ⟨_, rfl, HG3.out, own_none _ _⟩
  · obtain ⟨m1, m2, m3⟩ := smlB_out hS
    have t1 : IntKind.i64.wrap (m - 1) = m - 1 := by rw [IntKind.wrap_i64]; omega
    cases hB1 : (basB xs && rsB rs xs)
    · rw [hB1] at K1
      clear h hS hB1 K2 K3 K4 K5 K6
      go_enter Tryd.func28, Tryd.ntmps28
      go_wp2_with fail
      refine (K1 _ HG0.out).mono ?_
      rintro e w1 ⟨rfl, g1⟩
      have HG1 : Hid (Old w w1) := Old.trans HG0.out g1
      clear g1
      go_wp2_with fail
      go_ret2
      exact ⟨_, rfl, HG1.out, own_none _ _⟩
    · rw [hB1] at K1
      cases hB2 : basB ts
      · rw [hB2] at K2
        clear h hS hB1 hB2 K3 K4 K5 K6
        go_enter Tryd.func28, Tryd.ntmps28
        go_wp2_with fail
        refine (K1 _ HG0.out).mono ?_
        rintro e w1 ⟨rfl, g1⟩
        have HG1 : Hid (Old w w1) := Old.trans HG0.out g1
        clear g1
        go_wp2_with fail
        refine (K2 _ HG1.out).mono ?_
        rintro e w2 ⟨rfl, g2⟩
        have HG2 : Hid (Old w w2) := Old.trans HG1.out g2
        clear g2
        go_wp2_with fail
        go_ret2
        exact ⟨_, rfl, HG2.out, own_none _ _⟩
      · rw [hB2] at K2
        cases hB3 : smlB m
        · rw [hB3] at K3
          clear h hS hB1 hB2 hB3 K4 K5 K6
          go_enter Tryd.func28, Tryd.ntmps28
          go_wp2_with fail
          refine (K1 _ HG0.out).mono ?_
          rintro e w1 ⟨rfl, g1⟩
          have HG1 : Hid (Old w w1) := Old.trans HG0.out g1
          clear g1
          go_wp2_with fail
          refine (K2 _ HG1.out).mono ?_
          rintro e w2 ⟨rfl, g2⟩
          have HG2 : Hid (Old w w2) := Old.trans HG1.out g2
          clear g2
          go_wp2_with fail
          refine (K3 _ HG2.out).mono ?_
          rintro e w3 ⟨rfl, g3⟩
          have HG3 : Hid (Old w w3) := Old.trans HG2.out g3
          clear g3
          go_wp2_with fail
          go_ret2
          exact ⟨_, rfl, HG3.out, own_none _ _⟩
        · rw [hB3] at K3
          cases hB4 : resB a m
          · rw [hB4] at K4
            clear h hS hB1 hB2 hB3 hB4 K5 K6
            go_enter Tryd.func28, Tryd.ntmps28
            go_wp2_with fail
            refine (K1 _ HG0.out).mono ?_
            rintro e w1 ⟨rfl, g1⟩
            have HG1 : Hid (Old w w1) := Old.trans HG0.out g1
            clear g1
            go_wp2_with fail
            refine (K2 _ HG1.out).mono ?_
            rintro e w2 ⟨rfl, g2⟩
            have HG2 : Hid (Old w w2) := Old.trans HG1.out g2
            clear g2
            go_wp2_with fail
            refine (K3 _ HG2.out).mono ?_
            rintro e w3 ⟨rfl, g3⟩
            have HG3 : Hid (Old w w3) := Old.trans HG2.out g3
            clear g3
            go_wp2_with fail
            refine (K4 _ HG3.out).mono ?_
            rintro e w4 ⟨rfl, g4⟩
            have HG4 : Hid (Old w w4) := Old.trans HG3.out g4
            clear g4
            go_wp2_with fail
            go_ret2
            exact ⟨_, rfl, HG4.out, own_none _ _⟩
          · rw [hB4] at K4
            cases hB5 : bx
            case true =>
              rw [hB5] at K5
              clear h hS hB1 hB2 hB3 hB4 hB5 K6
              go_enter Tryd.func28, Tryd.ntmps28
              go_wp2_with fail
              refine (K1 _ HG0.out).mono ?_
              rintro e w1 ⟨rfl, g1⟩
              have HG1 : Hid (Old w w1) := Old.trans HG0.out g1
              clear g1
              go_wp2_with fail
              refine (K2 _ HG1.out).mono ?_
              rintro e w2 ⟨rfl, g2⟩
              have HG2 : Hid (Old w w2) := Old.trans HG1.out g2
              clear g2
              go_wp2_with fail
              refine (K3 _ HG2.out).mono ?_
              rintro e w3 ⟨rfl, g3⟩
              have HG3 : Hid (Old w w3) := Old.trans HG2.out g3
              clear g3
              go_wp2_with fail
              refine (K4 _ HG3.out).mono ?_
              rintro e w4 ⟨rfl, g4⟩
              have HG4 : Hid (Old w w4) := Old.trans HG3.out g4
              clear g4
              go_wp2_with fail
              refine (K5 _ HG4.out).mono ?_
              rintro e w5 ⟨rfl, g5⟩
              have HG5 : Hid (Old w w5) := Old.trans HG4.out g5
              clear g5
              go_wp2_with fail
              go_ret2
              exact ⟨_, rfl, HG5.out, own_none _ _⟩
            case false =>
              rw [hB5] at K5
              have hB6 : bt = true := by
                cases hh : bt
                · exfalso; simp [hB1, hB2, hB3, hB4, hB5, hh] at h
                · rfl
              rw [hB6] at K6
              clear h hS hB1 hB2 hB3 hB4 hB5 hB6
              go_enter Tryd.func28, Tryd.ntmps28
              go_wp2_with fail
              refine (K1 _ HG0.out).mono ?_
              rintro e w1 ⟨rfl, g1⟩
              have HG1 : Hid (Old w w1) := Old.trans HG0.out g1
              clear g1
              go_wp2_with fail
              refine (K2 _ HG1.out).mono ?_
              rintro e w2 ⟨rfl, g2⟩
              have HG2 : Hid (Old w w2) := Old.trans HG1.out g2
              clear g2
              go_wp2_with fail
              refine (K3 _ HG2.out).mono ?_
              rintro e w3 ⟨rfl, g3⟩
              have HG3 : Hid (Old w w3) := Old.trans HG2.out g3
              clear g3
              go_wp2_with fail
              refine (K4 _ HG3.out).mono ?_
              rintro e w4 ⟨rfl, g4⟩
              have HG4 : Hid (Old w w4) := Old.trans HG3.out g4
              clear g4
              go_wp2_with fail
              refine (K5 _ HG4.out).mono ?_
              rintro e w5 ⟨rfl, g5⟩
              have HG5 : Hid (Old w w5) := Old.trans HG4.out g5
              clear g5
              go_wp2_with fail
              refine (K6 _ HG5.out).mono ?_
              rintro e w6 ⟨rfl, g6⟩
              have HG6 : Hid (Old w w6) := Old.trans HG5.out g6
              clear g6
              go_wp2_with fail
              go_ret2
              exact ⟨_, rfl, HG6.out, own_none _ _⟩
end Go.Proofs.YtejkejfhahmhcaaDoor
