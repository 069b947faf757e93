/- Proved: the model's ScaleDown; the statement on it at all arguments. -/
import Derived.Test.YtejkejfhahmhcaaDoorSci
import Derived.Test.YtejkejfhahmhcaaDoorSsm
import Derived.Test.YtejkejfhahmhcaaDoorCvo
import Derived.Test.YtejkejfhahmhcaaDoorCvs
import Derived.Test.YtejkejfhahmhcaaDoorTab
import Derived.Test.YtejkejfhahmhcaaDoorLawScaleDown
import Derived.Deep.AppendLies
import Derived.Deep.RegionLaw
namespace Go.Proofs.YtejkejfhahmhcaaDoor
open Go.ChangeShapes Go.WideShapes Go.ChangeAt Go.RowKit
open M2
set_option linter.unusedVariables false
set_option linter.unusedSimpArgs false
theorem any_bad {T G : Nat} {ps : List Nat} (h : (toZ ps).any (scP (T : Int) (G : Int)) = true) (hc : (toZ ps).contains (G : Int) = false) : ∃ k, k < ps.length ∧ T % ps.getD k 0 = 0 := by
  obtain ⟨x, hx, h2⟩ := List.any_eq_true.1 h
  obtain ⟨n, hn, rfl⟩ := List.mem_map.1 hx
  obtain ⟨k, hk, e⟩ := List.getElem_of_mem hn
  have hd : ps.getD k 0 = n := by simp [List.getD, hk, e]
  refine ⟨k, hk, ?_⟩
  rw [hd]
  simp only [scP, Bool.or_eq_true, beq_iff_eq] at h2
  rcases h2 with h3 | h3
  · exfalso
    rw [h3] at hx
    have : (toZ ps).contains (G : Int) = true := by simpa using hx
    rw [hc] at this
    cases this
  · omega
theorem none_bad {T G : Nat} {ps : List Nat} (h : (toZ ps).any (scP (T : Int) (G : Int)) = false) (k : Nat) (hk : k < ps.length) : T % ps.getD k 0 ≠ 0 ∧ ps.getD k 0 ≠ G := by
  have hm : ((ps.getD k 0 : Nat) : Int) ∈ toZ ps := List.mem_map.2 ⟨ps.getD k 0, by simp [List.getD, hk], rfl⟩
  have := (List.any_eq_false.1 h) _ hm
  simp only [scP, Bool.or_eq_true, beq_iff_eq, not_or] at this
  refine ⟨fun e => this.2 ?_, fun e => this.1 (by rw [e])⟩
  rw [← Int.natCast_emod, e]
  rfl
theorem gcd_one {T p : Nat} (hp : isP p = true) (hb : p ≤ 268435456) (ht : T % p ≠ 0) : Nat.gcd p T = 1 := by
  have hn : p ≠ 268435456 := fun e => by
    subst e
    revert hp
    decide
  have hpr := F1.pr_of_isP p hp (by omega)
  exact hpr.cop (fun hd => ht (Nat.mod_eq_zero_of_dvd hd))
theorem gcd_bad {T p : Nat} (hp : 2 ≤ p) (ht : T % p = 0) : Nat.gcd p T ≠ 1 := by
  rw [Nat.gcd_eq_left (Nat.dvd_of_mod_eq_zero ht)]
  omega
theorem bas_isP {ps : List Nat} (h : basB (toZ ps) = true) (k : Nat) (hk : k < ps.length) : isP (ps.getD k 0) = true := by
  simp only [basB, Bool.and_eq_true] at h
  have h5 := of_decide_eq_true h.2 k (by rw [toZ_len]; exact hk) (Nat.zero_le _)
  simp only [gbAt, Bool.and_eq_true, pmB] at h5
  have := h5.1.2
  rwa [toZ_get, Int.toNat_natCast] at this
theorem bas_in8 {ps : List Nat} (hb : Bas ps) : ∀ x ∈ toZ ps, -9223372036854775808 ≤ x ∧ x ≤ 9223372036854775807 := fun x hx => by
  obtain ⟨n, hn, rfl⟩ := List.mem_map.1 hx
  have := hb.hi n hn
  omega
set_option maxRecDepth 100000 in
set_option maxHeartbeats 8000000 in
theorem spec_ScaleDown_no (rs xs : List Int) (t g : Int) (v u : Value) (w : World) (hv : Row w v rs) (hu : Row w u xs) (hf : Fit u) (hl : xs.length ≤ 1048576) (hlr : rs.length ≤ 9223372036854775807) (hx : ∀ x ∈ xs, -9223372036854775808 ≤ x ∧ x ≤ 9223372036854775807) (h : sdB rs xs t g = false) :
    Calls Tryd.prog 32 #[v, u, .int .i64 t, .int .i64 g] w (Nm6 w 0 false) := by
  have K1 : ∀ W, Old w W → Calls Tryd.prog 34 #[v, u] W fun e w' => e = .returned (.bool (basB xs && rsB rs xs)) ∧ Old W w' := fun W q => l4Good_any rs xs v u W (hv.old q) (hu.old q) hf (by omega) hlr hx
  have K2 : ∀ W, Old w W → Calls Tryd.prog 59 #[.int .i64 t, .int .i64 2, .int .i64 65536] W fun e w' => e = .returned (.bool (inB t 2 65536)) ∧ Old W w' := fun W q => (spec_in t 2 65536 W).mono (fun e w' h => ⟨h.1, by rw [h.2]; exact Old.refl _⟩)
  have K3 : ∀ W, Old w W → Calls Tryd.prog 56 #[.int .i64 g] W fun e w' => e = .returned (.bool (modB g)) ∧ Old W w' := fun W q => (spec_modulus g W).mono (fun e w' h => ⟨h.1, by rw [h.2]; exact Old.refl _⟩)
  obtain ⟨va, vc, rfl⟩ := hv.slice
  have HG0 : Hid (Old w w) := Old.refl w
  cases hS : modB g
  · obtain ⟨ua, uc, rfl⟩ := hu.slice
    clear hv hu hf hx
    cases hB1 : (basB xs && rsB rs xs)
    · rw [hB1] at K1
      clear h hS hB1 K2 K3
      go_enter Tryd.func32, Tryd.ntmps32
      go_wp2_with fail
      refine (K1 _ HG0.out).mono ?_
      rintro e w1 ⟨rfl, g1⟩
      have HG1 : Hid (Old w w1) := Old.trans HG0.out g1
      clear g1
      go_wp2_with fail
      go_ret2
      exact ⟨rfl, HG1.out⟩
    · rw [hB1] at K1
      cases hB2 : inB t 2 65536
      · rw [hB2] at K2
        clear h hS hB1 hB2 K3
        go_enter Tryd.func32, Tryd.ntmps32
        go_wp2_with fail
        refine (K1 _ HG0.out).mono ?_
        rintro e w1 ⟨rfl, g1⟩
        have HG1 : Hid (Old w w1) := Old.trans HG0.out g1
        clear g1
        go_wp2_with fail
        refine (K2 _ HG1.out).mono ?_
        rintro e w2 ⟨rfl, g2⟩
        have HG2 : Hid (Old w w2) := Old.trans HG1.out g2
        clear g2
        go_wp2_with fail
        go_ret2
        exact ⟨rfl, HG2.out⟩
      · rw [hB2] at K2
        have hB3 : modB g = false := by
          cases hh : modB g
          · rfl
          · exfalso; simp [hS] at hh
        rw [hB3] at K3
        clear h hS hB1 hB2 hB3
        go_enter Tryd.func32, Tryd.ntmps32
        go_wp2_with fail
        refine (K1 _ HG0.out).mono ?_
        rintro e w1 ⟨rfl, g1⟩
        have HG1 : Hid (Old w w1) := Old.trans HG0.out g1
        clear g1
        go_wp2_with fail
        refine (K2 _ HG1.out).mono ?_
        rintro e w2 ⟨rfl, g2⟩
        have HG2 : Hid (Old w w2) := Old.trans HG1.out g2
        clear g2
        go_wp2_with fail
        refine (K3 _ HG2.out).mono ?_
        rintro e w3 ⟨rfl, g3⟩
        have HG3 : Hid (Old w w3) := Old.trans HG2.out g3
        clear g3
        go_wp2_with fail
        go_ret2
        exact ⟨rfl, HG3.out⟩
  · obtain ⟨m1, m2⟩ := modB_yes hS
    have K4 : ∀ W, Old w W → Calls Tryd.prog 57 #[.int .u64 g] W fun e w' => e = .returned (.bool (isP g.toNat)) ∧ Old W w' := fun W q => by
      have := spec_IsPrime g.toNat W (by omega)
      rwa [Int.toNat_of_nonneg (by omega)] at this
    have K6 : ∀ W, Old w W → Calls Tryd.prog 58 #[u, .int .i64 g] W fun e w' => e = .returned (.bool (xs.contains g)) ∧ Old W w' := fun W q => has_any xs g u W (hu.old q) (by omega)
    have HU : Hid (Row w u xs) := hu
    clear hv hu hf hx
    cases hB1 : (basB xs && rsB rs xs)
    case false =>
      rw [hB1] at K1
      have HUU := HU.out
      obtain ⟨ua, uc, rfl⟩ := HUU.slice
      clear h hS HU HUU hB1 K2 K3 K4 K6
      go_enter Tryd.func32, Tryd.ntmps32
      go_wp2_with fail
      refine (K1 _ HG0.out).mono ?_
      rintro e w1 ⟨rfl, g1⟩
      have HG1 : Hid (Old w w1) := Old.trans HG0.out g1
      clear g1
      go_wp2_with fail
      go_ret2
      exact ⟨rfl, HG1.out⟩
    case true =>
      rw [hB1] at K1
      cases hB2 : inB t 2 65536
      case false =>
        rw [hB2] at K2
        have HUU := HU.out
        obtain ⟨ua, uc, rfl⟩ := HUU.slice
        clear h hS HU HUU hB1 hB2 K3 K4 K6
        go_enter Tryd.func32, Tryd.ntmps32
        go_wp2_with fail
        refine (K1 _ HG0.out).mono ?_
        rintro e w1 ⟨rfl, g1⟩
        have HG1 : Hid (Old w w1) := Old.trans HG0.out g1
        clear g1
        go_wp2_with fail
        refine (K2 _ HG1.out).mono ?_
        rintro e w2 ⟨rfl, g2⟩
        have HG2 : Hid (Old w w2) := Old.trans HG1.out g2
        clear g2
        go_wp2_with fail
        go_ret2
        exact ⟨rfl, HG2.out⟩
      case true =>
        rw [hB2] at K2
        cases hB3 : modB g
        case false =>
          rw [hB3] at K3
          have HUU := HU.out
          obtain ⟨ua, uc, rfl⟩ := HUU.slice
          clear h hS HU HUU hB1 hB2 hB3 K4 K6
          go_enter Tryd.func32, Tryd.ntmps32
          go_wp2_with fail
          refine (K1 _ HG0.out).mono ?_
          rintro e w1 ⟨rfl, g1⟩
          have HG1 : Hid (Old w w1) := Old.trans HG0.out g1
          clear g1
          go_wp2_with fail
          refine (K2 _ HG1.out).mono ?_
          rintro e w2 ⟨rfl, g2⟩
          have HG2 : Hid (Old w w2) := Old.trans HG1.out g2
          clear g2
          go_wp2_with fail
          refine (K3 _ HG2.out).mono ?_
          rintro e w3 ⟨rfl, g3⟩
          have HG3 : Hid (Old w w3) := Old.trans HG2.out g3
          clear g3
          go_wp2_with fail
          go_ret2
          exact ⟨rfl, HG3.out⟩
        case true =>
          rw [hB3] at K3
          cases hB4 : isP g.toNat
          case false =>
            rw [hB4] at K4
            have HUU := HU.out
            obtain ⟨ua, uc, rfl⟩ := HUU.slice
            clear h hS HU HUU hB1 hB2 hB3 hB4 K6
            go_enter Tryd.func32, Tryd.ntmps32
            go_wp2_with fail
            refine (K1 _ HG0.out).mono ?_
            rintro e w1 ⟨rfl, g1⟩
            have HG1 : Hid (Old w w1) := Old.trans HG0.out g1
            clear g1
            go_wp2_with fail
            refine (K2 _ HG1.out).mono ?_
            rintro e w2 ⟨rfl, g2⟩
            have HG2 : Hid (Old w w2) := Old.trans HG1.out g2
            clear g2
            go_wp2_with fail
            refine (K3 _ HG2.out).mono ?_
            rintro e w3 ⟨rfl, g3⟩
            have HG3 : Hid (Old w w3) := Old.trans HG2.out g3
            clear g3
            go_wp2_with fail
            refine (K4 _ HG3.out).mono ?_
            rintro e w4 ⟨rfl, g4⟩
            have HG4 : Hid (Old w w4) := Old.trans HG3.out g4
            clear g4
            go_wp2_with fail
            go_ret2
            exact ⟨rfl, HG4.out⟩
          case true =>
            rw [hB4] at K4
            cases hB5 : decide (g ≤ t)
            case true =>
              have D5 := hB5
              have HUU := HU.out
              obtain ⟨ua, uc, rfl⟩ := HUU.slice
              clear h hS HU HUU hB1 hB2 hB3 hB4 hB5 K6
              go_enter Tryd.func32, Tryd.ntmps32
              go_wp2_with fail
              refine (K1 _ HG0.out).mono ?_
              rintro e w1 ⟨rfl, g1⟩
              have HG1 : Hid (Old w w1) := Old.trans HG0.out g1
              clear g1
              go_wp2_with fail
              refine (K2 _ HG1.out).mono ?_
              rintro e w2 ⟨rfl, g2⟩
              have HG2 : Hid (Old w w2) := Old.trans HG1.out g2
              clear g2
              go_wp2_with fail
              refine (K3 _ HG2.out).mono ?_
              rintro e w3 ⟨rfl, g3⟩
              have HG3 : Hid (Old w w3) := Old.trans HG2.out g3
              clear g3
              go_wp2_with fail
              refine (K4 _ HG3.out).mono ?_
              rintro e w4 ⟨rfl, g4⟩
              have HG4 : Hid (Old w w4) := Old.trans HG3.out g4
              clear g4
              go_wp2_with fail
              go_ret2
              exact ⟨rfl, HG4.out⟩
            case false =>
              have D5 := hB5
              cases hB6 : xs.contains g
              case true =>
                rw [hB6] at K6
                have HUU := HU.out
                obtain ⟨ua, uc, rfl⟩ := HUU.slice
                clear h hS HU HUU hB1 hB2 hB3 hB4 hB5 hB6
                go_enter Tryd.func32, Tryd.ntmps32
                go_wp2_with fail
                refine (K1 _ HG0.out).mono ?_
                rintro e w1 ⟨rfl, g1⟩
                have HG1 : Hid (Old w w1) := Old.trans HG0.out g1
                clear g1
                go_wp2_with fail
                refine (K2 _ HG1.out).mono ?_
                rintro e w2 ⟨rfl, g2⟩
                have HG2 : Hid (Old w w2) := Old.trans HG1.out g2
                clear g2
                go_wp2_with fail
                refine (K3 _ HG2.out).mono ?_
                rintro e w3 ⟨rfl, g3⟩
                have HG3 : Hid (Old w w3) := Old.trans HG2.out g3
                clear g3
                go_wp2_with fail
                refine (K4 _ HG3.out).mono ?_
                rintro e w4 ⟨rfl, g4⟩
                have HG4 : Hid (Old w w4) := Old.trans HG3.out g4
                clear g4
                go_wp2_with fail
                refine (K6 _ HG4.out).mono ?_
                rintro e w6 ⟨rfl, g6⟩
                have HG6 : Hid (Old w w6) := Old.trans HG4.out g6
                clear g6
                go_wp2_with fail
                go_ret2
                exact ⟨rfl, HG6.out⟩
              case false =>
                rw [hB6] at K6
                have hbx : basB xs = true := by
                  rw [Bool.and_eq_true] at hB1
                  exact hB1.1
                obtain ⟨t1, t2⟩ := inB_out hB2
                have hgt : t < g := by simp at hB5; omega
                have hany : xs.any (scP t g) = true := by
                  have hr : rsB rs xs = true := by
                    rw [Bool.and_eq_true] at hB1
                    exact hB1.2
                  have q1 : decide (2 ≤ t) = true := decide_eq_true (by omega)
                  have q2 : decide (t ≤ 65536) = true := decide_eq_true (by omega)
                  have q3 : decide (t < g) = true := decide_eq_true hgt
                  have q4 : pmB g = true := by unfold pmB; rw [hB3, hB4]; rfl
                  unfold sdB scB at h
                  rw [hbx, hr, q1, q2, q3, q4] at h
                  cases hh : xs.any (scP t g)
                  · rw [hh] at h
                    cases h
                  · rfl
                obtain ⟨ps, rfl, hb⟩ := basB_yes hbx
                obtain ⟨T, rfl⟩ := Int.eq_ofNat_of_zero_le (show 0 ≤ t by omega)
                obtain ⟨G, rfl⟩ := Int.eq_ofNat_of_zero_le (show 0 ≤ g by omega)
                obtain ⟨m, hm, hbad⟩ := any_bad hany hB6
                have HBAD : Hid (T % ps.getD m 0 = 0) := hbad
                have HBS : Hid (Bas ps) := hb
                have hl6 := hb.len6
                have D5n : decide (G ≤ T) = false := decide_eq_false (by omega)
                have HUU := HU.out
                obtain ⟨ua, uc, rfl⟩ : ∃ a c, u = .slice a ps.length c := by have := HUU.slice; rwa [toZ_len] at this
                obtain ⟨b2, o2, cap2, e2, hb2, hc2⟩ := HUU.atZ (by omega)
                simp only [Value.slice.injEq] at e2
                obtain ⟨rfl, _, rfl⟩ := e2
                have HC2 : Hid (∀ j, j < ps.length → w.cell? ⟨b2, o2 + j, none⟩ = some (.int .i64 ((ps.getD j 0 : Nat) : Int))) := hc2
                clear hany hbad hb h hB1 hB2 hB3 hB4 hB5 hB6 hbx HUU hc2 HU
                go_enter Tryd.func32, Tryd.ntmps32
                go_wp2_with fail
                refine (K1 _ HG0.out).mono ?_
                rintro e w1 ⟨rfl, g1⟩
                have HG1 : Hid (Old w w1) := Old.trans HG0.out g1
                clear g1
                go_wp2_with fail
                refine (K2 _ HG1.out).mono ?_
                rintro e w2 ⟨rfl, g2⟩
                have HG2 : Hid (Old w w2) := Old.trans HG1.out g2
                clear g2
                go_wp2_with fail
                refine (K3 _ HG2.out).mono ?_
                rintro e w3 ⟨rfl, g3⟩
                have HG3 : Hid (Old w w3) := Old.trans HG2.out g3
                clear g3
                go_wp2_with fail
                refine (K4 _ HG3.out).mono ?_
                rintro e w4 ⟨rfl, g4⟩
                have HG4 : Hid (Old w w4) := Old.trans HG3.out g4
                clear g4
                go_wp2_with fail
                refine (K6 _ HG4.out).mono ?_
                rintro e w6 ⟨rfl, g6⟩
                have HG6 : Hid (Old w w6) := Old.trans HG4.out g6
                clear g6
                go_wp2_with fail
                go_loopw [51] (fun i W => ∃ k : Nat, k ≤ m ∧ i = .int .i64 k ∧ Hid (Old w W)) (fun i _ => ps.length - (intOf i).toNat)
                case atStart => exact ⟨0, by omega, rfl, HG6⟩
                case round =>
                  obtain ⟨k, hk, rfl, HG⟩ := hrel
                  have d1 : decide ((k : Int) < (ps.length : Int)) = true := by simp; omega
                  have i1 : (k : Int) < (ps.length : Int) := by omega
                  have k1 : wr.cell? ⟨b2, o2 + k, none⟩ = some (.int .i64 ((ps.getD k 0 : Nat) : Int)) := (HG.out.cell (p := ⟨b2, o2 + k, none⟩) hb2).trans (HC2.out k (by omega))
                  have hmk : ps.getD k 0 ∈ ps := by simp [List.getD, show k < ps.length by omega]
                  have cg := fun W => gcd_any (ps.getD k 0) T W (HBS.out.hi _ hmk) (by omega)
                  by_cases hg1 : Nat.gcd (ps.getD k 0) T = 1
                  · have hkm : k < m := by
                      rcases Nat.lt_or_ge k m with h | h
                      · exact h
                      · obtain rfl : k = m := by omega
                        exact absurd hg1 (gcd_bad (HBS.out.lo _ hmk) HBAD.out)
                    rw [hg1] at cg
                    clear hg1 hmk
                    generalize ps.getD k 0 = p at *
                    have dn : (((1 : Nat) : Int) != 1) = false := by simp
                    go_wp2_with fail
                    refine (cg _).mono ?_
                    rintro e wz ⟨rfl, gz⟩
                    have HGZ : Hid (Old w wz) := Old.trans HG.out gz
                    clear gz
                    go_wp2_with fail
                    exact ⟨⟨k + 1, by omega, by go_num, HGZ⟩, by simp [intOf]; omega⟩
                  · have dn : (((Nat.gcd (ps.getD k 0) T : Nat) : Int) != 1) = true := by simp only [bne_iff_ne, ne_eq]; intro e; exact hg1 (by omega)
                    clear hg1 hmk
                    generalize Nat.gcd (ps.getD k 0) T = gc at *
                    generalize ps.getD k 0 = p at *
                    go_wp2_with fail
                    refine (cg _).mono ?_
                    rintro e wz ⟨rfl, gz⟩
                    have HGZ : Hid (Old w wz) := Old.trans HG.out gz
                    clear gz
                    go_wp2_with fail
                    go_ret2
                    exact ⟨rfl, HGZ.out⟩
end Go.Proofs.YtejkejfhahmhcaaDoor
