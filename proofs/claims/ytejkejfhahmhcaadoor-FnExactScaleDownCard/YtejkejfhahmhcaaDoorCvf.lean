/- Proved: the contract of the program's areConvertible. -/
import Derived.Test.YtejkejfhahmhcaaDoorRsb
namespace Go.Proofs.YtejkejfhahmhcaaDoor
open Go.ChangeShapes Go.WideShapes Go.ChangeAt Go.RowKit
set_option linter.unusedVariables false
set_option linter.unusedSimpArgs false
theorem basB_len1 {xs : List Int} (h : basB xs = true) : 1 ≤ xs.length := by
  simp only [basB, Bool.and_eq_true, decide_eq_true_eq] at h
  exact h.1.1
set_option maxRecDepth 100000 in
set_option maxHeartbeats 2000000 in
theorem convertible_any (rs xs ts : List Int) (v u q : Value) (w : World) (hP : PrsW w) (hT : TabW w) (hv : Row w v rs) (hu : Row w u xs) (hq : Row w q ts) (hf : Fit u) (hfq : Fit q) (hl : xs.length ≤ 9223372036854775807) (hlq : ts.length ≤ 9223372036854775807) :
    Calls Tryd.prog 47 #[v, u, q] w fun e w' => e = .returned (.bool ((basB xs && basB ts) && rsB rs xs)) ∧ Old w w' := by
  have HP : Hid (PrsW w) := hP
  have HT : Hid (TabW w) := hT
  have HV : Hid (Row w v rs) := hv
  have HU : Hid (Row w u xs) := hu
  have HQ : Hid (Row w q ts) := hq
  have c1 := impl_goodBasis xs u w hP hT hu hf hl
  have c2 := fun W h1 h2 h3 => impl_goodBasis ts q W h1 h2 h3 hfq hlq
  have HL : Hid (basB xs = true → 1 ≤ xs.length) := basB_len1
  have c3 := fun W h1 h2 h3 => areRes_any rs xs v u W h1 h2 hl h3
  obtain ⟨va, vc, rfl⟩ := hv.slice
  obtain ⟨ua, uc, rfl⟩ := hu.slice
  obtain ⟨qa, qc, rfl⟩ := hq.slice
  clear hP hT hv hu hq hf hfq
  cases hb : basB xs
  · rw [hb] at c1
    simp only [Bool.false_and]
    clear c2 c3 HL hb
    go_enter Tryd.func47, Tryd.ntmps47
    go_wp2_with fail
    refine c1.mono ?_
    rintro e w1 ⟨rfl, g1⟩
    have HG1 : Hid (Old w w1) := g1
    clear g1
    go_wp2_with fail
    go_ret
    exact ⟨rfl, HG1.out⟩
  · rw [hb] at c1
    have h1 := HL.out hb
    cases hc : basB ts
    · rw [hc] at c2
      simp only [Bool.and_false, Bool.false_and]
      clear c3 HL hb hc
      go_enter Tryd.func47, Tryd.ntmps47
      go_wp2_with fail
      refine c1.mono ?_
      rintro e w1 ⟨rfl, g1⟩
      have HG1 : Hid (Old w w1) := g1
      clear g1
      go_wp2_with fail
      refine (c2 _ (HP.out.old HG1.out) (HT.out.old HG1.out) (HQ.out.old HG1.out)).mono ?_
      rintro e w2 ⟨rfl, g2⟩
      have HG2 : Hid (Old w w2) := Old.trans HG1.out g2
      clear g2
      go_wp2_with fail
      go_ret
      exact ⟨rfl, HG2.out⟩
    · rw [hc] at c2
      simp only [Bool.true_and]
      clear HL hb hc
      generalize rsB rs xs = B at *
      go_enter Tryd.func47, Tryd.ntmps47
      go_wp2_with fail
      refine c1.mono ?_
      rintro e w1 ⟨rfl, g1⟩
      have HG1 : Hid (Old w w1) := g1
      clear g1
      go_wp2_with fail
      refine (c2 _ (HP.out.old HG1.out) (HT.out.old HG1.out) (HQ.out.old HG1.out)).mono ?_
      rintro e w2 ⟨rfl, g2⟩
      have HG2 : Hid (Old w w2) := Old.trans HG1.out g2
      clear g2
      go_wp2_with fail
      refine (c3 _ (HV.out.old HG2.out) (HU.out.old HG2.out) h1).mono ?_
      rintro e w3 ⟨rfl, g3⟩
      have HG3 : Hid (Old w w3) := Old.trans HG2.out g3
      clear g3
      go_wp2_with fail
      go_ret
      exact ⟨rfl, HG3.out⟩
end Go.Proofs.YtejkejfhahmhcaaDoor
