/- Proved: the program's ExactConvert where it answers. -/
import Derived.Test.YtejkejfhahmhcaaDoorCvd
import Derived.Test.YtejkejfhahmhcaaDoorCve
import Derived.Test.YtejkejfhahmhcaaDoorExq
import Derived.Test.YtejkejfhahmhcaaDoorIfc
import Derived.Test.YtejkejfhahmhcaaDoorSmi
namespace Go.Proofs.YtejkejfhahmhcaaDoor
open Go.ChangeShapes Go.WideShapes Go.ChangeAt Go.RowKit
open M2
set_option linter.unusedVariables false
set_option linter.unusedSimpArgs false
theorem StP.one (w : World) (t : TypeId) : StP (w.alloc (.cells #[.func (.func 50) #[] #[], .func (.func 68) #[] #[]] t)) w.heap.size := ⟨by simp, cell_at _ _ _ _ _ rfl, cell_at _ _ _ _ _ rfl⟩
theorem StL.one (w : World) (t : TypeId) : StL (w.alloc (.cells #[.func (.func 50) #[] #[], .func (.func 69) #[] #[]] t)) w.heap.size := ⟨by simp, cell_at _ _ _ _ _ rfl, cell_at _ _ _ _ _ rfl⟩
/-- how many products ExactConvert adds -/
def exO (E A : Nat) (ps ys : List Nat) : Int := cenB (overL E ps (plusS E ps ys (E - A))) E
/-- ExactConvert's outcome -/
def exL (E A : Nat) (ps ys ts : List Nat) : List Nat := ts.map (fun b => plusP b ps (exO E A ps ys) (plusS b ps ys 0))
theorem exL_len (E A : Nat) (ps ys ts : List Nat) : (exL E A ps ys ts).length = ts.length := by simp [exL]
theorem exO_in (E A : Nat) (ps ys : List Nat) (hM : 2 ≤ E ∧ E ≤ 268435456) : -268435456 ≤ exO E A ps ys ∧ exO E A ps ys ≤ 268435456 := by
  have := overL_lt E ps (plusS E ps ys (E - A)) hM.1
  unfold exO cenB
  split <;> omega
set_option maxRecDepth 100000 in
set_option maxHeartbeats 8000000 in
theorem impl_ExactConvert_yes (rs ps ts : List Nat) (E A : Nat) (v u q : Value) (w : World) (hP : PrsW w) (hT : TabW w) (hv : Row w v (toZ rs)) (hu : Row w u (toZ ps)) (hf : Fit u) (hq : Row w q (toZ ts)) (hfq : Fit q) (hR : Res rs ps) (hB : Bas ts) (hE : 2 ≤ E ∧ E ≤ 268435456) (hA : A < E) (h : ecB (toZ rs) (toZ ps) E A (toZ ts) = true) :
    Calls Tryd.prog 27 #[v, u, .int .i64 (E : Int), .int .i64 (A : Int), q] w (Ls w (toZ (exL E A ps (yL rs ps) ts)) true) := by
  have hl6 := hR.bas.len6
  have ht6 := hB.len6
  have ht1 := hB.len1
  have K1 : ∀ W, Old w W → Calls Tryd.prog 47 #[v, u, q] W fun e w' => e = .returned (.bool ((basB (toZ ps) && basB (toZ ts)) && rsB (toZ rs) (toZ ps))) ∧ Old W w' := fun W g => convertible_any (toZ rs) (toZ ps) (toZ ts) v u q W (hP.old g) (hT.old g) (hv.old g) (hu.old g) (hq.old g) hf hfq (by rw [toZ_len]; omega) (by rw [toZ_len]; omega)
  have K2 : ∀ W, Old w W → Calls Tryd.prog 66 #[.int .i64 (E : Int), u, q] W fun e w' => e = .returned (.bool (exB (E : Int) (toZ ps) (toZ ts))) ∧ Old W w' := fun W g => extra_any (E : Int) (toZ ps) (toZ ts) u q W (hP.old g) (hT.old g) (hu.old g) (hq.old g) (by rw [toZ_len]; omega) (by rw [toZ_len]; omega)
  have K3 : ∀ W, Old w W → Calls Tryd.prog 67 #[.int .i64 (A : Int), .int .i64 (E : Int)] W fun e w' => e = .returned (.bool (resB (A : Int) (E : Int))) ∧ Old W w' := fun W g => (residue_any (A : Int) (E : Int) W).mono (fun e w' h => ⟨h.1, by rw [h.2]; exact Old.refl _⟩)
  unfold ecB at h
  simp only [Bool.and_eq_true] at h
  obtain ⟨⟨⟨⟨h1, h2⟩, h3⟩, h4⟩, h5⟩ := h
  rw [h1, h2, h3] at K1
  rw [h4] at K2
  rw [h5] at K3
  have cc := fun W h1 h2 => conv_any rs ps v u W h1 h2 hf hR.bas hR.len hR.lt
  have HV : Hid (Row w v (toZ rs)) := hv
  have HU : Hid (Row w u (toZ ps)) := hu
  have HQ : Hid (Row w q (toZ ts)) := hq
  obtain ⟨va, vc, rfl⟩ : ∃ a c, v = .slice a rs.length c := by have := hv.slice; rwa [toZ_len] at this
  obtain ⟨ua, uc, rfl⟩ : ∃ a c, u = .slice a ps.length c := by have := hu.slice; rwa [toZ_len] at this
  obtain ⟨qa, qc, rfl⟩ : ∃ a c, q = .slice a ts.length c := by have := hq.slice; rwa [toZ_len] at this
  have hpl := plusS_lt E ps (yL rs ps) (E - A) hE.1
  have hxl := overL_lt E ps (plusS E ps (yL rs ps) (E - A)) hE.1
  have hoi := exO_in E A ps (yL rs ps) hE
  have CO : Hid (∀ W g gs, Cv W ps (yL rs ps) (.slice ua ps.length uc) (.slice (some ⟨g, 0, none⟩) ps.length ps.length) → StL W gs → Calls Tryd.prog 71 #[.agg #[.slice ua ps.length uc, .slice (some ⟨g, 0, none⟩) ps.length ps.length, .int .i64 0, .int .i64 0, .slice (some ⟨gs, 0, none⟩) 2 2], .int .i64 ((E - A : Nat) : Int), .int .i64 (E : Int)] W fun e w' => e = .returned (.int .i64 ((overL E ps (plusS E ps (yL rs ps) (E - A)) : Nat) : Int)) ∧ Old W w') := fun W g gs hC hG =>
    takeL_any E gs (E - A) (plusS E ps (yL rs ps) (E - A)) _ _ _ _ _ _ _ _ _ rfl rfl 0 0 W hG
      (fun W3 g3 => plusSum_any _ _ ps (yL rs ps) _ _ 0 0 W3 hE (by omega) (hC.old g3))
      (fun W3 g3 => overLess_any _ _ ps (yL rs ps) _ _ 0 0 W3 hE (by omega) (hC.old g3))
  have CB : ∀ W, Calls Tryd.prog 70 #[.int .i64 ((overL E ps (plusS E ps (yL rs ps) (E - A)) : Nat) : Int), .int .i64 (E : Int)] W fun e w' => e = .returned (.int .i64 (exO E A ps (yL rs ps))) ∧ w' = W := fun W => centredBy_any _ E W (by omega) (by omega)
  have HM : Hid (∀ W g gs, Cv W ps (yL rs ps) (.slice ua ps.length uc) (.slice (some ⟨g, 0, none⟩) ps.length ps.length) → StP W gs → ∀ b, Old w W → Row W (.slice (some ⟨b, 0, none⟩) ts.length ts.length) (List.replicate ts.length 0) → Calls Tryd.prog 48 #[.func (.func 71) #[.agg #[.slice ua ps.length uc, .slice (some ⟨g, 0, none⟩) ps.length ps.length, .int .i64 (exO E A ps (yL rs ps)), .int .i64 0, .slice (some ⟨gs, 0, none⟩) 2 2]] #[], .slice (some ⟨b, 0, none⟩) ts.length ts.length, .slice qa ts.length qc] W fun e w' => ∃ g, e = .returned (.slice (some ⟨g, 0, none⟩) ts.length ts.length) ∧ Old W w' ∧ Own w' W.heap.size (.slice (some ⟨g, 0, none⟩) ts.length ts.length) (toZ (exL E A ps (yL rs ps) ts))) := fun W g gs hC hG b hO hr => by
    have := eachT_any #[.slice ua ps.length uc, .slice (some ⟨g, 0, none⟩) ps.length ps.length, .int .i64 (exO E A ps (yL rs ps)), .int .i64 0, .slice (some ⟨gs, 0, none⟩) 2 2] (List.replicate ts.length 0) (toZ ts) (toZ (exL E A ps (yL rs ps) ts)) _ _ W hr (HQ.out.old hO) (by rw [toZ_len]; exact ht1) (by rw [toZ_len]; exact ht6) (by rw [toZ_len]; simp) (by rw [toZ_len, toZ_len, exL_len]) (fun k hk W2 g2 => by
      rw [toZ_len] at hk
      have hm : ts.getD k 0 ∈ ts := by simp [List.getD, hk]
      have b4 := hB.lo _ hm
      have b5 := hB.hi _ hm
      have e1 : (List.replicate ts.length (0 : Int)).getD k 0 = ((0 : Nat) : Int) := by simp [List.getD, hk]
      have e2 : (toZ (exL E A ps (yL rs ps) ts)).getD k 0 = ((plusP (ts.getD k 0) ps (exO E A ps (yL rs ps)) (plusS (ts.getD k 0) ps (yL rs ps) 0) : Nat) : Int) := by rw [toZ_get]; simp [exL, List.getD, hk]
      rw [e1, e2, toZ_get]
      have l1 := plusS_lt (ts.getD k 0) ps (yL rs ps) 0 b4
      exact takeP_any (ts.getD k 0) gs 0 (plusS (ts.getD k 0) ps (yL rs ps) 0) _ _ _ _ _ _ _ _ _ rfl rfl (exO E A ps (yL rs ps)) 0 W2 (hG.old g2)
        (fun W3 g3 => plusSum_any _ _ ps (yL rs ps) _ _ _ _ W3 ⟨b4, b5⟩ (by omega) (hC.old (Old.trans g2 g3)))
        (fun W3 g3 => plusProducts_any _ _ ps (yL rs ps) _ _ _ _ W3 ⟨b4, b5⟩ (by omega) hoi (hC.old (Old.trans g2 g3))))
    rw [toZ_len] at this
    exact this
  generalize toZ (exL E A ps (yL rs ps) ts) = zs at *
  generalize exO E A ps (yL rs ps) = oo at *
  generalize overL E ps (plusS E ps (yL rs ps) (E - A)) = xx at *
  have ts1 : IntKind.i64.wrap ((E : Int) - (A : Int)) = ((E - A : Nat) : Int) := by rw [IntKind.wrap_i64]; omega
  generalize E - A = ea at *
  have hmf : ∀ (fn : Fn) (first cap : Array Value) (w : World), (Instr.makeFunc fn first cap).run Tryd.prog w = .ok (.func fn first cap) w := fun _ _ _ _ => rfl
  obtain ⟨MC, hmk, HMR⟩ : ∃ MC, (∀ W : World, (Instr.makeSlice 22 (.int .i64 (ts.length : Int)) (.int .i64 (ts.length : Int))).run Tryd.prog W = .ok (.slice (some ⟨W.heap.size, 0, none⟩) ts.length ts.length) (W.alloc (.cells MC 3))) ∧ Hid (∀ W : World, Row (W.alloc (.cells MC 3)) (.slice (some ⟨W.heap.size, 0, none⟩) ts.length ts.length) (List.replicate ts.length 0)) := make_row ts.length (by omega)
  have HG0 : Hid (Old w w) := Old.refl w
  clear hP hT hv hu hq hf hfq h1 h2 h3 h4 h5 hR hB
  go_enter Tryd.func27, Tryd.ntmps27
  go_wp2_with fail
  refine (K1 _ HG0.out).mono ?_
  rintro e w1 ⟨rfl, g1⟩
  have HG1 : Hid (Old w w1) := Old.trans HG0.out g1
  clear g1
  go_wp2_with fail
  refine (K2 _ HG1.out).mono ?_
  rintro e w2 ⟨rfl, g2⟩
  have HG2 : Hid (Old w w2) := Old.trans HG1.out g2
  clear g2
  go_wp2_with fail
  refine (K3 _ HG2.out).mono ?_
  rintro e w3 ⟨rfl, g3⟩
  have HG3 : Hid (Old w w3) := Old.trans HG2.out g3
  clear g3
  clear K1 K2 K3
  go_wp2_with fail
  refine (cc _ (HV.out.old HG3.out) (HU.out.old HG3.out)).mono ?_
  rintro e wa ⟨g, rfl, ga, C2⟩
  have HGA : Hid (Old w wa) := Old.trans HG3.out ga
  have HC2 : Hid (Cv wa ps (yL rs ps) (.slice ua ps.length uc) (.slice (some ⟨g, 0, none⟩) ps.length ps.length)) := C2
  clear ga C2 HG1 HG2 HG3
  go_wp2_with fail
  have hs1 : (wa.alloc (.cells #[.func (.func 50) #[] #[], .func (.func 68) #[] #[]] 81)).heap.size = wa.heap.size + 1 := by simp
  have hs2 : ((wa.alloc (.cells #[.func (.func 50) #[] #[], .func (.func 68) #[] #[]] 81)).alloc (.cells #[.slice ua ps.length uc, .slice (some ⟨g, 0, none⟩) ps.length ps.length, .int .i64 0, .int .i64 0, .slice (some ⟨wa.heap.size, 0, none⟩) 2 2] 85)).heap.size = wa.heap.size + 1 + 1 := by simp
  have HW : Hid (Old wa ((((wa.alloc (.cells #[.func (.func 50) #[] #[], .func (.func 68) #[] #[]] 81)).alloc (.cells #[.slice ua ps.length uc, .slice (some ⟨g, 0, none⟩) ps.length ps.length, .int .i64 0, .int .i64 0, .slice (some ⟨wa.heap.size, 0, none⟩) 2 2] 85)).alloc (.cells #[.func (.func 50) #[] #[], .func (.func 69) #[] #[]] 81)).alloc (.cells #[.slice ua ps.length uc, .slice (some ⟨g, 0, none⟩) ps.length ps.length, .int .i64 0, .int .i64 0, .slice (some ⟨wa.heap.size + 1 + 1, 0, none⟩) 2 2] 85))) := ((((Old.refl wa).alloc _).alloc _).alloc _).alloc _
  have HWP : Hid (Old (wa.alloc (.cells #[.func (.func 50) #[] #[], .func (.func 68) #[] #[]] 81)) ((((wa.alloc (.cells #[.func (.func 50) #[] #[], .func (.func 68) #[] #[]] 81)).alloc (.cells #[.slice ua ps.length uc, .slice (some ⟨g, 0, none⟩) ps.length ps.length, .int .i64 0, .int .i64 0, .slice (some ⟨wa.heap.size, 0, none⟩) 2 2] 85)).alloc (.cells #[.func (.func 50) #[] #[], .func (.func 69) #[] #[]] 81)).alloc (.cells #[.slice ua ps.length uc, .slice (some ⟨g, 0, none⟩) ps.length ps.length, .int .i64 0, .int .i64 0, .slice (some ⟨wa.heap.size + 1 + 1, 0, none⟩) 2 2] 85))) := (((Old.refl _).alloc _).alloc _).alloc _
  have HWQ : Hid (Old ((wa.alloc (.cells #[.func (.func 50) #[] #[], .func (.func 68) #[] #[]] 81)).alloc (.cells #[.slice ua ps.length uc, .slice (some ⟨g, 0, none⟩) ps.length ps.length, .int .i64 0, .int .i64 0, .slice (some ⟨wa.heap.size, 0, none⟩) 2 2] 85)) ((((wa.alloc (.cells #[.func (.func 50) #[] #[], .func (.func 68) #[] #[]] 81)).alloc (.cells #[.slice ua ps.length uc, .slice (some ⟨g, 0, none⟩) ps.length ps.length, .int .i64 0, .int .i64 0, .slice (some ⟨wa.heap.size, 0, none⟩) 2 2] 85)).alloc (.cells #[.func (.func 50) #[] #[], .func (.func 69) #[] #[]] 81)).alloc (.cells #[.slice ua ps.length uc, .slice (some ⟨g, 0, none⟩) ps.length ps.length, .int .i64 0, .int .i64 0, .slice (some ⟨wa.heap.size + 1 + 1, 0, none⟩) 2 2] 85))) := ((Old.refl _).alloc _).alloc _
  have HWL : Hid (Old (((wa.alloc (.cells #[.func (.func 50) #[] #[], .func (.func 68) #[] #[]] 81)).alloc (.cells #[.slice ua ps.length uc, .slice (some ⟨g, 0, none⟩) ps.length ps.length, .int .i64 0, .int .i64 0, .slice (some ⟨wa.heap.size, 0, none⟩) 2 2] 85)).alloc (.cells #[.func (.func 50) #[] #[], .func (.func 69) #[] #[]] 81)) ((((wa.alloc (.cells #[.func (.func 50) #[] #[], .func (.func 68) #[] #[]] 81)).alloc (.cells #[.slice ua ps.length uc, .slice (some ⟨g, 0, none⟩) ps.length ps.length, .int .i64 0, .int .i64 0, .slice (some ⟨wa.heap.size, 0, none⟩) 2 2] 85)).alloc (.cells #[.func (.func 50) #[] #[], .func (.func 69) #[] #[]] 81)).alloc (.cells #[.slice ua ps.length uc, .slice (some ⟨g, 0, none⟩) ps.length ps.length, .int .i64 0, .int .i64 0, .slice (some ⟨wa.heap.size + 1 + 1, 0, none⟩) 2 2] 85))) := (Old.refl _).alloc _
  have HS : Hid (S5 ((wa.alloc (.cells #[.func (.func 50) #[] #[], .func (.func 68) #[] #[]] 81)).alloc (.cells #[.slice ua ps.length uc, .slice (some ⟨g, 0, none⟩) ps.length ps.length, .int .i64 0, .int .i64 0, .slice (some ⟨wa.heap.size, 0, none⟩) 2 2] 85)) (wa.heap.size + 1) (.slice ua ps.length uc) (.slice (some ⟨g, 0, none⟩) ps.length ps.length) (.int .i64 0) (.int .i64 0) (.slice (some ⟨wa.heap.size, 0, none⟩) 2 2) 85) := by
    have := heap_alloc_new (wa.alloc (.cells #[.func (.func 50) #[] #[], .func (.func 68) #[] #[]] 81)) (.cells #[.slice ua ps.length uc, .slice (some ⟨g, 0, none⟩) ps.length ps.length, .int .i64 0, .int .i64 0, .slice (some ⟨wa.heap.size, 0, none⟩) 2 2] 85)
    rw [hs1] at this
    exact this
  have HDP : Hid (StP (wa.alloc (.cells #[.func (.func 50) #[] #[], .func (.func 68) #[] #[]] 81)) wa.heap.size) := StP.one wa _
  have HDL : Hid (StL (((wa.alloc (.cells #[.func (.func 50) #[] #[], .func (.func 68) #[] #[]] 81)).alloc (.cells #[.slice ua ps.length uc, .slice (some ⟨g, 0, none⟩) ps.length ps.length, .int .i64 0, .int .i64 0, .slice (some ⟨wa.heap.size, 0, none⟩) 2 2] 85)).alloc (.cells #[.func (.func 50) #[] #[], .func (.func 69) #[] #[]] 81)) (wa.heap.size + 1 + 1)) := by
    have := StL.one ((wa.alloc (.cells #[.func (.func 50) #[] #[], .func (.func 68) #[] #[]] 81)).alloc (.cells #[.slice ua ps.length uc, .slice (some ⟨g, 0, none⟩) ps.length ps.length, .int .i64 0, .int .i64 0, .slice (some ⟨wa.heap.size, 0, none⟩) 2 2] 85)) 81
    rw [hs2] at this
    exact this
  refine (CO.out _ g (wa.heap.size + 1 + 1) (HC2.out.old HW.out) (HDL.out.old HWL.out)).mono ?_
  rintro e wb ⟨rfl, gb⟩
  have HGB : Hid (Old w wb) := Old.trans (Old.trans HGA.out HW.out) gb
  have HOB : Hid (Old wa wb) := Old.trans HW.out gb
  have HOC : Hid (Old (wa.alloc (.cells #[.func (.func 50) #[] #[], .func (.func 68) #[] #[]] 81)) wb) := Old.trans HWP.out gb
  have SB : Hid (S5 wb (wa.heap.size + 1) (.slice ua ps.length uc) (.slice (some ⟨g, 0, none⟩) ps.length ps.length) (.int .i64 0) (.int .i64 0) (.slice (some ⟨wa.heap.size, 0, none⟩) 2 2) 85) := HS.out.old (Old.trans HWQ.out gb)
  obtain ⟨q0, q1, q2, q3, q4⟩ := SB.out.cells
  have f2 := SB.out.f 2
  have hsa := HGA.out.size
  have HS7 : Hid (S5 (wb.setCell ⟨wa.heap.size + 1, 2, none⟩ (.int .i64 oo)) (wa.heap.size + 1) (.slice ua ps.length uc) (.slice (some ⟨g, 0, none⟩) ps.length ps.length) (.int .i64 oo) (.int .i64 0) (.slice (some ⟨wa.heap.size, 0, none⟩) 2 2) 85) := SB.out.set2 _
  have HG7 : Hid (Old w (wb.setCell ⟨wa.heap.size + 1, 2, none⟩ (.int .i64 oo))) := HGB.out.own (p := ⟨wa.heap.size + 1, 2, none⟩) (by show _ ≤ wa.heap.size + 1; omega) _
  have HC7 : Hid (Cv (wb.setCell ⟨wa.heap.size + 1, 2, none⟩ (.int .i64 oo)) ps (yL rs ps) (.slice ua ps.length uc) (.slice (some ⟨g, 0, none⟩) ps.length ps.length)) := HC2.out.old (HOB.out.own (p := ⟨wa.heap.size + 1, 2, none⟩) (by show _ ≤ wa.heap.size + 1; omega) _)
  have HD7 : Hid (StP (wb.setCell ⟨wa.heap.size + 1, 2, none⟩ (.int .i64 oo)) wa.heap.size) := HDP.out.old (HOC.out.own (p := ⟨wa.heap.size + 1, 2, none⟩) (by show _ ≤ wa.heap.size + 1; omega) _)
  clear gb HW HS HDP HDL HWP HWQ HWL HC2 HOB HOC SB hs1 hs2
  go_wp2_with fail
  refine (CB _).mono ?_
  rintro e wc ⟨rfl, hwc⟩
  replace hwc := hwc.symm
  subst hwc
  go_wp2_with fail
  clear q0 q1 q2 q3 q4 f2
  generalize (wb.setCell ⟨wa.heap.size + 1, 2, none⟩ (.int .i64 oo)) = w7 at *
  obtain ⟨z0, z1, z2, z3, z4⟩ := HS7.out.cells
  obtain ⟨y0, y1, y2, y3, y4⟩ := (HS7.out.old ((Old.refl w7).alloc (.cells MC 3))).cells
  have HWE : Hid (Old w7 (w7.alloc (.cells MC 3))) := (Old.refl w7).alloc _
  go_region_with (first
    | (go_at_call 48; first
      | (refine (HM.out _ g wa.heap.size (HC7.out.old (Below.drew HWE.out)) (HD7.out.old (Below.drew HWE.out)) w7.heap.size (Old.trans HG7.out (Below.drew HWE.out)) ((HMR.out w7).old (Below.drew (Old.refl _)))).mono ?_; rintro e w9 ⟨g9, rfl, q9, o9⟩; have HG9 : Hid (Old w w9) := Old.trans (Old.trans HG7.out (Below.drew HWE.out)) q9; have HO9 : Hid (Own w9 w.heap.size (.slice (some ⟨g9, 0, none⟩) ts.length ts.length) zs) := Own.low o9 (Old.trans HG7.out (Below.drew HWE.out)).size; clear q9 o9)
      | (trace_state; fail))
    | fail)
  all_goals
    go_wp2_with fail
    go_ret2
    exact ⟨_, rfl, HG9.out, HO9.out⟩
end Go.Proofs.YtejkejfhahmhcaaDoor
