/- Proved: the program's SmallMont where it answers. -/
import Derived.Test.YtejkejfhahmhcaaDoorCvd
import Derived.Test.YtejkejfhahmhcaaDoorCve
import Derived.Test.YtejkejfhahmhcaaDoorSmq
import Derived.Test.YtejkejfhahmhcaaDoorIfc
namespace Go.Proofs.YtejkejfhahmhcaaDoor
open Go.ChangeShapes Go.WideShapes Go.ChangeAt Go.RowKit
open M2
set_option linter.unusedVariables false
set_option linter.unusedSimpArgs false
theorem StD.new (w : World) (t : TypeId) (o : Obj) : StD ((w.alloc (.cells #[.func (.func 50) #[] #[], .func (.func 68) #[] #[], .func (.func 77) #[] #[]] t)).alloc o) w.heap.size :=
  ⟨by simp; omega, (cell_lt _ _ _ _ (by simp)).trans (cell_at _ _ _ _ _ rfl), (cell_lt _ _ _ _ (by simp)).trans (cell_at _ _ _ _ _ rfl), (cell_lt _ _ _ _ (by simp)).trans (cell_at _ _ _ _ _ rfl)⟩
theorem StD.one (w : World) (t : TypeId) : StD (w.alloc (.cells #[.func (.func 50) #[] #[], .func (.func 68) #[] #[], .func (.func 77) #[] #[]] t)) w.heap.size :=
  ⟨by simp, cell_at _ _ _ _ _ rfl, cell_at _ _ _ _ _ rfl, cell_at _ _ _ _ _ rfl⟩
/-- a block of five cells -/
abbrev S5 (w : World) (k : Nat) (a b c d e : Value) (t : TypeId) : Prop := w.heap[k]? = some (.cells #[a, b, c, d, e] t (0, 0))
theorem S5.lt {w : World} {k : Nat} {a b c d e : Value} {t : TypeId} (h : S5 w k a b c d e t) : k < w.heap.size := (Array.getElem?_eq_some_iff.1 h).1
theorem S5.old {w w' : World} {k : Nat} {a b c d e : Value} {t : TypeId} (h : S5 w k a b c d e t) (g : Old w w') : S5 w' k a b c d e t := (g.block k h.lt).trans h
theorem S5.cells {w : World} {k : Nat} {a b c d e : Value} {t : TypeId} (h : S5 w k a b c d e t) : w.cell? ⟨k, 0, none⟩ = some a ∧ w.cell? ⟨k, 1, none⟩ = some b ∧ w.cell? ⟨k, 2, none⟩ = some c ∧ w.cell? ⟨k, 3, none⟩ = some d ∧ w.cell? ⟨k, 4, none⟩ = some e :=
  ⟨cell_of_row w k 0 _ t (0, 0) h, cell_of_row w k 1 _ t (0, 0) h, cell_of_row w k 2 _ t (0, 0) h, cell_of_row w k 3 _ t (0, 0) h, cell_of_row w k 4 _ t (0, 0) h⟩
theorem S5.f {w : World} {k : Nat} {a b c d e : Value} {t : TypeId} (h : S5 w k a b c d e t) (j : Nat) : w.frozen? ⟨k, j, none⟩ = false := frozen_of_row w k j _ t h
theorem S5.set2 {w : World} {k : Nat} {a b c d e : Value} {t : TypeId} (h : S5 w k a b c d e t) (x : Value) : S5 (w.setCell ⟨k, 2, none⟩ x) k a b x d e t := heap_setCell_same w k 2 _ _ x h
/-- how many products SmallMont adds -/
def smO (M A : Nat) (ps : List Nat) : Int := cenB (overL M ps A) M
/-- SmallMont's outcome -/
def smL (M A : Nat) (ps ys ts : List Nat) : List Nat := ts.map (fun b => overD b (M : Int) (plusP b ps (smO M A ps) (plusS b ps ys 0)))
theorem smL_len (M A : Nat) (ps ys ts : List Nat) : (smL M A ps ys ts).length = ts.length := by simp [smL]
theorem smO_in (M A : Nat) (ps : List Nat) (hM : 2 ≤ M ∧ M ≤ 268435456) : -268435456 ≤ smO M A ps ∧ smO M A ps ≤ 268435456 := by
  have := overL_lt M ps A hM.1
  unfold smO cenB
  split <;> omega
set_option maxRecDepth 100000 in
set_option maxHeartbeats 8000000 in
theorem impl_SmallMont_yes (rs ps ts : List Nat) (A M : Nat) (v u q : Value) (w : World) (hP : PrsW w) (hT : TabW w) (hv : Row w v (toZ rs)) (hu : Row w u (toZ ps)) (hf : Fit u) (hq : Row w q (toZ ts)) (hfq : Fit q) (hR : Res rs ps) (hB : Bas ts) (hM : 4 ≤ M ∧ M ≤ 65536) (hA : A < M) (h : smB (toZ rs) A (toZ ps) M (toZ ts) = true) :
    Calls Tryd.prog 29 #[v, .int .i64 (A : Int), u, .int .i64 (M : Int), q] w (Ls w (toZ (smL M A ps (yL rs ps) ts)) true) := by
  have hl6 := hR.bas.len6
  have ht6 := hB.len6
  have ht1 := hB.len1
  have K1 : ∀ W, Old w W → Calls Tryd.prog 47 #[v, u, q] W fun e w' => e = .returned (.bool ((basB (toZ ps) && basB (toZ ts)) && rsB (toZ rs) (toZ ps))) ∧ Old W w' := fun W g => convertible_any (toZ rs) (toZ ps) (toZ ts) v u q W (hP.old g) (hT.old g) (hv.old g) (hu.old g) (hq.old g) hf hfq (by rw [toZ_len]; omega) (by rw [toZ_len]; omega)
  have K2 : ∀ W, Old w W → Calls Tryd.prog 75 #[.int .i64 (M : Int)] W fun e w' => e = .returned (.bool (smlB (M : Int))) ∧ Old W w' := fun W g => (isSmall_any (M : Int) W (by omega)).mono (fun e w' h => ⟨h.1, by rw [h.2]; exact Old.refl _⟩)
  have K3 : ∀ W, Old w W → Calls Tryd.prog 67 #[.int .i64 (A : Int), .int .i64 (M : Int)] W fun e w' => e = .returned (.bool (resB (A : Int) (M : Int))) ∧ Old W w' := fun W g => (residue_any (A : Int) (M : Int) W).mono (fun e w' h => ⟨h.1, by rw [h.2]; exact Old.refl _⟩)
  have K4 : ∀ W, Old w W → Calls Tryd.prog 76 #[u, .int .i64 2] W fun e w' => e = .returned (.bool ((toZ ps).contains 2)) ∧ Old W w' := fun W g => contains_any (toZ ps) 2 u W (hu.old g) (by rw [toZ_len]; omega)
  have K5 : ∀ W, Old w W → Calls Tryd.prog 76 #[q, .int .i64 2] W fun e w' => e = .returned (.bool ((toZ ts).contains 2)) ∧ Old W w' := fun W g => contains_any (toZ ts) 2 q W (hq.old g) (by rw [toZ_len]; omega)
  unfold smB at h
  simp only [Bool.and_eq_true, Bool.not_eq_true'] at h
  obtain ⟨⟨⟨⟨⟨⟨h1, h2⟩, h3⟩, h4⟩, h5⟩, h6⟩, h7⟩ := h
  rw [h1, h2, h3] at K1
  rw [h4] at K2
  rw [h5] at K3
  rw [h6] at K4
  rw [h7] at K5
  have cc := fun W h1 h2 => conv_any rs ps v u W h1 h2 hf hR.bas hR.len hR.lt
  have HV : Hid (Row w v (toZ rs)) := hv
  have HU : Hid (Row w u (toZ ps)) := hu
  have HQ : Hid (Row w q (toZ ts)) := hq
  obtain ⟨va, vc, rfl⟩ : ∃ a c, v = .slice a rs.length c := by have := hv.slice; rwa [toZ_len] at this
  obtain ⟨ua, uc, rfl⟩ : ∃ a c, u = .slice a ps.length c := by have := hu.slice; rwa [toZ_len] at this
  obtain ⟨qa, qc, rfl⟩ : ∃ a c, q = .slice a ts.length c := by have := hq.slice; rwa [toZ_len] at this
  have hxl := overL_lt M ps A (by omega)
  have hoi := smO_in M A ps (by omega)
  have CO : Hid (∀ W g, Cv W ps (yL rs ps) (.slice ua ps.length uc) (.slice (some ⟨g, 0, none⟩) ps.length ps.length) → Calls Tryd.prog 69 #[.agg #[.slice ua ps.length uc, .slice (some ⟨g, 0, none⟩) ps.length ps.length, .int .i64 0, .int .i64 (M : Int)], .int .i64 (A : Int), .int .i64 (M : Int)] W fun e w' => e = .returned (.int .i64 ((overL M ps A : Nat) : Int)) ∧ Old W w') := fun W g hC => overLess_any M A ps (yL rs ps) _ _ 0 (M : Int) W (by omega) (by omega) hC
  have CB : ∀ W, Calls Tryd.prog 70 #[.int .i64 ((overL M ps A : Nat) : Int), .int .i64 (M : Int)] W fun e w' => e = .returned (.int .i64 (smO M A ps)) ∧ w' = W := fun W => centredBy_any (overL M ps A) M W (by omega) (by omega)
  have HM : Hid (∀ W g gs, Cv W ps (yL rs ps) (.slice ua ps.length uc) (.slice (some ⟨g, 0, none⟩) ps.length ps.length) → StD W gs → ∀ b, Old w W → Row W (.slice (some ⟨b, 0, none⟩) ts.length ts.length) (List.replicate ts.length 0) → Calls Tryd.prog 48 #[.func (.func 71) #[.agg #[.slice ua ps.length uc, .slice (some ⟨g, 0, none⟩) ps.length ps.length, .int .i64 (smO M A ps), .int .i64 (M : Int), .slice (some ⟨gs, 0, none⟩) 3 3]] #[], .slice (some ⟨b, 0, none⟩) ts.length ts.length, .slice qa ts.length qc] W fun e w' => ∃ g, e = .returned (.slice (some ⟨g, 0, none⟩) ts.length ts.length) ∧ Old W w' ∧ Own w' W.heap.size (.slice (some ⟨g, 0, none⟩) ts.length ts.length) (toZ (smL M A ps (yL rs ps) ts))) := fun W g gs hC hG b hO hr => by
    have := eachT_any #[.slice ua ps.length uc, .slice (some ⟨g, 0, none⟩) ps.length ps.length, .int .i64 (smO M A ps), .int .i64 (M : Int), .slice (some ⟨gs, 0, none⟩) 3 3] (List.replicate ts.length 0) (toZ ts) (toZ (smL M A ps (yL rs ps) ts)) _ _ W hr (HQ.out.old hO) (by rw [toZ_len]; exact ht1) (by rw [toZ_len]; exact ht6) (by rw [toZ_len]; simp) (by rw [toZ_len, toZ_len, smL_len]) (fun k hk W2 g2 => by
      rw [toZ_len] at hk
      have hm : ts.getD k 0 ∈ ts := by simp [List.getD, hk]
      have b4 := hB.lo _ hm
      have b5 := hB.hi _ hm
      have e1 : (List.replicate ts.length (0 : Int)).getD k 0 = ((0 : Nat) : Int) := by simp [List.getD, hk]
      have e2 : (toZ (smL M A ps (yL rs ps) ts)).getD k 0 = ((overD (ts.getD k 0) (M : Int) (plusP (ts.getD k 0) ps (smO M A ps) (plusS (ts.getD k 0) ps (yL rs ps) 0)) : Nat) : Int) := by rw [toZ_get]; simp [smL, List.getD, hk]
      rw [e1, e2, toZ_get]
      have l1 := plusS_lt (ts.getD k 0) ps (yL rs ps) 0 b4
      have l2 := plusP_lt (ts.getD k 0) ps (smO M A ps) (plusS (ts.getD k 0) ps (yL rs ps) 0) b4
      exact takeD_any (ts.getD k 0) gs 0 (plusS (ts.getD k 0) ps (yL rs ps) 0) (plusP (ts.getD k 0) ps (smO M A ps) (plusS (ts.getD k 0) ps (yL rs ps) 0)) _ _ _ _ _ _ _ _ _ rfl rfl (smO M A ps) (M : Int) W2 (hG.old g2)
        (fun W3 g3 => plusSum_any _ _ ps (yL rs ps) _ _ _ _ W3 ⟨b4, b5⟩ (by omega) (hC.old (Old.trans g2 g3)))
        (fun W3 g3 => plusProducts_any _ _ ps (yL rs ps) _ _ _ _ W3 ⟨b4, b5⟩ (by omega) hoi (hC.old (Old.trans g2 g3)))
        (fun W3 g3 => overDivisor_any _ _ _ _ _ _ _ _ _ _ rfl rfl _ _ W3 ⟨b4, b5⟩ (by omega) (by omega)))
    rw [toZ_len] at this
    exact this
  generalize toZ (smL M A ps (yL rs ps) ts) = zs at *
  generalize smO M A ps = oo at *
  generalize overL M ps A = xx at *
  have hmf : ∀ (fn : Fn) (first cap : Array Value) (w : World), (Instr.makeFunc fn first cap).run Tryd.prog w = .ok (.func fn first cap) w := fun _ _ _ _ => rfl
  obtain ⟨MC, hmk, HMR⟩ : ∃ MC, (∀ W : World, (Instr.makeSlice 22 (.int .i64 (ts.length : Int)) (.int .i64 (ts.length : Int))).run Tryd.prog W = .ok (.slice (some ⟨W.heap.size, 0, none⟩) ts.length ts.length) (W.alloc (.cells MC 3))) ∧ Hid (∀ W : World, Row (W.alloc (.cells MC 3)) (.slice (some ⟨W.heap.size, 0, none⟩) ts.length ts.length) (List.replicate ts.length 0)) := make_row ts.length (by omega)
  have HG0 : Hid (Old w w) := Old.refl w
  clear hP hT hv hu hq hf hfq h1 h2 h3 h4 h5 h6 h7 hR hB
  go_enter Tryd.func29, Tryd.ntmps29
  go_wp2_with fail
  refine (K1 _ HG0.out).mono ?_
  rintro e w1 ⟨rfl, g1⟩
  have HG1 : Hid (Old w w1) := Old.trans HG0.out g1
  clear g1
  go_wp2_with fail
  refine (K2 _ HG1.out).mono ?_
  rintro e w2 ⟨rfl, g2⟩
  have HG2 : Hid (Old w w2) := Old.trans HG1.out g2
  clear g2
  go_wp2_with fail
  refine (K3 _ HG2.out).mono ?_
  rintro e w3 ⟨rfl, g3⟩
  have HG3 : Hid (Old w w3) := Old.trans HG2.out g3
  clear g3
  go_wp2_with fail
  refine (K4 _ HG3.out).mono ?_
  rintro e w4 ⟨rfl, g4⟩
  have HG4 : Hid (Old w w4) := Old.trans HG3.out g4
  clear g4
  go_wp2_with fail
  refine (K5 _ HG4.out).mono ?_
  rintro e w5 ⟨rfl, g5⟩
  have HG5 : Hid (Old w w5) := Old.trans HG4.out g5
  clear g5
  clear K1 K2 K3 K4 K5
  go_wp2_with fail
  refine (cc _ (HV.out.old HG5.out) (HU.out.old HG5.out)).mono ?_
  rintro e wa ⟨g, rfl, ga, C2⟩
  have HGA : Hid (Old w wa) := Old.trans HG5.out ga
  have HC2 : Hid (Cv wa ps (yL rs ps) (.slice ua ps.length uc) (.slice (some ⟨g, 0, none⟩) ps.length ps.length)) := C2
  clear ga C2 HG1 HG2 HG3 HG4 HG5
  go_wp2_with fail
  have HW : Hid (Old wa ((wa.alloc (.cells #[.func (.func 50) #[] #[], .func (.func 68) #[] #[], .func (.func 77) #[] #[]] 81)).alloc (.cells #[.slice ua ps.length uc, .slice (some ⟨g, 0, none⟩) ps.length ps.length, .int .i64 0, .int .i64 (M : Int), .slice (some ⟨wa.heap.size, 0, none⟩) 3 3] 85))) := ((Old.refl wa).alloc _).alloc _
  have hs1 : (wa.alloc (.cells #[.func (.func 50) #[] #[], .func (.func 68) #[] #[], .func (.func 77) #[] #[]] 81)).heap.size = wa.heap.size + 1 := by simp
  have HS : Hid (S5 ((wa.alloc (.cells #[.func (.func 50) #[] #[], .func (.func 68) #[] #[], .func (.func 77) #[] #[]] 81)).alloc (.cells #[.slice ua ps.length uc, .slice (some ⟨g, 0, none⟩) ps.length ps.length, .int .i64 0, .int .i64 (M : Int), .slice (some ⟨wa.heap.size, 0, none⟩) 3 3] 85)) (wa.heap.size + 1) (.slice ua ps.length uc) (.slice (some ⟨g, 0, none⟩) ps.length ps.length) (.int .i64 0) (.int .i64 (M : Int)) (.slice (some ⟨wa.heap.size, 0, none⟩) 3 3) 85) := by
    have := heap_alloc_new (wa.alloc (.cells #[.func (.func 50) #[] #[], .func (.func 68) #[] #[], .func (.func 77) #[] #[]] 81)) (.cells #[.slice ua ps.length uc, .slice (some ⟨g, 0, none⟩) ps.length ps.length, .int .i64 0, .int .i64 (M : Int), .slice (some ⟨wa.heap.size, 0, none⟩) 3 3] 85)
    rw [hs1] at this
    exact this
  have HD : Hid (StD (wa.alloc (.cells #[.func (.func 50) #[] #[], .func (.func 68) #[] #[], .func (.func 77) #[] #[]] 81)) wa.heap.size) := StD.one wa _
  have HW1 : Hid (Old (wa.alloc (.cells #[.func (.func 50) #[] #[], .func (.func 68) #[] #[], .func (.func 77) #[] #[]] 81)) ((wa.alloc (.cells #[.func (.func 50) #[] #[], .func (.func 68) #[] #[], .func (.func 77) #[] #[]] 81)).alloc (.cells #[.slice ua ps.length uc, .slice (some ⟨g, 0, none⟩) ps.length ps.length, .int .i64 0, .int .i64 (M : Int), .slice (some ⟨wa.heap.size, 0, none⟩) 3 3] 85))) := (Old.refl _).alloc _
  refine (CO.out _ g (HC2.out.old HW.out)).mono ?_
  rintro e wb ⟨rfl, gb⟩
  have HGB : Hid (Old w wb) := Old.trans (Old.trans HGA.out HW.out) gb
  have HOB : Hid (Old wa wb) := Old.trans HW.out gb
  have HOC : Hid (Old (wa.alloc (.cells #[.func (.func 50) #[] #[], .func (.func 68) #[] #[], .func (.func 77) #[] #[]] 81)) wb) := Old.trans HW1.out gb
  have SB : Hid (S5 wb (wa.heap.size + 1) (.slice ua ps.length uc) (.slice (some ⟨g, 0, none⟩) ps.length ps.length) (.int .i64 0) (.int .i64 (M : Int)) (.slice (some ⟨wa.heap.size, 0, none⟩) 3 3) 85) := HS.out.old gb
  obtain ⟨q0, q1, q2, q3, q4⟩ := SB.out.cells
  have f2 := SB.out.f 2
  have hsa := HGA.out.size
  have HS7 : Hid (S5 (wb.setCell ⟨wa.heap.size + 1, 2, none⟩ (.int .i64 oo)) (wa.heap.size + 1) (.slice ua ps.length uc) (.slice (some ⟨g, 0, none⟩) ps.length ps.length) (.int .i64 oo) (.int .i64 (M : Int)) (.slice (some ⟨wa.heap.size, 0, none⟩) 3 3) 85) := SB.out.set2 _
  have HG7 : Hid (Old w (wb.setCell ⟨wa.heap.size + 1, 2, none⟩ (.int .i64 oo))) := HGB.out.own (p := ⟨wa.heap.size + 1, 2, none⟩) (by show _ ≤ wa.heap.size + 1; omega) _
  have HC7 : Hid (Cv (wb.setCell ⟨wa.heap.size + 1, 2, none⟩ (.int .i64 oo)) ps (yL rs ps) (.slice ua ps.length uc) (.slice (some ⟨g, 0, none⟩) ps.length ps.length)) := HC2.out.old (HOB.out.own (p := ⟨wa.heap.size + 1, 2, none⟩) (by show _ ≤ wa.heap.size + 1; omega) _)
  have HD7 : Hid (StD (wb.setCell ⟨wa.heap.size + 1, 2, none⟩ (.int .i64 oo)) wa.heap.size) := HD.out.old (HOC.out.own (p := ⟨wa.heap.size + 1, 2, none⟩) (by show _ ≤ wa.heap.size + 1; omega) _)
  clear gb HW HS HD HW1 HC2 HOB HOC SB hs1
  go_wp2_with fail
  refine (CB _).mono ?_
  rintro e wc ⟨rfl, hwc⟩
  replace hwc := hwc.symm
  subst hwc
  go_wp2_with fail
  clear q0 q1 q2 q3 q4 f2
  generalize (wb.setCell ⟨wa.heap.size + 1, 2, none⟩ (.int .i64 oo)) = w7 at *
  obtain ⟨z0, z1, z2, z3, z4⟩ := HS7.out.cells
  obtain ⟨y0, y1, y2, y3, y4⟩ := (HS7.out.old ((Old.refl w7).alloc (.cells MC 3))).cells
  have HWE : Hid (Old w7 (w7.alloc (.cells MC 3))) := (Old.refl w7).alloc _
  go_region_with (first
    | (go_at_call 48; first
      | (refine (HM.out _ g wa.heap.size (HC7.out.old (Below.drew HWE.out)) (HD7.out.old (Below.drew HWE.out)) w7.heap.size (Old.trans HG7.out (Below.drew HWE.out)) ((HMR.out w7).old (Below.drew (Old.refl _)))).mono ?_; rintro e w9 ⟨g9, rfl, q9, o9⟩; have HG9 : Hid (Old w w9) := Old.trans (Old.trans HG7.out (Below.drew HWE.out)) q9; have HO9 : Hid (Own w9 w.heap.size (.slice (some ⟨g9, 0, none⟩) ts.length ts.length) zs) := Own.low o9 (Old.trans HG7.out (Below.drew HWE.out)).size; clear q9 o9)
      | (trace_state; fail))
    | fail)
  all_goals
    go_wp2_with fail
    go_ret2
    exact ⟨_, rfl, HG9.out, HO9.out⟩
end Go.Proofs.YtejkejfhahmhcaaDoor
