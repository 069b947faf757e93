/- Proved: contracts of the program's FastConvert. -/
import Derived.Test.YtejkejfhahmhcaaDoorCvd
import Derived.Test.YtejkejfhahmhcaaDoorCve
import Derived.Test.YtejkejfhahmhcaaDoorCvf
import Derived.Test.YtejkejfhahmhcaaDoorCompB
import Derived.Test.YtejkejfhahmhcaaDoorResI
namespace Go.Proofs.YtejkejfhahmhcaaDoor
open Go.ChangeShapes Go.WideShapes Go.ChangeAt Go.RowKit
open M2
set_option linter.unusedVariables false
set_option linter.unusedSimpArgs false
set_option maxRecDepth 100000 in
set_option maxHeartbeats 2000000 in
theorem impl_FastConvert_no (rs xs ts : List Int) (v u q : Value) (w : World) (hP : PrsW w) (hT : TabW w) (hv : Row w v rs) (hu : Row w u xs) (hf : Fit u) (hq : Row w q ts) (hfq : Fit q) (hl : xs.length ≤ 9223372036854775807) (hlq : ts.length ≤ 9223372036854775807) (h : ((basB xs && basB ts) && rsB rs xs) = false) :
    Calls Tryd.prog 22 #[v, u, q] w (Ls w [] false) := by
  have c := convertible_any rs xs ts v u q w hP hT hv hu hq hf hfq hl hlq
  rw [h] at c
  obtain ⟨va, vc, rfl⟩ := hv.slice
  obtain ⟨ua, uc, rfl⟩ := hu.slice
  obtain ⟨qa, qc, rfl⟩ := hq.slice
  clear hP hT hv hu hq hf hfq h
  go_enter Tryd.func22, Tryd.ntmps22
  go_wp2_with fail
  refine c.mono ?_
  rintro e w1 ⟨rfl, g1⟩
  have HG1 : Hid (Old w w1) := g1
  clear g1
  go_wp2_with fail
  go_ret2
  exact ⟨_, rfl, HG1.out, own_none _ _⟩
theorem make_row (n : Nat) (hn : n ≤ 1000) : ∃ MC, (∀ W : World, (Instr.makeSlice 22 (.int .i64 (n : Int)) (.int .i64 (n : Int))).run Tryd.prog W = .ok (.slice (some ⟨W.heap.size, 0, none⟩) n n) (W.alloc (.cells MC 3))) ∧ Hid (∀ W : World, Row (W.alloc (.cells MC 3)) (.slice (some ⟨W.heap.size, 0, none⟩) n n) (List.replicate n 0)) := by
  obtain ⟨i0, hi, hz0, hz1, hz2⟩ := info_parts Tryd.infoInt
  refine ⟨madeCells (Value.int .i64 0).cells (n * 1), fun W => ?_, fun W => ?_⟩
  · have := run_make (P := Tryd.prog) W 22 3 i0 (.int .i64 0) Tryd.underlying22 hi hz0 .i64 .i64 (n : Int) (n : Int) (by omega) (Int.le_refl _) (by rw [hz2]; omega) (by omega)
    rw [hz1] at this
    simpa using this
  · by_cases h0 : n = 0
    · subst h0
      exact Or.inl ⟨_, _, rfl, rfl⟩
    · have e : (madeCells (Value.int .i64 0).cells (n * 1)) = (((List.replicate n (0 : Int)).map (Value.int .i64))).toArray := by rw [← made_ints]
      refine Or.inr ⟨W.heap.size, 0, n, by simp, by simp, by simp; omega, fun j hj => ?_⟩
      have hj' : j < n := by simpa using hj
      rw [Nat.zero_add, e]
      rw [cell_at W _ _ _ j rfl]
      simp [List.getD, hj']
/-- by each number of ts the sum -/
def fcL (ps ys ts : List Nat) : List Nat := ts.map (fun m => plusS m ps ys 0)
theorem fcL_len (ps ys ts : List Nat) : (fcL ps ys ts).length = ts.length := by simp [fcL]
set_option maxRecDepth 100000 in
set_option maxHeartbeats 4000000 in
theorem impl_FastConvert_yes (rs ps ts : List Nat) (v u q : Value) (w : World) (hP : PrsW w) (hT : TabW w) (hv : Row w v (toZ rs)) (hu : Row w u (toZ ps)) (hf : Fit u) (hq : Row w q (toZ ts)) (hfq : Fit q) (hR : Res rs ps) (hB : Bas ts) (h : ((basB (toZ ps) && basB (toZ ts)) && rsB (toZ rs) (toZ ps)) = true) :
    Calls Tryd.prog 22 #[v, u, q] w (Ls w (toZ (fcL ps (yL rs ps) ts)) true) := by
  obtain ⟨i0, hi, hz0, hz1, hz2⟩ := info_parts Tryd.infoInt
  have hl6 := hR.bas.len6
  have ht6 := hB.len6
  have ht1 := hB.len1
  have c := convertible_any (toZ rs) (toZ ps) (toZ ts) v u q w hP hT hv hu hq hf hfq (by rw [toZ_len]; omega) (by rw [toZ_len]; omega)
  rw [h] at c
  have cc := fun W h1 h2 => conv_any rs ps v u W h1 h2 hf hR.bas hR.len hR.lt
  have HV : Hid (Row w v (toZ rs)) := hv
  have HU : Hid (Row w u (toZ ps)) := hu
  have HQ : Hid (Row w q (toZ ts)) := hq
  obtain ⟨va, vc, rfl⟩ : ∃ a c, v = .slice a rs.length c := by have := hv.slice; rwa [toZ_len] at this
  obtain ⟨ua, uc, rfl⟩ : ∃ a c, u = .slice a ps.length c := by have := hu.slice; rwa [toZ_len] at this
  obtain ⟨qa, qc, rfl⟩ : ∃ a c, q = .slice a ts.length c := by have := hq.slice; rwa [toZ_len] at this
  have HM : Hid (∀ W g, Cv W ps (yL rs ps) (.slice ua ps.length uc) (.slice (some ⟨g, 0, none⟩) ps.length ps.length) → ∀ b, Old w W → Row W (.slice (some ⟨b, 0, none⟩) ts.length ts.length) (List.replicate ts.length 0) → Calls Tryd.prog 48 #[.func (.func 50) #[.agg #[.slice ua ps.length uc, .slice (some ⟨g, 0, none⟩) ps.length ps.length, .int .i64 0, .int .i64 0]] #[], .slice (some ⟨b, 0, none⟩) ts.length ts.length, .slice qa ts.length qc] W fun e w' => ∃ g, e = .returned (.slice (some ⟨g, 0, none⟩) ts.length ts.length) ∧ Old W w' ∧ Own w' W.heap.size (.slice (some ⟨g, 0, none⟩) ts.length ts.length) (toZ (fcL ps (yL rs ps) ts))) := fun W g hC b hO hr => by
    have := eachS_any #[.slice ua ps.length uc, .slice (some ⟨g, 0, none⟩) ps.length ps.length, .int .i64 0, .int .i64 0] (List.replicate ts.length 0) (toZ ts) (toZ (fcL ps (yL rs ps) ts)) _ _ W hr (HQ.out.old hO) (by rw [toZ_len]; exact ht1) (by rw [toZ_len]; exact ht6) (by rw [toZ_len]; simp) (by rw [toZ_len, toZ_len, fcL_len]) (fun k hk W2 g2 => by
      rw [toZ_len] at hk
      have hm : ts.getD k 0 ∈ ts := by simp [List.getD, hk]
      have e1 : (List.replicate ts.length (0 : Int)).getD k 0 = ((0 : Nat) : Int) := by simp [List.getD, hk]
      have e2 : (toZ (fcL ps (yL rs ps) ts)).getD k 0 = ((plusS (ts.getD k 0) ps (yL rs ps) 0 : Nat) : Int) := by rw [toZ_get]; simp [fcL, List.getD, hk]
      rw [e1, e2, toZ_get]
      exact plusSum_any (ts.getD k 0) 0 ps (yL rs ps) _ _ 0 0 W2 ⟨hB.lo _ hm, hB.hi _ hm⟩ (by omega) (hC.old g2))
    rw [toZ_len] at this
    exact this
  generalize toZ (fcL ps (yL rs ps) ts) = zs at *
  have hmf : ∀ (fn : Fn) (first cap : Array Value) (w : World), (Instr.makeFunc fn first cap).run Tryd.prog w = .ok (.func fn first cap) w := fun _ _ _ _ => rfl
  obtain ⟨MC, hmk, HMR⟩ : ∃ MC, (∀ W : World, (Instr.makeSlice 22 (.int .i64 (ts.length : Int)) (.int .i64 (ts.length : Int))).run Tryd.prog W = .ok (.slice (some ⟨W.heap.size, 0, none⟩) ts.length ts.length) (W.alloc (.cells MC 3))) ∧ Hid (∀ W : World, Row (W.alloc (.cells MC 3)) (.slice (some ⟨W.heap.size, 0, none⟩) ts.length ts.length) (List.replicate ts.length 0)) := make_row ts.length (by omega)
  clear hP hT hv hu hq hf hfq h hR hB hi hz0 hz1 hz2
  go_enter Tryd.func22, Tryd.ntmps22
  go_wp2_with fail
  refine c.mono ?_
  rintro e w1 ⟨rfl, g1⟩
  have HG1 : Hid (Old w w1) := g1
  clear g1 c
  go_wp2_with fail
  go_region_with (first
    | (go_at_call 49; refine (cc _ (HV.out.old (by repeat' (first | with_reducible exact HG1.out | with_reducible refine Old.alloc ?_ _ | with_reducible refine Old.drwI ?_))) (HU.out.old (by repeat' (first | with_reducible exact HG1.out | with_reducible refine Old.alloc ?_ _ | with_reducible refine Old.drwI ?_)))).mono ?_; rintro e w2 ⟨g, rfl, g2, C2⟩; have HG2 : Hid (Old w w2) := Old.trans (by repeat' (first | with_reducible exact HG1.out | with_reducible refine Old.alloc ?_ _ | with_reducible refine Old.drwI ?_)) g2; have HC2 : Hid (Cv w2 ps (yL rs ps) (.slice ua ps.length uc) (.slice (some ⟨g, 0, none⟩) ps.length ps.length)) := C2; have HGG : Hid (Old _ w2) := g2; clear g2 C2)
    | (go_at_call 48; first
      | (have HB1 : Hid (Old (w1.alloc (.cells MC 3)).drew w2) := (by with_reducible exact HGG); refine (HM.out w2 g HC2.out w1.heap.size HG2.out (((HMR.out w1).old (Below.drew (Old.refl _))).old HB1.out)).mono ?_; rintro e w3 ⟨g3, rfl, q3, o3⟩; have HG3 : Hid (Old w w3) := Old.trans HG2.out q3; have HO3 : Hid (Own w3 w.heap.size (.slice (some ⟨g3, 0, none⟩) ts.length ts.length) zs) := Own.low o3 HG2.out.size; clear q3 o3)
      | (refine (HM.out (w2.alloc (.cells MC 3)) g (HC2.out.old ((Old.refl w2).alloc _)) w2.heap.size (HG2.out.alloc _) (HMR.out w2)).mono ?_; rintro e w3 ⟨g3, rfl, q3, o3⟩; have HG3 : Hid (Old w w3) := Old.trans (HG2.out.alloc _) q3; have HO3 : Hid (Own w3 w.heap.size (.slice (some ⟨g3, 0, none⟩) ts.length ts.length) zs) := Own.low o3 (HG2.out.alloc (.cells MC 3)).size; clear q3 o3))
    | fail)
  all_goals
    go_wp2_with fail
    go_ret2
    exact ⟨_, rfl, HG3.out, HO3.out⟩
end Go.Proofs.YtejkejfhahmhcaaDoor
