/- Proved: several texts in one: what each proves is said ahead of it. -/
import Derived.Test.YtfcdfielbpdloaaGreatDoorF21
import Derived.Test.YtfcdfielbpdloaaGreatDoorF13
import Derived.Test.YtfcdfielbpdloaaGreatDoorF22
/- Proved: the contract of the program's conversionOf. -/
namespace Go.Proofs.YtfcdfielbpdloaaGreatDoor
open Go.ChangeShapes Go.WideShapes Go.ChangeAt Go.RowKit
open M2
set_option linter.unusedVariables false
set_option linter.unusedSimpArgs false
abbrev S4 (w : World) (k : Nat) (a b c d : Value) (t : TypeId) : Prop := w.heap[k]? = some (.cells #[a, b, c, d] t (0, 0))
theorem S4.c0 {w : World} {k : Nat} {a b c d : Value} {t : TypeId} (h : S4 w k a b c d t) : w.cell? ⟨k, 0, none⟩ = some a := cell_of_row w k 0 _ t (0, 0) h
theorem S4.c1 {w : World} {k : Nat} {a b c d : Value} {t : TypeId} (h : S4 w k a b c d t) : w.cell? ⟨k, 1, none⟩ = some b := cell_of_row w k 1 _ t (0, 0) h
theorem S4.c2 {w : World} {k : Nat} {a b c d : Value} {t : TypeId} (h : S4 w k a b c d t) : w.cell? ⟨k, 2, none⟩ = some c := cell_of_row w k 2 _ t (0, 0) h
theorem S4.c3 {w : World} {k : Nat} {a b c d : Value} {t : TypeId} (h : S4 w k a b c d t) : w.cell? ⟨k, 3, none⟩ = some d := cell_of_row w k 3 _ t (0, 0) h
theorem S4.f {w : World} {k : Nat} {a b c d : Value} {t : TypeId} (h : S4 w k a b c d t) (j : Nat) : w.frozen? ⟨k, j, none⟩ = false := frozen_of_row w k j _ t h
theorem S4.lt {w : World} {k : Nat} {a b c d : Value} {t : TypeId} (h : S4 w k a b c d t) : k < w.heap.size := (Array.getElem?_eq_some_iff.1 h).1
theorem S4.old {w w' : World} {k : Nat} {a b c d : Value} {t : TypeId} (h : S4 w k a b c d t) (g : Old w w') : S4 w' k a b c d t := (g.block k h.lt).trans h
theorem S4.new (w : World) (a b c d : Value) (t : TypeId) : S4 (w.alloc (.cells #[a, b, c, d] t)) w.heap.size a b c d t := heap_alloc_new w _
theorem S4.set {w : World} {k : Nat} {a b c d : Value} {t : TypeId} (h : S4 w k a b c d t) (a' b' c' d' : Value) : S4 ((((w.setCell ⟨k, 0, none⟩ a').setCell ⟨k, 1, none⟩ b').setCell ⟨k, 2, none⟩ c').setCell ⟨k, 3, none⟩ d') k a' b' c' d' t := by
  have h1 := heap_setCell_same w k 0 _ _ a' h
  have h2 := heap_setCell_same _ k 1 _ _ b' h1
  have h3 := heap_setCell_same _ k 2 _ _ c' h2
  have h4 := heap_setCell_same _ k 3 _ _ d' h3
  exact h4
theorem Old.set4 {a w : World} {k : Nat} (h : Old a w) (hk : a.heap.size ≤ k) (x y z u : Value) : Old a ((((w.setCell ⟨k, 0, none⟩ x).setCell ⟨k, 1, none⟩ y).setCell ⟨k, 2, none⟩ z).setCell ⟨k, 3, none⟩ u) :=
  (((h.own (p := ⟨k, 0, none⟩) hk _).own (p := ⟨k, 1, none⟩) hk _).own (p := ⟨k, 2, none⟩) hk _).own (p := ⟨k, 3, none⟩) hk _
theorem infoCv : (Tryz.prog.info? 77).map (·.size) = some 4 := by kernel_rfl
theorem ret_cv {fn : Func} {p : Tmp} (h : fn.results = #[.cell p 77]) (tmps : Array Value) (w : World) {g : Nat} {a b c d : Value} (hp : tmps.getD p undef = .pointer (some ⟨g, 0, none⟩)) (hs : S4 w g a b c d 77) :
    (results fn tmps).run Tryz.prog w = .ok (.agg #[a, b, c, d]) w :=
  results_cell_row h tmps w g 77 #[a, b, c, d] (0, 0) _ hp hs Tryz.underlying77 rfl infoCv
theorem Row.otherCell {w : World} {v : Value} {xs : List Int} (h : Row w v xs) {k j : Nat} (hk : ∀ a n c, v = .slice (some a) n c → a.block ≠ k) (x : Value) : Row (w.setCell ⟨k, j, none⟩ x) v xs := by
  rcases h with h1 | ⟨b, o, cap, e, hb, h0, hc⟩
  · exact Or.inl h1
  · exact Or.inr ⟨b, o, cap, e, (by simpa using hb), h0, fun i hi => (cellS w k j x (hk _ _ _ e)).trans (hc i hi)⟩
theorem yL_cv {rs ps : List Nat} (hb : Bas ps) : ∀ i, i < ps.length → (yL rs ps).getD i 0 ≤ 268435456 := fun i hi => by
  rw [yL_get _ _ _ hi]
  have := yN_lt (rs := rs) hb hi
  omega
set_option maxRecDepth 100000 in
set_option maxHeartbeats 2000000 in
theorem conv_any (rs ps : List Nat) (v u : Value) (w : World) (hv : Row w v (toZ rs)) (hu : Row w u (toZ ps)) (hf : Fit u) (hb : Bas ps) (hrl : rs.length = ps.length) (hr : ∀ i, i < ps.length → rs.getD i 0 < ps.getD i 0) :
    Calls Tryz.prog 43 #[v, u] w fun e w' => ∃ g, e = .returned (.agg #[u, .slice (some ⟨g, 0, none⟩) ps.length ps.length, .int .i64 0, .int .i64 0]) ∧ Old w w' ∧ Cv w' ps (yL rs ps) u (.slice (some ⟨g, 0, none⟩) ps.length ps.length) := by
  have csh := fun W h1 h2 => shares_any rs ps v u W h1 h2 hf hb hrl hr
  have HV : Hid (Row w v (toZ rs)) := hv
  have HU : Hid (Row w u (toZ ps)) := hu
  have HF : Hid (Fit u) := hf
  have HBs : Hid (Bas ps) := hb
  obtain ⟨va, vc, rfl⟩ : ∃ a c, v = .slice a rs.length c := by have := hv.slice; rwa [toZ_len] at this
  obtain ⟨b2, o2, cap2, rfl, hb2, hc2⟩ := hu.atZ (by have := hb.len1; omega)
  have HA : Hid (Old w (w.alloc (.cells #[.slice none 0 0, .slice none 0 0, .int .i64 0, .int .i64 0] 77))) := (Old.refl w).alloc _
  have HS : Hid (S4 (w.alloc (.cells #[.slice none 0 0, .slice none 0 0, .int .i64 0, .int .i64 0] 77)) w.heap.size (.slice none 0 0) (.slice none 0 0) (.int .i64 0) (.int .i64 0) 77) := S4.new w _ _ _ _ _
  clear hv hu hf hb hr hrl hc2
  go_enter Tryz.func43, Tryz.ntmps43
  go_wp2_with fail
  refine (csh _ (HV.out.old HA.out) (HU.out.old HA.out)).mono ?_
  rintro e w1 ⟨g, rfl, g1, o1⟩
  have S1 := HS.out.old g1
  have HS1 : Hid (S4 w1 w.heap.size (.slice none 0 0) (.slice none 0 0) (.int .i64 0) (.int .i64 0) 77) := S1
  have HG1 : Hid (Old w w1) := Old.trans HA.out g1
  have HO1 : Hid (Own w1 (w.alloc (.cells #[.slice none 0 0, .slice none 0 0, .int .i64 0, .int .i64 0] 77)).heap.size (.slice (some ⟨g, 0, none⟩) ps.length ps.length) (toZ (yL rs ps))) := o1
  have q0 := S1.c0
  have q1 := S1.c1
  have q2 := S1.c2
  have q3 := S1.c3
  have f0 := S1.f 0
  have f1 := S1.f 1
  have f2 := S1.f 2
  have f3 := S1.f 3
  clear g1 o1 S1
  go_wp2_with fail
  have hg : w.heap.size < g := by
    have := (World.ownsRow.lt HO1.out g rfl).1
    simp at this
    omega
  have rf := (HU.out.old HG1.out)
  have rs' := (Own.row HO1.out)
  have nf : ∀ (a : Addr) (n c : Nat), Value.slice (some ⟨b2, o2, none⟩) ps.length cap2 = .slice (some a) n c → a.block ≠ w.heap.size := fun a n c e => by
    simp only [Value.slice.injEq, Option.some.injEq] at e
    obtain ⟨rfl, _⟩ := e
    show b2 ≠ _
    omega
  have ns : ∀ (a : Addr) (n c : Nat), Value.slice (some ⟨g, 0, none⟩) ps.length ps.length = .slice (some a) n c → a.block ≠ w.heap.size := fun a n c e => by
    simp only [Value.slice.injEq, Option.some.injEq] at e
    obtain ⟨rfl, _⟩ := e
    show g ≠ _
    omega
  exact bodyPost_ret (ret_cv Tryz.results43 _ _ rfl (HS1.out.set _ _ _ _)) rfl ⟨g, rfl, HG1.out.set4 (Nat.le_refl _) _ _ _ _, ⟨(((rf.otherCell nf _).otherCell nf _).otherCell nf _).otherCell nf _, HF.out, (((rs'.otherCell ns _).otherCell ns _).otherCell ns _).otherCell ns _, yL_len _ _, HBs.out.len1, HBs.out.len6, HBs.out.hi, yL_cv HBs.out⟩⟩
end Go.Proofs.YtfcdfielbpdloaaGreatDoor
/- Proved: the contract of the program's eachBy, by each of the two ways that are handed to it. -/
namespace Go.Proofs.YtfcdfielbpdloaaGreatDoor
open Go.ChangeShapes Go.WideShapes Go.ChangeAt Go.RowKit
open M2
set_option linter.unusedVariables false
set_option linter.unusedSimpArgs false
set_option maxRecDepth 100000 in
set_option maxHeartbeats 2000000 in
theorem eachS_any (first : Array Value) (ss ts zs : List Int) (vs vt : Value) (w : World) (hs : Row w vs ss) (ht : Row w vt ts) (h1 : 1 ≤ ts.length) (h6 : ts.length ≤ 6) (hls : ss.length = ts.length) (hlz : zs.length = ts.length)
    (hm : ∀ k, k < ts.length → ∀ W, Old w W → Calls Tryz.prog 44 #[.agg first, .int .i64 (ss.getD k 0), .int .i64 (ts.getD k 0)] W fun e w' => e = .returned (.int .i64 (zs.getD k 0)) ∧ Old W w') :
    Calls Tryz.prog 42 #[.func (.func 44) #[.agg first] #[], vs, vt] w fun e w' => ∃ g, e = .returned (.slice (some ⟨g, 0, none⟩) ts.length ts.length) ∧ Old w w' ∧ Own w' w.heap.size (.slice (some ⟨g, 0, none⟩) ts.length ts.length) zs := by
  obtain ⟨i0, hi, hz0, hz1, hz2⟩ := info_parts Tryz.infoInt
  have HM : Hid (∀ k, k < ts.length → ∀ W, Old w W → Calls Tryz.prog 44 #[.agg first, .int .i64 (ss.getD k 0), .int .i64 (ts.getD k 0)] W fun e w' => e = .returned (.int .i64 (zs.getD k 0)) ∧ Old W w') := hm
  obtain ⟨b1, o1, cap1, rfl, hb1, hc1⟩ := hs.cells (by omega)
  obtain ⟨b2, o2, cap2, rfl, hb2, hc2⟩ := ht.cells (by omega)
  rw [hls] at hc1 ⊢
  have HC1 : Hid (∀ j, j < ts.length → w.cell? ⟨b1, o1 + j, none⟩ = some (.int .i64 (ss.getD j 0))) := hc1
  have HC2 : Hid (∀ j, j < ts.length → w.cell? ⟨b2, o2 + j, none⟩ = some (.int .i64 (ts.getD j 0))) := hc2
  clear hs ht hc1 hc2 hm hls
  go_enter Tryz.func42, Tryz.ntmps42
  go_wp2_with (at_make; refine wpList_make_full _ rfl _ _ 23 rfl w.heap.size 3 i0 (.int .i64 0) 1 Tryz.underlying23 hi hz0 hz1 .i64 .i64 _ _ ts.length rfl rfl rfl rfl (by rw [hz2]; omega) (by unfold maxLen; omega) (Nat.le_refl _) ?_; intro w3 hown hgrow)
  have HO : Hid (OwnI w3 w.heap.size w.heap.size ts.length (List.replicate ts.length 0)) := by
    rw [made_ints] at hown
    exact hown
  have HG3 : Hid (Old w w3) := Old.by_ (Old.refl _) hgrow (fun b hb => by cases hb)
  clear hown hgrow
  go_loopw [15] (fun i W => ∃ k : Nat, k ≤ ts.length ∧ i = .int .i64 k ∧ Hid (OwnI W w.heap.size w.heap.size ts.length (fillN zs k)) ∧ Hid (Old w W)) (fun i _ => ts.length - (intOf i).toNat)
  case atStart => exact ⟨0, by omega, rfl, (by show OwnI _ _ _ _ _; rw [fillN_zero, hlz]; exact HO.out), HG3⟩
  case round =>
    obtain ⟨k, hk, rfl, HO1, HG⟩ := hrel
    clear HO HG3
    by_cases hlt : k < ts.length
    · have d1 : decide ((k : Int) < (ts.length : Int)) = true := by simp; omega
      have i1 : (k : Int) < (ts.length : Int) := by omega
      have c1 : wr.cell? ⟨b1, o1 + k, none⟩ = some (.int .i64 (ss.getD k 0)) := (HG.out.cell (p := ⟨b1, o1 + k, none⟩) hb1).trans (HC1.out k hlt)
      have c2 : wr.cell? ⟨b2, o2 + k, none⟩ = some (.int .i64 (ts.getD k 0)) := (HG.out.cell (p := ⟨b2, o2 + k, none⟩) hb2).trans (HC2.out k hlt)
      have cm := HM.out k hlt
      have HPU : Hid (∀ W, OwnI W w.heap.size w.heap.size ts.length (fillN zs k) → OwnI (W.setCell ⟨w.heap.size, k, none⟩ (.int .i64 (zs.getD k 0))) w.heap.size w.heap.size ts.length (fillN zs (k + 1))) := fun W h => by
        have := h.put k (zs.getD k 0)
        rw [fillN_set zs k (by omega)] at this
        exact this
      generalize zs.getD k 0 = y at *
      generalize ss.getD k 0 = x at *
      generalize ts.getD k 0 = m at *
      go_wp2_with fail
      refine (cm _ HG.out).mono ?_
      rintro e w4 ⟨rfl, g4⟩
      have HO4 : Hid (OwnI w4 w.heap.size w.heap.size ts.length (fillN zs k)) := HO1.out.old g4
      have HG6 : Hid (Old w w4) := Old.trans HG.out g4
      have c3 := HO4.out.get (fillN_len zs k (by omega) |>.trans hlz) k hlt
      have c4 := HO4.out.free k
      generalize (fillN zs k).getD k 0 = oldv at *
      clear g4
      go_wp2_with fail
      exact ⟨⟨k + 1, by omega, by go_num, HPU.out _ HO4.out, HG6.out.own (Nat.le_refl _) _⟩, by simp [intOf]; omega⟩
    · have d1 : decide ((k : Int) < (ts.length : Int)) = false := by simp; omega
      obtain rfl : k = ts.length := by omega
      have HF : Hid (Own wr w.heap.size (.slice (some ⟨w.heap.size, 0, none⟩) ts.length ts.length) zs) := by
        have := HO1.out.own ((fillN_len zs ts.length (by omega)).trans hlz)
        rw [show fillN zs ts.length = zs by rw [← hlz]; exact fillN_all zs] at this
        exact this
      go_wp2_with fail
      go_ret
      exact ⟨_, rfl, HG.out, HF.out⟩
end Go.Proofs.YtfcdfielbpdloaaGreatDoor
/- Proved: contracts of the program's FastConvert. -/
namespace Go.Proofs.YtfcdfielbpdloaaGreatDoor
open Go.ChangeShapes Go.WideShapes Go.ChangeAt Go.RowKit
open M2
set_option linter.unusedVariables false
set_option linter.unusedSimpArgs false
set_option maxRecDepth 100000 in
set_option maxHeartbeats 2000000 in
theorem impl_FastConvert_no (rs xs ts : List Int) (v u q : Value) (w : World) (hP : PrsW w) (hT : TabW w) (hv : Row w v rs) (hu : Row w u xs) (hf : Fit u) (hq : Row w q ts) (hfq : Fit q) (hl : xs.length ≤ 9223372036854775807) (hlq : ts.length ≤ 9223372036854775807) (h : ((basB xs && basB ts) && rsB rs xs) = false) :
    Calls Tryz.prog 17 #[v, u, q] w (Ls w [] false) := by
  have c := convertible_any rs xs ts v u q w hP hT hv hu hq hf hfq hl hlq
  rw [h] at c
  obtain ⟨va, vc, rfl⟩ := hv.slice
  obtain ⟨ua, uc, rfl⟩ := hu.slice
  obtain ⟨qa, qc, rfl⟩ := hq.slice
  clear hP hT hv hu hq hf hfq h
  go_enter Tryz.func17, Tryz.ntmps17
  go_wp2_with fail
  refine c.mono ?_
  rintro e w1 ⟨rfl, g1⟩
  have HG1 : Hid (Old w w1) := g1
  clear g1
  go_wp2_with fail
  go_ret2
  exact ⟨_, rfl, HG1.out, own_none _ _⟩
theorem make_row (n : Nat) (hn : n ≤ 1000) : ∃ MC, (∀ W : World, (Instr.makeSlice 23 (.int .i64 (n : Int)) (.int .i64 (n : Int))).run Tryz.prog W = .ok (.slice (some ⟨W.heap.size, 0, none⟩) n n) (W.alloc (.cells MC 3))) ∧ Hid (∀ W : World, Row (W.alloc (.cells MC 3)) (.slice (some ⟨W.heap.size, 0, none⟩) n n) (List.replicate n 0)) := by
  obtain ⟨i0, hi, hz0, hz1, hz2⟩ := info_parts Tryz.infoInt
  refine ⟨madeCells (Value.int .i64 0).cells (n * 1), fun W => ?_, fun W => ?_⟩
  · have := run_make (P := Tryz.prog) W 23 3 i0 (.int .i64 0) Tryz.underlying23 hi hz0 .i64 .i64 (n : Int) (n : Int) (by omega) (Int.le_refl _) (by rw [hz2]; omega) (by omega)
    rw [hz1] at this
    simpa using this
  · by_cases h0 : n = 0
    · subst h0
      exact Or.inl ⟨_, _, rfl, rfl⟩
    · have e : (madeCells (Value.int .i64 0).cells (n * 1)) = (((List.replicate n (0 : Int)).map (Value.int .i64))).toArray := by rw [← made_ints]
      refine Or.inr ⟨W.heap.size, 0, n, by simp, by simp, by simp; omega, fun j hj => ?_⟩
      have hj' : j < n := by simpa using hj
      rw [Nat.zero_add, e]
      rw [cell_at W _ _ _ j rfl]
      simp [List.getD, hj']
def fcL (ps ys ts : List Nat) : List Nat := ts.map (fun m => plusS m ps ys 0)
theorem fcL_len (ps ys ts : List Nat) : (fcL ps ys ts).length = ts.length := by simp [fcL]
set_option maxRecDepth 100000 in
set_option maxHeartbeats 4000000 in
theorem impl_FastConvert_yes (rs ps ts : List Nat) (v u q : Value) (w : World) (hP : PrsW w) (hT : TabW w) (hv : Row w v (toZ rs)) (hu : Row w u (toZ ps)) (hf : Fit u) (hq : Row w q (toZ ts)) (hfq : Fit q) (hR : Res rs ps) (hB : Bas ts) (h : ((basB (toZ ps) && basB (toZ ts)) && rsB (toZ rs) (toZ ps)) = true) :
    Calls Tryz.prog 17 #[v, u, q] w (Ls w (toZ (fcL ps (yL rs ps) ts)) true) := by
  obtain ⟨i0, hi, hz0, hz1, hz2⟩ := info_parts Tryz.infoInt
  have hl6 := hR.bas.len6
  have ht6 := hB.len6
  have ht1 := hB.len1
  have c := convertible_any (toZ rs) (toZ ps) (toZ ts) v u q w hP hT hv hu hq hf hfq (by rw [toZ_len]; omega) (by rw [toZ_len]; omega)
  rw [h] at c
  have cc := fun W h1 h2 => conv_any rs ps v u W h1 h2 hf hR.bas hR.len hR.lt
  have HV : Hid (Row w v (toZ rs)) := hv
  have HU : Hid (Row w u (toZ ps)) := hu
  have HQ : Hid (Row w q (toZ ts)) := hq
  obtain ⟨va, vc, rfl⟩ : ∃ a c, v = .slice a rs.length c := by have := hv.slice; rwa [toZ_len] at this
  obtain ⟨ua, uc, rfl⟩ : ∃ a c, u = .slice a ps.length c := by have := hu.slice; rwa [toZ_len] at this
  obtain ⟨qa, qc, rfl⟩ : ∃ a c, q = .slice a ts.length c := by have := hq.slice; rwa [toZ_len] at this
  have HM : Hid (∀ W g, Cv W ps (yL rs ps) (.slice ua ps.length uc) (.slice (some ⟨g, 0, none⟩) ps.length ps.length) → ∀ b, Old w W → Row W (.slice (some ⟨b, 0, none⟩) ts.length ts.length) (List.replicate ts.length 0) → Calls Tryz.prog 42 #[.func (.func 44) #[.agg #[.slice ua ps.length uc, .slice (some ⟨g, 0, none⟩) ps.length ps.length, .int .i64 0, .int .i64 0]] #[], .slice (some ⟨b, 0, none⟩) ts.length ts.length, .slice qa ts.length qc] W fun e w' => ∃ g, e = .returned (.slice (some ⟨g, 0, none⟩) ts.length ts.length) ∧ Old W w' ∧ Own w' W.heap.size (.slice (some ⟨g, 0, none⟩) ts.length ts.length) (toZ (fcL ps (yL rs ps) ts))) := fun W g hC b hO hr => by
    have := eachS_any #[.slice ua ps.length uc, .slice (some ⟨g, 0, none⟩) ps.length ps.length, .int .i64 0, .int .i64 0] (List.replicate ts.length 0) (toZ ts) (toZ (fcL ps (yL rs ps) ts)) _ _ W hr (HQ.out.old hO) (by rw [toZ_len]; exact ht1) (by rw [toZ_len]; exact ht6) (by rw [toZ_len]; simp) (by rw [toZ_len, toZ_len, fcL_len]) (fun k hk W2 g2 => by
      rw [toZ_len] at hk
      have hm : ts.getD k 0 ∈ ts := by simp [List.getD, hk]
      have e1 : (List.replicate ts.length (0 : Int)).getD k 0 = ((0 : Nat) : Int) := by simp [List.getD, hk]
      have e2 : (toZ (fcL ps (yL rs ps) ts)).getD k 0 = ((plusS (ts.getD k 0) ps (yL rs ps) 0 : Nat) : Int) := by rw [toZ_get]; simp [fcL, List.getD, hk]
      rw [e1, e2, toZ_get]
      exact plusSum_any (ts.getD k 0) 0 ps (yL rs ps) _ _ 0 0 W2 ⟨hB.lo _ hm, hB.hi _ hm⟩ (by omega) (hC.old g2))
    rw [toZ_len] at this
    exact this
  generalize toZ (fcL ps (yL rs ps) ts) = zs at *
  have hmf : ∀ (fn : Fn) (first cap : Array Value) (w : World), (Instr.makeFunc fn first cap).run Tryz.prog w = .ok (.func fn first cap) w := fun _ _ _ _ => rfl
  obtain ⟨MC, hmk, HMR⟩ : ∃ MC, (∀ W : World, (Instr.makeSlice 23 (.int .i64 (ts.length : Int)) (.int .i64 (ts.length : Int))).run Tryz.prog W = .ok (.slice (some ⟨W.heap.size, 0, none⟩) ts.length ts.length) (W.alloc (.cells MC 3))) ∧ Hid (∀ W : World, Row (W.alloc (.cells MC 3)) (.slice (some ⟨W.heap.size, 0, none⟩) ts.length ts.length) (List.replicate ts.length 0)) := make_row ts.length (by omega)
  clear hP hT hv hu hq hf hfq h hR hB hi hz0 hz1 hz2
  go_enter Tryz.func17, Tryz.ntmps17
  go_wp2_with fail
  refine c.mono ?_
  rintro e w1 ⟨rfl, g1⟩
  have HG1 : Hid (Old w w1) := g1
  clear g1 c
  go_wp2_with fail
  go_region_with (first
    | (go_at_call 43; refine (cc _ (HV.out.old (by repeat' (first | with_reducible exact HG1.out | with_reducible refine Old.alloc ?_ _ | with_reducible refine Old.drwI ?_))) (HU.out.old (by repeat' (first | with_reducible exact HG1.out | with_reducible refine Old.alloc ?_ _ | with_reducible refine Old.drwI ?_)))).mono ?_; rintro e w2 ⟨g, rfl, g2, C2⟩; have HG2 : Hid (Old w w2) := Old.trans (by repeat' (first | with_reducible exact HG1.out | with_reducible refine Old.alloc ?_ _ | with_reducible refine Old.drwI ?_)) g2; have HC2 : Hid (Cv w2 ps (yL rs ps) (.slice ua ps.length uc) (.slice (some ⟨g, 0, none⟩) ps.length ps.length)) := C2; have HGG : Hid (Old _ w2) := g2; clear g2 C2)
    | (go_at_call 42; first
      | (have HB1 : Hid (Old (w1.alloc (.cells MC 3)).drew w2) := (by with_reducible exact HGG); refine (HM.out w2 g HC2.out w1.heap.size HG2.out (((HMR.out w1).old (Below.drew (Old.refl _))).old HB1.out)).mono ?_; rintro e w3 ⟨g3, rfl, q3, o3⟩; have HG3 : Hid (Old w w3) := Old.trans HG2.out q3; have HO3 : Hid (Own w3 w.heap.size (.slice (some ⟨g3, 0, none⟩) ts.length ts.length) zs) := Own.low o3 HG2.out.size; clear q3 o3)
      | (refine (HM.out (w2.alloc (.cells MC 3)) g (HC2.out.old ((Old.refl w2).alloc _)) w2.heap.size (HG2.out.alloc _) (HMR.out w2)).mono ?_; rintro e w3 ⟨g3, rfl, q3, o3⟩; have HG3 : Hid (Old w w3) := Old.trans (HG2.out.alloc _) q3; have HO3 : Hid (Own w3 w.heap.size (.slice (some ⟨g3, 0, none⟩) ts.length ts.length) zs) := Own.low o3 (HG2.out.alloc (.cells MC 3)).size; clear q3 o3))
    | fail)
  all_goals
    go_wp2_with fail
    go_ret2
    exact ⟨_, rfl, HG3.out, HO3.out⟩
end Go.Proofs.YtfcdfielbpdloaaGreatDoor
/- Proved: the mathematics of conversions from one basis to another; no function of the program. -/
namespace Go.Proofs.YtfcdfielbpdloaaGreatDoor
open Go.ChangeShapes Go.WideShapes Go.ChangeAt Go.RowKit
open M2
set_option linter.unusedVariables false
set_option linter.unusedSimpArgs false
theorem nat_toI6 (xs : List Nat) : nat (toI xs) = xs := by
  apply List.ext_getElem
  · simp [nat, toI]
  · intro i h1 h2
    simp [nat, toI]
theorem gw_good6 {n : Bool} {xs : List Nat} (h : Nrm xs) (h2 : n = true → xs ≠ []) (hl : xs.length ≤ 40) : Good n (toI xs) := by
  refine ⟨by rw [toI_len]; exact hl, ?_, ?_⟩
  · rintro ⟨h0, hn⟩
    exact h2 hn (List.length_eq_zero_iff.1 (by rw [← toI_len]; exact h0))
  · intro j hj
    rw [toI_len] at hj
    have hm : xs.getD j 0 ∈ xs := by simp [List.getD, hj]
    have hb := h.1 _ hm
    unfold LB at hb
    refine ⟨?_, ?_⟩
    · rw [toI_get]
      omega
    · rw [toI_get, toI_len]
      rintro ⟨h0, h1⟩
      have hne : xs ≠ [] := by rintro rfl; simp at hj
      apply h.2 hne
      rw [List.getLast_eq_getElem]
      have h2 : xs.getD j 0 = 0 := by omega
      have e : xs.length - 1 = j := by omega
      simp only [e]
      rw [← h2]
      simp [List.getD, hj]
theorem foldl_mod (m : Nat) : ∀ (l : List Nat) (a b : Nat), a % m = b % m → l.foldl (fun a p => a * p % m) a % m = l.foldl (fun a p => a * p) b % m
  | [], a, b, h => h
  | p :: l, a, b, h => by
    refine foldl_mod m l _ _ ?_
    rw [Nat.mod_mod, Nat.mul_mod, h, ← Nat.mul_mod]
theorem pm_mod (m : Nat) (l : List Nat) (hm : 2 ≤ m) : pmN m l = prodN l % m := by
  have h : pmN m l % m = prodN l % m := foldl_mod m l 1 1 rfl
  rw [← h]
  exact (Nat.mod_eq_of_lt (pmN_lt m l hm)).symm
theorem sb_mod (m : Nat) (rs ps : List Nat) (hm : 2 ≤ m) : ∀ k, k ≤ ps.length → sbS m ps (yL rs ps) k % m = sumN rs ps k % m
  | 0, _ => rfl
  | k + 1, h => by
    rw [sbS, sumN, yL_get _ _ _ (by omega), pm_mod _ _ hm, Nat.add_mod, sb_mod m rs ps hm k (by omega), Nat.mul_mod, Nat.mod_mod, ← Nat.mul_mod, ← Nat.add_mod, Nat.mul_comm]
theorem plusS_eq (m : Nat) (rs ps : List Nat) (x : Nat) (hm : 2 ≤ m) : plusS m ps (yL rs ps) x = (x + sumN rs ps ps.length) % m := by
  unfold plusS
  rw [sb_mod m rs ps hm _ (Nat.le_refl _), Nat.add_mod, Nat.mod_mod, ← Nat.add_mod]
end Go.Proofs.YtfcdfielbpdloaaGreatDoor
/- Proved: contracts of the model's FastConvert; the statement on it at every three lists. -/
namespace Go.Proofs.YtfcdfielbpdloaaGreatDoor
open Go.ChangeShapes Go.WideShapes Go.ChangeAt Go.RowKit
open M2
set_option linter.unusedVariables false
set_option linter.unusedSimpArgs false
theorem bas_in {ps : List Nat} (hb : Bas ps) : ∀ x ∈ toZ ps, -9223372036854775808 ≤ x ∧ x ≤ 9223372036854775807 := fun x hx => by
  obtain ⟨n, hn, rfl⟩ := List.mem_map.1 hx
  have := hb.hi n hn
  omega
set_option maxRecDepth 100000 in
set_option maxHeartbeats 2000000 in
theorem spec_FastConvert_no (rs xs ts : List Int) (v u q : Value) (w : World) (hv : Row w v rs) (hu : Row w u xs) (hf : Fit u) (hq : Row w q ts) (hfq : Fit q) (hl : xs.length ≤ 9223372036854775807) (hlr : rs.length ≤ 9223372036854775807) (hlq : ts.length ≤ 9223372036854775807) (hx : ∀ x ∈ xs, -9223372036854775808 ≤ x ∧ x ≤ 9223372036854775807) (ht : ∀ x ∈ ts, -9223372036854775808 ≤ x ∧ x ≤ 9223372036854775807) (h : ((basB xs && basB ts) && rsB rs xs) = false) :
    Calls Tryz.prog 18 #[v, u, q] w (Ls w [] false) := by
  have c1 := l4Good_any rs xs v u w hv hu hf hl hlr hx
  have c2 := fun W h3 => spec_goodBasis ts q W h3 hfq hlq ht
  have HQ : Hid (Row w q ts) := hq
  obtain ⟨va, vc, rfl⟩ := hv.slice
  obtain ⟨ua, uc, rfl⟩ := hu.slice
  obtain ⟨qa, qc, rfl⟩ := hq.slice
  cases hg : (basB xs && rsB rs xs)
  · rw [hg] at c1
    clear hv hu hq hf hfq h hx ht c2 hg
    go_enter Tryz.func18, Tryz.ntmps18
    go_wp2_with fail
    refine c1.mono ?_
    rintro e w1 ⟨rfl, g1⟩
    have HG1 : Hid (Old w w1) := g1
    clear g1
    go_wp2_with fail
    go_ret2
    exact ⟨_, rfl, HG1.out, own_none _ _⟩
  · rw [hg] at c1
    have hb : basB ts = false := by
      cases h1 : basB xs <;> cases h2 : rsB rs xs <;> cases h3 : basB ts <;> simp_all
    rw [hb] at c2
    clear hv hu hq hf hfq h hx ht hg hb
    go_enter Tryz.func18, Tryz.ntmps18
    go_wp2_with fail
    refine c1.mono ?_
    rintro e w1 ⟨rfl, g1⟩
    have HG1 : Hid (Old w w1) := g1
    clear g1
    go_wp2_with fail
    refine (c2 _ (HQ.out.old HG1.out)).mono ?_
    rintro e w2 ⟨rfl, g2⟩
    have HG2 : Hid (Old w w2) := Old.trans HG1.out g2
    clear g2
    go_wp2_with fail
    go_ret2
    exact ⟨_, rfl, HG2.out, own_none _ _⟩
theorem fc_eq (rs ps ts : List Nat) (hB : Bas ts) : resL false (toI (dig (sumN rs ps ps.length))) ts = toZ (fcL ps (yL rs ps) ts) := by
  unfold resL fcL
  unfold toZ
  rw [nat_toI6, List.map_map]
  refine List.map_congr_left (fun m hm => ?_)
  show sv false (dig (sumN rs ps ps.length)) % (m : Int) = ((plusS m ps (yL rs ps) 0 : Nat) : Int)
  rw [plusS_eq m rs ps 0 (hB.lo m hm), Nat.zero_add]
  simp [sv, val_dig]
theorem sum_good {rs ps : List Nat} (hR : Res rs ps) : Good false (toI (dig (sumN rs ps ps.length))) := gw_good6 (dig_nrm _) (fun h => by cases h) (Nat.le_trans (sumN_cnt hR.bas _ (Nat.le_refl _)) (by omega))
set_option maxRecDepth 100000 in
set_option maxHeartbeats 2000000 in
theorem spec_FastConvert_yes (rs ps ts : List Nat) (v u q : Value) (w : World) (hv : Row w v (toZ rs)) (hu : Row w u (toZ ps)) (hf : Fit u) (hq : Row w q (toZ ts)) (hfq : Fit q) (hR : Res rs ps) (hB : Bas ts) (h1 : basB (toZ ps) = true) (h2 : basB (toZ ts) = true) (h3 : rsB (toZ rs) (toZ ps) = true) :
    Calls Tryz.prog 18 #[v, u, q] w (Ls w (toZ (fcL ps (yL rs ps) ts)) true) := by
  have hl6 := hR.bas.len6
  have hln := hR.len
  have ht6 := hB.len6
  have c1 := l4Good_any (toZ rs) (toZ ps) v u w hv hu hf (by rw [toZ_len]; omega) (by rw [toZ_len]; omega) (bas_in hR.bas)
  have c2 := fun W h3 => spec_goodBasis (toZ ts) q W h3 hfq (by rw [toZ_len]; omega) (bas_in hB)
  rw [h1, h3] at c1
  rw [h2] at c2
  have c3 := fun W h4 h5 => spec_sum rs ps v u W h4 h5 hR
  have c4 := fun d W h4 h5 => spec_residues false (toI (dig (sumN rs ps ps.length))) ts d q W h4 h5 (sum_good hR) hB
  rw [fc_eq rs ps ts hB] at c4
  have HV : Hid (Row w v (toZ rs)) := hv
  have HU : Hid (Row w u (toZ ps)) := hu
  have HQ : Hid (Row w q (toZ ts)) := hq
  obtain ⟨va, vc, rfl⟩ : ∃ a c, v = .slice a rs.length c := by have := hv.slice; rwa [toZ_len] at this
  obtain ⟨ua, uc, rfl⟩ : ∃ a c, u = .slice a ps.length c := by have := hu.slice; rwa [toZ_len] at this
  obtain ⟨qa, qc, rfl⟩ : ∃ a c, q = .slice a ts.length c := by have := hq.slice; rwa [toZ_len] at this
  generalize toZ (fcL ps (yL rs ps) ts) = zs at *
  generalize toI (dig (sumN rs ps ps.length)) = ds at *
  clear hv hu hq hf hfq h1 h2 h3 hR hB hln
  go_enter Tryz.func18, Tryz.ntmps18
  go_wp2_with fail
  refine c1.mono ?_
  rintro e w1 ⟨rfl, g1⟩
  have HG1 : Hid (Old w w1) := g1
  clear g1
  go_wp2_with fail
  refine (c2 _ (HQ.out.old HG1.out)).mono ?_
  rintro e w2 ⟨rfl, g2⟩
  have HG2 : Hid (Old w w2) := Old.trans HG1.out g2
  clear g2
  go_wp2_with fail
  refine (c3 _ (HV.out.old HG2.out) (HU.out.old HG2.out)).mono ?_
  rintro e w3 ⟨v3, rfl, g3, o3⟩
  have HG3 : Hid (Old w w3) := Old.trans HG2.out g3
  have HR3 : Hid (Row w3 v3 ds) := o3
  obtain ⟨a3, cap3, rfl⟩ := o3.slice
  clear g3 o3
  go_wp2_with fail
  refine (c4 _ _ HR3.out (HQ.out.old HG3.out)).mono ?_
  rintro e w4 ⟨v4, rfl, g4, o4⟩
  have HG4 : Hid (Old w w4) := Old.trans HG3.out g4
  have HO4 : Hid (Own w4 w.heap.size v4 zs) := o4.low HG3.out.size
  obtain ⟨a4, cap4, rfl⟩ := (Own.row o4).slice
  clear g4 o4
  go_wp2_with fail
  go_ret2
  exact ⟨_, rfl, HG4.out, HO4.out⟩
end Go.Proofs.YtfcdfielbpdloaaGreatDoor
