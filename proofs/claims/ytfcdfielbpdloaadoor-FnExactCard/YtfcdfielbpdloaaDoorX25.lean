/- Proved: several texts in one: what each proves is said ahead of it. -/
import Derived.Test.YtfcdfielbpdloaaDoorX21
import Derived.Test.YtfcdfielbpdloaaDoorX13
import Derived.Test.YtfcdfielbpdloaaDoorX26
import Derived.Test.YtfcdfielbpdloaaDoorX03
/- Proved: the contract of the program's conversionOf. -/
namespace Go.Proofs.YtfcdfielbpdloaaDoor
open Go.ChangeShapes Go.WideShapes Go.ChangeAt Go.RowKit
open M2
set_option linter.unusedVariables false
set_option linter.unusedSimpArgs false
abbrev S4 (w : World) (k : Nat) (a b c d : Value) (t : TypeId) : Prop := w.heap[k]? = some (.cells #[a, b, c, d] t (0, 0))
theorem S4.c0 {w : World} {k : Nat} {a b c d : Value} {t : TypeId} (h : S4 w k a b c d t) : w.cell? ⟨k, 0, none⟩ = some a := cell_of_row w k 0 _ t (0, 0) h
theorem S4.c1 {w : World} {k : Nat} {a b c d : Value} {t : TypeId} (h : S4 w k a b c d t) : w.cell? ⟨k, 1, none⟩ = some b := cell_of_row w k 1 _ t (0, 0) h
theorem S4.c2 {w : World} {k : Nat} {a b c d : Value} {t : TypeId} (h : S4 w k a b c d t) : w.cell? ⟨k, 2, none⟩ = some c := cell_of_row w k 2 _ t (0, 0) h
theorem S4.c3 {w : World} {k : Nat} {a b c d : Value} {t : TypeId} (h : S4 w k a b c d t) : w.cell? ⟨k, 3, none⟩ = some d := cell_of_row w k 3 _ t (0, 0) h
theorem S4.f {w : World} {k : Nat} {a b c d : Value} {t : TypeId} (h : S4 w k a b c d t) (j : Nat) : w.frozen? ⟨k, j, none⟩ = false := frozen_of_row w k j _ t h
theorem S4.lt {w : World} {k : Nat} {a b c d : Value} {t : TypeId} (h : S4 w k a b c d t) : k < w.heap.size := (Array.getElem?_eq_some_iff.1 h).1
theorem S4.old {w w' : World} {k : Nat} {a b c d : Value} {t : TypeId} (h : S4 w k a b c d t) (g : Old w w') : S4 w' k a b c d t := (g.block k h.lt).trans h
theorem S4.new (w : World) (a b c d : Value) (t : TypeId) : S4 (w.alloc (.cells #[a, b, c, d] t)) w.heap.size a b c d t := heap_alloc_new w _
theorem S4.set {w : World} {k : Nat} {a b c d : Value} {t : TypeId} (h : S4 w k a b c d t) (a' b' c' d' : Value) : S4 ((((w.setCell ⟨k, 0, none⟩ a').setCell ⟨k, 1, none⟩ b').setCell ⟨k, 2, none⟩ c').setCell ⟨k, 3, none⟩ d') k a' b' c' d' t := by
  have h1 := heap_setCell_same w k 0 _ _ a' h
  have h2 := heap_setCell_same _ k 1 _ _ b' h1
  have h3 := heap_setCell_same _ k 2 _ _ c' h2
  have h4 := heap_setCell_same _ k 3 _ _ d' h3
  exact h4
theorem Old.set4 {a w : World} {k : Nat} (h : Old a w) (hk : a.heap.size ≤ k) (x y z u : Value) : Old a ((((w.setCell ⟨k, 0, none⟩ x).setCell ⟨k, 1, none⟩ y).setCell ⟨k, 2, none⟩ z).setCell ⟨k, 3, none⟩ u) :=
  (((h.own (p := ⟨k, 0, none⟩) hk _).own (p := ⟨k, 1, none⟩) hk _).own (p := ⟨k, 2, none⟩) hk _).own (p := ⟨k, 3, none⟩) hk _
theorem infoCv : (Tryd.prog.info? 63).map (·.size) = some 4 := by kernel_rfl
theorem ret_cv {fn : Func} {p : Tmp} (h : fn.results = #[.cell p 63]) (tmps : Array Value) (w : World) {g : Nat} {a b c d : Value} (hp : tmps.getD p undef = .pointer (some ⟨g, 0, none⟩)) (hs : S4 w g a b c d 63) :
    (results fn tmps).run Tryd.prog w = .ok (.agg #[a, b, c, d]) w :=
  results_cell_row h tmps w g 63 #[a, b, c, d] (0, 0) _ hp hs Tryd.underlying63 rfl infoCv
theorem Row.otherCell {w : World} {v : Value} {xs : List Int} (h : Row w v xs) {k j : Nat} (hk : ∀ a n c, v = .slice (some a) n c → a.block ≠ k) (x : Value) : Row (w.setCell ⟨k, j, none⟩ x) v xs := by
  rcases h with h1 | ⟨b, o, cap, e, hb, h0, hc⟩
  · exact Or.inl h1
  · exact Or.inr ⟨b, o, cap, e, (by simpa using hb), h0, fun i hi => (cellS w k j x (hk _ _ _ e)).trans (hc i hi)⟩
theorem yL_cv {rs ps : List Nat} (hb : Bas ps) : ∀ i, i < ps.length → (yL rs ps).getD i 0 ≤ 268435456 := fun i hi => by
  rw [yL_get _ _ _ hi]
  have := yN_lt (rs := rs) hb hi
  omega
set_option maxRecDepth 100000 in
set_option maxHeartbeats 2000000 in
theorem conv_any (rs ps : List Nat) (v u : Value) (w : World) (hv : Row w v (toZ rs)) (hu : Row w u (toZ ps)) (hf : Fit u) (hb : Bas ps) (hrl : rs.length = ps.length) (hr : ∀ i, i < ps.length → rs.getD i 0 < ps.getD i 0) :
    Calls Tryd.prog 31 #[v, u] w fun e w' => ∃ g, e = .returned (.agg #[u, .slice (some ⟨g, 0, none⟩) ps.length ps.length, .int .i64 0, .int .i64 0]) ∧ Old w w' ∧ Cv w' ps (yL rs ps) u (.slice (some ⟨g, 0, none⟩) ps.length ps.length) := by
  have csh := fun W h1 h2 => shares_any rs ps v u W h1 h2 hf hb hrl hr
  have HV : Hid (Row w v (toZ rs)) := hv
  have HU : Hid (Row w u (toZ ps)) := hu
  have HF : Hid (Fit u) := hf
  have HBs : Hid (Bas ps) := hb
  obtain ⟨va, vc, rfl⟩ : ∃ a c, v = .slice a rs.length c := by have := hv.slice; rwa [toZ_len] at this
  obtain ⟨b2, o2, cap2, rfl, hb2, hc2⟩ := hu.atZ (by have := hb.len1; omega)
  have HA : Hid (Old w (w.alloc (.cells #[.slice none 0 0, .slice none 0 0, .int .i64 0, .int .i64 0] 63))) := (Old.refl w).alloc _
  have HS : Hid (S4 (w.alloc (.cells #[.slice none 0 0, .slice none 0 0, .int .i64 0, .int .i64 0] 63)) w.heap.size (.slice none 0 0) (.slice none 0 0) (.int .i64 0) (.int .i64 0) 63) := S4.new w _ _ _ _ _
  clear hv hu hf hb hr hrl hc2
  go_enter Tryd.func31, Tryd.ntmps31
  go_wp2_with fail
  refine (csh _ (HV.out.old HA.out) (HU.out.old HA.out)).mono ?_
  rintro e w1 ⟨g, rfl, g1, o1⟩
  have S1 := HS.out.old g1
  have HS1 : Hid (S4 w1 w.heap.size (.slice none 0 0) (.slice none 0 0) (.int .i64 0) (.int .i64 0) 63) := S1
  have HG1 : Hid (Old w w1) := Old.trans HA.out g1
  have HO1 : Hid (Own w1 (w.alloc (.cells #[.slice none 0 0, .slice none 0 0, .int .i64 0, .int .i64 0] 63)).heap.size (.slice (some ⟨g, 0, none⟩) ps.length ps.length) (toZ (yL rs ps))) := o1
  have q0 := S1.c0
  have q1 := S1.c1
  have q2 := S1.c2
  have q3 := S1.c3
  have f0 := S1.f 0
  have f1 := S1.f 1
  have f2 := S1.f 2
  have f3 := S1.f 3
  clear g1 o1 S1
  go_wp2_with fail
  have hg : w.heap.size < g := by
    have := (World.ownsRow.lt HO1.out g rfl).1
    simp at this
    omega
  have rf := (HU.out.old HG1.out)
  have rs' := (Own.row HO1.out)
  have nf : ∀ (a : Addr) (n c : Nat), Value.slice (some ⟨b2, o2, none⟩) ps.length cap2 = .slice (some a) n c → a.block ≠ w.heap.size := fun a n c e => by
    simp only [Value.slice.injEq, Option.some.injEq] at e
    obtain ⟨rfl, _⟩ := e
    show b2 ≠ _
    omega
  have ns : ∀ (a : Addr) (n c : Nat), Value.slice (some ⟨g, 0, none⟩) ps.length ps.length = .slice (some a) n c → a.block ≠ w.heap.size := fun a n c e => by
    simp only [Value.slice.injEq, Option.some.injEq] at e
    obtain ⟨rfl, _⟩ := e
    show g ≠ _
    omega
  exact bodyPost_ret (ret_cv Tryd.results31 _ _ rfl (HS1.out.set _ _ _ _)) rfl ⟨g, rfl, HG1.out.set4 (Nat.le_refl _) _ _ _ _, ⟨(((rf.otherCell nf _).otherCell nf _).otherCell nf _).otherCell nf _, HF.out, (((rs'.otherCell ns _).otherCell ns _).otherCell ns _).otherCell ns _, yL_len _ _, HBs.out.len1, HBs.out.len6, HBs.out.hi, yL_cv HBs.out⟩⟩
end Go.Proofs.YtfcdfielbpdloaaDoor
/- Proved: the contract of the program's eachBy, by each of the two ways that are handed to it. -/
namespace Go.Proofs.YtfcdfielbpdloaaDoor
open Go.ChangeShapes Go.WideShapes Go.ChangeAt Go.RowKit
open M2
set_option linter.unusedVariables false
set_option linter.unusedSimpArgs false
set_option maxRecDepth 100000 in
set_option maxHeartbeats 2000000 in
theorem eachT_any (first : Array Value) (ss ts zs : List Int) (vs vt : Value) (w : World) (hs : Row w vs ss) (ht : Row w vt ts) (h1 : 1 ≤ ts.length) (h6 : ts.length ≤ 6) (hls : ss.length = ts.length) (hlz : zs.length = ts.length)
    (hm : ∀ k, k < ts.length → ∀ W, Old w W → Calls Tryd.prog 36 #[.agg first, .int .i64 (ss.getD k 0), .int .i64 (ts.getD k 0)] W fun e w' => e = .returned (.int .i64 (zs.getD k 0)) ∧ Old W w') :
    Calls Tryd.prog 37 #[.func (.func 36) #[.agg first] #[], vs, vt] w fun e w' => ∃ g, e = .returned (.slice (some ⟨g, 0, none⟩) ts.length ts.length) ∧ Old w w' ∧ Own w' w.heap.size (.slice (some ⟨g, 0, none⟩) ts.length ts.length) zs := by
  obtain ⟨i0, hi, hz0, hz1, hz2⟩ := info_parts Tryd.infoInt
  have HM : Hid (∀ k, k < ts.length → ∀ W, Old w W → Calls Tryd.prog 36 #[.agg first, .int .i64 (ss.getD k 0), .int .i64 (ts.getD k 0)] W fun e w' => e = .returned (.int .i64 (zs.getD k 0)) ∧ Old W w') := hm
  obtain ⟨b1, o1, cap1, rfl, hb1, hc1⟩ := hs.cells (by omega)
  obtain ⟨b2, o2, cap2, rfl, hb2, hc2⟩ := ht.cells (by omega)
  rw [hls] at hc1 ⊢
  have HC1 : Hid (∀ j, j < ts.length → w.cell? ⟨b1, o1 + j, none⟩ = some (.int .i64 (ss.getD j 0))) := hc1
  have HC2 : Hid (∀ j, j < ts.length → w.cell? ⟨b2, o2 + j, none⟩ = some (.int .i64 (ts.getD j 0))) := hc2
  clear hs ht hc1 hc2 hm hls
  go_enter Tryd.func37, Tryd.ntmps37
  go_wp2_with (at_make; refine wpList_make_full _ rfl _ _ 23 rfl w.heap.size 3 i0 (.int .i64 0) 1 Tryd.underlying23 hi hz0 hz1 .i64 .i64 _ _ ts.length rfl rfl rfl rfl (by rw [hz2]; omega) (by unfold maxLen; omega) (Nat.le_refl _) ?_; intro w3 hown hgrow)
  have HO : Hid (OwnI w3 w.heap.size w.heap.size ts.length (List.replicate ts.length 0)) := by
    rw [made_ints] at hown
    exact hown
  have HG3 : Hid (Old w w3) := Old.by_ (Old.refl _) hgrow (fun b hb => by cases hb)
  clear hown hgrow
  go_loopw [15] (fun i W => ∃ k : Nat, k ≤ ts.length ∧ i = .int .i64 k ∧ Hid (OwnI W w.heap.size w.heap.size ts.length (fillN zs k)) ∧ Hid (Old w W)) (fun i _ => ts.length - (intOf i).toNat)
  case atStart => exact ⟨0, by omega, rfl, (by show OwnI _ _ _ _ _; rw [fillN_zero, hlz]; exact HO.out), HG3⟩
  case round =>
    obtain ⟨k, hk, rfl, HO1, HG⟩ := hrel
    clear HO HG3
    by_cases hlt : k < ts.length
    · have d1 : decide ((k : Int) < (ts.length : Int)) = true := by simp; omega
      have i1 : (k : Int) < (ts.length : Int) := by omega
      have c1 : wr.cell? ⟨b1, o1 + k, none⟩ = some (.int .i64 (ss.getD k 0)) := (HG.out.cell (p := ⟨b1, o1 + k, none⟩) hb1).trans (HC1.out k hlt)
      have c2 : wr.cell? ⟨b2, o2 + k, none⟩ = some (.int .i64 (ts.getD k 0)) := (HG.out.cell (p := ⟨b2, o2 + k, none⟩) hb2).trans (HC2.out k hlt)
      have cm := HM.out k hlt
      have HPU : Hid (∀ W, OwnI W w.heap.size w.heap.size ts.length (fillN zs k) → OwnI (W.setCell ⟨w.heap.size, k, none⟩ (.int .i64 (zs.getD k 0))) w.heap.size w.heap.size ts.length (fillN zs (k + 1))) := fun W h => by
        have := h.put k (zs.getD k 0)
        rw [fillN_set zs k (by omega)] at this
        exact this
      generalize zs.getD k 0 = y at *
      generalize ss.getD k 0 = x at *
      generalize ts.getD k 0 = m at *
      go_wp2_with fail
      refine (cm _ HG.out).mono ?_
      rintro e w4 ⟨rfl, g4⟩
      have HO4 : Hid (OwnI w4 w.heap.size w.heap.size ts.length (fillN zs k)) := HO1.out.old g4
      have HG6 : Hid (Old w w4) := Old.trans HG.out g4
      have c3 := HO4.out.get (fillN_len zs k (by omega) |>.trans hlz) k hlt
      have c4 := HO4.out.free k
      generalize (fillN zs k).getD k 0 = oldv at *
      clear g4
      go_wp2_with fail
      exact ⟨⟨k + 1, by omega, by go_num, HPU.out _ HO4.out, HG6.out.own (Nat.le_refl _) _⟩, by simp [intOf]; omega⟩
    · have d1 : decide ((k : Int) < (ts.length : Int)) = false := by simp; omega
      obtain rfl : k = ts.length := by omega
      have HF : Hid (Own wr w.heap.size (.slice (some ⟨w.heap.size, 0, none⟩) ts.length ts.length) zs) := by
        have := HO1.out.own ((fillN_len zs ts.length (by omega)).trans hlz)
        rw [show fillN zs ts.length = zs by rw [← hlz]; exact fillN_all zs] at this
        exact this
      go_wp2_with fail
      go_ret
      exact ⟨_, rfl, HG.out, HF.out⟩
end Go.Proofs.YtfcdfielbpdloaaDoor
/- Proved: the contract of the program's take, of the three rows of steps that there are. -/
namespace Go.Proofs.YtfcdfielbpdloaaDoor
open Go.ChangeShapes Go.WideShapes Go.ChangeAt Go.RowKit
open M2
set_option linter.unusedVariables false
set_option linter.unusedSimpArgs false
def StL (W : World) (gs : Nat) : Prop := gs < W.heap.size ∧ W.cell? ⟨gs, 0, none⟩ = some (.func (.func 32) #[] #[]) ∧ W.cell? ⟨gs, 1, none⟩ = some (.func (.func 34) #[] #[])
theorem StL.old {W W' : World} {gs : Nat} (h : StL W gs) (g : Old W W') : StL W' gs :=
  ⟨Nat.lt_of_lt_of_le h.1 g.size, (g.cell (p := ⟨gs, 0, none⟩) h.1).trans h.2.1, (g.cell (p := ⟨gs, 1, none⟩) h.1).trans h.2.2⟩
set_option maxRecDepth 100000 in
set_option maxHeartbeats 4000000 in
theorem takeL_any (m gs : Nat) (x0 x1 x2 : Nat) (vf vs : Value) (fa sa : Option Addr) (fn fc sn sc : Nat) (ef : vf = .slice fa fn fc) (es : vs = .slice sa sn sc) (o d : Int) (w : World) (hg : StL w gs)
    (h0 : ∀ W, Old w W → Calls Tryd.prog 32 #[.agg #[vf, vs, .int .i64 o, .int .i64 d], .int .i64 x0, .int .i64 m] W fun e w' => e = .returned (.int .i64 x1) ∧ Old W w')
    (h1 : ∀ W, Old w W → Calls Tryd.prog 34 #[.agg #[vf, vs, .int .i64 o, .int .i64 d], .int .i64 x1, .int .i64 m] W fun e w' => e = .returned (.int .i64 x2) ∧ Old W w') :
    Calls Tryd.prog 36 #[.agg #[(.slice fa fn fc), (.slice sa sn sc), .int .i64 o, .int .i64 d, .slice (some ⟨gs, 0, none⟩) 2 2], .int .i64 x0, .int .i64 m] w fun e w' => e = .returned (.int .i64 x2) ∧ Old w w' := by
  subst ef es
  obtain ⟨hgl, g0, g1⟩ := hg
  have C0 : Hid (∀ W, Old w W → Calls Tryd.prog 32 #[.agg #[.slice fa fn fc, .slice sa sn sc, .int .i64 o, .int .i64 d], .int .i64 x0, .int .i64 m] W fun e w' => e = .returned (.int .i64 x1) ∧ Old W w') := h0
  have G0 : Hid (w.cell? ⟨gs, 0, none⟩ = some (.func (.func 32) #[] #[])) := g0
  have C1 : Hid (∀ W, Old w W → Calls Tryd.prog 34 #[.agg #[.slice fa fn fc, .slice sa sn sc, .int .i64 o, .int .i64 d], .int .i64 x1, .int .i64 m] W fun e w' => e = .returned (.int .i64 x2) ∧ Old W w') := h1
  have G1 : Hid (w.cell? ⟨gs, 1, none⟩ = some (.func (.func 34) #[] #[])) := g1
  have HA : Hid (Old w (w.alloc (.cells #[.slice fa fn fc, .slice sa sn sc, .int .i64 o, .int .i64 d, .slice (some ⟨gs, 0, none⟩) 2 2] 70))) := (Old.refl w).alloc _
  have HB : Hid (∀ W, Old (w.alloc (.cells #[.slice fa fn fc, .slice sa sn sc, .int .i64 o, .int .i64 d, .slice (some ⟨gs, 0, none⟩) 2 2] 70)) W → W.cell? ⟨w.heap.size, 0, none⟩ = some (.slice fa fn fc) ∧ W.cell? ⟨w.heap.size, 1, none⟩ = some (.slice sa sn sc) ∧ W.cell? ⟨w.heap.size, 2, none⟩ = some (.int .i64 o) ∧ W.cell? ⟨w.heap.size, 3, none⟩ = some (.int .i64 d) ∧ W.cell? ⟨w.heap.size, 4, none⟩ = some (.slice (some ⟨gs, 0, none⟩) 2 2)) := fun W q =>
    ⟨(q.cell (p := ⟨w.heap.size, 0, none⟩) (by simp)).trans (cell_at _ _ _ _ _ rfl), (q.cell (p := ⟨w.heap.size, 1, none⟩) (by simp)).trans (cell_at _ _ _ _ _ rfl), (q.cell (p := ⟨w.heap.size, 2, none⟩) (by simp)).trans (cell_at _ _ _ _ _ rfl), (q.cell (p := ⟨w.heap.size, 3, none⟩) (by simp)).trans (cell_at _ _ _ _ _ rfl), (q.cell (p := ⟨w.heap.size, 4, none⟩) (by simp)).trans (cell_at _ _ _ _ _ rfl)⟩
  clear h0 g0 h1 g1
  go_enter Tryd.func36, Tryd.ntmps36
  go_wp2_with fail
  generalize (w.alloc (.cells #[.slice fa fn fc, .slice sa sn sc, .int .i64 o, .int .i64 d, .slice (some ⟨gs, 0, none⟩) 2 2] 70)) = w0 at *
  go_loopw [1, 12] (fun x i W => ∃ k : Nat, k ≤ 2 ∧ i = .int .i64 k ∧ (k = 0 → x = .int .i64 x0) ∧ (k = 1 → x = .int .i64 x1) ∧ (k = 2 → x = .int .i64 x2) ∧ Hid (Old w0 W)) (fun _ i _ => 2 - (intOf i).toNat)
  case atStart => exact ⟨0, by omega, rfl, fun _ => rfl, fun h => by omega, fun h => by omega, Old.refl _⟩
  case round =>
    obtain ⟨k, hk, rfl, e0, e1, e2, HG⟩ := hrel
    have HG1 : Hid (Old w wr) := Old.trans HA.out HG.out
    obtain ⟨z0, z1, z2, z3, z4⟩ := HB.out wr HG.out
    rcases (show k = 0 ∨ k = 1 ∨ k = 2 by omega) with rfl | rfl | rfl
    · have ex := e0 rfl
      subst ex
      have c1 : wr.cell? ⟨gs, 0, none⟩ = some (.func (.func 32) #[] #[]) := (HG1.out.cell (p := ⟨gs, 0, none⟩) hgl).trans G0.out
      clear e0 e1 e2
      go_wp2_with fail
      refine (C0.out _ HG1.out).mono ?_
      rintro e w1 ⟨rfl, g1⟩
      have HG2 : Hid (Old w0 w1) := Old.trans HG.out g1
      clear g1
      go_wp2_with fail
      exact ⟨⟨1, by omega, rfl, fun h => by omega, fun _ => rfl, fun h => by omega, HG2⟩, by simp [intOf]⟩
    · have ex := e1 rfl
      subst ex
      have c1 : wr.cell? ⟨gs, 1, none⟩ = some (.func (.func 34) #[] #[]) := (HG1.out.cell (p := ⟨gs, 1, none⟩) hgl).trans G1.out
      clear e0 e1 e2
      go_wp2_with fail
      refine (C1.out _ HG1.out).mono ?_
      rintro e w1 ⟨rfl, g1⟩
      have HG2 : Hid (Old w0 w1) := Old.trans HG.out g1
      clear g1
      go_wp2_with fail
      exact ⟨⟨2, by omega, rfl, fun h => by omega, fun h => by omega, fun _ => rfl, HG2⟩, by simp [intOf]⟩
    · have ex := e2 rfl
      subst ex
      clear e0 e1 e2
      go_wp2_with fail
      go_ret
      exact ⟨rfl, HG1.out⟩
def StP (W : World) (gs : Nat) : Prop := gs < W.heap.size ∧ W.cell? ⟨gs, 0, none⟩ = some (.func (.func 32) #[] #[]) ∧ W.cell? ⟨gs, 1, none⟩ = some (.func (.func 33) #[] #[])
theorem StP.old {W W' : World} {gs : Nat} (h : StP W gs) (g : Old W W') : StP W' gs :=
  ⟨Nat.lt_of_lt_of_le h.1 g.size, (g.cell (p := ⟨gs, 0, none⟩) h.1).trans h.2.1, (g.cell (p := ⟨gs, 1, none⟩) h.1).trans h.2.2⟩
set_option maxRecDepth 100000 in
set_option maxHeartbeats 4000000 in
theorem takeP_any (m gs : Nat) (x0 x1 x2 : Nat) (vf vs : Value) (fa sa : Option Addr) (fn fc sn sc : Nat) (ef : vf = .slice fa fn fc) (es : vs = .slice sa sn sc) (o d : Int) (w : World) (hg : StP w gs)
    (h0 : ∀ W, Old w W → Calls Tryd.prog 32 #[.agg #[vf, vs, .int .i64 o, .int .i64 d], .int .i64 x0, .int .i64 m] W fun e w' => e = .returned (.int .i64 x1) ∧ Old W w')
    (h1 : ∀ W, Old w W → Calls Tryd.prog 33 #[.agg #[vf, vs, .int .i64 o, .int .i64 d], .int .i64 x1, .int .i64 m] W fun e w' => e = .returned (.int .i64 x2) ∧ Old W w') :
    Calls Tryd.prog 36 #[.agg #[(.slice fa fn fc), (.slice sa sn sc), .int .i64 o, .int .i64 d, .slice (some ⟨gs, 0, none⟩) 2 2], .int .i64 x0, .int .i64 m] w fun e w' => e = .returned (.int .i64 x2) ∧ Old w w' := by
  subst ef es
  obtain ⟨hgl, g0, g1⟩ := hg
  have C0 : Hid (∀ W, Old w W → Calls Tryd.prog 32 #[.agg #[.slice fa fn fc, .slice sa sn sc, .int .i64 o, .int .i64 d], .int .i64 x0, .int .i64 m] W fun e w' => e = .returned (.int .i64 x1) ∧ Old W w') := h0
  have G0 : Hid (w.cell? ⟨gs, 0, none⟩ = some (.func (.func 32) #[] #[])) := g0
  have C1 : Hid (∀ W, Old w W → Calls Tryd.prog 33 #[.agg #[.slice fa fn fc, .slice sa sn sc, .int .i64 o, .int .i64 d], .int .i64 x1, .int .i64 m] W fun e w' => e = .returned (.int .i64 x2) ∧ Old W w') := h1
  have G1 : Hid (w.cell? ⟨gs, 1, none⟩ = some (.func (.func 33) #[] #[])) := g1
  have HA : Hid (Old w (w.alloc (.cells #[.slice fa fn fc, .slice sa sn sc, .int .i64 o, .int .i64 d, .slice (some ⟨gs, 0, none⟩) 2 2] 70))) := (Old.refl w).alloc _
  have HB : Hid (∀ W, Old (w.alloc (.cells #[.slice fa fn fc, .slice sa sn sc, .int .i64 o, .int .i64 d, .slice (some ⟨gs, 0, none⟩) 2 2] 70)) W → W.cell? ⟨w.heap.size, 0, none⟩ = some (.slice fa fn fc) ∧ W.cell? ⟨w.heap.size, 1, none⟩ = some (.slice sa sn sc) ∧ W.cell? ⟨w.heap.size, 2, none⟩ = some (.int .i64 o) ∧ W.cell? ⟨w.heap.size, 3, none⟩ = some (.int .i64 d) ∧ W.cell? ⟨w.heap.size, 4, none⟩ = some (.slice (some ⟨gs, 0, none⟩) 2 2)) := fun W q =>
    ⟨(q.cell (p := ⟨w.heap.size, 0, none⟩) (by simp)).trans (cell_at _ _ _ _ _ rfl), (q.cell (p := ⟨w.heap.size, 1, none⟩) (by simp)).trans (cell_at _ _ _ _ _ rfl), (q.cell (p := ⟨w.heap.size, 2, none⟩) (by simp)).trans (cell_at _ _ _ _ _ rfl), (q.cell (p := ⟨w.heap.size, 3, none⟩) (by simp)).trans (cell_at _ _ _ _ _ rfl), (q.cell (p := ⟨w.heap.size, 4, none⟩) (by simp)).trans (cell_at _ _ _ _ _ rfl)⟩
  clear h0 g0 h1 g1
  go_enter Tryd.func36, Tryd.ntmps36
  go_wp2_with fail
  generalize (w.alloc (.cells #[.slice fa fn fc, .slice sa sn sc, .int .i64 o, .int .i64 d, .slice (some ⟨gs, 0, none⟩) 2 2] 70)) = w0 at *
  go_loopw [1, 12] (fun x i W => ∃ k : Nat, k ≤ 2 ∧ i = .int .i64 k ∧ (k = 0 → x = .int .i64 x0) ∧ (k = 1 → x = .int .i64 x1) ∧ (k = 2 → x = .int .i64 x2) ∧ Hid (Old w0 W)) (fun _ i _ => 2 - (intOf i).toNat)
  case atStart => exact ⟨0, by omega, rfl, fun _ => rfl, fun h => by omega, fun h => by omega, Old.refl _⟩
  case round =>
    obtain ⟨k, hk, rfl, e0, e1, e2, HG⟩ := hrel
    have HG1 : Hid (Old w wr) := Old.trans HA.out HG.out
    obtain ⟨z0, z1, z2, z3, z4⟩ := HB.out wr HG.out
    rcases (show k = 0 ∨ k = 1 ∨ k = 2 by omega) with rfl | rfl | rfl
    · have ex := e0 rfl
      subst ex
      have c1 : wr.cell? ⟨gs, 0, none⟩ = some (.func (.func 32) #[] #[]) := (HG1.out.cell (p := ⟨gs, 0, none⟩) hgl).trans G0.out
      clear e0 e1 e2
      go_wp2_with fail
      refine (C0.out _ HG1.out).mono ?_
      rintro e w1 ⟨rfl, g1⟩
      have HG2 : Hid (Old w0 w1) := Old.trans HG.out g1
      clear g1
      go_wp2_with fail
      exact ⟨⟨1, by omega, rfl, fun h => by omega, fun _ => rfl, fun h => by omega, HG2⟩, by simp [intOf]⟩
    · have ex := e1 rfl
      subst ex
      have c1 : wr.cell? ⟨gs, 1, none⟩ = some (.func (.func 33) #[] #[]) := (HG1.out.cell (p := ⟨gs, 1, none⟩) hgl).trans G1.out
      clear e0 e1 e2
      go_wp2_with fail
      refine (C1.out _ HG1.out).mono ?_
      rintro e w1 ⟨rfl, g1⟩
      have HG2 : Hid (Old w0 w1) := Old.trans HG.out g1
      clear g1
      go_wp2_with fail
      exact ⟨⟨2, by omega, rfl, fun h => by omega, fun h => by omega, fun _ => rfl, HG2⟩, by simp [intOf]⟩
    · have ex := e2 rfl
      subst ex
      clear e0 e1 e2
      go_wp2_with fail
      go_ret
      exact ⟨rfl, HG1.out⟩
end Go.Proofs.YtfcdfielbpdloaaDoor
/- Proved: contracts of the program's FastConvert. -/
namespace Go.Proofs.YtfcdfielbpdloaaDoor
open Go.ChangeShapes Go.WideShapes Go.ChangeAt Go.RowKit
open M2
set_option linter.unusedVariables false
set_option linter.unusedSimpArgs false
theorem make_row (n : Nat) (hn : n ≤ 1000) : ∃ MC, (∀ W : World, (Instr.makeSlice 23 (.int .i64 (n : Int)) (.int .i64 (n : Int))).run Tryd.prog W = .ok (.slice (some ⟨W.heap.size, 0, none⟩) n n) (W.alloc (.cells MC 3))) ∧ Hid (∀ W : World, Row (W.alloc (.cells MC 3)) (.slice (some ⟨W.heap.size, 0, none⟩) n n) (List.replicate n 0)) := by
  obtain ⟨i0, hi, hz0, hz1, hz2⟩ := info_parts Tryd.infoInt
  refine ⟨madeCells (Value.int .i64 0).cells (n * 1), fun W => ?_, fun W => ?_⟩
  · have := run_make (P := Tryd.prog) W 23 3 i0 (.int .i64 0) Tryd.underlying23 hi hz0 .i64 .i64 (n : Int) (n : Int) (by omega) (Int.le_refl _) (by rw [hz2]; omega) (by omega)
    rw [hz1] at this
    simpa using this
  · by_cases h0 : n = 0
    · subst h0
      exact Or.inl ⟨_, _, rfl, rfl⟩
    · have e : (madeCells (Value.int .i64 0).cells (n * 1)) = (((List.replicate n (0 : Int)).map (Value.int .i64))).toArray := by rw [← made_ints]
      refine Or.inr ⟨W.heap.size, 0, n, by simp, by simp, by simp; omega, fun j hj => ?_⟩
      have hj' : j < n := by simpa using hj
      rw [Nat.zero_add, e]
      rw [cell_at W _ _ _ j rfl]
      simp [List.getD, hj']
end Go.Proofs.YtfcdfielbpdloaaDoor
/- Proved: the program's SmallMont where it answers. -/
namespace Go.Proofs.YtfcdfielbpdloaaDoor
open Go.ChangeShapes Go.WideShapes Go.ChangeAt Go.RowKit
open M2
set_option linter.unusedVariables false
set_option linter.unusedSimpArgs false
abbrev S5 (w : World) (k : Nat) (a b c d e : Value) (t : TypeId) : Prop := w.heap[k]? = some (.cells #[a, b, c, d, e] t (0, 0))
theorem S5.lt {w : World} {k : Nat} {a b c d e : Value} {t : TypeId} (h : S5 w k a b c d e t) : k < w.heap.size := (Array.getElem?_eq_some_iff.1 h).1
theorem S5.old {w w' : World} {k : Nat} {a b c d e : Value} {t : TypeId} (h : S5 w k a b c d e t) (g : Old w w') : S5 w' k a b c d e t := (g.block k h.lt).trans h
theorem S5.cells {w : World} {k : Nat} {a b c d e : Value} {t : TypeId} (h : S5 w k a b c d e t) : w.cell? ⟨k, 0, none⟩ = some a ∧ w.cell? ⟨k, 1, none⟩ = some b ∧ w.cell? ⟨k, 2, none⟩ = some c ∧ w.cell? ⟨k, 3, none⟩ = some d ∧ w.cell? ⟨k, 4, none⟩ = some e :=
  ⟨cell_of_row w k 0 _ t (0, 0) h, cell_of_row w k 1 _ t (0, 0) h, cell_of_row w k 2 _ t (0, 0) h, cell_of_row w k 3 _ t (0, 0) h, cell_of_row w k 4 _ t (0, 0) h⟩
theorem S5.f {w : World} {k : Nat} {a b c d e : Value} {t : TypeId} (h : S5 w k a b c d e t) (j : Nat) : w.frozen? ⟨k, j, none⟩ = false := frozen_of_row w k j _ t h
theorem S5.set2 {w : World} {k : Nat} {a b c d e : Value} {t : TypeId} (h : S5 w k a b c d e t) (x : Value) : S5 (w.setCell ⟨k, 2, none⟩ x) k a b x d e t := heap_setCell_same w k 2 _ _ x h
end Go.Proofs.YtfcdfielbpdloaaDoor
/- Proved: the program's ExactConvert where it answers. -/
namespace Go.Proofs.YtfcdfielbpdloaaDoor
open Go.ChangeShapes Go.WideShapes Go.ChangeAt Go.RowKit
open M2
set_option linter.unusedVariables false
set_option linter.unusedSimpArgs false
theorem StP.one (w : World) (t : TypeId) : StP (w.alloc (.cells #[.func (.func 32) #[] #[], .func (.func 33) #[] #[]] t)) w.heap.size := ⟨by simp, cell_at _ _ _ _ _ rfl, cell_at _ _ _ _ _ rfl⟩
theorem StL.one (w : World) (t : TypeId) : StL (w.alloc (.cells #[.func (.func 32) #[] #[], .func (.func 34) #[] #[]] t)) w.heap.size := ⟨by simp, cell_at _ _ _ _ _ rfl, cell_at _ _ _ _ _ rfl⟩
def exO (E A : Nat) (ps ys : List Nat) : Int := cenB (overL E ps (plusS E ps ys (E - A))) E
def exL (E A : Nat) (ps ys ts : List Nat) : List Nat := ts.map (fun b => plusP b ps (exO E A ps ys) (plusS b ps ys 0))
theorem exL_len (E A : Nat) (ps ys ts : List Nat) : (exL E A ps ys ts).length = ts.length := by simp [exL]
theorem exO_in (E A : Nat) (ps ys : List Nat) (hM : 2 ≤ E ∧ E ≤ 268435456) : -268435456 ≤ exO E A ps ys ∧ exO E A ps ys ≤ 268435456 := by
  have := overL_lt E ps (plusS E ps ys (E - A)) hM.1
  unfold exO cenB
  split <;> omega
set_option maxRecDepth 100000 in
set_option maxHeartbeats 8000000 in
theorem impl_ExactConvert_yes (rs ps ts : List Nat) (E A : Nat) (v u q : Value) (w : World) (hP : PrsW w) (hT : TabW w) (hv : Row w v (toZ rs)) (hu : Row w u (toZ ps)) (hf : Fit u) (hq : Row w q (toZ ts)) (hfq : Fit q) (hR : Res rs ps) (hB : Bas ts) (hE : 2 ≤ E ∧ E ≤ 268435456) (hA : A < E) (h : ecB (toZ rs) (toZ ps) E A (toZ ts) = true) :
    Calls Tryd.prog 7 #[v, u, .int .i64 (E : Int), .int .i64 (A : Int), q] w (Ls w (toZ (exL E A ps (yL rs ps) ts)) true) := by
  have hl6 := hR.bas.len6
  have ht6 := hB.len6
  have ht1 := hB.len1
  have K1 : ∀ W, Old w W → Calls Tryd.prog 28 #[v, u, q] W fun e w' => e = .returned (.bool ((basB (toZ ps) && basB (toZ ts)) && rsB (toZ rs) (toZ ps))) ∧ Old W w' := fun W g => convertible_any (toZ rs) (toZ ps) (toZ ts) v u q W (hP.old g) (hT.old g) (hv.old g) (hu.old g) (hq.old g) hf hfq (by rw [toZ_len]; omega) (by rw [toZ_len]; omega)
  have K2 : ∀ W, Old w W → Calls Tryd.prog 29 #[.int .i64 (E : Int), u, q] W fun e w' => e = .returned (.bool (exB (E : Int) (toZ ps) (toZ ts))) ∧ Old W w' := fun W g => extra_any (E : Int) (toZ ps) (toZ ts) u q W (hP.old g) (hT.old g) (hu.old g) (hq.old g) (by rw [toZ_len]; omega) (by rw [toZ_len]; omega)
  have K3 : ∀ W, Old w W → Calls Tryd.prog 30 #[.int .i64 (A : Int), .int .i64 (E : Int)] W fun e w' => e = .returned (.bool (resB (A : Int) (E : Int))) ∧ Old W w' := fun W g => (residue_any (A : Int) (E : Int) W).mono (fun e w' h => ⟨h.1, by rw [h.2]; exact Old.refl _⟩)
  unfold ecB at h
  simp only [Bool.and_eq_true] at h
  obtain ⟨⟨⟨⟨h1, h2⟩, h3⟩, h4⟩, h5⟩ := h
  rw [h1, h2, h3] at K1
  rw [h4] at K2
  rw [h5] at K3
  have cc := fun W h1 h2 => conv_any rs ps v u W h1 h2 hf hR.bas hR.len hR.lt
  have HV : Hid (Row w v (toZ rs)) := hv
  have HU : Hid (Row w u (toZ ps)) := hu
  have HQ : Hid (Row w q (toZ ts)) := hq
  obtain ⟨va, vc, rfl⟩ : ∃ a c, v = .slice a rs.length c := by have := hv.slice; rwa [toZ_len] at this
  obtain ⟨ua, uc, rfl⟩ : ∃ a c, u = .slice a ps.length c := by have := hu.slice; rwa [toZ_len] at this
  obtain ⟨qa, qc, rfl⟩ : ∃ a c, q = .slice a ts.length c := by have := hq.slice; rwa [toZ_len] at this
  have hpl := plusS_lt E ps (yL rs ps) (E - A) hE.1
  have hxl := overL_lt E ps (plusS E ps (yL rs ps) (E - A)) hE.1
  have hoi := exO_in E A ps (yL rs ps) hE
  have CO : Hid (∀ W g gs, Cv W ps (yL rs ps) (.slice ua ps.length uc) (.slice (some ⟨g, 0, none⟩) ps.length ps.length) → StL W gs → Calls Tryd.prog 36 #[.agg #[.slice ua ps.length uc, .slice (some ⟨g, 0, none⟩) ps.length ps.length, .int .i64 0, .int .i64 0, .slice (some ⟨gs, 0, none⟩) 2 2], .int .i64 ((E - A : Nat) : Int), .int .i64 (E : Int)] W fun e w' => e = .returned (.int .i64 ((overL E ps (plusS E ps (yL rs ps) (E - A)) : Nat) : Int)) ∧ Old W w') := fun W g gs hC hG =>
    takeL_any E gs (E - A) (plusS E ps (yL rs ps) (E - A)) _ _ _ _ _ _ _ _ _ rfl rfl 0 0 W hG
      (fun W3 g3 => plusSum_any _ _ ps (yL rs ps) _ _ 0 0 W3 hE (by omega) (hC.old g3))
      (fun W3 g3 => overLess_any _ _ ps (yL rs ps) _ _ 0 0 W3 hE (by omega) (hC.old g3))
  have CB : ∀ W, Calls Tryd.prog 35 #[.int .i64 ((overL E ps (plusS E ps (yL rs ps) (E - A)) : Nat) : Int), .int .i64 (E : Int)] W fun e w' => e = .returned (.int .i64 (exO E A ps (yL rs ps))) ∧ w' = W := fun W => centredBy_any _ E W (by omega) (by omega)
  have HM : Hid (∀ W g gs, Cv W ps (yL rs ps) (.slice ua ps.length uc) (.slice (some ⟨g, 0, none⟩) ps.length ps.length) → StP W gs → ∀ b, Old w W → Row W (.slice (some ⟨b, 0, none⟩) ts.length ts.length) (List.replicate ts.length 0) → Calls Tryd.prog 37 #[.func (.func 36) #[.agg #[.slice ua ps.length uc, .slice (some ⟨g, 0, none⟩) ps.length ps.length, .int .i64 (exO E A ps (yL rs ps)), .int .i64 0, .slice (some ⟨gs, 0, none⟩) 2 2]] #[], .slice (some ⟨b, 0, none⟩) ts.length ts.length, .slice qa ts.length qc] W fun e w' => ∃ g, e = .returned (.slice (some ⟨g, 0, none⟩) ts.length ts.length) ∧ Old W w' ∧ Own w' W.heap.size (.slice (some ⟨g, 0, none⟩) ts.length ts.length) (toZ (exL E A ps (yL rs ps) ts))) := fun W g gs hC hG b hO hr => by
    have := eachT_any #[.slice ua ps.length uc, .slice (some ⟨g, 0, none⟩) ps.length ps.length, .int .i64 (exO E A ps (yL rs ps)), .int .i64 0, .slice (some ⟨gs, 0, none⟩) 2 2] (List.replicate ts.length 0) (toZ ts) (toZ (exL E A ps (yL rs ps) ts)) _ _ W hr (HQ.out.old hO) (by rw [toZ_len]; exact ht1) (by rw [toZ_len]; exact ht6) (by rw [toZ_len]; simp) (by rw [toZ_len, toZ_len, exL_len]) (fun k hk W2 g2 => by
      rw [toZ_len] at hk
      have hm : ts.getD k 0 ∈ ts := by simp [List.getD, hk]
      have b4 := hB.lo _ hm
      have b5 := hB.hi _ hm
      have e1 : (List.replicate ts.length (0 : Int)).getD k 0 = ((0 : Nat) : Int) := by simp [List.getD, hk]
      have e2 : (toZ (exL E A ps (yL rs ps) ts)).getD k 0 = ((plusP (ts.getD k 0) ps (exO E A ps (yL rs ps)) (plusS (ts.getD k 0) ps (yL rs ps) 0) : Nat) : Int) := by rw [toZ_get]; simp [exL, List.getD, hk]
      rw [e1, e2, toZ_get]
      have l1 := plusS_lt (ts.getD k 0) ps (yL rs ps) 0 b4
      exact takeP_any (ts.getD k 0) gs 0 (plusS (ts.getD k 0) ps (yL rs ps) 0) _ _ _ _ _ _ _ _ _ rfl rfl (exO E A ps (yL rs ps)) 0 W2 (hG.old g2)
        (fun W3 g3 => plusSum_any _ _ ps (yL rs ps) _ _ _ _ W3 ⟨b4, b5⟩ (by omega) (hC.old (Old.trans g2 g3)))
        (fun W3 g3 => plusProducts_any _ _ ps (yL rs ps) _ _ _ _ W3 ⟨b4, b5⟩ (by omega) hoi (hC.old (Old.trans g2 g3))))
    rw [toZ_len] at this
    exact this
  generalize toZ (exL E A ps (yL rs ps) ts) = zs at *
  generalize exO E A ps (yL rs ps) = oo at *
  generalize overL E ps (plusS E ps (yL rs ps) (E - A)) = xx at *
  have ts1 : IntKind.i64.wrap ((E : Int) - (A : Int)) = ((E - A : Nat) : Int) := by rw [IntKind.wrap_i64]; omega
  generalize E - A = ea at *
  have hmf : ∀ (fn : Fn) (first cap : Array Value) (w : World), (Instr.makeFunc fn first cap).run Tryd.prog w = .ok (.func fn first cap) w := fun _ _ _ _ => rfl
  obtain ⟨MC, hmk, HMR⟩ : ∃ MC, (∀ W : World, (Instr.makeSlice 23 (.int .i64 (ts.length : Int)) (.int .i64 (ts.length : Int))).run Tryd.prog W = .ok (.slice (some ⟨W.heap.size, 0, none⟩) ts.length ts.length) (W.alloc (.cells MC 3))) ∧ Hid (∀ W : World, Row (W.alloc (.cells MC 3)) (.slice (some ⟨W.heap.size, 0, none⟩) ts.length ts.length) (List.replicate ts.length 0)) := make_row ts.length (by omega)
  have HG0 : Hid (Old w w) := Old.refl w
  clear hP hT hv hu hq hf hfq h1 h2 h3 h4 h5 hR hB
  go_enter Tryd.func7, Tryd.ntmps7
  go_wp2_with fail
  refine (K1 _ HG0.out).mono ?_
  rintro e w1 ⟨rfl, g1⟩
  have HG1 : Hid (Old w w1) := Old.trans HG0.out g1
  clear g1
  go_wp2_with fail
  refine (K2 _ HG1.out).mono ?_
  rintro e w2 ⟨rfl, g2⟩
  have HG2 : Hid (Old w w2) := Old.trans HG1.out g2
  clear g2
  go_wp2_with fail
  refine (K3 _ HG2.out).mono ?_
  rintro e w3 ⟨rfl, g3⟩
  have HG3 : Hid (Old w w3) := Old.trans HG2.out g3
  clear g3
  clear K1 K2 K3
  go_wp2_with fail
  refine (cc _ (HV.out.old HG3.out) (HU.out.old HG3.out)).mono ?_
  rintro e wa ⟨g, rfl, ga, C2⟩
  have HGA : Hid (Old w wa) := Old.trans HG3.out ga
  have HC2 : Hid (Cv wa ps (yL rs ps) (.slice ua ps.length uc) (.slice (some ⟨g, 0, none⟩) ps.length ps.length)) := C2
  clear ga C2 HG1 HG2 HG3
  go_wp2_with fail
  have hs1 : (wa.alloc (.cells #[.func (.func 32) #[] #[], .func (.func 33) #[] #[]] 65)).heap.size = wa.heap.size + 1 := by simp
  have hs2 : ((wa.alloc (.cells #[.func (.func 32) #[] #[], .func (.func 33) #[] #[]] 65)).alloc (.cells #[.slice ua ps.length uc, .slice (some ⟨g, 0, none⟩) ps.length ps.length, .int .i64 0, .int .i64 0, .slice (some ⟨wa.heap.size, 0, none⟩) 2 2] 70)).heap.size = wa.heap.size + 1 + 1 := by simp
  have HW : Hid (Old wa ((((wa.alloc (.cells #[.func (.func 32) #[] #[], .func (.func 33) #[] #[]] 65)).alloc (.cells #[.slice ua ps.length uc, .slice (some ⟨g, 0, none⟩) ps.length ps.length, .int .i64 0, .int .i64 0, .slice (some ⟨wa.heap.size, 0, none⟩) 2 2] 70)).alloc (.cells #[.func (.func 32) #[] #[], .func (.func 34) #[] #[]] 65)).alloc (.cells #[.slice ua ps.length uc, .slice (some ⟨g, 0, none⟩) ps.length ps.length, .int .i64 0, .int .i64 0, .slice (some ⟨wa.heap.size + 1 + 1, 0, none⟩) 2 2] 70))) := ((((Old.refl wa).alloc _).alloc _).alloc _).alloc _
  have HWP : Hid (Old (wa.alloc (.cells #[.func (.func 32) #[] #[], .func (.func 33) #[] #[]] 65)) ((((wa.alloc (.cells #[.func (.func 32) #[] #[], .func (.func 33) #[] #[]] 65)).alloc (.cells #[.slice ua ps.length uc, .slice (some ⟨g, 0, none⟩) ps.length ps.length, .int .i64 0, .int .i64 0, .slice (some ⟨wa.heap.size, 0, none⟩) 2 2] 70)).alloc (.cells #[.func (.func 32) #[] #[], .func (.func 34) #[] #[]] 65)).alloc (.cells #[.slice ua ps.length uc, .slice (some ⟨g, 0, none⟩) ps.length ps.length, .int .i64 0, .int .i64 0, .slice (some ⟨wa.heap.size + 1 + 1, 0, none⟩) 2 2] 70))) := (((Old.refl _).alloc _).alloc _).alloc _
  have HWQ : Hid (Old ((wa.alloc (.cells #[.func (.func 32) #[] #[], .func (.func 33) #[] #[]] 65)).alloc (.cells #[.slice ua ps.length uc, .slice (some ⟨g, 0, none⟩) ps.length ps.length, .int .i64 0, .int .i64 0, .slice (some ⟨wa.heap.size, 0, none⟩) 2 2] 70)) ((((wa.alloc (.cells #[.func (.func 32) #[] #[], .func (.func 33) #[] #[]] 65)).alloc (.cells #[.slice ua ps.length uc, .slice (some ⟨g, 0, none⟩) ps.length ps.length, .int .i64 0, .int .i64 0, .slice (some ⟨wa.heap.size, 0, none⟩) 2 2] 70)).alloc (.cells #[.func (.func 32) #[] #[], .func (.func 34) #[] #[]] 65)).alloc (.cells #[.slice ua ps.length uc, .slice (some ⟨g, 0, none⟩) ps.length ps.length, .int .i64 0, .int .i64 0, .slice (some ⟨wa.heap.size + 1 + 1, 0, none⟩) 2 2] 70))) := ((Old.refl _).alloc _).alloc _
  have HWL : Hid (Old (((wa.alloc (.cells #[.func (.func 32) #[] #[], .func (.func 33) #[] #[]] 65)).alloc (.cells #[.slice ua ps.length uc, .slice (some ⟨g, 0, none⟩) ps.length ps.length, .int .i64 0, .int .i64 0, .slice (some ⟨wa.heap.size, 0, none⟩) 2 2] 70)).alloc (.cells #[.func (.func 32) #[] #[], .func (.func 34) #[] #[]] 65)) ((((wa.alloc (.cells #[.func (.func 32) #[] #[], .func (.func 33) #[] #[]] 65)).alloc (.cells #[.slice ua ps.length uc, .slice (some ⟨g, 0, none⟩) ps.length ps.length, .int .i64 0, .int .i64 0, .slice (some ⟨wa.heap.size, 0, none⟩) 2 2] 70)).alloc (.cells #[.func (.func 32) #[] #[], .func (.func 34) #[] #[]] 65)).alloc (.cells #[.slice ua ps.length uc, .slice (some ⟨g, 0, none⟩) ps.length ps.length, .int .i64 0, .int .i64 0, .slice (some ⟨wa.heap.size + 1 + 1, 0, none⟩) 2 2] 70))) := (Old.refl _).alloc _
  have HS : Hid (S5 ((wa.alloc (.cells #[.func (.func 32) #[] #[], .func (.func 33) #[] #[]] 65)).alloc (.cells #[.slice ua ps.length uc, .slice (some ⟨g, 0, none⟩) ps.length ps.length, .int .i64 0, .int .i64 0, .slice (some ⟨wa.heap.size, 0, none⟩) 2 2] 70)) (wa.heap.size + 1) (.slice ua ps.length uc) (.slice (some ⟨g, 0, none⟩) ps.length ps.length) (.int .i64 0) (.int .i64 0) (.slice (some ⟨wa.heap.size, 0, none⟩) 2 2) 70) := by
    have := heap_alloc_new (wa.alloc (.cells #[.func (.func 32) #[] #[], .func (.func 33) #[] #[]] 65)) (.cells #[.slice ua ps.length uc, .slice (some ⟨g, 0, none⟩) ps.length ps.length, .int .i64 0, .int .i64 0, .slice (some ⟨wa.heap.size, 0, none⟩) 2 2] 70)
    rw [hs1] at this
    exact this
  have HDP : Hid (StP (wa.alloc (.cells #[.func (.func 32) #[] #[], .func (.func 33) #[] #[]] 65)) wa.heap.size) := StP.one wa _
  have HDL : Hid (StL (((wa.alloc (.cells #[.func (.func 32) #[] #[], .func (.func 33) #[] #[]] 65)).alloc (.cells #[.slice ua ps.length uc, .slice (some ⟨g, 0, none⟩) ps.length ps.length, .int .i64 0, .int .i64 0, .slice (some ⟨wa.heap.size, 0, none⟩) 2 2] 70)).alloc (.cells #[.func (.func 32) #[] #[], .func (.func 34) #[] #[]] 65)) (wa.heap.size + 1 + 1)) := by
    have := StL.one ((wa.alloc (.cells #[.func (.func 32) #[] #[], .func (.func 33) #[] #[]] 65)).alloc (.cells #[.slice ua ps.length uc, .slice (some ⟨g, 0, none⟩) ps.length ps.length, .int .i64 0, .int .i64 0, .slice (some ⟨wa.heap.size, 0, none⟩) 2 2] 70)) 65
    rw [hs2] at this
    exact this
  refine (CO.out _ g (wa.heap.size + 1 + 1) (HC2.out.old HW.out) (HDL.out.old HWL.out)).mono ?_
  rintro e wb ⟨rfl, gb⟩
  have HGB : Hid (Old w wb) := Old.trans (Old.trans HGA.out HW.out) gb
  have HOB : Hid (Old wa wb) := Old.trans HW.out gb
  have HOC : Hid (Old (wa.alloc (.cells #[.func (.func 32) #[] #[], .func (.func 33) #[] #[]] 65)) wb) := Old.trans HWP.out gb
  have SB : Hid (S5 wb (wa.heap.size + 1) (.slice ua ps.length uc) (.slice (some ⟨g, 0, none⟩) ps.length ps.length) (.int .i64 0) (.int .i64 0) (.slice (some ⟨wa.heap.size, 0, none⟩) 2 2) 70) := HS.out.old (Old.trans HWQ.out gb)
  obtain ⟨q0, q1, q2, q3, q4⟩ := SB.out.cells
  have f2 := SB.out.f 2
  have hsa := HGA.out.size
  have HS7 : Hid (S5 (wb.setCell ⟨wa.heap.size + 1, 2, none⟩ (.int .i64 oo)) (wa.heap.size + 1) (.slice ua ps.length uc) (.slice (some ⟨g, 0, none⟩) ps.length ps.length) (.int .i64 oo) (.int .i64 0) (.slice (some ⟨wa.heap.size, 0, none⟩) 2 2) 70) := SB.out.set2 _
  have HG7 : Hid (Old w (wb.setCell ⟨wa.heap.size + 1, 2, none⟩ (.int .i64 oo))) := HGB.out.own (p := ⟨wa.heap.size + 1, 2, none⟩) (by show _ ≤ wa.heap.size + 1; omega) _
  have HC7 : Hid (Cv (wb.setCell ⟨wa.heap.size + 1, 2, none⟩ (.int .i64 oo)) ps (yL rs ps) (.slice ua ps.length uc) (.slice (some ⟨g, 0, none⟩) ps.length ps.length)) := HC2.out.old (HOB.out.own (p := ⟨wa.heap.size + 1, 2, none⟩) (by show _ ≤ wa.heap.size + 1; omega) _)
  have HD7 : Hid (StP (wb.setCell ⟨wa.heap.size + 1, 2, none⟩ (.int .i64 oo)) wa.heap.size) := HDP.out.old (HOC.out.own (p := ⟨wa.heap.size + 1, 2, none⟩) (by show _ ≤ wa.heap.size + 1; omega) _)
  clear gb HW HS HDP HDL HWP HWQ HWL HC2 HOB HOC SB hs1 hs2
  go_wp2_with fail
  refine (CB _).mono ?_
  rintro e wc ⟨rfl, hwc⟩
  replace hwc := hwc.symm
  subst hwc
  go_wp2_with fail
  clear q0 q1 q2 q3 q4 f2
  generalize (wb.setCell ⟨wa.heap.size + 1, 2, none⟩ (.int .i64 oo)) = w7 at *
  obtain ⟨z0, z1, z2, z3, z4⟩ := HS7.out.cells
  obtain ⟨y0, y1, y2, y3, y4⟩ := (HS7.out.old ((Old.refl w7).alloc (.cells MC 3))).cells
  have HWE : Hid (Old w7 (w7.alloc (.cells MC 3))) := (Old.refl w7).alloc _
  go_region_with (first
    | (go_at_call 37; first
      | (refine (HM.out _ g wa.heap.size (HC7.out.old (Below.drew HWE.out)) (HD7.out.old (Below.drew HWE.out)) w7.heap.size (Old.trans HG7.out (Below.drew HWE.out)) ((HMR.out w7).old (Below.drew (Old.refl _)))).mono ?_; rintro e w9 ⟨g9, rfl, q9, o9⟩; have HG9 : Hid (Old w w9) := Old.trans (Old.trans HG7.out (Below.drew HWE.out)) q9; have HO9 : Hid (Own w9 w.heap.size (.slice (some ⟨g9, 0, none⟩) ts.length ts.length) zs) := Own.low o9 (Old.trans HG7.out (Below.drew HWE.out)).size; clear q9 o9)
      | (trace_state; fail))
    | fail)
  all_goals
    go_wp2_with fail
    go_ret2
    exact ⟨_, rfl, HG9.out, HO9.out⟩
end Go.Proofs.YtfcdfielbpdloaaDoor
/- Proved: the contract of the model's l6Sum. -/
namespace Go.Proofs.YtfcdfielbpdloaaDoor
open Go.ChangeShapes Go.WideShapes Go.ChangeAt Go.RowKit
open M2
set_option linter.unusedVariables false
set_option linter.unusedSimpArgs false
set_option maxRecDepth 100000 in
set_option maxHeartbeats 8000000 in
theorem spec_sum (rs ps : List Nat) (v u : Value) (w : World) (hv : Row w v (toZ rs)) (hu : Row w u (toZ ps)) (h : Res rs ps) :
    Calls Tryd.prog 42 #[v, u] w fun e w' => ∃ v', e = .returned v' ∧ Old w w' ∧ Row w' v' (toI (dig (sumN rs ps ps.length))) := by
  have hb := h.bas
  have hrl := h.len
  have hl6 := hb.len6
  have hl1 := hb.len1
  have HU : Hid (Row w u (toZ ps)) := hu
  obtain ⟨b1, o1, cap1, rfl, hb1, hc1⟩ := hv.atZ (by omega)
  obtain ⟨b2, o2, cap2, rfl, hb2, hc2⟩ := hu.atZ (by omega)
  rw [hrl] at hc1 ⊢
  have HC1 : Hid (∀ j, j < ps.length → w.cell? ⟨b1, o1 + j, none⟩ = some (.int .i64 ((rs.getD j 0 : Nat) : Int))) := hc1
  have HC2 : Hid (∀ j, j < ps.length → w.cell? ⟨b2, o2 + j, none⟩ = some (.int .i64 ((ps.getD j 0 : Nat) : Int))) := hc2
  have HB : Hid (Bas ps) := hb
  have HR : Hid (∀ i, i < ps.length → rs.getD i 0 < ps.getD i 0) := h.lt
  have HS0 : Hid (sumN rs ps 0 = 0) := rfl
  clear hv hu hc1 hc2 hb h hrl
  go_enter Tryd.func42, Tryd.ntmps42
  go_wp2_with fail
  go_loopw [5, 10] (fun x j W => ∃ (k : Nat) (a : Option Addr) (n c : Nat), k ≤ ps.length ∧ j = .int .i64 k ∧ x = .slice a n c ∧ Hid (Row W (.slice a n c) (toI (dig (sumN rs ps k)))) ∧ Hid (Old w W)) (fun _ j _ => ps.length - (intOf j).toNat)
  case atStart => exact ⟨0, _, _, _, by omega, rfl, rfl, (by show Row _ _ _; rw [HS0.out, dig_zero]; exact Or.inl ⟨none, 0, rfl, rfl⟩), Old.refl _⟩
  case round =>
    obtain ⟨k, a, n, c, hk, rfl, rfl, HA, HG⟩ := hrel
    by_cases hlt : k < ps.length
    · have d1 : decide ((k : Int) < (ps.length : Int)) = true := by simp; omega
      have c1 : wr.cell? ⟨b1, o1 + k, none⟩ = some (.int .i64 ((rs.getD k 0 : Nat) : Int)) := (HG.out.cell (p := ⟨b1, o1 + k, none⟩) hb1).trans (HC1.out k hlt)
      have c2 : wr.cell? ⟨b2, o2 + k, none⟩ = some (.int .i64 ((ps.getD k 0 : Nat) : Int)) := (HG.out.cell (p := ⟨b2, o2 + k, none⟩) hb2).trans (HC2.out k hlt)
      have civ := fun W h3 => spec_inverse ps (.slice (some ⟨b2, o2, none⟩) ps.length cap2) k W h3 hlt (by omega) HB.out.lo HB.out.hi
      have hyl := yN_lt (rs := rs) HB.out hlt
      have hivl : ivN ps k ≤ 268435456 := by
        have : ivN ps k < ps.getD k 0 := by
          have hm : ps.getD k 0 ∈ ps := by simp [List.getD, hlt]
          have h2 := HB.out.lo _ hm
          unfold ivN
          exact invM_lt _ _ (by omega)
        omega
      have hrk := HR.out k hlt
      have cpu := fun W h3 => spec_punct ps (.slice (some ⟨b2, o2, none⟩) ps.length cap2) k W h3 HB.out hlt
      have HC1' : Hid ((dig (prodN (oth ps k))).length ≤ 1048576) := Nat.le_trans (oth_cnt HB.out hlt) (by omega)
      have HC2' : Hid ((dig (yN rs ps k)).length ≤ 1048576) := Nat.le_trans (cnt_word (by omega)) (by omega)
      have HC3' : Hid ((dig (sumN rs ps k)).length ≤ 1048576) := Nat.le_trans (sumN_cnt HB.out k hk) (by omega)
      have HC4' : Hid ((dig (prodN (oth ps k) * yN rs ps k)).length ≤ 1048576) := Nat.le_trans (part_cnt HB.out hlt) (by omega)
      have HF : Hid (∀ W u, Row W u (toI (dig (sumN rs ps k + prodN (oth ps k) * yN rs ps k))) → Row W u (toI (dig (sumN rs ps (k + 1))))) := fun W u h => h
      have HYE : Hid (rs.getD k 0 * ivN ps k % ps.getD k 0 = yN rs ps k) := rfl
      generalize prodN (oth ps k) = po at *
      generalize yN rs ps k = y at *
      generalize ivN ps k = iv at *
      generalize rs.getD k 0 = rk at *
      generalize ps.getD k 0 = p at *
      generalize sumN rs ps k = S1 at *
      obtain ⟨y0, hy0⟩ : ∃ y0, rk * iv = y0 := ⟨_, rfl⟩
      have hb2' : y0 ≤ 72057594037927936 := by rw [← hy0]; exact Nat.le_trans (Nat.mul_le_mul (show rk ≤ 268435456 by omega) hivl) (by decide)
      have t2 : IntKind.i64.wrap ((rk : Int) * (iv : Int)) = (y0 : Int) := by rw [← Int.natCast_mul, hy0, IntKind.wrap_i64]; omega
      have hye := HYE.out
      rw [hy0] at hye
      have t3 : Int.tmod (y0 : Int) (p : Int) = (y : Int) := by rw [Int.tmod_eq_emod_of_nonneg (by omega), ← hye]; rfl
      have hp0 : ¬ p = 0 := by omega
      have i1 : (k : Int) < (ps.length : Int) := by omega
      have HAS : Hid (∀ W', Old wr W' → W'.cell? ⟨b1, o1 + k, none⟩ = some (.int .i64 (rk : Int))) := fun W' g => (g.cell (p := ⟨b1, o1 + k, none⟩) (Nat.lt_of_lt_of_le hb1 HG.out.size)).trans c1
      clear HYE hy0 hye
      have HAK : Hid (∀ W', Old wr W' → Row W' (.slice a n c) (toI (dig S1))) := fun W' g => HA.out.old g
      go_wp2_with fail
      go_region_held3 (fun W' => W'.cell? ⟨b1, o1 + k, none⟩ = some (.int .i64 (rk : Int))) (first | with_reducible exact HAS.out _ G5.out | with_reducible exact HAS.out _ G4.out | with_reducible exact HAS.out _ G3.out | with_reducible exact HAS.out _ G2.out | with_reducible exact HAS.out _ G1.out | with_reducible exact HAS.out _ (Below.drew (Old.refl wr)) | with_reducible exact HAS.out _ (Old.refl wr)) (first
        | (go_at_call 63; refine (cpu _ (HU.out.old (Old.trans HG.out (Below.drew (Old.refl wr))))).mono ?_; rintro e w1 ⟨v1, rfl, g1, r1⟩; have G1 : Hid (Old wr w1) := Old.trans (Below.drew (Old.refl wr)) g1; have R1 : Hid (Row w1 v1 (toI (dig po))) := r1; obtain ⟨a1, cp1, rfl⟩ := r1.slice; clear g1 r1)
        | (go_at_call 61; refine (civ _ (HU.out.old (Old.trans HG.out G1.out))).mono ?_; rintro e w2 ⟨rfl, g2⟩; have G2 : Hid (Old wr w2) := Old.trans G1.out g2; have R2 : Hid (Row w2 (.slice a1 (toI (dig po)).length cp1) (toI (dig po))) := R1.out.old g2; clear g2)
        | (go_at_call 64; refine (of_any y _ (by omega)).mono ?_; rintro e w3 ⟨v3, rfl, g3, o3⟩; have G3 : Hid (Old wr w3) := Old.trans G2.out g3; have R3 : Hid (Row w3 (.slice a1 (toI (dig po)).length cp1) (toI (dig po))) := R2.out.old g3; have Y3 : Hid (Row w3 v3 (toI (dig y))) := Own.row o3; obtain ⟨a3, cp3, rfl⟩ := (Own.row o3).slice; clear g3 o3)
        | (go_at_call 59; refine (mul_any (dig po) (dig y) _ _ _ R3.out Y3.out (dig_lim po) (dig_lim y) HC1'.out HC2'.out).mono ?_; rw [val_dig, val_dig]; rintro e w4 ⟨v4, rfl, g4, o4⟩; have G4 : Hid (Old wr w4) := Old.trans G3.out g4; have M4 : Hid (Row w4 v4 (toI (dig (po * y)))) := Own.row o4; obtain ⟨a4, cp4, rfl⟩ := (Own.row o4).slice; clear g4 o4)
        | (go_at_call 62; refine (add_any (dig S1) (dig (po * y)) _ _ _ (HAK.out _ G4.out) M4.out (dig_lim S1) (dig_lim _) HC3'.out HC4'.out).mono ?_; rw [val_dig, val_dig]; rintro e w5 ⟨v5, rfl, g5, o5⟩; have G5 : Hid (Old wr w5) := Old.trans G4.out g5; have N5 : Hid (Row w5 v5 (toI (dig (S1 + po * y)))) := Own.row o5; obtain ⟨a5, cp5, rfl⟩ := (Own.row o5).slice; clear g5 o5)
        | fail)
      all_goals
        go_wp2_with fail
        exact ⟨⟨k + 1, _, _, _, by omega, by go_num, rfl, HF.out _ _ N5.out, Old.trans HG.out G5.out⟩, by simp [intOf]; omega⟩
    · have d1 : decide ((k : Int) < (ps.length : Int)) = false := by simp; omega
      obtain rfl : k = ps.length := by omega
      go_wp2_with fail
      go_ret
      exact ⟨_, rfl, HG.out, HA.out⟩
end Go.Proofs.YtfcdfielbpdloaaDoor
/- Proved: the mathematics of conversions from one basis to another; no function of the program. -/
namespace Go.Proofs.YtfcdfielbpdloaaDoor
open Go.ChangeShapes Go.WideShapes Go.ChangeAt Go.RowKit
open M2
set_option linter.unusedVariables false
set_option linter.unusedSimpArgs false
theorem nat_toI6 (xs : List Nat) : nat (toI xs) = xs := by
  apply List.ext_getElem
  · simp [nat, toI]
  · intro i h1 h2
    simp [nat, toI]
theorem gw_good6 {n : Bool} {xs : List Nat} (h : Nrm xs) (h2 : n = true → xs ≠ []) (hl : xs.length ≤ 40) : Good n (toI xs) := by
  refine ⟨by rw [toI_len]; exact hl, ?_, ?_⟩
  · rintro ⟨h0, hn⟩
    exact h2 hn (List.length_eq_zero_iff.1 (by rw [← toI_len]; exact h0))
  · intro j hj
    rw [toI_len] at hj
    have hm : xs.getD j 0 ∈ xs := by simp [List.getD, hj]
    have hb := h.1 _ hm
    unfold LB at hb
    refine ⟨?_, ?_⟩
    · rw [toI_get]
      omega
    · rw [toI_get, toI_len]
      rintro ⟨h0, h1⟩
      have hne : xs ≠ [] := by rintro rfl; simp at hj
      apply h.2 hne
      rw [List.getLast_eq_getElem]
      have h2 : xs.getD j 0 = 0 := by omega
      have e : xs.length - 1 = j := by omega
      simp only [e]
      rw [← h2]
      simp [List.getD, hj]
theorem foldl_mod (m : Nat) : ∀ (l : List Nat) (a b : Nat), a % m = b % m → l.foldl (fun a p => a * p % m) a % m = l.foldl (fun a p => a * p) b % m
  | [], a, b, h => h
  | p :: l, a, b, h => by
    refine foldl_mod m l _ _ ?_
    rw [Nat.mod_mod, Nat.mul_mod, h, ← Nat.mul_mod]
theorem pm_mod (m : Nat) (l : List Nat) (hm : 2 ≤ m) : pmN m l = prodN l % m := by
  have h : pmN m l % m = prodN l % m := foldl_mod m l 1 1 rfl
  rw [← h]
  exact (Nat.mod_eq_of_lt (pmN_lt m l hm)).symm
theorem sb_mod (m : Nat) (rs ps : List Nat) (hm : 2 ≤ m) : ∀ k, k ≤ ps.length → sbS m ps (yL rs ps) k % m = sumN rs ps k % m
  | 0, _ => rfl
  | k + 1, h => by
    rw [sbS, sumN, yL_get _ _ _ (by omega), pm_mod _ _ hm, Nat.add_mod, sb_mod m rs ps hm k (by omega), Nat.mul_mod, Nat.mod_mod, ← Nat.mul_mod, ← Nat.add_mod, Nat.mul_comm]
theorem plusS_eq (m : Nat) (rs ps : List Nat) (x : Nat) (hm : 2 ≤ m) : plusS m ps (yL rs ps) x = (x + sumN rs ps ps.length) % m := by
  unfold plusS
  rw [sb_mod m rs ps hm _ (Nat.le_refl _), Nat.add_mod, Nat.mod_mod, ← Nat.add_mod]
theorem inv_cases (a m : Nat) : (M1.invM a m = 0 ∧ ∀ i, i < m → a * i % m ≠ 1) ∨ (M1.invM a m < m ∧ a * M1.invM a m % m = 1) := by
  unfold M1.invM
  cases h : (List.range m).find? (fun i => a * i % m == 1) with
  | none =>
    left
    refine ⟨rfl, fun i hi e => ?_⟩
    have := List.find?_eq_none.1 h i (by simpa using hi)
    simp [e] at this
  | some i =>
    right
    have h1 := List.mem_of_find?_eq_some h
    have h2 := List.find?_some h
    simp at h1 h2
    exact ⟨h1, h2⟩
theorem neg_toNat (a m : Nat) (hm : 2 ≤ m) (ha : a < m) : ((-(a : Int)) % (m : Int)).toNat = (m - a) % m := by
  have e : (-(a : Int)) % (m : Int) = ((m - a : Nat) : Int) % (m : Int) := by
    rw [show ((m - a : Nat) : Int) = -(a : Int) + (m : Int) by omega, Int.add_emod_right]
  rw [e, ← Int.natCast_emod, Int.toNat_natCast]
theorem neg_one (a i m : Nat) (hm : 2 ≤ m) (ha : a < m) (hi : i < m) (h : a * i % m = 1) : (m - a) % m * (m - i) % m = 1 := by
  have h3 : (((m - a) % m * (m - i) % m : Nat) : Int) = ((1 : Nat) : Int) := by
    have e1 : (((m - a) % m * (m - i) % m : Nat) : Int) = ((m : Int) - a) * ((m : Int) - i) % m := by
      rw [Int.natCast_emod, Int.natCast_mul, Int.natCast_emod, Int.natCast_sub (by omega), Int.natCast_sub (by omega), Int.mul_emod, Int.emod_emod, ← Int.mul_emod]
    have e2 : ((m : Int) - a) * ((m : Int) - i) = (a : Int) * i + ((m : Int) - a - i) * m := by
      rw [Int.sub_mul, Int.mul_sub, Int.mul_sub, Int.sub_mul, Int.sub_mul, Int.mul_comm (m : Int) i]
      omega
    rw [e1, e2, Int.add_mul_emod_self_right, ← Int.natCast_mul, ← Int.natCast_emod, h]
  exact Int.ofNat.inj h3
theorem inv_neg (a m : Nat) (hm : 2 ≤ m) (ha : a < m) : (M1.invM ((-(a : Int)) % (m : Int)).toNat m + M1.invM a m) % m = 0 := by
  rw [neg_toNat a m hm ha]
  rcases inv_cases a m with ⟨h1, h2⟩ | ⟨h1, h2⟩
  · rcases inv_cases ((m - a) % m) m with ⟨h3, h4⟩ | ⟨h3, h4⟩
    · rw [h1, h3]
      exact Nat.zero_mod _
    · exfalso
      have hp : 0 < M1.invM ((m - a) % m) m := by
        rcases Nat.eq_zero_or_pos (M1.invM ((m - a) % m) m) with e | e
        · rw [e, Nat.mul_zero, Nat.zero_mod] at h4
          cases h4
        · exact e
      have h5 := neg_one ((m - a) % m) _ m hm (Nat.mod_lt _ (by omega)) h3 h4
      have e : (m - (m - a) % m) % m = a := by
        rcases Nat.eq_zero_or_pos a with e0 | e0
        · subst e0
          simp
        · rw [Nat.mod_eq_of_lt (show m - a < m by omega), show m - (m - a) = a by omega, Nat.mod_eq_of_lt ha]
      rw [e] at h5
      exact h2 _ (by omega) h5
  · have hp : 0 < M1.invM a m := by
      rcases Nat.eq_zero_or_pos (M1.invM a m) with e | e
      · rw [e, Nat.mul_zero, Nat.zero_mod] at h2
        cases h2
      · exact e
    have h5 := neg_one a _ m hm ha h1 h2
    rw [M1.invM_of ((m - a) % m) (m - M1.invM a m) m (by omega) h5, show m - M1.invM a m + M1.invM a m = m by omega, Nat.mod_self]
theorem turn_eq (m L n1 n2 : Nat) (D : Int) (hm : 2 ≤ m) (h : (n1 + n2) % m = 0) (hL : ((L : Int) + D) % (m : Int) = 0) : ((L * n1 % m : Nat) : Int) = (D * (n2 : Int)) % (m : Int) := by
  rw [Int.natCast_emod, Int.natCast_mul]
  have d1 : (m : Int) ∣ (n1 : Int) + n2 := Int.dvd_of_emod_eq_zero (by rw [← Int.natCast_add, ← Int.natCast_emod, h]; rfl)
  have d2 : (m : Int) ∣ (L : Int) + D := Int.dvd_of_emod_eq_zero hL
  refine (Int.emod_eq_emod_iff_emod_sub_eq_zero).2 (Int.emod_eq_zero_of_dvd ?_)
  have e : (L : Int) * n1 - D * n2 = (L : Int) * ((n1 : Int) + n2) - ((L : Int) + D) * n2 := by
    rw [Int.mul_add, Int.add_mul]
    omega
  rw [e]
  exact Int.dvd_sub (Int.dvd_trans d1 (Int.dvd_mul_left _ _)) (Int.dvd_trans d2 (Int.dvd_mul_right _ _))
end Go.Proofs.YtfcdfielbpdloaaDoor
/- Proved: lengths and values of what is reckoned in great numbers on the way from one basis to another; no function of the program. -/
namespace Go.Proofs.YtfcdfielbpdloaaDoor
open Go.ChangeShapes Go.WideShapes Go.ChangeAt Go.RowKit
open M2
set_option linter.unusedVariables false
set_option linter.unusedSimpArgs false
theorem dg_len6 {z : Int} {k : Nat} (h : z.natAbs < LB ^ k) : (dg z).length ≤ k := dig_len_le h
theorem dg_lim6 (z : Int) : Lim (dg z) := dig_lim _
theorem abs_cQ {c : Int} (hc : -268435456 ≤ c ∧ c ≤ 268435456) {ps : List Nat} (hb : Bas ps) : (c * ((prodN ps : Nat) : Int)).natAbs ≤ LB ^ 7 := by
  rw [Int.natAbs_mul, Int.natAbs_natCast, Nat.pow_succ LB 6, Nat.mul_comm]
  refine Nat.mul_le_mul ?_ (show c.natAbs ≤ 268435456 by omega)
  exact Nat.le_trans (prodN_all ps hb.hi) (Nat.pow_le_pow_right LB_pos hb.len6)
theorem lt_8 {n : Nat} (h : n ≤ LB ^ 7 + 6 * LB ^ 6) : n < LB ^ 8 := by
  have h1 : LB ^ 7 = LB ^ 6 * LB := Nat.pow_succ LB 6
  have h2 : LB ^ 8 = LB ^ 7 * LB := Nat.pow_succ LB 7
  have h3 : 0 < LB ^ 6 := pw 6
  have h4 : LB = 268435456 := rfl
  rw [h4] at h1 h2 h h3 ⊢
  omega
theorem cQ_len {c : Int} (hc : -268435456 ≤ c ∧ c ≤ 268435456) {ps : List Nat} (hb : Bas ps) : (dg (c * ((prodN ps : Nat) : Int))).length ≤ 8 :=
  dg_len6 (lt_8 (Nat.le_trans (abs_cQ hc hb) (Nat.le_add_right _ _)))
theorem sum_le {rs ps : List Nat} (hb : Bas ps) : sumN rs ps ps.length ≤ 6 * LB ^ 6 := Nat.le_trans (sumN_le hb _ (Nat.le_refl _)) (Nat.mul_le_mul_right _ hb.len6)
theorem X_len {c : Int} (hc : -268435456 ≤ c ∧ c ≤ 268435456) {rs ps : List Nat} (hb : Bas ps) : (dg (((sumN rs ps ps.length : Nat) : Int) + c * ((prodN ps : Nat) : Int))).length ≤ 8 := by
  refine dg_len6 (lt_8 ?_)
  have h1 := abs_cQ hc hb
  have h2 := sum_le (rs := rs) hb
  have h3 := Int.natAbs_add_le ((sumN rs ps ps.length : Nat) : Int) (c * ((prodN ps : Nat) : Int))
  rw [Int.natAbs_natCast] at h3
  omega
theorem plusPS_eq (b : Nat) (rs ps : List Nat) (o : Int) (hb : 2 ≤ b) : ((plusP b ps o (plusS b ps (yL rs ps) 0) : Nat) : Int) = (((sumN rs ps ps.length : Nat) : Int) + o * ((prodN ps : Nat) : Int)) % (b : Int) := by
  rw [plusS_eq b rs ps 0 hb, Nat.zero_add]
  unfold plusP
  rw [pm_mod b ps hb, Int.toNat_of_nonneg (Int.emod_nonneg _ (by omega)), Int.natCast_emod, Int.natCast_emod]
  rw [Int.add_emod, Int.emod_emod, Int.mul_emod, Int.emod_emod, ← Int.mul_emod, ← Int.add_emod]
theorem sv_nat (n : Nat) : sv false (dig n) = (n : Int) := by simp [sv, val_dig]
end Go.Proofs.YtfcdfielbpdloaaDoor
