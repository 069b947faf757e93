/- Proved: the contract of the program's conversionOf. -/
import Derived.Test.YtejkejfhahmhcaaDoorCvb
namespace Go.Proofs.YtejkejfhahmhcaaDoor
open Go.ChangeShapes Go.WideShapes Go.ChangeAt Go.RowKit
open M2
set_option linter.unusedVariables false
set_option linter.unusedSimpArgs false
/-- a block of four cells -/
abbrev S4 (w : World) (k : Nat) (a b c d : Value) (t : TypeId) : Prop := w.heap[k]? = some (.cells #[a, b, c, d] t (0, 0))
theorem S4.c0 {w : World} {k : Nat} {a b c d : Value} {t : TypeId} (h : S4 w k a b c d t) : w.cell? ⟨k, 0, none⟩ = some a := cell_of_row w k 0 _ t (0, 0) h
theorem S4.c1 {w : World} {k : Nat} {a b c d : Value} {t : TypeId} (h : S4 w k a b c d t) : w.cell? ⟨k, 1, none⟩ = some b := cell_of_row w k 1 _ t (0, 0) h
theorem S4.c2 {w : World} {k : Nat} {a b c d : Value} {t : TypeId} (h : S4 w k a b c d t) : w.cell? ⟨k, 2, none⟩ = some c := cell_of_row w k 2 _ t (0, 0) h
theorem S4.c3 {w : World} {k : Nat} {a b c d : Value} {t : TypeId} (h : S4 w k a b c d t) : w.cell? ⟨k, 3, none⟩ = some d := cell_of_row w k 3 _ t (0, 0) h
theorem S4.f {w : World} {k : Nat} {a b c d : Value} {t : TypeId} (h : S4 w k a b c d t) (j : Nat) : w.frozen? ⟨k, j, none⟩ = false := frozen_of_row w k j _ t h
theorem S4.lt {w : World} {k : Nat} {a b c d : Value} {t : TypeId} (h : S4 w k a b c d t) : k < w.heap.size := (Array.getElem?_eq_some_iff.1 h).1
theorem S4.old {w w' : World} {k : Nat} {a b c d : Value} {t : TypeId} (h : S4 w k a b c d t) (g : Old w w') : S4 w' k a b c d t := (g.block k h.lt).trans h
theorem S4.new (w : World) (a b c d : Value) (t : TypeId) : S4 (w.alloc (.cells #[a, b, c, d] t)) w.heap.size a b c d t := heap_alloc_new w _
theorem S4.set {w : World} {k : Nat} {a b c d : Value} {t : TypeId} (h : S4 w k a b c d t) (a' b' c' d' : Value) : S4 ((((w.setCell ⟨k, 0, none⟩ a').setCell ⟨k, 1, none⟩ b').setCell ⟨k, 2, none⟩ c').setCell ⟨k, 3, none⟩ d') k a' b' c' d' t := by
  have h1 := heap_setCell_same w k 0 _ _ a' h
  have h2 := heap_setCell_same _ k 1 _ _ b' h1
  have h3 := heap_setCell_same _ k 2 _ _ c' h2
  have h4 := heap_setCell_same _ k 3 _ _ d' h3
  exact h4
theorem Old.set4 {a w : World} {k : Nat} (h : Old a w) (hk : a.heap.size ≤ k) (x y z u : Value) : Old a ((((w.setCell ⟨k, 0, none⟩ x).setCell ⟨k, 1, none⟩ y).setCell ⟨k, 2, none⟩ z).setCell ⟨k, 3, none⟩ u) :=
  (((h.own (p := ⟨k, 0, none⟩) hk _).own (p := ⟨k, 1, none⟩) hk _).own (p := ⟨k, 2, none⟩) hk _).own (p := ⟨k, 3, none⟩) hk _
theorem infoCv : (Tryd.prog.info? 63).map (·.size) = some 4 := by kernel_rfl
theorem ret_cv {fn : Func} {p : Tmp} (h : fn.results = #[.cell p 63]) (tmps : Array Value) (w : World) {g : Nat} {a b c d : Value} (hp : tmps.getD p undef = .pointer (some ⟨g, 0, none⟩)) (hs : S4 w g a b c d 63) :
    (results fn tmps).run Tryd.prog w = .ok (.agg #[a, b, c, d]) w :=
  results_cell_row h tmps w g 63 #[a, b, c, d] (0, 0) _ hp hs Tryd.underlying63 rfl infoCv
theorem Row.otherCell {w : World} {v : Value} {xs : List Int} (h : Row w v xs) {k j : Nat} (hk : ∀ a n c, v = .slice (some a) n c → a.block ≠ k) (x : Value) : Row (w.setCell ⟨k, j, none⟩ x) v xs := by
  rcases h with h1 | ⟨b, o, cap, e, hb, h0, hc⟩
  · exact Or.inl h1
  · exact Or.inr ⟨b, o, cap, e, (by simpa using hb), h0, fun i hi => (cellS w k j x (hk _ _ _ e)).trans (hc i hi)⟩
theorem yL_cv {rs ps : List Nat} (hb : Bas ps) : ∀ i, i < ps.length → (yL rs ps).getD i 0 ≤ 268435456 := fun i hi => by
  rw [yL_get _ _ _ hi]
  have := yN_lt (rs := rs) hb hi
  omega
set_option maxRecDepth 100000 in
set_option maxHeartbeats 2000000 in
theorem conv_any (rs ps : List Nat) (v u : Value) (w : World) (hv : Row w v (toZ rs)) (hu : Row w u (toZ ps)) (hf : Fit u) (hb : Bas ps) (hrl : rs.length = ps.length) (hr : ∀ i, i < ps.length → rs.getD i 0 < ps.getD i 0) :
    Calls Tryd.prog 49 #[v, u] w fun e w' => ∃ g, e = .returned (.agg #[u, .slice (some ⟨g, 0, none⟩) ps.length ps.length, .int .i64 0, .int .i64 0]) ∧ Old w w' ∧ Cv w' ps (yL rs ps) u (.slice (some ⟨g, 0, none⟩) ps.length ps.length) := by
  have csh := fun W h1 h2 => shares_any rs ps v u W h1 h2 hf hb hrl hr
  have HV : Hid (Row w v (toZ rs)) := hv
  have HU : Hid (Row w u (toZ ps)) := hu
  have HF : Hid (Fit u) := hf
  have HBs : Hid (Bas ps) := hb
  obtain ⟨va, vc, rfl⟩ : ∃ a c, v = .slice a rs.length c := by have := hv.slice; rwa [toZ_len] at this
  obtain ⟨b2, o2, cap2, rfl, hb2, hc2⟩ := hu.atZ (by have := hb.len1; omega)
  have HA : Hid (Old w (w.alloc (.cells #[.slice none 0 0, .slice none 0 0, .int .i64 0, .int .i64 0] 63))) := (Old.refl w).alloc _
  have HS : Hid (S4 (w.alloc (.cells #[.slice none 0 0, .slice none 0 0, .int .i64 0, .int .i64 0] 63)) w.heap.size (.slice none 0 0) (.slice none 0 0) (.int .i64 0) (.int .i64 0) 63) := S4.new w _ _ _ _ _
  clear hv hu hf hb hr hrl hc2
  go_enter Tryd.func49, Tryd.ntmps49
  go_wp2_with fail
  refine (csh _ (HV.out.old HA.out) (HU.out.old HA.out)).mono ?_
  rintro e w1 ⟨g, rfl, g1, o1⟩
  have S1 := HS.out.old g1
  have HS1 : Hid (S4 w1 w.heap.size (.slice none 0 0) (.slice none 0 0) (.int .i64 0) (.int .i64 0) 63) := S1
  have HG1 : Hid (Old w w1) := Old.trans HA.out g1
  have HO1 : Hid (Own w1 (w.alloc (.cells #[.slice none 0 0, .slice none 0 0, .int .i64 0, .int .i64 0] 63)).heap.size (.slice (some ⟨g, 0, none⟩) ps.length ps.length) (toZ (yL rs ps))) := o1
  have q0 := S1.c0
  have q1 := S1.c1
  have q2 := S1.c2
  have q3 := S1.c3
  have f0 := S1.f 0
  have f1 := S1.f 1
  have f2 := S1.f 2
  have f3 := S1.f 3
  clear g1 o1 S1
  go_wp2_with fail
  have hg : w.heap.size < g := by
    have := (World.ownsRow.lt HO1.out g rfl).1
    simp at this
    omega
  have rf := (HU.out.old HG1.out)
  have rs' := (Own.row HO1.out)
  have nf : ∀ (a : Addr) (n c : Nat), Value.slice (some ⟨b2, o2, none⟩) ps.length cap2 = .slice (some a) n c → a.block ≠ w.heap.size := fun a n c e => by
    simp only [Value.slice.injEq, Option.some.injEq] at e
    obtain ⟨rfl, _⟩ := e
    show b2 ≠ _
    omega
  have ns : ∀ (a : Addr) (n c : Nat), Value.slice (some ⟨g, 0, none⟩) ps.length ps.length = .slice (some a) n c → a.block ≠ w.heap.size := fun a n c e => by
    simp only [Value.slice.injEq, Option.some.injEq] at e
    obtain ⟨rfl, _⟩ := e
    show g ≠ _
    omega
  exact bodyPost_ret (ret_cv Tryd.results49 _ _ rfl (HS1.out.set _ _ _ _)) rfl ⟨g, rfl, HG1.out.set4 (Nat.le_refl _) _ _ _ _, ⟨(((rf.otherCell nf _).otherCell nf _).otherCell nf _).otherCell nf _, HF.out, (((rs'.otherCell ns _).otherCell ns _).otherCell ns _).otherCell ns _, yL_len _ _, HBs.out.len1, HBs.out.len6, HBs.out.hi, yL_cv HBs.out⟩⟩
end Go.Proofs.YtejkejfhahmhcaaDoor
