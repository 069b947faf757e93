/- Proved: contracts of the draws of two whole numbers: two signs and two lists of at most 41 numbers are told, nothing panics, and nothing that was there changes. -/
import Derived.Test.YtjedpceiimceoaaDoorDrw
namespace Go.Proofs.YtjedpceiimceoaaDoor
open Go.ChangeShapes Go.WideShapes Go.ChangeAt Go.RowKit
set_option linter.unusedVariables false
set_option linter.unusedSimpArgs false
theorem bysW_oldX {w w' : World} {v : Value} {len : Nat} (h : BysW w v len) (g : Old w w') : BysW w' v len := by
  rcases h with h1 | ⟨b, o, cap, e, hb, hc⟩
  · exact Or.inl h1
  · refine Or.inr ⟨b, o, cap, e, Nat.lt_of_lt_of_le hb g.size, fun j hj => ?_⟩
    obtain ⟨x, hx, hxc⟩ := hc j hj
    exact ⟨x, hx, (g.cell (p := ⟨b, o + j, none⟩) hb).trans hxc⟩
def RwB (lo hi : Nat) (W : World) (v : Value) (xs : List Int) : Prop := Row W v xs ∧ ∀ b o n cap, v = .slice (some ⟨b, o, none⟩) n cap → n = 0 ∨ (lo ≤ b ∧ b < hi)
theorem RwB.old {lo hi : Nat} {W W' : World} {v : Value} {xs : List Int} (h : RwB lo hi W v xs) (g : Old W W') : RwB lo hi W' v xs := ⟨h.1.old g, h.2⟩
theorem RwB.chg {lo hi l r : Nat} {W W' : World} {v : Value} {xs : List Int} (h : RwB lo hi W v xs) (g : Chg W W' l r) (hr : r ≤ lo ∨ hi ≤ l) : RwB lo hi W' v xs := by
  refine ⟨?_, h.2⟩
  rcases h.1 with h1 | ⟨b, o, cap, e, hb, h0, hc⟩
  · exact .inl h1
  · have hne := h.2 b o _ cap e
    refine .inr ⟨b, o, cap, e, Nat.lt_of_lt_of_le hb g.size, h0, fun j hj => ?_⟩
    have hbl := g.block b hb (by omega)
    rw [← hc j hj]
    unfold World.cell?
    simp only [hbl]
theorem RwB.mono {lo hi lo' hi' : Nat} {W : World} {v : Value} {xs : List Int} (h : RwB lo hi W v xs) (hl : lo' ≤ lo) (hh : hi ≤ hi') : RwB lo' hi' W v xs := ⟨h.1, fun b o n cap e => (h.2 b o n cap e).imp id (fun h1 => by omega)⟩
theorem RwB.own {lo : Nat} {W : World} {v : Value} {xs : List Int} (h : Own W lo v xs) : RwB lo W.heap.size W v xs := ⟨Own.row h, fun b o n cap e => by
  rcases h.2 with ⟨h1, _⟩ | ⟨g, cap', cur, e1, hb, hgg, _⟩
  · rw [h1] at e; cases e
  · rw [e1] at e
    injection e with e2
    injection e2 with e3
    injection e3 with e4
    have := (Array.getElem?_eq_some_iff.1 hgg).1
    exact .inr (by omega)⟩
theorem RwB.set {lo hi : Nat} {W : World} {v : Value} {xs : List Int} (h : RwB lo hi W v xs) {p : Addr} (hp : p.block < lo ∨ hi ≤ p.block) (x : Value) : RwB lo hi (W.setCell p x) v xs :=
  h.chg (⟨rfl, rfl, rfl, by rw [World.size_setCell]; exact Nat.le_refl _, fun b _ ho => heap_setCell_other _ _ _ _ (by show b ≠ p.block; omega)⟩ : Chg W (W.setCell p x) p.block (p.block + 1)) (by omega)
def TwoW (w : World) (e : Ending) (w' : World) : Prop := ∃ n a ca xs m b cb ys, e = .returned (.tuple #[.agg #[.bool n, .slice a xs.length ca], .agg #[.bool m, .slice b ys.length cb]]) ∧ Old w w' ∧ RwB w.heap.size w'.heap.size w' (.slice a xs.length ca) xs ∧ RwB w.heap.size w'.heap.size w' (.slice b ys.length cb) ys ∧ xs.length ≤ 41 ∧ ys.length ≤ 41
structure TwB (w : World) (kx ky : Nat) (n m : Bool) (a : Option Addr) (lx ca : Nat) (xs : List Int) (b : Option Addr) (ly cb : Nat) (ys : List Int) (W : World) : Prop where
  px : Bk W kx #[.bool n, .slice a lx ca] 25
  py : Bk W ky #[.bool m, .slice b ly cb] 25
  r0 : Bk W w.heap.size #[.bool false, .slice none 0 0] 25
  r1 : Bk W (w.heap.size + 1) #[.bool false, .slice none 0 0] 25
  rx : RwB (w.heap.size + 2) W.heap.size W (.slice a lx ca) xs
  ry : RwB (w.heap.size + 2) W.heap.size W (.slice b ly cb) ys
  go : Old w W
  lx' : xs.length = lx ∧ lx ≤ 41
  ly' : ys.length = ly ∧ ly ≤ 41
theorem TwB.ends {w W : World} {kx ky : Nat} {n m : Bool} {a : Option Addr} {lx ca : Nat} {xs : List Int} {b : Option Addr} {ly cb : Nat} {ys : List Int} (h : TwB w kx ky n m a lx ca xs b ly cb ys W) :
    Bk ((((W.setCell ⟨w.heap.size, 0, none⟩ (.bool n)).setCell ⟨w.heap.size, 1, none⟩ (.slice a lx ca)).setCell ⟨w.heap.size + 1, 0, none⟩ (.bool m)).setCell ⟨w.heap.size + 1, 1, none⟩ (.slice b ly cb)) w.heap.size #[.bool n, .slice a lx ca] 25 ∧ Bk ((((W.setCell ⟨w.heap.size, 0, none⟩ (.bool n)).setCell ⟨w.heap.size, 1, none⟩ (.slice a lx ca)).setCell ⟨w.heap.size + 1, 0, none⟩ (.bool m)).setCell ⟨w.heap.size + 1, 1, none⟩ (.slice b ly cb)) (w.heap.size + 1) #[.bool m, .slice b ly cb] 25 ∧ TwoW w (.returned (.tuple #[.agg #[.bool n, .slice a lx ca], .agg #[.bool m, .slice b ly cb]])) ((((W.setCell ⟨w.heap.size, 0, none⟩ (.bool n)).setCell ⟨w.heap.size, 1, none⟩ (.slice a lx ca)).setCell ⟨w.heap.size + 1, 0, none⟩ (.bool m)).setCell ⟨w.heap.size + 1, 1, none⟩ (.slice b ly cb)) := by
  have s0 := bk_put1W (bk_put0W h.r0 (.bool n)) (.slice a lx ca)
  have q0 : Bk ((((W.setCell ⟨w.heap.size, 0, none⟩ (.bool n)).setCell ⟨w.heap.size, 1, none⟩ (.slice a lx ca)).setCell ⟨w.heap.size + 1, 0, none⟩ (.bool m)).setCell ⟨w.heap.size + 1, 1, none⟩ (.slice b ly cb)) w.heap.size #[.bool n, .slice a lx ca] 25 := bk_other (bk_other s0 (by show w.heap.size ≠ w.heap.size + 1; omega) _) (by show w.heap.size ≠ w.heap.size + 1; omega) _
  have r1 : Bk ((W.setCell ⟨w.heap.size, 0, none⟩ (.bool n)).setCell ⟨w.heap.size, 1, none⟩ (.slice a lx ca)) (w.heap.size + 1) #[.bool false, .slice none 0 0] 25 := bk_other (bk_other h.r1 (by show w.heap.size + 1 ≠ w.heap.size; omega) _) (by show w.heap.size + 1 ≠ w.heap.size; omega) _
  refine ⟨q0, bk_put1W (bk_put0W r1 _) _, n, a, ca, xs, m, b, cb, ys, by rw [h.lx'.1, h.ly'.1], ?_, ?_, ?_, by rw [h.lx'.1]; exact h.lx'.2, by rw [h.ly'.1]; exact h.ly'.2⟩
  · exact (((h.go.own (p := ⟨w.heap.size, 0, none⟩) (Nat.le_refl _) _).own (p := ⟨w.heap.size, 1, none⟩) (Nat.le_refl _) _).own (p := ⟨w.heap.size + 1, 0, none⟩) (Nat.le_succ _) _).own (p := ⟨w.heap.size + 1, 1, none⟩) (Nat.le_succ _) _
  · rw [h.lx'.1]
    exact (((((h.rx.set (p := ⟨w.heap.size, 0, none⟩) (Or.inl (by show w.heap.size < w.heap.size + 2; omega)) (.bool n)).set (p := ⟨w.heap.size, 1, none⟩) (Or.inl (by show w.heap.size < w.heap.size + 2; omega)) (.slice a lx ca)).set (p := ⟨w.heap.size + 1, 0, none⟩) (Or.inl (by show w.heap.size + 1 < w.heap.size + 2; omega)) (.bool m)).set (p := ⟨w.heap.size + 1, 1, none⟩) (Or.inl (by show w.heap.size + 1 < w.heap.size + 2; omega)) (.slice b ly cb)).mono (by omega) (by simp [World.size_setCell]))
  · rw [h.ly'.1]
    exact (((((h.ry.set (p := ⟨w.heap.size, 0, none⟩) (Or.inl (by show w.heap.size < w.heap.size + 2; omega)) (.bool n)).set (p := ⟨w.heap.size, 1, none⟩) (Or.inl (by show w.heap.size < w.heap.size + 2; omega)) (.slice a lx ca)).set (p := ⟨w.heap.size + 1, 0, none⟩) (Or.inl (by show w.heap.size + 1 < w.heap.size + 2; omega)) (.bool m)).set (p := ⟨w.heap.size + 1, 1, none⟩) (Or.inl (by show w.heap.size + 1 < w.heap.size + 2; omega)) (.slice b ly cb)).mono (by omega) (by simp [World.size_setCell]))
theorem TwoW.drewX {w w' : World} {e : Ending} (h : TwoW w e w') (k : Nat) : TwoW w e (w'.drewN k) := by
  obtain ⟨n, a, ca, xs, m, b, cb, ys, e1, g, r1, r2, l1, l2⟩ := h
  exact ⟨n, a, ca, xs, m, b, cb, ys, e1, g.drewN k, (r1.old ((Old.refl _).drewN k)).mono (Nat.le_refl _) (((Old.refl w').drewN k).size), (r2.old ((Old.refl _).drewN k)).mono (Nat.le_refl _) (((Old.refl w').drewN k).size), l1, l2⟩
set_option maxRecDepth 100000 in
set_option maxHeartbeats 8000000 in
theorem two_c (w : World) (code : Value) (len : Nat) (h : BysW w code len) (hl : len ≤ 9223372036854775807) :
    Calls Tryd.prog 19 #[code] w (TwoW w) := by
  obtain ⟨ca0, ccap, hcode⟩ : ∃ ca ccap, code = .slice ca len ccap := by
    rcases h with ⟨a, cap, e, e2⟩ | ⟨b, o, cap, e, _⟩
    · exact ⟨a, cap, by rw [e, e2]⟩
    · exact ⟨_, cap, e⟩
  subst hcode
  have C0 := Cu.new (bysW_oldX h (((Old.refl w).alloc (.cells #[.bool false, .slice none 0 0] 25)).alloc (.cells #[.bool false, .slice none 0 0] 25)))
  rw [show ((w.alloc (.cells #[.bool false, .slice none 0 0] 25)).alloc (.cells #[.bool false, .slice none 0 0] 25)).heap.size = w.heap.size + 1 + 1 by simp] at C0
  have HO0 : Hid (Old w (((w.alloc (.cells #[.bool false, .slice none 0 0] 25)).alloc (.cells #[.bool false, .slice none 0 0] 25)).alloc (.cells #[.slice ca0 len ccap, .int .i64 0, .int .u64 0] 45))) := (((Old.refl w).alloc _).alloc _).alloc _
  have P0 : Hid (Bk (((w.alloc (.cells #[.bool false, .slice none 0 0] 25)).alloc (.cells #[.bool false, .slice none 0 0] 25)).alloc (.cells #[.slice ca0 len ccap, .int .i64 0, .int .u64 0] 45)) w.heap.size #[.bool false, .slice none 0 0] 25) := ((Bk.new' w _ _ rfl).alloc _).alloc _
  have P1 : Hid (Bk (((w.alloc (.cells #[.bool false, .slice none 0 0] 25)).alloc (.cells #[.bool false, .slice none 0 0] 25)).alloc (.cells #[.slice ca0 len ccap, .int .i64 0, .int .u64 0] 45)) (w.heap.size + 1) #[.bool false, .slice none 0 0] 25) := (Bk.new' _ _ _ (by simp)).alloc _
  have c1 := whole_c C0 (by omega) hl
  have sz1 : (((w.alloc (.cells #[.bool false, .slice none 0 0] 25)).alloc (.cells #[.bool false, .slice none 0 0] 25)).alloc (.cells #[.slice ca0 len ccap, .int .i64 0, .int .u64 0] 45)).heap.size = w.heap.size + 1 + 1 + 1 := by simp
  clear h C0
  go_enter Tryd.func19, Tryd.ntmps19
  go_wp2_with fail
  refine c1.mono ?_
  rintro e w1 ⟨n, a, ca, xs, rfl, hx, g1, C1, o1⟩
  have HX : Hid (xs.length ≤ 41) := hx
  have HO1 : Hid (Old w (w1.alloc (.cells #[.bool n, .slice a xs.length ca] 25))) := (HO0.out.chg g1 (by omega)).alloc _
  have Q0 : Hid (Bk (w1.alloc (.cells #[.bool n, .slice a xs.length ca] 25)) w.heap.size #[.bool false, .slice none 0 0] 25) := (P0.out.chg g1 (Or.inl (by omega))).alloc _
  have Q1 : Hid (Bk (w1.alloc (.cells #[.bool n, .slice a xs.length ca] 25)) (w.heap.size + 1) #[.bool false, .slice none 0 0] 25) := (P1.out.chg g1 (Or.inl (by omega))).alloc _
  have QA : Hid (Bk (w1.alloc (.cells #[.bool n, .slice a xs.length ca] 25)) w1.heap.size #[.bool n, .slice a xs.length ca] 25) := Bk.new' w1 _ _ rfl
  have RA : Hid (RwB (w.heap.size + 1 + 1 + 1) w1.heap.size (w1.alloc (.cells #[.bool n, .slice a xs.length ca] 25)) (.slice a xs.length ca) xs) := ((RwB.own o1).mono (by rw [sz1]; exact Nat.le_refl _) (Nat.le_refl _)).old ((Old.refl w1).alloc _)
  have lc1 : (w.heap.size + 1 + 1) < w1.heap.size := C1.lt
  have c2 := whole_c (C1.old ((Old.refl w1).alloc (.cells #[.bool n, .slice a xs.length ca] 25))) (by omega) hl
  clear c1 g1 C1 o1 hx HO0 P0 P1 sz1
  generalize hlx : xs.length = lx at *
  have HLX : Hid (xs.length = lx) := hlx
  clear hlx
  go_wp2_with fail
  refine c2.mono ?_
  rintro e w2 ⟨m, b, cb, ys, rfl, hy, g2, C2, o2⟩
  have HY : Hid (ys.length ≤ 41) := hy
  have lc2 : w1.heap.size < w2.heap.size := Nat.lt_of_lt_of_le QA.out.lt g2.size
  have HO2 : Hid (Old w (w2.alloc (.cells #[.bool m, .slice b ys.length cb] 25))) := (HO1.out.chg g2 (by omega)).alloc _
  have T0 : Hid (Bk (w2.alloc (.cells #[.bool m, .slice b ys.length cb] 25)) w.heap.size #[.bool false, .slice none 0 0] 25) := (Q0.out.chg g2 (Or.inl (by omega))).alloc _
  have T1 : Hid (Bk (w2.alloc (.cells #[.bool m, .slice b ys.length cb] 25)) (w.heap.size + 1) #[.bool false, .slice none 0 0] 25) := (Q1.out.chg g2 (Or.inl (by omega))).alloc _
  have TA : Hid (Bk (w2.alloc (.cells #[.bool m, .slice b ys.length cb] 25)) w1.heap.size #[.bool n, .slice a lx ca] 25) := (QA.out.chg g2 (Or.inr (by omega))).alloc _
  have TB : Hid (Bk (w2.alloc (.cells #[.bool m, .slice b ys.length cb] 25)) w2.heap.size #[.bool m, .slice b ys.length cb] 25) := Bk.new' w2 _ _ rfl
  have SA : Hid (RwB (w.heap.size + 3) w1.heap.size (w2.alloc (.cells #[.bool m, .slice b ys.length cb] 25)) (.slice a lx ca) xs) := ((RA.out.chg g2 (Or.inl (by omega))).old ((Old.refl w2).alloc _)).mono (by omega) (Nat.le_refl _)
  have SB : Hid (RwB (w.heap.size + 3) w2.heap.size (w2.alloc (.cells #[.bool m, .slice b ys.length cb] 25)) (.slice b ys.length cb) ys) := ((RwB.own o2).old ((Old.refl w2).alloc _)).mono (by simp; omega) (Nat.le_refl _)
  have c3 := one_c (C2.old ((Old.refl w2).alloc (.cells #[.bool m, .slice b ys.length cb] 25))) (by omega) hl 8 (by omega) (by omega)
  clear c2 g2 o2 hy HO1 Q0 Q1 QA RA C2
  generalize hly : ys.length = ly at *
  have HLY : Hid (ys.length = ly) := hly
  clear hly
  go_wp2_with fail
  refine c3.mono ?_
  rintro e w3 ⟨⟨o, rfl⟩, g3, C3⟩
  have U : Hid (TwB w w1.heap.size w2.heap.size n m a lx ca xs b ly cb ys w3) := ⟨TA.out.chg g3 (Or.inr (by omega)), TB.out.chg g3 (Or.inr (by omega)), T0.out.chg g3 (Or.inl (by omega)), T1.out.chg g3 (Or.inl (by omega)), (SA.out.chg g3 (Or.inl (by omega))).mono (by omega) (by have := g3.size; simp at this; omega), (SB.out.chg g3 (Or.inl (by omega))).mono (by omega) (by have := g3.size; simp at this; omega), HO2.out.chg g3 (by omega), ⟨HLX.out, HLX.out ▸ HX.out⟩, ⟨HLY.out, HLY.out ▸ HY.out⟩⟩
  have SA3 : Hid (RwB (w.heap.size + 2) w1.heap.size w3 (.slice a lx ca) xs) := (SA.out.chg g3 (Or.inl (by omega))).mono (by omega) (Nat.le_refl _)
  have lc3 : w2.heap.size < w3.heap.size := Nat.lt_of_lt_of_le TB.out.lt g3.size
  clear c3 g3 C3 TA TB T0 T1 SA SB HO2
  cases o
  · have x0 := U.out.px.c (i := 0) rfl
    have x1 := U.out.px.c (i := 1) rfl
    have y0 := U.out.py.c (i := 0) rfl
    have y1 := U.out.py.c (i := 1) rfl
    have s0 := U.out.r0.c (i := 0) rfl
    have s1 := U.out.r0.c (i := 1) rfl
    have s2 := U.out.r1.c (i := 0) rfl
    have s3 := U.out.r1.c (i := 1) rfl
    have t0 := frozen_of_row _ _ 0 _ _ U.out.r0
    have t1 := frozen_of_row _ _ 1 _ _ U.out.r0
    have t2 := frozen_of_row _ _ 0 _ _ U.out.r1
    have t3 := frozen_of_row _ _ 1 _ _ U.out.r1
    have HE := hid U.out.ends
    go_wp2_with fail
    go_region
    all_goals
      go_wp2_with fail
      have q0 := HE.out.1.c (i := 0) rfl
      have q1 := HE.out.1.c (i := 1) rfl
      have q2 := HE.out.2.1.c (i := 0) rfl
      have q3 := HE.out.2.1.c (i := 1) rfl
      refine bodyPost_ret (v := .tuple #[.agg #[.bool n, .slice a lx ca], .agg #[.bool m, .slice b ly cb]]) (by simp [results, Tryd.results19, go_sem, q0, q1, q2, q3]) rfl ?_
      exact HE.out.2.2.drewX 1
  · have x0 := U.out.px.c (i := 0) rfl
    have x1 := U.out.px.c (i := 1) rfl
    have y0 := U.out.py.c (i := 0) rfl
    have y1 := U.out.py.c (i := 1) rfl
    have z0 := frozen_of_row _ _ 0 _ _ U.out.py
    have z1 := frozen_of_row _ _ 1 _ _ U.out.py
    have V : Hid (TwB w w1.heap.size w2.heap.size n n a lx ca xs a lx ca xs ((w3.setCell ⟨w2.heap.size, 0, none⟩ (.bool n)).setCell ⟨w2.heap.size, 1, none⟩ (.slice a lx ca))) := ⟨bk_other (bk_other U.out.px (by show w1.heap.size ≠ w2.heap.size; omega) _) (by show w1.heap.size ≠ w2.heap.size; omega) _, bk_put1W (bk_put0W U.out.py _) _, bk_other (bk_other U.out.r0 (by show w.heap.size ≠ w2.heap.size; omega) _) (by show w.heap.size ≠ w2.heap.size; omega) _, bk_other (bk_other U.out.r1 (by show w.heap.size + 1 ≠ w2.heap.size; omega) _) (by show w.heap.size + 1 ≠ w2.heap.size; omega) _, ((SA3.out.set (p := ⟨w2.heap.size, 0, none⟩) (Or.inr (by show w1.heap.size ≤ w2.heap.size; omega)) _).set (p := ⟨w2.heap.size, 1, none⟩) (Or.inr (by show w1.heap.size ≤ w2.heap.size; omega)) _).mono (Nat.le_refl _) (by simp [World.size_setCell]; omega), ((SA3.out.set (p := ⟨w2.heap.size, 0, none⟩) (Or.inr (by show w1.heap.size ≤ w2.heap.size; omega)) _).set (p := ⟨w2.heap.size, 1, none⟩) (Or.inr (by show w1.heap.size ≤ w2.heap.size; omega)) _).mono (Nat.le_refl _) (by simp [World.size_setCell]; omega), (U.out.go.own (p := ⟨w2.heap.size, 0, none⟩) (by show w.heap.size ≤ w2.heap.size; omega) _).own (p := ⟨w2.heap.size, 1, none⟩) (by show w.heap.size ≤ w2.heap.size; omega) _, U.out.lx', U.out.lx'⟩
    clear SA3 U
    have x0 := V.out.px.c (i := 0) rfl
    have x1 := V.out.px.c (i := 1) rfl
    have y0 := V.out.py.c (i := 0) rfl
    have y1 := V.out.py.c (i := 1) rfl
    have s0 := V.out.r0.c (i := 0) rfl
    have s1 := V.out.r0.c (i := 1) rfl
    have s2 := V.out.r1.c (i := 0) rfl
    have s3 := V.out.r1.c (i := 1) rfl
    have t0 := frozen_of_row _ _ 0 _ _ V.out.r0
    have t1 := frozen_of_row _ _ 1 _ _ V.out.r0
    have t2 := frozen_of_row _ _ 0 _ _ V.out.r1
    have t3 := frozen_of_row _ _ 1 _ _ V.out.r1
    have HE := hid V.out.ends
    go_wp2_with fail
    go_region
    all_goals
      go_wp2_with fail
      have q0 := HE.out.1.c (i := 0) rfl
      have q1 := HE.out.1.c (i := 1) rfl
      have q2 := HE.out.2.1.c (i := 0) rfl
      have q3 := HE.out.2.1.c (i := 1) rfl
      refine bodyPost_ret (v := .tuple #[.agg #[.bool n, .slice a lx ca], .agg #[.bool n, .slice a lx ca]]) (by simp [results, Tryd.results19, go_sem, q0, q1, q2, q3]) rfl ?_
      exact HE.out.2.2.drewX 1
set_option maxRecDepth 100000 in
set_option maxHeartbeats 8000000 in
theorem drawDiv_c (w : World) (code : Value) (len : Nat) (h : BysW w code len) (hl : len ≤ 9223372036854775807) :
    Calls Tryd.prog 5 #[code] w (TwoW w) := by
  obtain ⟨ca0, ccap, hcode⟩ : ∃ ca ccap, code = .slice ca len ccap := by
    rcases h with ⟨a, cap, e, e2⟩ | ⟨b, o, cap, e, _⟩
    · exact ⟨a, cap, by rw [e, e2]⟩
    · exact ⟨_, cap, e⟩
  subst hcode
  have HH : Hid (BysW w (.slice ca0 len ccap) len) := h
  have HO0 : Hid (Old w ((w.alloc (.cells #[.bool false, .slice none 0 0] 25)).alloc (.cells #[.bool false, .slice none 0 0] 25))) := ((Old.refl w).alloc _).alloc _
  have P0 : Hid (Bk ((w.alloc (.cells #[.bool false, .slice none 0 0] 25)).alloc (.cells #[.bool false, .slice none 0 0] 25)) w.heap.size #[.bool false, .slice none 0 0] 25) := (Bk.new' w _ _ rfl).alloc _
  have P1 : Hid (Bk ((w.alloc (.cells #[.bool false, .slice none 0 0] 25)).alloc (.cells #[.bool false, .slice none 0 0] 25)) (w.heap.size + 1) #[.bool false, .slice none 0 0] 25) := Bk.new' _ _ _ (by simp)
  have sz0 : ((w.alloc (.cells #[.bool false, .slice none 0 0] 25)).alloc (.cells #[.bool false, .slice none 0 0] 25)).heap.size = w.heap.size + 2 := by simp
  have c1 := two_c ((w.alloc (.cells #[.bool false, .slice none 0 0] 25)).alloc (.cells #[.bool false, .slice none 0 0] 25)) (.slice ca0 len ccap) len (bysW_oldX h HO0.out) hl
  clear h
  go_enter Tryd.func5, Tryd.ntmps5
  go_wp2_with fail
  refine c1.mono ?_
  rintro e w1 ⟨n, a, ca, xs, m, b, cb, ys, rfl, g1, rx, ry, hx, hy⟩
  obtain ⟨lx, hlx⟩ : ∃ lx, xs.length = lx := ⟨_, rfl⟩
  obtain ⟨ly, hly⟩ : ∃ ly, ys.length = ly := ⟨_, rfl⟩
  rw [hlx] at rx hx
  rw [hly] at ry hy
  rw [hlx, hly]
  have HLX : Hid (xs.length = lx ∧ lx ≤ 41) := ⟨hlx, hx⟩
  have HLY : Hid (ys.length = ly ∧ ly ≤ 41) := ⟨hly, hy⟩
  have lw : w.heap.size + 2 ≤ w1.heap.size := by have := g1.size; omega
  have HO1 : Hid (Old w (((w1.alloc (.cells #[.bool n, .slice a lx ca] 25)).alloc (.cells #[.bool m, .slice b ly cb] 25)).alloc (.cells #[.slice ca0 len ccap, .int .i64 0, .int .u64 0] 45))) := (((Old.trans HO0.out g1).alloc _).alloc _).alloc _
  have C1 := Cu.new (bysW_oldX HH.out (((Old.trans HO0.out g1).alloc (.cells #[.bool n, .slice a lx ca] 25)).alloc (.cells #[.bool m, .slice b ly cb] 25)))
  rw [show ((w1.alloc (.cells #[.bool n, .slice a lx ca] 25)).alloc (.cells #[.bool m, .slice b ly cb] 25)).heap.size = w1.heap.size + 1 + 1 by simp] at C1
  have Q0 : Hid (Bk (((w1.alloc (.cells #[.bool n, .slice a lx ca] 25)).alloc (.cells #[.bool m, .slice b ly cb] 25)).alloc (.cells #[.slice ca0 len ccap, .int .i64 0, .int .u64 0] 45)) w.heap.size #[.bool false, .slice none 0 0] 25) := (((P0.out.old g1).alloc _).alloc _).alloc _
  have Q1 : Hid (Bk (((w1.alloc (.cells #[.bool n, .slice a lx ca] 25)).alloc (.cells #[.bool m, .slice b ly cb] 25)).alloc (.cells #[.slice ca0 len ccap, .int .i64 0, .int .u64 0] 45)) (w.heap.size + 1) #[.bool false, .slice none 0 0] 25) := (((P1.out.old g1).alloc _).alloc _).alloc _
  have QA : Hid (Bk (((w1.alloc (.cells #[.bool n, .slice a lx ca] 25)).alloc (.cells #[.bool m, .slice b ly cb] 25)).alloc (.cells #[.slice ca0 len ccap, .int .i64 0, .int .u64 0] 45)) w1.heap.size #[.bool n, .slice a lx ca] 25) := ((Bk.new' w1 _ _ rfl).alloc _).alloc _
  have QB : Hid (Bk (((w1.alloc (.cells #[.bool n, .slice a lx ca] 25)).alloc (.cells #[.bool m, .slice b ly cb] 25)).alloc (.cells #[.slice ca0 len ccap, .int .i64 0, .int .u64 0] 45)) (w1.heap.size + 1) #[.bool m, .slice b ly cb] 25) := (Bk.new' _ _ _ (by simp)).alloc _
  have RX : Hid (RwB (w.heap.size + 2) w1.heap.size (((w1.alloc (.cells #[.bool n, .slice a lx ca] 25)).alloc (.cells #[.bool m, .slice b ly cb] 25)).alloc (.cells #[.slice ca0 len ccap, .int .i64 0, .int .u64 0] 45)) (.slice a lx ca) xs) := (rx.old ((((Old.refl w1).alloc _).alloc _).alloc _)).mono (by omega) (Nat.le_refl _)
  have RY : Hid (RwB (w.heap.size + 2) w1.heap.size (((w1.alloc (.cells #[.bool n, .slice a lx ca] 25)).alloc (.cells #[.bool m, .slice b ly cb] 25)).alloc (.cells #[.slice ca0 len ccap, .int .i64 0, .int .u64 0] 45)) (.slice b ly cb) ys) := (ry.old ((((Old.refl w1).alloc _).alloc _).alloc _)).mono (by omega) (Nat.le_refl _)
  have c2 := one_c C1 (by omega) hl 8 (by omega) (by omega)
  clear c1 g1 rx ry hx hy hlx hly HO0 P0 P1 C1 HH sz0
  go_wp2_with fail
  refine c2.mono ?_
  rintro e w3 ⟨⟨o, rfl⟩, g3, C3⟩
  have lc3 : w1.heap.size + 1 + 1 < w3.heap.size := C3.lt
  have SX : Hid (RwB (w.heap.size + 2) w1.heap.size w3 (.slice a lx ca) xs) := RX.out.chg g3 (Or.inr (by omega))
  have SY : Hid (RwB (w.heap.size + 2) w1.heap.size w3 (.slice b ly cb) ys) := RY.out.chg g3 (Or.inr (by omega))
  have U : Hid (TwB w w1.heap.size (w1.heap.size + 1) n m a lx ca xs b ly cb ys w3) := ⟨QA.out.chg g3 (Or.inl (by omega)), QB.out.chg g3 (Or.inl (by omega)), Q0.out.chg g3 (Or.inl (by omega)), Q1.out.chg g3 (Or.inl (by omega)), SX.out.mono (Nat.le_refl _) (by omega), SY.out.mono (Nat.le_refl _) (by omega), HO1.out.chg g3 (by omega), HLX.out, HLY.out⟩
  clear c2 g3 C3 QA QB Q0 Q1 RX RY HO1
  cases o
  · have y0 := U.out.py.c (i := 0) rfl
    have y1 := U.out.py.c (i := 1) rfl
    have z0 := frozen_of_row _ _ 0 _ _ U.out.py
    have z1 := frozen_of_row _ _ 1 _ _ U.out.py
    have V : Hid (TwB w w1.heap.size (w1.heap.size + 1) n false a lx ca xs b ly cb ys (w3.setCell ⟨w1.heap.size + 1, 0, none⟩ (.bool false))) := ⟨bk_other U.out.px (by show w1.heap.size ≠ w1.heap.size + 1; omega) _, bk_put0W U.out.py _, bk_other U.out.r0 (by show w.heap.size ≠ w1.heap.size + 1; omega) _, bk_other U.out.r1 (by show w.heap.size + 1 ≠ w1.heap.size + 1; omega) _, (SX.out.set (p := ⟨w1.heap.size + 1, 0, none⟩) (Or.inr (by show w1.heap.size ≤ w1.heap.size + 1; omega)) _).mono (Nat.le_refl _) (by simp [World.size_setCell]; omega), (SY.out.set (p := ⟨w1.heap.size + 1, 0, none⟩) (Or.inr (by show w1.heap.size ≤ w1.heap.size + 1; omega)) _).mono (Nat.le_refl _) (by simp [World.size_setCell]; omega), U.out.go.own (p := ⟨w1.heap.size + 1, 0, none⟩) (by show w.heap.size ≤ w1.heap.size + 1; omega) _, HLX.out, HLY.out⟩
    clear U SX SY
    have x0 := V.out.px.c (i := 0) rfl
    have x1 := V.out.px.c (i := 1) rfl
    have y0 := V.out.py.c (i := 0) rfl
    have y1 := V.out.py.c (i := 1) rfl
    have s0 := V.out.r0.c (i := 0) rfl
    have s1 := V.out.r0.c (i := 1) rfl
    have s2 := V.out.r1.c (i := 0) rfl
    have s3 := V.out.r1.c (i := 1) rfl
    have t0 := frozen_of_row _ _ 0 _ _ V.out.r0
    have t1 := frozen_of_row _ _ 1 _ _ V.out.r0
    have t2 := frozen_of_row _ _ 0 _ _ V.out.r1
    have t3 := frozen_of_row _ _ 1 _ _ V.out.r1
    have HE := hid V.out.ends
    go_wp2_with fail
    go_region
    all_goals
      go_wp2_with fail
      have q0 := HE.out.1.c (i := 0) rfl
      have q1 := HE.out.1.c (i := 1) rfl
      have q2 := HE.out.2.1.c (i := 0) rfl
      have q3 := HE.out.2.1.c (i := 1) rfl
      refine bodyPost_ret (v := .tuple #[.agg #[.bool n, .slice a lx ca], .agg #[.bool false, .slice b ly cb]]) (by simp [results, Tryd.results5, go_sem, q0, q1, q2, q3]) rfl ?_
      exact HE.out.2.2.drewX 1
  · have x0 := U.out.px.c (i := 0) rfl
    have x1 := U.out.px.c (i := 1) rfl
    have y0 := U.out.py.c (i := 0) rfl
    have y1 := U.out.py.c (i := 1) rfl
    have s0 := U.out.r0.c (i := 0) rfl
    have s1 := U.out.r0.c (i := 1) rfl
    have s2 := U.out.r1.c (i := 0) rfl
    have s3 := U.out.r1.c (i := 1) rfl
    have t0 := frozen_of_row _ _ 0 _ _ U.out.r0
    have t1 := frozen_of_row _ _ 1 _ _ U.out.r0
    have t2 := frozen_of_row _ _ 0 _ _ U.out.r1
    have t3 := frozen_of_row _ _ 1 _ _ U.out.r1
    have HE := hid U.out.ends
    go_wp2_with fail
    go_region
    all_goals
      go_wp2_with fail
      have q0 := HE.out.1.c (i := 0) rfl
      have q1 := HE.out.1.c (i := 1) rfl
      have q2 := HE.out.2.1.c (i := 0) rfl
      have q3 := HE.out.2.1.c (i := 1) rfl
      refine bodyPost_ret (v := .tuple #[.agg #[.bool n, .slice a lx ca], .agg #[.bool m, .slice b ly cb]]) (by simp [results, Tryd.results5, go_sem, q0, q1, q2, q3]) rfl ?_
      exact HE.out.2.2.drewX 1
end Go.Proofs.YtjedpceiimceoaaDoor
