/- Proved: several texts in one: what each proves is said ahead of it. -/
import Derived.Test.YtglbegbhekcddaaDoorRw13
import Derived.Test.YtglbegbhekcddaaDoorRw12
import Derived.Test.YtglbegbhekcddaaDoorBack
import Derived.Test.YtglbegbhekcddaaDoorRw02
import Derived.Test.YtglbegbhekcddaaDoorRw03
import Derived.Test.YtglbegbhekcddaaDoorRw18
import Derived.Test.YtglbegbhekcddaaDoorRw21
import Derived.Test.YtglbegbhekcddaaDoorRw22
import Derived.Test.YtglbegbhekcddaaDoorPls
import Derived.Test.YtglbegbhekcddaaDoorRw19
/- Proved: the program's eachPair where both are good, whatever the join. -/
namespace Go.Proofs.YtglbegbhekcddaaDoor
open Go.ChangeShapes Go.WideShapes Go.ChangeAt Go.RowKit
set_option linter.unusedVariables false
set_option linter.unusedSimpArgs false
def slotEp (i : Nat) : Nat := [40, 41, 42, 43, 44, 45, 46, 47].getD i 0
theorem slotEp_lt : ∀ i, i < 8 → slotEp i < 48 := by decide
theorem slotEp_inj : ∀ i, i < 8 → ∀ j, j < 8 → slotEp i = slotEp j → i = j := by decide
theorem slotEp_no : ∀ s, s < 30 → ∀ i, i < 8 → slotEp i ≠ s := by decide
def qEp (k : Nat) (n : Bool) (v1 v2 fv : Value) (E : Thing) (L : Nat) (zss : List (List Int)) (base : Nat) (i : Nat) (W : World) (xv : Value) : Prop :=
  match i with
  | 0 => xv = .pointer (some ⟨k, 0, none⟩)
  | 1 => xv = .bool n
  | 2 => xv = v1
  | 3 => xv = v2
  | 4 => xv = fv
  | 5 => ∃ a c, xv = .slice a L c ∧ Ows E W base W.heap.size [xv]
  | 6 => ∃ a c, xv = .slice a zss.length c ∧ OwS zss W base W.heap.size xv
  | 7 => ∃ a c, xv = .agg #[.bool n, .slice a zss.length c] ∧ OwS zss W base W.heap.size (.slice a zss.length c)
  | _ => True
theorem growE {xss : List (List Int)} {W W' : World} {lo : Nat} {v : Value} (h : OwS xss W lo W.heap.size v) (g : Old W W') : OwS xss W' lo W'.heap.size v :=
  ((far_OwS xss).old h g (Nat.le_refl _)).high g.size (Nat.le_refl _)
theorem qEp_old (k : Nat) (n : Bool) (v1 v2 fv : Value) (E : Thing) (gE : GoodT E) (L : Nat) (zss : List (List Int)) (base : Nat) (i : Nat) (W W' : World) (xv : Value) (h : qEp k n v1 v2 fv E L zss base i W xv) (qo : Old W W') : qEp k n v1 v2 fv E L zss base i W' xv := by
  unfold qEp at h ⊢
  split at h
  case h_6 =>
    obtain ⟨a, c, e, o⟩ := h
    exact ⟨a, c, e, (Ows.old gE o qo).low (Nat.le_refl _) qo.size (Nat.le_refl _)⟩
  case h_7 =>
    obtain ⟨a, c, e, o⟩ := h
    exact ⟨a, c, e, growE o qo⟩
  case h_8 =>
    obtain ⟨a, c, e, o⟩ := h
    exact ⟨a, c, e, growE o qo⟩
  all_goals first | exact h | trivial
set_option maxRecDepth 100000 in
set_option maxHeartbeats 8000000 in
theorem reg_ep (w0 : World) (k kr : Nat) (n : Bool) (ax : Option Addr) (lx cx : Nat) (x1 : Option Addr) (n1 y1 : Nat) (x2 : Option Addr) (n2 y2 : Nat) (fv : Value) (E : Thing) (gE : GoodT E) (L : Nat) (zss : List (List Int)) (hE : ∀ W lo hi v, Ows E W lo hi [v] → ∃ a c, v = .slice a L c)
    (bA : w0.heap[k]? = some (.cells #[.bool n, .slice ax lx cx] 28 (0, 0))) (bK : w0.heap[kr]? = some (.cells #[.bool false, .slice none 0 0] 28 (0, 0)))
    (KJ : ∀ W, Old w0 W → Calls Tryd.prog 28 #[.slice x1 n1 y1, .slice x2 n2 y2, fv] W fun e w' => ∃ v', e = .returned v' ∧ Old W w' ∧ Ows E w' W.heap.size w'.heap.size [v'])
    (KN : ∀ W v lo, Ows E W lo W.heap.size [v] → lo ≤ W.heap.size → Calls Tryd.prog 27 #[v] W fun e w' => ∃ v', e = .returned v' ∧ Old W w' ∧ OwS zss w' lo w'.heap.size v')
    (Q : Exit → Act → World → Prop) (a0 : Act) (hsz : a0.tmps.size = 48)
    (ha3 : a0.eval (.tmp 3) = fv) (ha5 : a0.eval (.tmp 5) = .pointer (some ⟨k, 0, none⟩)) (ha8 : a0.eval (.tmp 8) = .pointer (some ⟨kr, 0, none⟩)) (ha10 : a0.eval (.tmp 10) = .slice x1 n1 y1) (ha12 : a0.eval (.tmp 12) = .slice x2 n2 y2)
    (HK : Hid (∀ (us : Nat → Value) W a c, Old w0 W → OwS zss W w0.heap.size W.heap.size (.slice a zss.length c) → Q .normal ((putAll a0 ((List.range 8).map fun i => (slotEp i, us i))).put (some 9) (.bool true)) (W.setRow kr #[.bool n, .slice a zss.length c]))) :
    Code.wp Tryd.prog ((Tryd.f13.body.bind (regionAtmul 5)).getD .skip) Q a0 w0 := by
  conv => arg 2; whnf
  have un := slotEp_no
  have pa : ∀ W, Old w0 W → W.heap[k]? = some (.cells #[.bool n, .slice ax lx cx] 28 (0, 0)) := fun W g => (g.block k (lt_of_some bA)).trans bA
  have pk : ∀ W, Old w0 W → W.heap[kr]? = some (.cells #[.bool false, .slice none 0 0] 28 (0, 0)) := fun W g => (g.block kr (lt_of_some bK)).trans bK
  refine wp_region_stas 8 rfl rfl rfl (by kernel_rfl) (by kernel_rfl) (by kernel_rfl) (by kernel_rfl) (by kernel_rfl) slotEp (fun i hi => by rw [hsz]; exact slotEp_lt i hi) (fun i j hi hj => slotEp_inj i hi j hj) (qEp k n (.slice x1 n1 y1) (.slice x2 n2 y2) fv E L zss w0.heap.size) (qEp_old k n _ _ fv E gE L zss w0.heap.size) ?_ ?_
  · refine ⟨?_, ?_, ?_, ?_, ?_, ?_, ?_, ?_, trivial⟩
    · intro a W g hF hd
      have h1 : a.eval (.tmp 5) = .pointer (some ⟨k, 0, none⟩) := (hF.same 5 (un 5 (by decide))).trans ha5
      obtain ⟨ρ, hρ⟩ : ∃ ρ, a.eval = ρ := ⟨_, rfl⟩
      rw [hρ] at h1
      refine op_val ρ hρ (.pointer (some ⟨k, 0, none⟩)) ?_ ⟨_, rfl, Old.refl _, rfl⟩
      clear g hF hd hρ ha3 ha5 ha8 ha10 ha12 HK un KJ KN bA bK pa pk
      go_simp
    · intro a W g hF hd
      have h1 : a.eval (.tmp 40) = .pointer (some ⟨k, 0, none⟩) := hd ⟨0, .data⟩ (by simp) rfl
      have hc : W.cell? ⟨k, 0, none⟩ = some (.bool n) := by rw [cell_of_row _ _ _ _ _ _ (pa W g)]; rfl
      obtain ⟨ρ, hρ⟩ : ∃ ρ, a.eval = ρ := ⟨_, rfl⟩
      rw [hρ] at h1
      refine op_val ρ hρ (.bool n) ?_ ⟨_, rfl, Old.refl _, rfl⟩
      clear g hF hd hρ ha3 ha5 ha8 ha10 ha12 HK un KJ KN bA bK pa pk
      go_simp
    · intro a W g hF hd
      refine op_move ?_
      exact ⟨_, rfl, Old.refl _, (hF.same 10 (un 10 (by decide))).trans ha10⟩
    · intro a W g hF hd
      refine op_move ?_
      exact ⟨_, rfl, Old.refl _, (hF.same 12 (un 12 (by decide))).trans ha12⟩
    · intro a W g hF hd
      refine op_move ?_
      exact ⟨_, rfl, Old.refl _, (hF.same 3 (un 3 (by decide))).trans ha3⟩
    · intro a W g hF hd
      have h2 : a.eval (.tmp 42) = .slice x1 n1 y1 := hd ⟨2, .data⟩ (by simp) rfl
      have h3 : a.eval (.tmp 43) = .slice x2 n2 y2 := hd ⟨3, .data⟩ (by simp) rfl
      have h4 : a.eval (.tmp 44) = fv := hd ⟨4, .data⟩ (by simp) rfl
      refine op_call_ret (R := fun v w' => Old W w' ∧ ∃ ra rc, v = .slice ra L rc ∧ Ows E w' W.heap.size w'.heap.size [v]) Tryd.call28 (vs := #[.slice x1 n1 y1, .slice x2 n2 y2, fv]) (by simp [h2, h3, h4]) ((KJ W g).mono fun e w' h => by
        obtain ⟨v, rfl, q, o⟩ := h
        obtain ⟨ra, rc, e⟩ := hE _ _ _ _ o
        exact ⟨_, rfl, q, ra, rc, e, o⟩) ?_
      rintro x w' ⟨g', ra, rc, rfl, o'⟩
      exact ⟨_, rfl, g', ra, rc, rfl, o'.low g.size (Nat.le_refl _) (Nat.le_refl _)⟩
    · intro a W g hF hd
      obtain ⟨ra, rc, h5, o5⟩ : ∃ a' c, a.eval (.tmp 45) = .slice a' L c ∧ Ows E W w0.heap.size W.heap.size [a.eval (.tmp 45)] := hd ⟨5, .data⟩ (by simp) rfl
      rw [h5] at o5
      refine op_call_ret (R := fun v w' => Old W w' ∧ ∃ ra rc, v = .slice ra zss.length rc ∧ OwS zss w' w0.heap.size w'.heap.size v) Tryd.call27 (vs := #[.slice ra L rc]) (by simp [h5]) ((KN W _ _ o5 g.size).mono fun e w' h => by
        obtain ⟨v, rfl, q, o⟩ := h
        obtain ⟨ra, rc, e⟩ := o.slice
        exact ⟨_, rfl, q, ra, rc, e, o⟩) ?_
      rintro x w' ⟨g', ra, rc, rfl, o'⟩
      exact ⟨_, rfl, g', ra, rc, rfl, o'⟩
    · intro a W g hF hd
      have h1 : a.eval (.tmp 41) = .bool n := hd ⟨1, .data⟩ (by simp) rfl
      obtain ⟨ra, rc, h5, o5⟩ : ∃ a' c, a.eval (.tmp 46) = .slice a' zss.length c ∧ OwS zss W w0.heap.size W.heap.size (a.eval (.tmp 46)) := hd ⟨6, .data⟩ (by simp) rfl
      rw [h5] at o5
      obtain ⟨ρ, hρ⟩ : ∃ ρ, a.eval = ρ := ⟨_, rfl⟩
      rw [hρ] at h1 h5
      refine op_val ρ hρ (.agg #[.bool n, .slice ra zss.length rc]) ?_ ⟨_, rfl, Old.refl _, ra, rc, rfl, o5⟩
      clear g hF hd hρ ha3 ha5 ha8 ha10 ha12 HK un KJ KN bA bK pa pk o5
      go_simp
  · intro a W g hF hq
    obtain ⟨ra, rc, h6, o6⟩ : ∃ a' c, a.eval (.tmp 47) = .agg #[.bool n, .slice a' zss.length c] ∧ OwS zss W w0.heap.size W.heap.size (.slice a' zss.length c) := hq 7 (by decide)
    have h2 : a.eval (.tmp 8) = .pointer (some ⟨kr, 0, none⟩) := (hF.same 8 (un 8 (by decide))).trans ha8
    have hp := fram_put hF (fun i j hi hj => slotEp_inj i hi j hj)
    have hk2 := HK.out (fun i => a.eval (.tmp (slotEp i))) W ra rc g o6
    rw [← hp] at hk2
    refine op_store (k := kr) h2 h6 (pk W g) (by kernel_rfl) rfl (by simp [Value.oneCell']) ?_
    exact op_assign hk2
set_option maxRecDepth 100000 in
set_option maxHeartbeats 4000000 in
theorem eachPair_yes_of (Nn : Nat) (ps : List Int) (a b : Bool) (xss yss : List (List Int)) (Rf : Nat → Int) (us1 us2 : Nat → Option Addr) (v : Value) (a1 a2 : Option Addr) (cap1 cap2 : Nat) (w : World) (hP : PrsW w) (hT : TabW w) (hv : Row w v ps)
    (c1 : ∀ W, PrsW W → TabW W → Old w W → Calls Tryd.prog 26 #[.agg #[.int .i64 Nn, v], .agg #[.bool a, .slice a1 xss.length cap1]] W fun e w' => Old W w' ∧ ((grB Nn ps xss = false ∧ e = .returned (.tuple #[.slice none 0 0, .bool false])) ∨ (grB Nn ps xss = true ∧ ∃ g, W.heap.size ≤ g ∧ e = .returned (.tuple #[.slice (some ⟨g, 0, none⟩) ps.length ps.length, .bool true]) ∧ RRs w' g Nn a ps Rf us1 ps.length)))
    (c2 : ∀ W, PrsW W → TabW W → Old w W → Calls Tryd.prog 26 #[.agg #[.int .i64 Nn, v], .agg #[.bool b, .slice a2 yss.length cap2]] W fun e w' => Old W w' ∧ ((grB Nn ps yss = false ∧ e = .returned (.tuple #[.slice none 0 0, .bool false])) ∨ (grB Nn ps yss = true ∧ ∃ g, W.heap.size ≤ g ∧ e = .returned (.tuple #[.slice (some ⟨g, 0, none⟩) ps.length ps.length, .bool true]) ∧ RRs w' g Nn b ps Rf us2 ps.length))) (hx : grB Nn ps xss = true) (hy : grB Nn ps yss = true) (hab : a = b) (zss : List (List Int)) (hzl : zss.length = ps.length) (hps : ps.length ≤ 6) (h1 : 1 ≤ ps.length) (fv : Value)
    (KJ : ∀ W g1 g2, Old w W → RRs W g1 Nn a ps Rf us1 ps.length → RRs W g2 Nn b ps Rf us2 ps.length → Calls Tryd.prog 28 #[.slice (some ⟨g1, 0, none⟩) ps.length ps.length, .slice (some ⟨g2, 0, none⟩) ps.length ps.length, fv] W fun e w' => ∃ v', e = .returned v' ∧ Old W w' ∧ Ows (TS 42 5 ps.length (elR Nn a ps Rf zss)) w' W.heap.size w'.heap.size [v']) :
    Calls Tryd.prog 13 #[.agg #[.int .i64 Nn, v], .agg #[.bool a, .slice a1 xss.length cap1], .agg #[.bool b, .slice a2 yss.length cap2], fv] w (Rs w a zss true) := by
  have HP : Hid (PrsW w) := hP
  have HT : Hid (TabW w) := hT
  have HX : Hid (grB Nn ps xss = true) := hx
  have HY : Hid (grB Nn ps yss = true) := hy
  have HKJ : Hid (∀ W g1 g2, Old w W → RRs W g1 Nn a ps Rf us1 ps.length → RRs W g2 Nn b ps Rf us2 ps.length → Calls Tryd.prog 28 #[.slice (some ⟨g1, 0, none⟩) ps.length ps.length, .slice (some ⟨g2, 0, none⟩) ps.length ps.length, fv] W fun e w' => ∃ v', e = .returned v' ∧ Old W w' ∧ Ows (TS 42 5 ps.length (elR Nn a ps Rf zss)) w' W.heap.size w'.heap.size [v']) := KJ
  have HZL : Hid (zss.length = ps.length) := hzl
  have HPS : Hid (1 ≤ ps.length ∧ ps.length ≤ 6) := ⟨h1, hps⟩
  subst hab
  have hne : (a != a) = false := by simp
  obtain ⟨a0, cap0, ev⟩ := hv.slice
  subst ev
  have HA : Hid (Old w ((((w.alloc (.cells #[.int .i64 Nn, .slice a0 ps.length cap0] 25)).alloc (.cells #[.bool a, .slice a1 xss.length cap1] 28)).alloc (.cells #[.bool a, .slice a2 yss.length cap2] 28)).alloc (.cells #[.bool false, .slice none 0 0] 28))) := ((((Old.refl w).alloc _).alloc _).alloc _).alloc _
  have BS : Hid (Bk ((((w.alloc (.cells #[.int .i64 Nn, .slice a0 ps.length cap0] 25)).alloc (.cells #[.bool a, .slice a1 xss.length cap1] 28)).alloc (.cells #[.bool a, .slice a2 yss.length cap2] 28)).alloc (.cells #[.bool false, .slice none 0 0] 28)) w.heap.size #[.int .i64 Nn, .slice a0 ps.length cap0] 25) := (((Bk.new' w _ _ rfl).alloc _).alloc _).alloc _
  have BA : Hid (Bk ((((w.alloc (.cells #[.int .i64 Nn, .slice a0 ps.length cap0] 25)).alloc (.cells #[.bool a, .slice a1 xss.length cap1] 28)).alloc (.cells #[.bool a, .slice a2 yss.length cap2] 28)).alloc (.cells #[.bool false, .slice none 0 0] 28)) (w.heap.size + 1) #[.bool a, .slice a1 xss.length cap1] 28) := ((Bk.new' _ _ _ (by simp)).alloc _).alloc _
  have BB : Hid (Bk ((((w.alloc (.cells #[.int .i64 Nn, .slice a0 ps.length cap0] 25)).alloc (.cells #[.bool a, .slice a1 xss.length cap1] 28)).alloc (.cells #[.bool a, .slice a2 yss.length cap2] 28)).alloc (.cells #[.bool false, .slice none 0 0] 28)) (w.heap.size + 1 + 1) #[.bool a, .slice a2 yss.length cap2] 28) := (Bk.new' _ _ _ (by simp)).alloc _
  have BR : Hid (Bk ((((w.alloc (.cells #[.int .i64 Nn, .slice a0 ps.length cap0] 25)).alloc (.cells #[.bool a, .slice a1 xss.length cap1] 28)).alloc (.cells #[.bool a, .slice a2 yss.length cap2] 28)).alloc (.cells #[.bool false, .slice none 0 0] 28)) (w.heap.size + 1 + 1 + 1) #[.bool false, .slice none 0 0] 28) := Bk.new' _ _ _ (by simp)
  clear hv hP hT hx hy KJ hzl hps h1
  go_enter Tryd.func13, Tryd.ntmps13
  go_wp2_with fail
  refine (c1 _ (HP.out.old HA.out) (HT.out.old HA.out) HA.out).mono ?_
  rintro e w1 ⟨g1, hl⟩
  rcases hl with ⟨hB, _⟩ | ⟨_, gl, _, rfl, hrr⟩
  · rw [HX.out] at hB
    cases hB
  have HG1 : Hid (Old w w1) := Old.trans HA.out g1
  have BS1 : Hid (Bk w1 w.heap.size #[.int .i64 Nn, .slice a0 ps.length cap0] 25) := BS.out.old g1
  have BA1 : Hid (Bk w1 (w.heap.size + 1) #[.bool a, .slice a1 xss.length cap1] 28) := BA.out.old g1
  have BB1 : Hid (Bk w1 (w.heap.size + 1 + 1) #[.bool a, .slice a2 yss.length cap2] 28) := BB.out.old g1
  have BR1 : Hid (Bk w1 (w.heap.size + 1 + 1 + 1) #[.bool false, .slice none 0 0] 28) := BR.out.old g1
  have HRL : Hid (RRs w1 gl Nn a ps Rf us1 ps.length) := hrr
  have z0 := BS1.out.c (i := 0) rfl
  have z1 := BS1.out.c (i := 1) rfl
  have z2 := BB1.out.c (i := 0) rfl
  have z3 := BB1.out.c (i := 1) rfl
  clear g1 hrr c1 BS BA BB BR
  go_wp2_with fail
  refine (c2 _ (HP.out.old HG1.out) (HT.out.old HG1.out) HG1.out).mono ?_
  rintro e w2 ⟨g2, hl⟩
  rcases hl with ⟨hB, _⟩ | ⟨_, gr, _, rfl, hrr⟩
  · rw [HY.out] at hB
    cases hB
  have HG2 : Hid (Old w w2) := Old.trans HG1.out g2
  have BA2 : Hid (Bk w2 (w.heap.size + 1) #[.bool a, .slice a1 xss.length cap1] 28) := BA1.out.old g2
  have BB2 : Hid (Bk w2 (w.heap.size + 1 + 1) #[.bool a, .slice a2 yss.length cap2] 28) := BB1.out.old g2
  have BR2 : Hid (Bk w2 (w.heap.size + 1 + 1 + 1) #[.bool false, .slice none 0 0] 28) := BR1.out.old g2
  have HRL2 : Hid (RRs w2 gl Nn a ps Rf us1 ps.length) := HRL.out.old g2
  have HRR2 : Hid (RRs w2 gr Nn a ps Rf us2 ps.length) := hrr
  clear z0 z1 z2 z3
  have z2 := BA2.out.c (i := 0) rfl
  have z3 := BB2.out.c (i := 0) rfl
  have hs2 := BR2.out.lt
  clear g2 hrr c2 BS1 BA1 BB1 BR1 HRL
  go_wp2_with fail
  refine reg_ep w2 (w.heap.size + 1) (w.heap.size + 1 + 1 + 1) a a1 xss.length cap1 (some ⟨gl, 0, none⟩) ps.length ps.length (some ⟨gr, 0, none⟩) ps.length ps.length fv (TS 42 5 ps.length (elR Nn a ps Rf zss)) (good_TS _ _ _ (good_elR _ _ _ _ _)) ps.length zss (fun W lo hi v h => by obtain ⟨_, B, hT, _⟩ := h; exact TS.slice hT) BA2.out BR2.out (fun W q => HKJ.out W gl gr (Old.trans HG2.out q) (HRL2.out.old q) (HRR2.out.old q)) (fun W v lo h hlo => (numbersOf_any Nn a ps Rf zss ps.length lo v W (by have := HPS.out; omega) HZL.out h hlo).mono fun e w' h => ⟨_, h.1, h.2.1, h.2.2⟩) _ _ ?_ ?_ ?_ ?_ ?_ ?_ ?_
  iterate 6 (· exact rfl)
  intro us3 W a6 c6 q6 o6
  simp only [putAll, Act.put, slotEp, List.range, List.range.loop, List.map_cons, List.map_nil, List.getD_cons_zero, List.getD_cons_succ, List.setIfInBounds_toArray, List.set_cons_succ, List.set_cons_zero]
  have hz : W.heap[w.heap.size + 1 + 1 + 1]? = some (.cells #[.bool false, .slice none 0 0] 28 (0, 0)) := BR2.out.old q6
  have HF : Bk (W.setRow (w.heap.size + 1 + 1 + 1) #[.bool a, .slice a6 zss.length c6]) (w.heap.size + 1 + 1 + 1) #[.bool a, .slice a6 zss.length c6] 28 := heap_setRow_same hz
  have hsz6 : (W.setRow (w.heap.size + 1 + 1 + 1) #[.bool a, .slice a6 zss.length c6]).heap.size = W.heap.size := by simp [World.setRow]
  have HO : Hid (OwS zss (W.setRow (w.heap.size + 1 + 1 + 1) #[.bool a, .slice a6 zss.length c6]) w.heap.size (W.setRow (w.heap.size + 1 + 1 + 1) #[.bool a, .slice a6 zss.length c6]).heap.size (.slice a6 zss.length c6)) := by
    have h0 := far_OwS zss W (W.setRow (w.heap.size + 1 + 1 + 1) #[.bool a, .slice a6 zss.length c6]) w2.heap.size W.heap.size (.slice a6 zss.length c6) o6 (fun b h1 h2 => heap_setRow_other _ _ _ _ (by omega)) (by rw [hsz6]; exact Nat.le_refl _)
    show OwS _ _ _ _ _
    rw [hsz6]
    exact h0.low HG2.out.size
  have HOL : Hid (Old w (W.setRow (w.heap.size + 1 + 1 + 1) #[.bool a, .slice a6 zss.length c6])) := old_setRow (Old.trans HG2.out q6) (by omega) _
  have q0 := HF.c (i := 0) rfl
  have q1 := HF.c (i := 1) rfl
  clear HF hz o6 q6 hsz6
  generalize (W.setRow (w.heap.size + 1 + 1 + 1) #[.bool a, .slice a6 zss.length c6]) = WF at *
  go_wp2_with fail
  exact bodyPost_ret (v := .tuple #[.agg #[.bool a, .slice a6 zss.length c6], .bool true]) (by simp [results, Tryd.results13, go_sem, q0, q1]) rfl ⟨_, rfl, HOL.out, a6, c6, rfl, HO.out⟩
end Go.Proofs.YtglbegbhekcddaaDoor
/- Proved: the program's eachPair with plus, where both are good. -/
namespace Go.Proofs.YtglbegbhekcddaaDoor
open Go.ChangeShapes Go.WideShapes Go.ChangeAt Go.RowKit
set_option linter.unusedVariables false
set_option linter.unusedSimpArgs false
theorem eachPair_plus_yes (Nn : Nat) (ps : List Int) (a b : Bool) (xss yss : List (List Int)) (Rf : Nat → Int) (us1 us2 : Nat → Option Addr) (v : Value) (a1 a2 : Option Addr) (cap1 cap2 : Nat) (w : World) (hP : PrsW w) (hT : TabW w) (hv : Row w v ps)
    (c1 : ∀ W, PrsW W → TabW W → Old w W → Calls Tryd.prog 26 #[.agg #[.int .i64 Nn, v], .agg #[.bool a, .slice a1 xss.length cap1]] W fun e w' => Old W w' ∧ ((grB Nn ps xss = false ∧ e = .returned (.tuple #[.slice none 0 0, .bool false])) ∨ (grB Nn ps xss = true ∧ ∃ g, W.heap.size ≤ g ∧ e = .returned (.tuple #[.slice (some ⟨g, 0, none⟩) ps.length ps.length, .bool true]) ∧ RRs w' g Nn a ps Rf us1 ps.length)))
    (c2 : ∀ W, PrsW W → TabW W → Old w W → Calls Tryd.prog 26 #[.agg #[.int .i64 Nn, v], .agg #[.bool b, .slice a2 yss.length cap2]] W fun e w' => Old W w' ∧ ((grB Nn ps yss = false ∧ e = .returned (.tuple #[.slice none 0 0, .bool false])) ∨ (grB Nn ps yss = true ∧ ∃ g, W.heap.size ≤ g ∧ e = .returned (.tuple #[.slice (some ⟨g, 0, none⟩) ps.length ps.length, .bool true]) ∧ RRs w' g Nn b ps Rf us2 ps.length))) (hx : grB Nn ps xss = true) (hy : grB Nn ps yss = true) (hab : a = b) (zss : List (List Int)) (hzl : zss.length = ps.length) (hps : ps.length ≤ 6)
    (cj : ∀ k, k < ps.length → (zss.getD k []).length = Nn ∧ ∀ W, Old w W → Calls Tryd.prog 19 #[.agg #[.int .i64 (ps.getD k 0), .int .i64 Nn, .int .i64 (Rf k), .bool a, .slice (us1 k) Nn Nn], .agg #[.int .i64 (ps.getD k 0), .int .i64 Nn, .int .i64 (Rf k), .bool b, .slice (us2 k) Nn Nn]] W fun e w' => ∃ g, e = .returned (.slice (some ⟨g, 0, none⟩) Nn Nn) ∧ Old W w' ∧ Own w' W.heap.size (.slice (some ⟨g, 0, none⟩) Nn Nn) (zss.getD k [])) :
    Calls Tryd.prog 13 #[.agg #[.int .i64 Nn, v], .agg #[.bool a, .slice a1 xss.length cap1], .agg #[.bool b, .slice a2 yss.length cap2], .func (.func 19) #[] #[]] w (Rs w a zss true) := by
  have h1 : 1 ≤ ps.length := by
    unfold grB at hx
    rw [Bool.and_eq_true] at hx
    exact ((bas_at (sp_ring hx.1).2.1).1).1
  refine eachPair_yes_of Nn ps a b xss yss Rf us1 us2 v a1 a2 cap1 cap2 w hP hT hv c1 c2 hx hy hab zss hzl hps h1 _ (fun W g1 g2 q r1 r2 => ?_)
  refine (joined_plus Nn a ps Rf _ _ ps Rf b _ _ ps.length W r1.rd (fun k hk => ⟨_, _, _, rfl⟩) r2.rd (fun k hk => ⟨_, _, _, rfl⟩) (by omega) zss (fun k hk W' g => ?_)).mono fun e w' h => ⟨_, h.1, h.2.1, h.2.2⟩
  have h := (cj k hk).2 W' (Old.trans q g)
  show Calls _ _ #[.agg #[.int .i64 (ps.getD k 0), .int .i64 (Nn : Int), .int .i64 (Rf k), .bool a, .slice (us1 k) ((Nn : Int).toNat) ((Nn : Int).toNat)], .agg #[.int .i64 (ps.getD k 0), .int .i64 (Nn : Int), .int .i64 (Rf k), .bool b, .slice (us2 k) ((Nn : Int).toNat) ((Nn : Int).toNat)]] _ _
  rw [show ((Nn : Int).toNat) = Nn by omega]
  refine h.mono fun e w' h => ?_
  obtain ⟨g', rfl, q1, q2⟩ := h
  exact ⟨_, rfl, q1, q2⟩
end Go.Proofs.YtglbegbhekcddaaDoor
/- Proved: the program's AddRows. -/
namespace Go.Proofs.YtglbegbhekcddaaDoor
open Go.ChangeShapes Go.WideShapes Go.ChangeAt Go.RowKit
open M1
set_option linter.unusedVariables false
set_option linter.unusedSimpArgs false
set_option maxRecDepth 100000 in
set_option maxHeartbeats 4000000 in
theorem impl_AddRows_of (N : Int) (a b : Bool) (a0 a1 a2 : Option Addr) (l0 l1 l2 cap0 cap1 cap2 : Nat) (w : World) (n : Bool) (zss : List (List Int)) (ok : Bool)
    (c : ∀ W, Old w W → Calls Tryd.prog 13 #[.agg #[.int .i64 N, .slice a0 l0 cap0], .agg #[.bool a, .slice a1 l1 cap1], .agg #[.bool b, .slice a2 l2 cap2], .func (.func 19) #[] #[]] W (Rs W n zss ok)) :
    Calls Tryd.prog 8 #[.agg #[.int .i64 N, .slice a0 l0 cap0], .agg #[.bool a, .slice a1 l1 cap1], .agg #[.bool b, .slice a2 l2 cap2]] w (Rs w n zss ok) := by
  have HA : Hid (Old w ((((w.alloc (.cells #[.int .i64 N, .slice a0 l0 cap0] 25)).alloc (.cells #[.bool a, .slice a1 l1 cap1] 28)).alloc (.cells #[.bool b, .slice a2 l2 cap2] 28)).alloc (.cells #[.bool false, .slice none 0 0] 28))) := ((((Old.refl w).alloc _).alloc _).alloc _).alloc _
  have HS : Hid (StW ((((w.alloc (.cells #[.int .i64 N, .slice a0 l0 cap0] 25)).alloc (.cells #[.bool a, .slice a1 l1 cap1] 28)).alloc (.cells #[.bool b, .slice a2 l2 cap2] 28)).alloc (.cells #[.bool false, .slice none 0 0] 28)) (w.heap.size + 1 + 1 + 1) (.bool false) (.slice none 0 0) 28) := by
    have := StW.new (((w.alloc (.cells #[.int .i64 N, .slice a0 l0 cap0] 25)).alloc (.cells #[.bool a, .slice a1 l1 cap1] 28)).alloc (.cells #[.bool b, .slice a2 l2 cap2] 28)) (.bool false) (.slice none 0 0) 28
    simp at this
    exact this
  go_enter Tryd.func8, Tryd.ntmps8
  go_wp2_with fail
  refine (c _ HA.out).mono ?_
  rintro e w1 ⟨r0, rfl, g1, x1⟩
  obtain ⟨ax, cx, rfl, ox⟩ := x1
  have HG1 : Hid (Old w w1) := Old.trans HA.out g1
  have S1 : Hid (StW w1 (w.heap.size + 1 + 1 + 1) (.bool false) (.slice none 0 0) 28) := HS.out.old g1
  have OX : Hid (OwS zss w1 (w.heap.size + 1 + 1 + 1 + 1) w1.heap.size (.slice ax zss.length cx)) := by
    simp at ox
    exact ox
  have q0 := S1.out.c0
  have q1 := S1.out.c1
  have f0 := S1.out.f0
  have f1 := S1.out.f1
  clear g1 ox
  go_wp2_with fail
  refine bodyPost_ret (ret_rb Tryd.results8 _ _ rfl rfl (st_put2 S1.out _ _)) rfl ⟨_, rfl, ?_, ax, cx, rfl, ?_⟩
  · exact (HG1.out.own (p := ⟨w.heap.size + 1 + 1 + 1, 0, none⟩) (by simp; omega) _).own (p := ⟨w.heap.size + 1 + 1 + 1, 1, none⟩) (by simp; omega) _
  · have h2 := (OX.out.put (k := w.heap.size + 1 + 1 + 1) (j := 0) (x := .bool n) (by omega)).put (k := w.heap.size + 1 + 1 + 1) (j := 1) (x := .slice ax zss.length cx) (by omega)
    have h3 := h2.low (lo' := w.heap.size) (by omega)
    exact h3.high (by simp) (Nat.le_refl _)
theorem two_of {N : Int} {ps : List Int} {a b : Bool} {xss yss : List (List Int)} : twoB N ps a b xss yss = true ↔ (grB N ps xss = true ∧ grB N ps yss = true ∧ a = b) := by
  unfold twoB grB
  cases spB N ps <;> cases rwB N ps xss <;> cases rwB N ps yss <;> cases a <;> cases b <;> simp
theorem OwS.ats {xss : List (List Int)} {W : World} {lo hi : Nat} {v : Value} (ps : List Int) (h : OwS xss W lo hi v) : ∃ us cs, 0 < xss.length → RowsAt W v ps xss us cs := by
  rcases Nat.eq_zero_or_pos xss.length with h0 | h0
  · exact ⟨fun _ => none, fun _ => 0, fun h => by omega⟩
  · obtain ⟨us, cs, h⟩ := h.at ps h0
    exact ⟨us, cs, fun _ => h⟩
theorem impl_AddRows (N : Int) (ps : List Int) (a b : Bool) (xss yss : List (List Int)) (v u1 u2 : Value) (w : World) (lo1 hi1 lo2 hi2 : Nat) (hP : PrsW w) (hT : TabW w) (hv : Row w v ps) (hf : Fit v) (h1 : OwS xss w lo1 hi1 u1) (h2 : OwS yss w lo2 hi2 u2) (hlp : ps.length ≤ 1048576) (hl1 : xss.length ≤ 1048576) (hr1 : ∀ r ∈ xss, r.length ≤ 1048576) (hl2 : yss.length ≤ 1048576) (hr2 : ∀ r ∈ yss, r.length ≤ 1048576) :
    Calls Tryd.prog 8 #[.agg #[.int .i64 N, v], .agg #[.bool a, u1], .agg #[.bool b, u2]] w fun e w' => (twoB N ps a b xss yss = true → Rs w a (pairL addF ps xss yss) true e w') ∧ (twoB N ps a b xss yss = false → Rs w false [] false e w') := by
  obtain ⟨Rf, hRf⟩ := Rings_roots N ps
  obtain ⟨us1, cs1, at1⟩ := h1.ats ps
  obtain ⟨us2, cs2, at2⟩ := h2.ats ps
  obtain ⟨a0, cap0, ev⟩ := hv.slice
  obtain ⟨a1, cap1, e1⟩ := h1.slice
  obtain ⟨a2, cap2, e2⟩ := h2.slice
  subst ev e1 e2
  have c1 := fun W W' (q : Old w W) (p1 : PrsW W') (p2 : TabW W') (q' : Old W W') => impl_ringRows N a ps xss Rf us1 cs1 (.slice a0 ps.length cap0) a1 cap1 W' p1 p2 (hv.old (Old.trans q q')) hf hlp hl1 hr1 (fun h => (at1 h).old (Old.trans q q')) hRf
  have c2 := fun W W' (q : Old w W) (p1 : PrsW W') (p2 : TabW W') (q' : Old W W') => impl_ringRows N b ps yss Rf us2 cs2 (.slice a0 ps.length cap0) a2 cap2 W' p1 p2 (hv.old (Old.trans q q')) hf hlp hl2 hr2 (fun h => (at2 h).old (Old.trans q q')) hRf
  cases htw : twoB N ps a b xss yss
  · have hno : ¬ (grB N ps xss = true ∧ grB N ps yss = true ∧ a = b) := fun h => by
      rw [two_of.2 h] at htw
      cases htw
    refine (impl_AddRows_of N a b a0 a1 a2 _ _ _ _ _ _ w false [] false (fun W q => eachPair_plus_no N ps a b xss yss Rf us1 us2 _ a1 a2 cap1 cap2 W (hP.old q) (hT.old q) (hv.old q) (fun W' p1 p2 q' => c1 W W' q p1 p2 q') (fun W' p1 p2 q' => c2 W W' q p1 p2 q') hno)).mono (fun e w' h => ⟨(fun h' => by cases h'), fun _ => h⟩)
  · obtain ⟨g1, g2, g3⟩ := two_of.1 htw
    obtain ⟨t1, t2, t3, t4, t5, t6⟩ := two_parts htw
    obtain ⟨Nn, hNn⟩ : ∃ Nn : Nat, N = Nn := ⟨N.toNat, by omega⟩
    subst hNn
    refine (impl_AddRows_of Nn a b a0 a1 a2 _ _ _ _ _ _ w a (pairL addF ps xss yss) true (fun W q => eachPair_plus_yes Nn ps a b xss yss Rf us1 us2 _ a1 a2 cap1 cap2 W (hP.old q) (hT.old q) (hv.old q) (fun W' p1 p2 q' => c1 W W' q p1 p2 q') (fun W' p1 p2 q' => c2 W W' q p1 p2 q') g1 g2 g3 (pairL addF ps xss yss) (pairL_len _ _ _ _) t2.2 (fun k hk => ?_))).mono (fun e w' h => ⟨fun _ => h, (fun h' => by cases h')⟩)
    obtain ⟨s1, s2, s3, s4⟩ := t6 k hk
    rw [pairL_get _ _ _ _ _ hk]
    refine ⟨by rw [pairR_len]; omega, fun W' q' => ?_⟩
    obtain ⟨b1, _, _, _, r1⟩ := at1 (by omega)
    obtain ⟨b2, _, _, _, r2⟩ := at2 (by omega)
    have row1 := (r1 k (by omega)).2.2
    have row2 := (r2 k (by omega)).2.2
    have l1 : (xss.getD k []).length = Nn := by omega
    have l2 : (yss.getD k []).length = Nn := by omega
    rw [l1] at row1
    rw [l2] at row2
    refine impl_plus (ps.getD k 0) (Rf k) (ps.getD k 0) (Rf k) Nn a b Nn (xss.getD k []) (yss.getD k []) (us1 k) (us2 k) W' ((row1.recap (fun h => by rw [h] at l1; simp at l1; omega)).old (Old.trans q q')) ((row2.recap (fun h => by rw [h] at l2; simp at l2; omega)).old (Old.trans q q')) s3 (by omega) l1 l2 (fun i hi => s4 i (by omega))
end Go.Proofs.YtglbegbhekcddaaDoor
/- Proved: the program's AheadRows and BackRows, out of eachRow. -/
namespace Go.Proofs.YtglbegbhekcddaaDoor
open Go.ChangeShapes Go.WideShapes Go.ChangeAt Go.RowKit
set_option linter.unusedVariables false
set_option linter.unusedSimpArgs false
set_option maxRecDepth 100000 in
set_option maxHeartbeats 4000000 in
theorem impl_AheadRows_of (N : Int) (ps : List Int) (xss : List (List Int)) (a : Bool) (a0 a1 : Option Addr) (cap0 cap1 : Nat) (w : World) (n : Bool) (zss : List (List Int)) (ok : Bool)
    (c : ∀ W, Old w W → Calls Tryd.prog 17 #[.agg #[.int .i64 N, .slice a0 ps.length cap0], .agg #[.bool a, .slice a1 xss.length cap1], .bool true, .func (.func 21) #[] #[]] W (Rs W n zss ok)) :
    Calls Tryd.prog 10 #[.agg #[.int .i64 N, .slice a0 ps.length cap0], .agg #[.bool a, .slice a1 xss.length cap1]] w (Rs w n zss ok) := by
  have HA : Hid (Old w (((w.alloc (.cells #[.int .i64 N, .slice a0 ps.length cap0] 25)).alloc (.cells #[.bool a, .slice a1 xss.length cap1] 28)).alloc (.cells #[.bool false, .slice none 0 0] 28))) := (((Old.refl w).alloc _).alloc _).alloc _
  have HS : Hid (StW (((w.alloc (.cells #[.int .i64 N, .slice a0 ps.length cap0] 25)).alloc (.cells #[.bool a, .slice a1 xss.length cap1] 28)).alloc (.cells #[.bool false, .slice none 0 0] 28)) (w.heap.size + 1 + 1) (.bool false) (.slice none 0 0) 28) := by
    have := StW.new ((w.alloc (.cells #[.int .i64 N, .slice a0 ps.length cap0] 25)).alloc (.cells #[.bool a, .slice a1 xss.length cap1] 28)) (.bool false) (.slice none 0 0) 28
    simp at this
    exact this
  have HBX : Hid (∀ W', Old (((w.alloc (.cells #[.int .i64 N, .slice a0 ps.length cap0] 25)).alloc (.cells #[.bool a, .slice a1 xss.length cap1] 28)).alloc (.cells #[.bool false, .slice none 0 0] 28)) W' → StW W' w.heap.size (.int .i64 N) (.slice a0 ps.length cap0) 25 ∧ StW W' (w.heap.size + 1) (.bool a) (.slice a1 xss.length cap1) 28) := fun W' g => by
    have g1 := Old.trans ((Old.refl _).alloc _) g
    have g0 := Old.trans ((Old.refl _).alloc _) g1
    refine ⟨(StW.new w (.int .i64 N) (.slice a0 ps.length cap0) 25).old g0, ?_⟩
    have h := (StW.new (w.alloc (.cells #[.int .i64 N, .slice a0 ps.length cap0] 25)) (.bool a) (.slice a1 xss.length cap1) 28).old g1
    simp at h
    exact h
  go_enter Tryd.func10, Tryd.ntmps10
  go_wp2_with fail
  refine (c _ HA.out).mono ?_
  rintro e w2 ⟨r0, rfl, g2, xr⟩
  obtain ⟨ax, cx, rfl, ox⟩ := xr
  have HG2 : Hid (Old w w2) := Old.trans HA.out g2
  have S2 : Hid (StW w2 (w.heap.size + 1 + 1) (.bool false) (.slice none 0 0) 28) := HS.out.old g2
  have OX : Hid (OwS zss w2 (((w.alloc (.cells #[.int .i64 N, .slice a0 ps.length cap0] 25)).alloc (.cells #[.bool a, .slice a1 xss.length cap1] 28)).alloc (.cells #[.bool false, .slice none 0 0] 28)).heap.size w2.heap.size (.slice ax zss.length cx)) := ox
  have HSZ : Hid ((((w.alloc (.cells #[.int .i64 N, .slice a0 ps.length cap0] 25)).alloc (.cells #[.bool a, .slice a1 xss.length cap1] 28)).alloc (.cells #[.bool false, .slice none 0 0] 28)).heap.size = w.heap.size + 1 + 1 + 1) := by show _ = _; simp
  have q0 := S2.out.c0
  have q1 := S2.out.c1
  have f0 := S2.out.f0
  have f1 := S2.out.f1
  clear g2 ox
  go_wp2_with fail
  have hs3 := HSZ.out
  refine bodyPost_ret (ret_rb Tryd.results10 _ _ rfl rfl (st_put2 S2.out _ _)) rfl ⟨_, rfl, ?_, ax, cx, rfl, ?_⟩
  · exact (HG2.out.own (p := ⟨w.heap.size + 1 + 1, 0, none⟩) (by simp; omega) _).own (p := ⟨w.heap.size + 1 + 1, 1, none⟩) (by simp; omega) _
  · have h2 := (OX.out.put (k := w.heap.size + 1 + 1) (j := 0) (x := .bool n) (by omega)).put (k := w.heap.size + 1 + 1) (j := 1) (x := .slice ax zss.length cx) (by omega)
    have h3 := h2.low (lo' := w.heap.size) (by omega)
    exact h3.high (by simp) (Nat.le_refl _)
set_option maxRecDepth 100000 in
set_option maxHeartbeats 4000000 in
theorem impl_BackRows_of (N : Int) (ps : List Int) (xss : List (List Int)) (a : Bool) (a0 a1 : Option Addr) (cap0 cap1 : Nat) (w : World) (n : Bool) (zss : List (List Int)) (ok : Bool)
    (c : ∀ W, Old w W → Calls Tryd.prog 17 #[.agg #[.int .i64 N, .slice a0 ps.length cap0], .agg #[.bool a, .slice a1 xss.length cap1], .bool false, .func (.func 18) #[] #[]] W (Rs W n zss ok)) :
    Calls Tryd.prog 7 #[.agg #[.int .i64 N, .slice a0 ps.length cap0], .agg #[.bool a, .slice a1 xss.length cap1]] w (Rs w n zss ok) := by
  have HA : Hid (Old w (((w.alloc (.cells #[.int .i64 N, .slice a0 ps.length cap0] 25)).alloc (.cells #[.bool a, .slice a1 xss.length cap1] 28)).alloc (.cells #[.bool false, .slice none 0 0] 28))) := (((Old.refl w).alloc _).alloc _).alloc _
  have HS : Hid (StW (((w.alloc (.cells #[.int .i64 N, .slice a0 ps.length cap0] 25)).alloc (.cells #[.bool a, .slice a1 xss.length cap1] 28)).alloc (.cells #[.bool false, .slice none 0 0] 28)) (w.heap.size + 1 + 1) (.bool false) (.slice none 0 0) 28) := by
    have := StW.new ((w.alloc (.cells #[.int .i64 N, .slice a0 ps.length cap0] 25)).alloc (.cells #[.bool a, .slice a1 xss.length cap1] 28)) (.bool false) (.slice none 0 0) 28
    simp at this
    exact this
  have HBX : Hid (∀ W', Old (((w.alloc (.cells #[.int .i64 N, .slice a0 ps.length cap0] 25)).alloc (.cells #[.bool a, .slice a1 xss.length cap1] 28)).alloc (.cells #[.bool false, .slice none 0 0] 28)) W' → StW W' w.heap.size (.int .i64 N) (.slice a0 ps.length cap0) 25 ∧ StW W' (w.heap.size + 1) (.bool a) (.slice a1 xss.length cap1) 28) := fun W' g => by
    have g1 := Old.trans ((Old.refl _).alloc _) g
    have g0 := Old.trans ((Old.refl _).alloc _) g1
    refine ⟨(StW.new w (.int .i64 N) (.slice a0 ps.length cap0) 25).old g0, ?_⟩
    have h := (StW.new (w.alloc (.cells #[.int .i64 N, .slice a0 ps.length cap0] 25)) (.bool a) (.slice a1 xss.length cap1) 28).old g1
    simp at h
    exact h
  go_enter Tryd.func7, Tryd.ntmps7
  go_wp2_with fail
  refine (c _ HA.out).mono ?_
  rintro e w2 ⟨r0, rfl, g2, xr⟩
  obtain ⟨ax, cx, rfl, ox⟩ := xr
  have HG2 : Hid (Old w w2) := Old.trans HA.out g2
  have S2 : Hid (StW w2 (w.heap.size + 1 + 1) (.bool false) (.slice none 0 0) 28) := HS.out.old g2
  have OX : Hid (OwS zss w2 (((w.alloc (.cells #[.int .i64 N, .slice a0 ps.length cap0] 25)).alloc (.cells #[.bool a, .slice a1 xss.length cap1] 28)).alloc (.cells #[.bool false, .slice none 0 0] 28)).heap.size w2.heap.size (.slice ax zss.length cx)) := ox
  have HSZ : Hid ((((w.alloc (.cells #[.int .i64 N, .slice a0 ps.length cap0] 25)).alloc (.cells #[.bool a, .slice a1 xss.length cap1] 28)).alloc (.cells #[.bool false, .slice none 0 0] 28)).heap.size = w.heap.size + 1 + 1 + 1) := by show _ = _; simp
  have q0 := S2.out.c0
  have q1 := S2.out.c1
  have f0 := S2.out.f0
  have f1 := S2.out.f1
  clear g2 ox
  go_wp2_with fail
  have hs3 := HSZ.out
  refine bodyPost_ret (ret_rb Tryd.results7 _ _ rfl rfl (st_put2 S2.out _ _)) rfl ⟨_, rfl, ?_, ax, cx, rfl, ?_⟩
  · exact (HG2.out.own (p := ⟨w.heap.size + 1 + 1, 0, none⟩) (by simp; omega) _).own (p := ⟨w.heap.size + 1 + 1, 1, none⟩) (by simp; omega) _
  · have h2 := (OX.out.put (k := w.heap.size + 1 + 1) (j := 0) (x := .bool n) (by omega)).put (k := w.heap.size + 1 + 1) (j := 1) (x := .slice ax zss.length cx) (by omega)
    have h3 := h2.low (lo' := w.heap.size) (by omega)
    exact h3.high (by simp) (Nat.le_refl _)
end Go.Proofs.YtglbegbhekcddaaDoor
/- Proved: the program's eachPair with times, where both are good. -/
namespace Go.Proofs.YtglbegbhekcddaaDoor
open Go.ChangeShapes Go.WideShapes Go.ChangeAt Go.RowKit
set_option linter.unusedVariables false
set_option linter.unusedSimpArgs false
theorem eachPair_times_yes (Nn : Nat) (ps : List Int) (a b : Bool) (xss yss : List (List Int)) (Rf : Nat → Int) (us1 us2 : Nat → Option Addr) (v : Value) (a1 a2 : Option Addr) (cap1 cap2 : Nat) (w : World) (hP : PrsW w) (hT : TabW w) (hv : Row w v ps)
    (c1 : ∀ W, PrsW W → TabW W → Old w W → Calls Tryd.prog 26 #[.agg #[.int .i64 Nn, v], .agg #[.bool a, .slice a1 xss.length cap1]] W fun e w' => Old W w' ∧ ((grB Nn ps xss = false ∧ e = .returned (.tuple #[.slice none 0 0, .bool false])) ∨ (grB Nn ps xss = true ∧ ∃ g, W.heap.size ≤ g ∧ e = .returned (.tuple #[.slice (some ⟨g, 0, none⟩) ps.length ps.length, .bool true]) ∧ RRs w' g Nn a ps Rf us1 ps.length)))
    (c2 : ∀ W, PrsW W → TabW W → Old w W → Calls Tryd.prog 26 #[.agg #[.int .i64 Nn, v], .agg #[.bool b, .slice a2 yss.length cap2]] W fun e w' => Old W w' ∧ ((grB Nn ps yss = false ∧ e = .returned (.tuple #[.slice none 0 0, .bool false])) ∨ (grB Nn ps yss = true ∧ ∃ g, W.heap.size ≤ g ∧ e = .returned (.tuple #[.slice (some ⟨g, 0, none⟩) ps.length ps.length, .bool true]) ∧ RRs w' g Nn b ps Rf us2 ps.length))) (hx : grB Nn ps xss = true) (hy : grB Nn ps yss = true) (hab : a = b) (zss : List (List Int)) (hzl : zss.length = ps.length) (hps : ps.length ≤ 6)
    (cj : ∀ k, k < ps.length → (zss.getD k []).length = Nn ∧ ∀ W, Old w W → Calls Tryd.prog 14 #[.agg #[.int .i64 (ps.getD k 0), .int .i64 Nn, .int .i64 (Rf k), .bool a, .slice (us1 k) Nn Nn], .agg #[.int .i64 (ps.getD k 0), .int .i64 Nn, .int .i64 (Rf k), .bool b, .slice (us2 k) Nn Nn]] W fun e w' => ∃ g cp, e = .returned (.slice (some ⟨g, 0, none⟩) Nn cp) ∧ Nn ≤ cp ∧ Old W w' ∧ Own w' W.heap.size (.slice (some ⟨g, 0, none⟩) Nn cp) (zss.getD k [])) :
    Calls Tryd.prog 13 #[.agg #[.int .i64 Nn, v], .agg #[.bool a, .slice a1 xss.length cap1], .agg #[.bool b, .slice a2 yss.length cap2], .func (.func 14) #[] #[]] w (Rs w a zss true) := by
  have h1 : 1 ≤ ps.length := by
    unfold grB at hx
    rw [Bool.and_eq_true] at hx
    exact ((bas_at (sp_ring hx.1).2.1).1).1
  refine eachPair_yes_of Nn ps a b xss yss Rf us1 us2 v a1 a2 cap1 cap2 w hP hT hv c1 c2 hx hy hab zss hzl hps h1 _ (fun W g1 g2 q r1 r2 => ?_)
  refine (joined_times Nn a ps Rf _ _ ps Rf b _ _ ps.length W r1.rd (fun k hk => ⟨_, _, _, rfl⟩) r2.rd (fun k hk => ⟨_, _, _, rfl⟩) (by omega) zss (fun k hk W' g => ?_)).mono fun e w' h => ⟨_, h.1, h.2.1, h.2.2⟩
  have h := (cj k hk).2 W' (Old.trans q g)
  show Calls _ _ #[.agg #[.int .i64 (ps.getD k 0), .int .i64 (Nn : Int), .int .i64 (Rf k), .bool a, .slice (us1 k) ((Nn : Int).toNat) ((Nn : Int).toNat)], .agg #[.int .i64 (ps.getD k 0), .int .i64 (Nn : Int), .int .i64 (Rf k), .bool b, .slice (us2 k) ((Nn : Int).toNat) ((Nn : Int).toNat)]] _ _
  rw [show ((Nn : Int).toNat) = Nn by omega]
  refine h.mono fun e w' h => ?_
  obtain ⟨g', cp, rfl, _, q1, q2⟩ := h
  exact ⟨_, rfl, q1, q2⟩
end Go.Proofs.YtglbegbhekcddaaDoor
/- Proved: the program's MulRows. -/
namespace Go.Proofs.YtglbegbhekcddaaDoor
open Go.ChangeShapes Go.WideShapes Go.ChangeAt Go.RowKit
open M1
set_option linter.unusedVariables false
set_option linter.unusedSimpArgs false
set_option maxRecDepth 100000 in
set_option maxHeartbeats 4000000 in
theorem impl_MulRows_of (N : Int) (a b : Bool) (a0 a1 a2 : Option Addr) (l0 l1 l2 cap0 cap1 cap2 : Nat) (w : World) (n : Bool) (zss : List (List Int)) (ok : Bool)
    (c : ∀ W, Old w W → Calls Tryd.prog 13 #[.agg #[.int .i64 N, .slice a0 l0 cap0], .agg #[.bool a, .slice a1 l1 cap1], .agg #[.bool b, .slice a2 l2 cap2], .func (.func 14) #[] #[]] W (Rs W n zss ok)) :
    Calls Tryd.prog 5 #[.agg #[.int .i64 N, .slice a0 l0 cap0], .agg #[.bool a, .slice a1 l1 cap1], .agg #[.bool b, .slice a2 l2 cap2]] w (Rs w n zss ok) := by
  have HA : Hid (Old w ((((w.alloc (.cells #[.int .i64 N, .slice a0 l0 cap0] 25)).alloc (.cells #[.bool a, .slice a1 l1 cap1] 28)).alloc (.cells #[.bool b, .slice a2 l2 cap2] 28)).alloc (.cells #[.bool false, .slice none 0 0] 28))) := ((((Old.refl w).alloc _).alloc _).alloc _).alloc _
  have HS : Hid (StW ((((w.alloc (.cells #[.int .i64 N, .slice a0 l0 cap0] 25)).alloc (.cells #[.bool a, .slice a1 l1 cap1] 28)).alloc (.cells #[.bool b, .slice a2 l2 cap2] 28)).alloc (.cells #[.bool false, .slice none 0 0] 28)) (w.heap.size + 1 + 1 + 1) (.bool false) (.slice none 0 0) 28) := by
    have := StW.new (((w.alloc (.cells #[.int .i64 N, .slice a0 l0 cap0] 25)).alloc (.cells #[.bool a, .slice a1 l1 cap1] 28)).alloc (.cells #[.bool b, .slice a2 l2 cap2] 28)) (.bool false) (.slice none 0 0) 28
    simp at this
    exact this
  go_enter Tryd.func5, Tryd.ntmps5
  go_wp2_with fail
  refine (c _ HA.out).mono ?_
  rintro e w1 ⟨r0, rfl, g1, x1⟩
  obtain ⟨ax, cx, rfl, ox⟩ := x1
  have HG1 : Hid (Old w w1) := Old.trans HA.out g1
  have S1 : Hid (StW w1 (w.heap.size + 1 + 1 + 1) (.bool false) (.slice none 0 0) 28) := HS.out.old g1
  have OX : Hid (OwS zss w1 (w.heap.size + 1 + 1 + 1 + 1) w1.heap.size (.slice ax zss.length cx)) := by
    simp at ox
    exact ox
  have q0 := S1.out.c0
  have q1 := S1.out.c1
  have f0 := S1.out.f0
  have f1 := S1.out.f1
  clear g1 ox
  go_wp2_with fail
  refine bodyPost_ret (ret_rb Tryd.results5 _ _ rfl rfl (st_put2 S1.out _ _)) rfl ⟨_, rfl, ?_, ax, cx, rfl, ?_⟩
  · exact (HG1.out.own (p := ⟨w.heap.size + 1 + 1 + 1, 0, none⟩) (by simp; omega) _).own (p := ⟨w.heap.size + 1 + 1 + 1, 1, none⟩) (by simp; omega) _
  · have h2 := (OX.out.put (k := w.heap.size + 1 + 1 + 1) (j := 0) (x := .bool n) (by omega)).put (k := w.heap.size + 1 + 1 + 1) (j := 1) (x := .slice ax zss.length cx) (by omega)
    have h3 := h2.low (lo' := w.heap.size) (by omega)
    exact h3.high (by simp) (Nat.le_refl _)
end Go.Proofs.YtglbegbhekcddaaDoor
/- Proved: the model's MulRows. -/
namespace Go.Proofs.YtglbegbhekcddaaDoor
open Go.ChangeShapes Go.WideShapes Go.ChangeAt Go.RowKit
open M1
set_option linter.unusedVariables false
set_option linter.unusedSimpArgs false
set_option maxRecDepth 100000 in
set_option maxHeartbeats 8000000 in
theorem spec_MulRows_no (N : Int) (ps : List Int) (a b : Bool) (xss yss : List (List Int)) (v u1 u2 : Value) (w : World) (hv : Row w v ps) (hf : Fit v) (h1 : RowS w u1 xss) (h2 : RowS w u2 yss) (hlp : ps.length ≤ 1048576) (hx : ∀ x ∈ ps, -9223372036854775808 ≤ x ∧ x ≤ 9223372036854775807) (hl1 : xss.length ≤ 1048576) (hr1 : ∀ r ∈ xss, r.length ≤ 1048576) (hl2 : yss.length ≤ 1048576) (hr2 : ∀ r ∈ yss, r.length ≤ 1048576) (hno : twoB N ps a b xss yss = false) :
    Calls Tryd.prog 6 #[.agg #[.int .i64 N, v], .agg #[.bool a, u1], .agg #[.bool b, u2]] w (Rs w false [] false) := by
  have c1 := fun W (h : Old w W) => spec_l5Two N ps a b xss yss v u1 u2 W (hv.old h) hf (h1.old h) (h2.old h) hlp hx hl1 hr1 hl2 hr2
  rw [hno] at c1
  obtain ⟨a0, cap0, ev⟩ := hv.slice
  obtain ⟨a1, cap1, e1⟩ := h1.slice
  obtain ⟨a2, cap2, e2⟩ := h2.slice
  subst ev e1 e2
  have HA : Hid (Old w ((((w.alloc (.cells #[.int .i64 N, .slice a0 ps.length cap0] 25)).alloc (.cells #[.bool a, .slice a1 xss.length cap1] 28)).alloc (.cells #[.bool b, .slice a2 yss.length cap2] 28)).alloc (.cells #[.bool false, .slice none 0 0] 28))) := ((((Old.refl w).alloc _).alloc _).alloc _).alloc _
  have HS : Hid (StW ((((w.alloc (.cells #[.int .i64 N, .slice a0 ps.length cap0] 25)).alloc (.cells #[.bool a, .slice a1 xss.length cap1] 28)).alloc (.cells #[.bool b, .slice a2 yss.length cap2] 28)).alloc (.cells #[.bool false, .slice none 0 0] 28)) (w.heap.size + 1 + 1 + 1) (.bool false) (.slice none 0 0) 28) := by
    have := StW.new (((w.alloc (.cells #[.int .i64 N, .slice a0 ps.length cap0] 25)).alloc (.cells #[.bool a, .slice a1 xss.length cap1] 28)).alloc (.cells #[.bool b, .slice a2 yss.length cap2] 28)) (.bool false) (.slice none 0 0) 28
    simp at this
    exact this
  have HAS : Hid (∀ W', Old ((((w.alloc (.cells #[.int .i64 N, .slice a0 ps.length cap0] 25)).alloc (.cells #[.bool a, .slice a1 xss.length cap1] 28)).alloc (.cells #[.bool b, .slice a2 yss.length cap2] 28)).alloc (.cells #[.bool false, .slice none 0 0] 28)) W' → (W'.cell? ⟨w.heap.size, 0, none⟩ = some (.int .i64 N) ∧ W'.cell? ⟨w.heap.size, 1, none⟩ = some (.slice a0 ps.length cap0) ∧ W'.cell? ⟨w.heap.size + 1, 0, none⟩ = some (.bool a) ∧ W'.cell? ⟨w.heap.size + 1, 1, none⟩ = some (.slice a1 xss.length cap1) ∧ W'.cell? ⟨w.heap.size + 1 + 1, 0, none⟩ = some (.bool b) ∧ W'.cell? ⟨w.heap.size + 1 + 1, 1, none⟩ = some (.slice a2 yss.length cap2))) := fun W' g => by
    have g' := Old.trans ((Old.refl _).alloc _) g
    exact ⟨((StW.at31 w _ _ _ _ _ _ _ _ _).old g').c0, ((StW.at31 w _ _ _ _ _ _ _ _ _).old g').c1, ((StW.at32 w _ _ _ _ _ _ _ _ _).old g').c0, ((StW.at32 w _ _ _ _ _ _ _ _ _).old g').c1, ((StW.at33 w _ _ _ _ _ _ _ _ _).old g').c0, ((StW.at33 w _ _ _ _ _ _ _ _ _).old g').c1⟩
  clear hv h1 h2 hf hx hr1 hr2
  go_enter Tryd.func6, Tryd.ntmps6
  go_wp2_with fail
  refine (c1 _ HA.out).mono ?_
  rintro e w1 ⟨rfl, g1⟩
  have HG1 : Hid (Old w w1) := Old.trans HA.out g1
  have S1 : Hid (StW w1 (w.heap.size + 1 + 1 + 1) (.bool false) (.slice none 0 0) 28) := HS.out.old g1
  have q0 := S1.out.c0
  have q1 := S1.out.c1
  have f0 := S1.out.f0
  have f1 := S1.out.f1
  clear g1
  go_wp2_with fail
  have hs : w.heap.size + 1 + 1 + 1 < w1.heap.size := S1.out.lt
  refine bodyPost_ret (ret_rb (x := .bool false) (y := .slice none 0 0) (z := .bool false) Tryd.results6 _ _ rfl rfl (st_put2 S1.out _ _)) rfl ⟨_, rfl, ?_, XR.nil _ _ _ _ (Nat.le_refl _)⟩
  exact (HG1.out.own (p := ⟨w.heap.size + 1 + 1 + 1, 0, none⟩) (by simp; omega) _).own (p := ⟨w.heap.size + 1 + 1 + 1, 1, none⟩) (by simp; omega) _
set_option maxRecDepth 100000 in
set_option maxHeartbeats 8000000 in
theorem spec_MulRows_back (N : Int) (ps : List Int) (a b : Bool) (xss yss : List (List Int)) (v u1 u2 : Value) (w : World) (hv : Row w v ps) (hf : Fit v) (h1 : RowS w u1 xss) (h2 : RowS w u2 yss) (hlp : ps.length ≤ 1048576) (hx : ∀ x ∈ ps, -9223372036854775808 ≤ x ∧ x ≤ 9223372036854775807) (hl1 : xss.length ≤ 1048576) (hr1 : ∀ r ∈ xss, r.length ≤ 1048576) (hl2 : yss.length ≤ 1048576) (hr2 : ∀ r ∈ yss, r.length ≤ 1048576) (hyes : twoB N ps a b xss yss = true) (ha : a = false) (zss : List (List Int))
    (c4 : ∀ W, Old w W → Calls Tryd.prog 16 #[.agg #[.int .i64 N, v], u1, u2] W fun e w' => ∃ v', e = .returned v' ∧ Old W w' ∧ OwS zss w' W.heap.size w'.heap.size v') :
    Calls Tryd.prog 6 #[.agg #[.int .i64 N, v], .agg #[.bool a, u1], .agg #[.bool b, u2]] w (Rs w a zss true) := by
  have c1 := fun W (h : Old w W) => spec_l5Two N ps a b xss yss v u1 u2 W (hv.old h) hf (h1.old h) (h2.old h) hlp hx hl1 hr1 hl2 hr2
  rw [hyes] at c1
  obtain ⟨a0, cap0, ev⟩ := hv.slice
  obtain ⟨a1, cap1, e1⟩ := h1.slice
  obtain ⟨a2, cap2, e2⟩ := h2.slice
  subst ev e1 e2
  have HA : Hid (Old w ((((w.alloc (.cells #[.int .i64 N, .slice a0 ps.length cap0] 25)).alloc (.cells #[.bool a, .slice a1 xss.length cap1] 28)).alloc (.cells #[.bool b, .slice a2 yss.length cap2] 28)).alloc (.cells #[.bool false, .slice none 0 0] 28))) := ((((Old.refl w).alloc _).alloc _).alloc _).alloc _
  have HS : Hid (StW ((((w.alloc (.cells #[.int .i64 N, .slice a0 ps.length cap0] 25)).alloc (.cells #[.bool a, .slice a1 xss.length cap1] 28)).alloc (.cells #[.bool b, .slice a2 yss.length cap2] 28)).alloc (.cells #[.bool false, .slice none 0 0] 28)) (w.heap.size + 1 + 1 + 1) (.bool false) (.slice none 0 0) 28) := by
    have := StW.new (((w.alloc (.cells #[.int .i64 N, .slice a0 ps.length cap0] 25)).alloc (.cells #[.bool a, .slice a1 xss.length cap1] 28)).alloc (.cells #[.bool b, .slice a2 yss.length cap2] 28)) (.bool false) (.slice none 0 0) 28
    simp at this
    exact this
  have HAS : Hid (∀ W', Old ((((w.alloc (.cells #[.int .i64 N, .slice a0 ps.length cap0] 25)).alloc (.cells #[.bool a, .slice a1 xss.length cap1] 28)).alloc (.cells #[.bool b, .slice a2 yss.length cap2] 28)).alloc (.cells #[.bool false, .slice none 0 0] 28)) W' → (W'.cell? ⟨w.heap.size, 0, none⟩ = some (.int .i64 N) ∧ W'.cell? ⟨w.heap.size, 1, none⟩ = some (.slice a0 ps.length cap0) ∧ W'.cell? ⟨w.heap.size + 1, 0, none⟩ = some (.bool a) ∧ W'.cell? ⟨w.heap.size + 1, 1, none⟩ = some (.slice a1 xss.length cap1) ∧ W'.cell? ⟨w.heap.size + 1 + 1, 0, none⟩ = some (.bool b) ∧ W'.cell? ⟨w.heap.size + 1 + 1, 1, none⟩ = some (.slice a2 yss.length cap2))) := fun W' g => by
    have g' := Old.trans ((Old.refl _).alloc _) g
    exact ⟨((StW.at31 w _ _ _ _ _ _ _ _ _).old g').c0, ((StW.at31 w _ _ _ _ _ _ _ _ _).old g').c1, ((StW.at32 w _ _ _ _ _ _ _ _ _).old g').c0, ((StW.at32 w _ _ _ _ _ _ _ _ _).old g').c1, ((StW.at33 w _ _ _ _ _ _ _ _ _).old g').c0, ((StW.at33 w _ _ _ _ _ _ _ _ _).old g').c1⟩
  clear hv h1 h2 hf hx hr1 hr2 hyes
  subst ha
  go_enter Tryd.func6, Tryd.ntmps6
  go_wp2_with fail
  refine (c1 _ HA.out).mono ?_
  rintro e w1 ⟨rfl, g1⟩
  have HG1 : Hid (Old w w1) := Old.trans HA.out g1
  have S1 : Hid (StW w1 (w.heap.size + 1 + 1 + 1) (.bool false) (.slice none 0 0) 28) := HS.out.old g1
  have hs : w.heap.size + 1 + 1 + 1 < w1.heap.size := S1.out.lt
  obtain ⟨x0, x1, x2, x3, x4, x5⟩ := HAS.out w1 g1
  clear g1
  go_wp2_with fail
  refine (c4 _ HG1.out).mono ?_
  rintro e w2 ⟨v2, rfl, g2, o2⟩
  obtain ⟨a5, cap5, rfl⟩ := o2.slice
  have HG2 : Hid (Old w w2) := Old.trans HG1.out g2
  have S2 : Hid (StW w2 (w.heap.size + 1 + 1 + 1) (.bool false) (.slice none 0 0) 28) := S1.out.old g2
  have OX : Hid (OwS zss w2 w1.heap.size w2.heap.size (.slice a5 zss.length cap5)) := o2
  have q0 := S2.out.c0
  have q1 := S2.out.c1
  have f0 := S2.out.f0
  have f1 := S2.out.f1
  clear g2 o2 x0 x1 x2 x3 x4 x5
  go_wp2_with fail
  refine bodyPost_ret (ret_rb Tryd.results6 _ _ rfl rfl (st_put2 S2.out _ _)) rfl ⟨_, rfl, ?_, a5, cap5, rfl, ?_⟩
  · exact (HG2.out.own (p := ⟨w.heap.size + 1 + 1 + 1, 0, none⟩) (by simp; omega) _).own (p := ⟨w.heap.size + 1 + 1 + 1, 1, none⟩) (by simp; omega) _
  · have h2 := (OX.out.put (k := w.heap.size + 1 + 1 + 1) (j := 0) (x := .bool false) (by omega)).put (k := w.heap.size + 1 + 1 + 1) (j := 1) (x := .slice a5 zss.length cap5) (by omega)
    have h3 := h2.low (lo' := w.heap.size) (by omega)
    exact h3.high (by simp) (Nat.le_refl _)
end Go.Proofs.YtglbegbhekcddaaDoor
