/- Proved: several texts in one: what each proves is said ahead of it. -/
import Derived.Test.YtcbbljadjibfeaaDoorKL
import Derived.Test.YtcbbljadjibfeaaDoorLss
import Derived.Test.YtcbbljadjibfeaaDoorIprA
import Derived.Test.YtcbbljadjibfeaaDoorSbm
import Derived.Test.YtcbbljadjibfeaaDoorLawSubRows
import Derived.Test.YtcbbljadjibfeaaDoorKRows4
/- Proved: the program's SubRows. -/
namespace Go.Proofs.YtcbbljadjibfeaaDoor
open Go.ChangeShapes Go.WideShapes Go.ChangeAt Go.RowKit
open M1
set_option linter.unusedVariables false
set_option linter.unusedSimpArgs false
set_option maxRecDepth 100000 in
set_option maxHeartbeats 4000000 in
theorem impl_SubRows_of (N : Int) (a b : Bool) (a0 a1 a2 : Option Addr) (l0 l1 l2 cap0 cap1 cap2 : Nat) (w : World) (n : Bool) (zss : List (List Int)) (ok : Bool)
    (c : ∀ W, Old w W → Calls Tryd.prog 80 #[.agg #[.int .i64 N, .slice a0 l0 cap0], .agg #[.bool a, .slice a1 l1 cap1], .agg #[.bool b, .slice a2 l2 cap2], .func (.func 83) #[] #[]] W (Rs W n zss ok)) :
    Calls Tryd.prog 44 #[.agg #[.int .i64 N, .slice a0 l0 cap0], .agg #[.bool a, .slice a1 l1 cap1], .agg #[.bool b, .slice a2 l2 cap2]] w (Rs w n zss ok) := by
  have HA : Hid (Old w ((((w.alloc (.cells #[.int .i64 N, .slice a0 l0 cap0] 42)).alloc (.cells #[.bool a, .slice a1 l1 cap1] 51)).alloc (.cells #[.bool b, .slice a2 l2 cap2] 51)).alloc (.cells #[.bool false, .slice none 0 0] 51))) := ((((Old.refl w).alloc _).alloc _).alloc _).alloc _
  have HS : Hid (StW ((((w.alloc (.cells #[.int .i64 N, .slice a0 l0 cap0] 42)).alloc (.cells #[.bool a, .slice a1 l1 cap1] 51)).alloc (.cells #[.bool b, .slice a2 l2 cap2] 51)).alloc (.cells #[.bool false, .slice none 0 0] 51)) (w.heap.size + 1 + 1 + 1) (.bool false) (.slice none 0 0) 51) := by
    have := StW.new (((w.alloc (.cells #[.int .i64 N, .slice a0 l0 cap0] 42)).alloc (.cells #[.bool a, .slice a1 l1 cap1] 51)).alloc (.cells #[.bool b, .slice a2 l2 cap2] 51)) (.bool false) (.slice none 0 0) 51
    simp at this
    exact this
  go_enter Tryd.func44, Tryd.ntmps44
  go_wp2_with fail
  refine (c _ HA.out).mono ?_
  rintro e w1 ⟨r0, rfl, g1, x1⟩
  obtain ⟨ax, cx, rfl, ox⟩ := x1
  have HG1 : Hid (Old w w1) := Old.trans HA.out g1
  have S1 : Hid (StW w1 (w.heap.size + 1 + 1 + 1) (.bool false) (.slice none 0 0) 51) := HS.out.old g1
  have OX : Hid (OwS zss w1 (w.heap.size + 1 + 1 + 1 + 1) w1.heap.size (.slice ax zss.length cx)) := by
    simp at ox
    exact ox
  have q0 := S1.out.c0
  have q1 := S1.out.c1
  have f0 := S1.out.f0
  have f1 := S1.out.f1
  clear g1 ox
  go_wp2_with fail
  refine bodyPost_ret (ret_rb Tryd.results44 _ _ rfl rfl (st_put2 S1.out _ _)) rfl ⟨_, rfl, ?_, ax, cx, rfl, ?_⟩
  · exact (HG1.out.own (p := ⟨w.heap.size + 1 + 1 + 1, 0, none⟩) (by simp; omega) _).own (p := ⟨w.heap.size + 1 + 1 + 1, 1, none⟩) (by simp; omega) _
  · have h2 := (OX.out.put (k := w.heap.size + 1 + 1 + 1) (j := 0) (x := .bool n) (by omega)).put (k := w.heap.size + 1 + 1 + 1) (j := 1) (x := .slice ax zss.length cx) (by omega)
    have h3 := h2.low (lo' := w.heap.size) (by omega)
    exact h3.high (by simp) (Nat.le_refl _)
theorem impl_SubRows (N : Int) (ps : List Int) (a b : Bool) (xss yss : List (List Int)) (v u1 u2 : Value) (w : World) (lo1 hi1 lo2 hi2 : Nat) (hP : PrsW w) (hT : TabW w) (hv : Row w v ps) (hf : Fit v) (h1 : OwS xss w lo1 hi1 u1) (h2 : OwS yss w lo2 hi2 u2) (hlp : ps.length ≤ 1048576) (hl1 : xss.length ≤ 1048576) (hr1 : ∀ r ∈ xss, r.length ≤ 1048576) (hl2 : yss.length ≤ 1048576) (hr2 : ∀ r ∈ yss, r.length ≤ 1048576) :
    Calls Tryd.prog 44 #[.agg #[.int .i64 N, v], .agg #[.bool a, u1], .agg #[.bool b, u2]] w fun e w' => (twoB N ps a b xss yss = true → Rs w a (pairL subF ps xss yss) true e w') ∧ (twoB N ps a b xss yss = false → Rs w false [] false e w') := by
  obtain ⟨Rf, hRf⟩ := Rings_roots N ps
  obtain ⟨us1, cs1, at1⟩ := h1.ats ps
  obtain ⟨us2, cs2, at2⟩ := h2.ats ps
  obtain ⟨a0, cap0, ev⟩ := hv.slice
  obtain ⟨a1, cap1, e1⟩ := h1.slice
  obtain ⟨a2, cap2, e2⟩ := h2.slice
  subst ev e1 e2
  have c1 := fun W W' (q : Old w W) (p1 : PrsW W') (p2 : TabW W') (q' : Old W W') => impl_ringRows N a ps xss Rf us1 cs1 (.slice a0 ps.length cap0) a1 cap1 W' p1 p2 (hv.old (Old.trans q q')) hf hlp hl1 hr1 (fun h => (at1 h).old (Old.trans q q')) hRf
  have c2 := fun W W' (q : Old w W) (p1 : PrsW W') (p2 : TabW W') (q' : Old W W') => impl_ringRows N b ps yss Rf us2 cs2 (.slice a0 ps.length cap0) a2 cap2 W' p1 p2 (hv.old (Old.trans q q')) hf hlp hl2 hr2 (fun h => (at2 h).old (Old.trans q q')) hRf
  cases htw : twoB N ps a b xss yss
  · have hno : ¬ (grB N ps xss = true ∧ grB N ps yss = true ∧ a = b) := fun h => by
      rw [two_of.2 h] at htw
      cases htw
    refine (impl_SubRows_of N a b a0 a1 a2 _ _ _ _ _ _ w false [] false (fun W q => eachPair_less_no N ps a b xss yss Rf us1 us2 _ a1 a2 cap1 cap2 W (hP.old q) (hT.old q) (hv.old q) (fun W' p1 p2 q' => c1 W W' q p1 p2 q') (fun W' p1 p2 q' => c2 W W' q p1 p2 q') hno)).mono (fun e w' h => ⟨(fun h' => by cases h'), fun _ => h⟩)
  · obtain ⟨g1, g2, g3⟩ := two_of.1 htw
    obtain ⟨t1, t2, t3, t4, t5, t6⟩ := two_parts htw
    obtain ⟨Nn, hNn⟩ : ∃ Nn : Nat, N = Nn := ⟨N.toNat, by omega⟩
    subst hNn
    refine (impl_SubRows_of Nn a b a0 a1 a2 _ _ _ _ _ _ w a (pairL subF ps xss yss) true (fun W q => eachPair_less_yes Nn ps a b xss yss Rf us1 us2 _ a1 a2 cap1 cap2 W (hP.old q) (hT.old q) (hv.old q) (fun W' p1 p2 q' => c1 W W' q p1 p2 q') (fun W' p1 p2 q' => c2 W W' q p1 p2 q') g1 g2 g3 (pairL subF ps xss yss) (pairL_len _ _ _ _) t2.2 (fun k hk => ?_))).mono (fun e w' h => ⟨fun _ => h, (fun h' => by cases h')⟩)
    obtain ⟨s1, s2, s3, s4⟩ := t6 k hk
    rw [pairL_get _ _ _ _ _ hk]
    refine ⟨by rw [pairR_len]; omega, fun W' q' => ?_⟩
    obtain ⟨b1, _, _, _, r1⟩ := at1 (by omega)
    obtain ⟨b2, _, _, _, r2⟩ := at2 (by omega)
    have row1 := (r1 k (by omega)).2.2
    have row2 := (r2 k (by omega)).2.2
    have l1 : (xss.getD k []).length = Nn := by omega
    have l2 : (yss.getD k []).length = Nn := by omega
    rw [l1] at row1
    rw [l2] at row2
    refine impl_less (ps.getD k 0) (Rf k) (ps.getD k 0) (Rf k) Nn a b Nn (xss.getD k []) (yss.getD k []) (us1 k) (us2 k) W' ((row1.recap (fun h => by rw [h] at l1; simp at l1; omega)).old (Old.trans q q')) ((row2.recap (fun h => by rw [h] at l2; simp at l2; omega)).old (Old.trans q q')) s3 (by omega) l1 l2 (fun i hi => s4 i (by omega))
end Go.Proofs.YtcbbljadjibfeaaDoor
/- Proved: the statement on SubRows at every space and rows, in a world in which the two tables are laid. -/
namespace Go.Proofs.YtcbbljadjibfeaaDoor
open Go.ChangeShapes Go.WideShapes Go.ChangeAt Go.RowKit
open M1
set_option linter.unusedVariables false
set_option linter.unusedSimpArgs false
theorem SubRows_any (N : Int) (xs : List Int) (n m : Bool) (xss yss : List (List Int)) (v u t : Value) (w : World) (hv : Row w v xs) (hl : xs.length ≤ 9223372036854775807) (hx : ∀ x ∈ xs, -9223372036854775808 ≤ x ∧ x ≤ 9223372036854775807) (hu : RowS w u xss) (hlx : xss.length ≤ 9223372036854775807) (hlr : ∀ r ∈ xss, r.length ≤ 9223372036854775807) (ht : RowS w t yss) (hly : yss.length ≤ 9223372036854775807) (hlq : ∀ r ∈ yss, r.length ≤ 9223372036854775807) (hP : PrsW w) (hT : TabW w) :
    Calls Tryd.prog 9 #[.agg #[.int .i64 N, v], .agg #[.bool n, u], .agg #[.bool m, t]] w fun e w' => e = .returned (.bool true) ∧ Old w w' := by
  obtain ⟨a0, c0, rfl⟩ := hv.slice
  obtain ⟨a1, c1, rfl⟩ := hu.slice
  obtain ⟨a2, c2, rfl⟩ := ht.slice
  have bnd : ∀ {A : Prop}, ¬ leftN 1048576 xs.length < 0 → ¬ leftSS (leftN 1048576 xs.length) xss < 0 → ¬ leftSS (leftSS (leftN 1048576 xs.length) xss) yss < 0 → (xs.length ≤ 1048576 → xss.length ≤ 1048576 → (∀ r ∈ xss, r.length ≤ 1048576) → yss.length ≤ 1048576 → (∀ r ∈ yss, r.length ≤ 1048576) → offL xss xss.length ≤ 1048576 → offL yss yss.length ≤ 1048576 → A) → A := fun h1 h2 h3 k => by
    obtain ⟨q1, q2, q3⟩ := leftN_ok h1 (by omega)
    obtain ⟨p1, p2, p3, p4⟩ := leftSS_ok q3 h2
    obtain ⟨s1, s2, s3, s4⟩ := leftSS_ok (by omega) h3
    have o1 := offL_leftSS q3 h2
    have o2 := offL_leftSS (by omega) h3
    exact k (by omega) (by omega) (fun r hr => by have := p4 r hr; omega) (by omega) (fun r hr => by have := s4 r hr; omega) (by omega) (by omega)
  have zb : ∀ (zss : List (List Int)) (ro br : Bool),
      (twoB N xs n m xss yss = true → zss = pairL subF xs xss yss ∧ ro = true ∧ br = n) → (twoB N xs n m xss yss = false → zss = [] ∧ ro = false ∧ br = false) → zss.length ≤ 6 ∧ (∀ r ∈ zss, r.length ≤ 16) ∧ offL zss zss.length ≤ 96 := fun zss ro br h1 h2 => by
    have key : zss.length ≤ 6 ∧ ∀ r ∈ zss, r.length ≤ 16 := by
      cases htw : twoB N xs n m xss yss
      · obtain ⟨rfl, _, _⟩ := h2 htw
        exact ⟨by simp, fun r hr => by cases hr⟩
      · obtain ⟨rfl, _, _⟩ := h1 htw
        obtain ⟨t1, t2, t3, t4, t5, t6⟩ := two_parts htw
        refine ⟨by rw [pairL_len]; omega, fun r hr => ?_⟩
        unfold pairL at hr
        rw [List.mem_map] at hr
        obtain ⟨k, hk, rfl⟩ := hr
        have hk' : k < xs.length := by simpa using hk
        rw [pairR_len]
        have := (t6 k hk').1
        omega
    refine ⟨key.1, key.2, ?_⟩
    have := offL_bd zss 16 key.2
    omega
  obtain ⟨zss, ro, br, hy, hn⟩ : ∃ (zss : List (List Int)) (ro br : Bool), (twoB N xs n m xss yss = true → zss = pairL subF xs xss yss ∧ ro = true ∧ br = n) ∧ (twoB N xs n m xss yss = false → zss = [] ∧ ro = false ∧ br = false) := by
    cases twoB N xs n m xss yss
    · exact ⟨[], false, false, (fun h => by cases h), fun _ => ⟨rfl, rfl, rfl⟩⟩
    · exact ⟨_, true, n, fun _ => ⟨rfl, rfl, rfl⟩, (fun h => by cases h)⟩
  obtain ⟨z1, z2, z3⟩ := zb zss ro br hy hn
  have z2' : ∀ r ∈ zss, r.length ≤ 1048576 := fun r hr => by have := z2 r hr; omega
  refine law_subrows w N xs.length a0 c0 n xss.length a1 c1 m yss.length a2 c2 br zss.length ro (leftN 1048576 xs.length) (leftSS (leftN 1048576 xs.length) xss) (leftSS (leftSS (leftN 1048576 xs.length) xss) yss)
    (fun W g => ks_sz N a0 xs.length c0 1048576 W hl (by omega) (by omega))
    (fun h W g => by
      obtain ⟨q1, q2, q3⟩ := leftN_ok h (by omega)
      exact kr_sz n xss _ _ W (hu.old g) hlx hlr q3 (by omega))
    (fun h h2 W g => by
      obtain ⟨q1, q2, q3⟩ := leftN_ok h (by omega)
      obtain ⟨p1, p2, p3, p4⟩ := leftSS_ok q3 h2
      exact kr_sz m yss _ _ W (ht.old g) hly hlq (by omega) (by omega))
    (XS N xs) (far_XS N xs) shape_XS (fun h1 h2 h3 W g => bnd h1 h2 h3 fun d1 d2 d3 d4 d5 d6 d7 => ks_to N xs _ W (hv.old g) d1) (fun h1 h2 h3 W lo hi g lo' hi' g' k k' => bnd h1 h2 h3 fun d1 d2 d3 d4 d5 d6 d7 => ks_eq N xs W lo hi g lo' hi' g' k k' (by omega))
    (1 + xs.length) (by omega) (fun h1 h2 h3 W lo hi g k => bnd h1 h2 h3 fun d1 d2 d3 d4 d5 d6 d7 => ks_mark N xs 1 W lo hi g k d1 (by omega) (by omega))
    (XR n xss) (far_XR n xss) shape_XR (fun h1 h2 h3 W g => bnd h1 h2 h3 fun d1 d2 d3 d4 d5 d6 d7 => kr_to n xss _ W (hu.old g) d2 d3) (fun h1 h2 h3 W lo hi g lo' hi' g' k k' => bnd h1 h2 h3 fun d1 d2 d3 d4 d5 d6 d7 => kr_eq n xss W lo hi g lo' hi' g' k k' d2 d3)
    (1 + xs.length + offL xss xss.length) (by omega) (fun h1 h2 h3 W lo hi g k => bnd h1 h2 h3 fun d1 d2 d3 d4 d5 d6 d7 => (kr_mark n xss _ W lo hi g k d2 d3 (by omega) (by omega)).mono (fun e w' h => ⟨h.1, h.2.1⟩))
    (XR m yss) (far_XR m yss) shape_XR (fun h1 h2 h3 W g => bnd h1 h2 h3 fun d1 d2 d3 d4 d5 d6 d7 => kr_to m yss _ W (ht.old g) d4 d5) (fun h1 h2 h3 W lo hi g lo' hi' g' k k' => bnd h1 h2 h3 fun d1 d2 d3 d4 d5 d6 d7 => kr_eq m yss W lo hi g lo' hi' g' k k' d4 d5)
    (1 + xs.length + offL xss xss.length + offL yss yss.length) (by omega) (fun h1 h2 h3 W lo hi g k => bnd h1 h2 h3 fun d1 d2 d3 d4 d5 d6 d7 => (kr_mark m yss _ W lo hi g k d4 d5 (by omega) (by omega)).mono (fun e w' h => ⟨h.1, h.2.1⟩))
    (XR br zss) (far_XR br zss) shape_XR (XR br zss) (far_XR br zss) shape_XR (XM br 1 zss) (far_XM br 1 zss) shape_XM
    (fun h1 h2 h3 W lo0 hi0 g0 lo1 hi1 g1 lo2 hi2 g2 k0 k1 k2 => bnd h1 h2 h3 fun d1 d2 d3 d4 d5 d6 d7 => ?_) (fun h1 h2 h3 W lo0 hi0 g0 lo1 hi1 g1 lo2 hi2 g2 k0 k1 k2 q => bnd h1 h2 h3 fun d1 d2 d3 d4 d5 d6 d7 => ?_)
    (fun h1 h2 h3 W lo hi p lo' hi' p' k k' => kr_eq br zss W lo hi p lo' hi' p' k k' (by omega) z2')
    (1 + offL zss zss.length) (by omega) (fun h1 h2 h3 W lo hi p k => kr_mark br zss 1 W lo hi p k (by omega) z2' (by omega) (by omega)) (fun h1 h2 h3 W lo hi p k => kr_held br zss 1 W lo hi p k (by omega) z2' (by omega) (by omega))
  · obtain ⟨a, c, rfl, o, f⟩ := k0
    obtain ⟨a', c', rfl, o'⟩ := k1
    obtain ⟨a'', c'', rfl, o''⟩ := k2
    cases htw : twoB N xs n m xss yss
    · obtain ⟨rfl, rfl, rfl⟩ := hn htw
      exact spec_SubRows_no N xs n m xss yss _ _ _ W o.row f o'.rowS o''.rowS d1 hx d2 d3 d4 d5 htw
    · obtain ⟨rfl, rfl, rfl⟩ := hy htw
      exact spec_SubRows_yes N xs br m xss yss _ _ _ W o.row f o'.rowS o''.rowS d1 hx d2 d3 d4 d5 htw
  · obtain ⟨a, c, rfl, o, f⟩ := k0
    obtain ⟨a', c', rfl, o'⟩ := k1
    obtain ⟨a'', c'', rfl, o''⟩ := k2
    refine (impl_SubRows N xs n m xss yss _ _ _ W _ _ _ _ (hP.old q) (hT.old q) o.row f o' o'' d1 d2 d3 d4 d5).mono (fun e w' h => ?_)
    cases htw : twoB N xs n m xss yss
    · obtain ⟨rfl, rfl, rfl⟩ := hn htw
      exact h.2 htw
    · obtain ⟨rfl, rfl, rfl⟩ := hy htw
      exact h.1 htw
end Go.Proofs.YtcbbljadjibfeaaDoor
