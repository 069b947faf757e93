/- Proved: the program's AddRows. -/
import Derived.Test.YtcbbljadjibfeaaDoorEapy
import Derived.Test.YtcbbljadjibfeaaDoorPls
namespace Go.Proofs.YtcbbljadjibfeaaDoor
open Go.ChangeShapes Go.WideShapes Go.ChangeAt Go.RowKit
open M1
set_option linter.unusedVariables false
set_option linter.unusedSimpArgs false
set_option maxRecDepth 100000 in
set_option maxHeartbeats 4000000 in
theorem impl_AddRows_of (N : Int) (a b : Bool) (a0 a1 a2 : Option Addr) (l0 l1 l2 cap0 cap1 cap2 : Nat) (w : World) (n : Bool) (zss : List (List Int)) (ok : Bool)
    (c : ∀ W, Old w W → Calls Tryd.prog 80 #[.agg #[.int .i64 N, .slice a0 l0 cap0], .agg #[.bool a, .slice a1 l1 cap1], .agg #[.bool b, .slice a2 l2 cap2], .func (.func 81) #[] #[]] W (Rs W n zss ok)) :
    Calls Tryd.prog 42 #[.agg #[.int .i64 N, .slice a0 l0 cap0], .agg #[.bool a, .slice a1 l1 cap1], .agg #[.bool b, .slice a2 l2 cap2]] w (Rs w n zss ok) := by
  have HA : Hid (Old w ((((w.alloc (.cells #[.int .i64 N, .slice a0 l0 cap0] 42)).alloc (.cells #[.bool a, .slice a1 l1 cap1] 51)).alloc (.cells #[.bool b, .slice a2 l2 cap2] 51)).alloc (.cells #[.bool false, .slice none 0 0] 51))) := ((((Old.refl w).alloc _).alloc _).alloc _).alloc _
  have HS : Hid (StW ((((w.alloc (.cells #[.int .i64 N, .slice a0 l0 cap0] 42)).alloc (.cells #[.bool a, .slice a1 l1 cap1] 51)).alloc (.cells #[.bool b, .slice a2 l2 cap2] 51)).alloc (.cells #[.bool false, .slice none 0 0] 51)) (w.heap.size + 1 + 1 + 1) (.bool false) (.slice none 0 0) 51) := by
    have := StW.new (((w.alloc (.cells #[.int .i64 N, .slice a0 l0 cap0] 42)).alloc (.cells #[.bool a, .slice a1 l1 cap1] 51)).alloc (.cells #[.bool b, .slice a2 l2 cap2] 51)) (.bool false) (.slice none 0 0) 51
    simp at this
    exact this
  go_enter Tryd.func42, Tryd.ntmps42
  go_wp2_with fail
  refine (c _ HA.out).mono ?_
  rintro e w1 ⟨r0, rfl, g1, x1⟩
  obtain ⟨ax, cx, rfl, ox⟩ := x1
  have HG1 : Hid (Old w w1) := Old.trans HA.out g1
  have S1 : Hid (StW w1 (w.heap.size + 1 + 1 + 1) (.bool false) (.slice none 0 0) 51) := HS.out.old g1
  have OX : Hid (OwS zss w1 (w.heap.size + 1 + 1 + 1 + 1) w1.heap.size (.slice ax zss.length cx)) := by
    simp at ox
    exact ox
  have q0 := S1.out.c0
  have q1 := S1.out.c1
  have f0 := S1.out.f0
  have f1 := S1.out.f1
  clear g1 ox
  go_wp2_with fail
  refine bodyPost_ret (ret_rb Tryd.results42 _ _ rfl rfl (st_put2 S1.out _ _)) rfl ⟨_, rfl, ?_, ax, cx, rfl, ?_⟩
  · exact (HG1.out.own (p := ⟨w.heap.size + 1 + 1 + 1, 0, none⟩) (by simp; omega) _).own (p := ⟨w.heap.size + 1 + 1 + 1, 1, none⟩) (by simp; omega) _
  · have h2 := (OX.out.put (k := w.heap.size + 1 + 1 + 1) (j := 0) (x := .bool n) (by omega)).put (k := w.heap.size + 1 + 1 + 1) (j := 1) (x := .slice ax zss.length cx) (by omega)
    have h3 := h2.low (lo' := w.heap.size) (by omega)
    exact h3.high (by simp) (Nat.le_refl _)
theorem two_of {N : Int} {ps : List Int} {a b : Bool} {xss yss : List (List Int)} : twoB N ps a b xss yss = true ↔ (grB N ps xss = true ∧ grB N ps yss = true ∧ a = b) := by
  unfold twoB grB
  cases spB N ps <;> cases rwB N ps xss <;> cases rwB N ps yss <;> cases a <;> cases b <;> simp
theorem OwS.ats {xss : List (List Int)} {W : World} {lo hi : Nat} {v : Value} (ps : List Int) (h : OwS xss W lo hi v) : ∃ us cs, 0 < xss.length → RowsAt W v ps xss us cs := by
  rcases Nat.eq_zero_or_pos xss.length with h0 | h0
  · exact ⟨fun _ => none, fun _ => 0, fun h => by omega⟩
  · obtain ⟨us, cs, h⟩ := h.at ps h0
    exact ⟨us, cs, fun _ => h⟩
theorem impl_AddRows (N : Int) (ps : List Int) (a b : Bool) (xss yss : List (List Int)) (v u1 u2 : Value) (w : World) (lo1 hi1 lo2 hi2 : Nat) (hP : PrsW w) (hT : TabW w) (hv : Row w v ps) (hf : Fit v) (h1 : OwS xss w lo1 hi1 u1) (h2 : OwS yss w lo2 hi2 u2) (hlp : ps.length ≤ 1048576) (hl1 : xss.length ≤ 1048576) (hr1 : ∀ r ∈ xss, r.length ≤ 1048576) (hl2 : yss.length ≤ 1048576) (hr2 : ∀ r ∈ yss, r.length ≤ 1048576) :
    Calls Tryd.prog 42 #[.agg #[.int .i64 N, v], .agg #[.bool a, u1], .agg #[.bool b, u2]] w fun e w' => (twoB N ps a b xss yss = true → Rs w a (pairL addF ps xss yss) true e w') ∧ (twoB N ps a b xss yss = false → Rs w false [] false e w') := by
  obtain ⟨Rf, hRf⟩ := Rings_roots N ps
  obtain ⟨us1, cs1, at1⟩ := h1.ats ps
  obtain ⟨us2, cs2, at2⟩ := h2.ats ps
  obtain ⟨a0, cap0, ev⟩ := hv.slice
  obtain ⟨a1, cap1, e1⟩ := h1.slice
  obtain ⟨a2, cap2, e2⟩ := h2.slice
  subst ev e1 e2
  have c1 := fun W W' (q : Old w W) (p1 : PrsW W') (p2 : TabW W') (q' : Old W W') => impl_ringRows N a ps xss Rf us1 cs1 (.slice a0 ps.length cap0) a1 cap1 W' p1 p2 (hv.old (Old.trans q q')) hf hlp hl1 hr1 (fun h => (at1 h).old (Old.trans q q')) hRf
  have c2 := fun W W' (q : Old w W) (p1 : PrsW W') (p2 : TabW W') (q' : Old W W') => impl_ringRows N b ps yss Rf us2 cs2 (.slice a0 ps.length cap0) a2 cap2 W' p1 p2 (hv.old (Old.trans q q')) hf hlp hl2 hr2 (fun h => (at2 h).old (Old.trans q q')) hRf
  cases htw : twoB N ps a b xss yss
  · have hno : ¬ (grB N ps xss = true ∧ grB N ps yss = true ∧ a = b) := fun h => by
      rw [two_of.2 h] at htw
      cases htw
    refine (impl_AddRows_of N a b a0 a1 a2 _ _ _ _ _ _ w false [] false (fun W q => eachPair_plus_no N ps a b xss yss Rf us1 us2 _ a1 a2 cap1 cap2 W (hP.old q) (hT.old q) (hv.old q) (fun W' p1 p2 q' => c1 W W' q p1 p2 q') (fun W' p1 p2 q' => c2 W W' q p1 p2 q') hno)).mono (fun e w' h => ⟨(fun h' => by cases h'), fun _ => h⟩)
  · obtain ⟨g1, g2, g3⟩ := two_of.1 htw
    obtain ⟨t1, t2, t3, t4, t5, t6⟩ := two_parts htw
    obtain ⟨Nn, hNn⟩ : ∃ Nn : Nat, N = Nn := ⟨N.toNat, by omega⟩
    subst hNn
    refine (impl_AddRows_of Nn a b a0 a1 a2 _ _ _ _ _ _ w a (pairL addF ps xss yss) true (fun W q => eachPair_plus_yes Nn ps a b xss yss Rf us1 us2 _ a1 a2 cap1 cap2 W (hP.old q) (hT.old q) (hv.old q) (fun W' p1 p2 q' => c1 W W' q p1 p2 q') (fun W' p1 p2 q' => c2 W W' q p1 p2 q') g1 g2 g3 (pairL addF ps xss yss) (pairL_len _ _ _ _) t2.2 (fun k hk => ?_))).mono (fun e w' h => ⟨fun _ => h, (fun h' => by cases h')⟩)
    obtain ⟨s1, s2, s3, s4⟩ := t6 k hk
    rw [pairL_get _ _ _ _ _ hk]
    refine ⟨by rw [pairR_len]; omega, fun W' q' => ?_⟩
    obtain ⟨b1, _, _, _, r1⟩ := at1 (by omega)
    obtain ⟨b2, _, _, _, r2⟩ := at2 (by omega)
    have row1 := (r1 k (by omega)).2.2
    have row2 := (r2 k (by omega)).2.2
    have l1 : (xss.getD k []).length = Nn := by omega
    have l2 : (yss.getD k []).length = Nn := by omega
    rw [l1] at row1
    rw [l2] at row2
    refine impl_plus (ps.getD k 0) (Rf k) (ps.getD k 0) (Rf k) Nn a b Nn (xss.getD k []) (yss.getD k []) (us1 k) (us2 k) W' ((row1.recap (fun h => by rw [h] at l1; simp at l1; omega)).old (Old.trans q q')) ((row2.recap (fun h => by rw [h] at l2; simp at l2; omega)).old (Old.trans q q')) s3 (by omega) l1 l2 (fun i hi => s4 i (by omega))
end Go.Proofs.YtcbbljadjibfeaaDoor
