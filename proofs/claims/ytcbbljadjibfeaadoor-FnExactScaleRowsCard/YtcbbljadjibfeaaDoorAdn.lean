/- Proved: the model's AddRows. -/
import Derived.Test.YtcbbljadjibfeaaDoorAdm
import Derived.Test.YtcbbljadjibfeaaDoorROps
import Derived.Deep.RegionWith
namespace Go.Proofs.YtcbbljadjibfeaaDoor
open Go.ChangeShapes Go.WideShapes Go.ChangeAt Go.RowKit
open M1
set_option linter.unusedVariables false
set_option linter.unusedSimpArgs false
/-- rows that are answered, and whether -/
def Rs (w : World) (n : Bool) (zss : List (List Int)) (ok : Bool) (e : Ending) (w' : World) : Prop := ∃ r0, e = .returned (.tuple #[.agg r0, .bool ok]) ∧ Old w w' ∧ XR n zss w' w.heap.size w'.heap.size r0
theorem st_put2 {w : World} {k : Nat} {x y : Value} {t : TypeId} (h : StW w k x y t) (x' y' : Value) : StW ((w.setCell ⟨k, 0, none⟩ x').setCell ⟨k, 1, none⟩ y') k x' y' t := by
  have h1 := heap_setCell_same w k 0 _ _ x' h
  have h2 := heap_setCell_same _ k 1 _ _ y' h1
  exact h2
theorem XR.nil (n : Bool) (W : World) (lo hi : Nat) (h : hi ≤ W.heap.size) : XR n [] W lo hi #[.bool n, .slice none 0 0] := ⟨none, 0, rfl, h, Or.inl ⟨rfl, rfl⟩⟩
set_option maxRecDepth 100000 in
set_option maxHeartbeats 4000000 in
theorem spec_AddRows_no (N : Int) (ps : List Int) (a b : Bool) (xss yss : List (List Int)) (v u1 u2 : Value) (w : World) (hv : Row w v ps) (hf : Fit v) (h1 : RowS w u1 xss) (h2 : RowS w u2 yss) (hlp : ps.length ≤ 1048576) (hx : ∀ x ∈ ps, -9223372036854775808 ≤ x ∧ x ≤ 9223372036854775807) (hl1 : xss.length ≤ 1048576) (hr1 : ∀ r ∈ xss, r.length ≤ 1048576) (hl2 : yss.length ≤ 1048576) (hr2 : ∀ r ∈ yss, r.length ≤ 1048576) (hno : twoB N ps a b xss yss = false) :
    Calls Tryd.prog 41 #[.agg #[.int .i64 N, v], .agg #[.bool a, u1], .agg #[.bool b, u2]] w (Rs w false [] false) := by
  have c1 := fun W (h : Old w W) => spec_l5Two N ps a b xss yss v u1 u2 W (hv.old h) hf (h1.old h) (h2.old h) hlp hx hl1 hr1 hl2 hr2
  rw [hno] at c1
  obtain ⟨a0, cap0, ev⟩ := hv.slice
  obtain ⟨a1, cap1, e1⟩ := h1.slice
  obtain ⟨a2, cap2, e2⟩ := h2.slice
  subst ev e1 e2
  have HA : Hid (Old w ((((w.alloc (.cells #[.int .i64 N, .slice a0 ps.length cap0] 42)).alloc (.cells #[.bool a, .slice a1 xss.length cap1] 51)).alloc (.cells #[.bool b, .slice a2 yss.length cap2] 51)).alloc (.cells #[.bool false, .slice none 0 0] 51))) := ((((Old.refl w).alloc _).alloc _).alloc _).alloc _
  have HS : Hid (StW ((((w.alloc (.cells #[.int .i64 N, .slice a0 ps.length cap0] 42)).alloc (.cells #[.bool a, .slice a1 xss.length cap1] 51)).alloc (.cells #[.bool b, .slice a2 yss.length cap2] 51)).alloc (.cells #[.bool false, .slice none 0 0] 51)) (w.heap.size + 1 + 1 + 1) (.bool false) (.slice none 0 0) 51) := by
    have := StW.new (((w.alloc (.cells #[.int .i64 N, .slice a0 ps.length cap0] 42)).alloc (.cells #[.bool a, .slice a1 xss.length cap1] 51)).alloc (.cells #[.bool b, .slice a2 yss.length cap2] 51)) (.bool false) (.slice none 0 0) 51
    simp at this
    exact this
  clear hv h1 h2 hf hx hr1 hr2
  go_enter Tryd.func41, Tryd.ntmps41
  go_wp2_with fail
  refine (c1 _ HA.out).mono ?_
  rintro e w1 ⟨rfl, g1⟩
  have HG1 : Hid (Old w w1) := Old.trans HA.out g1
  have S1 : Hid (StW w1 (w.heap.size + 1 + 1 + 1) (.bool false) (.slice none 0 0) 51) := HS.out.old g1
  have q0 := S1.out.c0
  have q1 := S1.out.c1
  have f0 := S1.out.f0
  have f1 := S1.out.f1
  clear g1
  go_wp2_with fail
  have hs : w.heap.size + 1 + 1 + 1 < w1.heap.size := S1.out.lt
  refine bodyPost_ret (ret_rb (x := .bool false) (y := .slice none 0 0) (z := .bool false) Tryd.results41 _ _ rfl rfl (st_put2 S1.out _ _)) rfl ⟨_, rfl, ?_, XR.nil _ _ _ _ (Nat.le_refl _)⟩
  exact (HG1.out.own (p := ⟨w.heap.size + 1 + 1 + 1, 0, none⟩) (by simp; omega) _).own (p := ⟨w.heap.size + 1 + 1 + 1, 1, none⟩) (by simp; omega) _
set_option maxRecDepth 100000 in
set_option maxHeartbeats 8000000 in
theorem spec_AddRows_yes (N : Int) (ps : List Int) (a b : Bool) (xss yss : List (List Int)) (v u1 u2 : Value) (w : World) (hv : Row w v ps) (hf : Fit v) (h1 : RowS w u1 xss) (h2 : RowS w u2 yss) (hlp : ps.length ≤ 1048576) (hx : ∀ x ∈ ps, -9223372036854775808 ≤ x ∧ x ≤ 9223372036854775807) (hl1 : xss.length ≤ 1048576) (hr1 : ∀ r ∈ xss, r.length ≤ 1048576) (hl2 : yss.length ≤ 1048576) (hr2 : ∀ r ∈ yss, r.length ≤ 1048576) (hno : twoB N ps a b xss yss = true) :
    Calls Tryd.prog 41 #[.agg #[.int .i64 N, v], .agg #[.bool a, u1], .agg #[.bool b, u2]] w (Rs w a (pairL addF ps xss yss) true) := by
  have c1 := fun W (h : Old w W) => spec_l5Two N ps a b xss yss v u1 u2 W (hv.old h) hf (h1.old h) (h2.old h) hlp hx hl1 hr1 hl2 hr2
  rw [hno] at c1
  obtain ⟨t1, t2, t3, t4, t5, t6⟩ := two_parts hno
  have c2 := fun W (h : Old w W) => spec_l5Add N ps xss yss v u1 u2 W (hv.old h) (h1.old h) (h2.old h) t2 t3 t4 (fun k hk => by
    obtain ⟨r1, r2, r3, r4⟩ := t6 k hk
    refine ⟨by omega, by omega, r3, fun i hi => ?_⟩
    obtain ⟨⟨x1, x2⟩, ⟨x3, x4⟩⟩ := r4 i hi
    omega)
  obtain ⟨a0, cap0, ev⟩ := hv.slice
  obtain ⟨a1, cap1, e1⟩ := h1.slice
  obtain ⟨a2, cap2, e2⟩ := h2.slice
  subst ev e1 e2
  have HA : Hid (Old w ((((w.alloc (.cells #[.int .i64 N, .slice a0 ps.length cap0] 42)).alloc (.cells #[.bool a, .slice a1 xss.length cap1] 51)).alloc (.cells #[.bool b, .slice a2 yss.length cap2] 51)).alloc (.cells #[.bool false, .slice none 0 0] 51))) := ((((Old.refl w).alloc _).alloc _).alloc _).alloc _
  have HS : Hid (StW ((((w.alloc (.cells #[.int .i64 N, .slice a0 ps.length cap0] 42)).alloc (.cells #[.bool a, .slice a1 xss.length cap1] 51)).alloc (.cells #[.bool b, .slice a2 yss.length cap2] 51)).alloc (.cells #[.bool false, .slice none 0 0] 51)) (w.heap.size + 1 + 1 + 1) (.bool false) (.slice none 0 0) 51) := by
    have := StW.new (((w.alloc (.cells #[.int .i64 N, .slice a0 ps.length cap0] 42)).alloc (.cells #[.bool a, .slice a1 xss.length cap1] 51)).alloc (.cells #[.bool b, .slice a2 yss.length cap2] 51)) (.bool false) (.slice none 0 0) 51
    simp at this
    exact this
  have HAS : Hid (∀ W', Old (((w.alloc (.cells #[.int .i64 N, .slice a0 ps.length cap0] 42)).alloc (.cells #[.bool a, .slice a1 xss.length cap1] 51)).alloc (.cells #[.bool b, .slice a2 yss.length cap2] 51)) W' → (W'.cell? ⟨w.heap.size, 0, none⟩ = some (.int .i64 N) ∧ W'.cell? ⟨w.heap.size, 1, none⟩ = some (.slice a0 ps.length cap0) ∧ W'.cell? ⟨w.heap.size + 1, 0, none⟩ = some (.bool a) ∧ W'.cell? ⟨w.heap.size + 1, 1, none⟩ = some (.slice a1 xss.length cap1) ∧ W'.cell? ⟨w.heap.size + 1 + 1, 1, none⟩ = some (.slice a2 yss.length cap2))) := fun W' g' => ⟨((StW.at31 w _ _ _ _ _ _ _ _ _).old g').c0, ((StW.at31 w _ _ _ _ _ _ _ _ _).old g').c1, ((StW.at32 w _ _ _ _ _ _ _ _ _).old g').c0, ((StW.at32 w _ _ _ _ _ _ _ _ _).old g').c1, ((StW.at33 w _ _ _ _ _ _ _ _ _).old g').c1⟩
  have hzl := pairL_len addF ps xss yss
  have HZL : Hid ((pairL addF ps xss yss).length = ps.length) := hzl
  generalize pairL addF ps xss yss = zss at *
  clear hv h1 h2 hf hx hr1 hr2 t1 t2 t3 t4 t5 t6 hzl hno
  go_enter Tryd.func41, Tryd.ntmps41
  go_wp2_with fail
  refine (c1 _ HA.out).mono ?_
  rintro e w1 ⟨rfl, g1⟩
  have HG1 : Hid (Old w w1) := Old.trans HA.out g1
  have HS1 : Hid (StW w1 (w.heap.size + 1 + 1 + 1) (.bool false) (.slice none 0 0) 51) := HS.out.old g1
  have HO3 : Hid (Old (((w.alloc (.cells #[.int .i64 N, .slice a0 ps.length cap0] 42)).alloc (.cells #[.bool a, .slice a1 xss.length cap1] 51)).alloc (.cells #[.bool b, .slice a2 yss.length cap2] 51)) w1) := Old.trans ((Old.refl _).alloc _) g1
  have HAS1 : Hid (∀ W', Old w1 W' → (W'.cell? ⟨w.heap.size, 0, none⟩ = some (.int .i64 N) ∧ W'.cell? ⟨w.heap.size, 1, none⟩ = some (.slice a0 ps.length cap0) ∧ W'.cell? ⟨w.heap.size + 1, 0, none⟩ = some (.bool a) ∧ W'.cell? ⟨w.heap.size + 1, 1, none⟩ = some (.slice a1 xss.length cap1) ∧ W'.cell? ⟨w.heap.size + 1 + 1, 1, none⟩ = some (.slice a2 yss.length cap2))) := fun W' g => HAS.out W' (Old.trans HO3.out g)
  have HAS2 : Hid (∀ W' x y, Old w1 W' → ((fun W' => W'.cell? ⟨w.heap.size, 0, none⟩ = some (.int .i64 N) ∧ W'.cell? ⟨w.heap.size, 1, none⟩ = some (.slice a0 ps.length cap0) ∧ W'.cell? ⟨w.heap.size + 1, 0, none⟩ = some (.bool a) ∧ W'.cell? ⟨w.heap.size + 1, 1, none⟩ = some (.slice a1 xss.length cap1) ∧ W'.cell? ⟨w.heap.size + 1 + 1, 1, none⟩ = some (.slice a2 yss.length cap2)) ((W'.setCell ⟨w.heap.size + 1 + 1 + 1, 0, none⟩ x).setCell ⟨w.heap.size + 1 + 1 + 1, 1, none⟩ y))) := fun W' x y g => HAS.out _ (((Old.trans HO3.out g).own (p := ⟨w.heap.size + 1 + 1 + 1, 0, none⟩) (by simp) _).own (p := ⟨w.heap.size + 1 + 1 + 1, 1, none⟩) (by simp) _)
  have hs : w.heap.size + 1 + 1 + 1 < w1.heap.size := HS1.out.lt
  clear g1
  obtain ⟨z1, z2, z3, z4, z5⟩ := HAS1.out w1 (Old.refl _)
  go_wp2_with fail
  go_region_held3 (fun W' => W'.cell? ⟨w.heap.size, 0, none⟩ = some (.int .i64 N) ∧ W'.cell? ⟨w.heap.size, 1, none⟩ = some (.slice a0 ps.length cap0) ∧ W'.cell? ⟨w.heap.size + 1, 0, none⟩ = some (.bool a) ∧ W'.cell? ⟨w.heap.size + 1, 1, none⟩ = some (.slice a1 xss.length cap1) ∧ W'.cell? ⟨w.heap.size + 1 + 1, 1, none⟩ = some (.slice a2 yss.length cap2)) (first | with_reducible exact HAS1.out _ G2.out | with_reducible exact HAS1.out _ (Below.drew (Old.refl w1)) | with_reducible exact HAS2.out _ _ _ G2.out | with_reducible exact HAS1.out _ (Old.refl w1)) (first
    | (go_at_call 79; refine (c2 _ (Below.drew HG1.out)).mono ?_; rintro e w2 ⟨v2, rfl, g2, o2⟩; obtain ⟨a5, cap5, rfl⟩ := o2.slice; have G2 : Hid (Old w1 w2) := Old.trans (Below.drew (Old.refl w1)) g2; have O2 : Hid (OwS zss w2 w1.heap.size w2.heap.size (.slice a5 zss.length cap5)) := o2; clear g2 o2; have S2 : Hid (StW w2 (w.heap.size + 1 + 1 + 1) (.bool false) (.slice none 0 0) 51) := HS1.out.old G2.out; have y6 := S2.out.c0; have y7 := S2.out.c1; have y8 := S2.out.f0; have y9 := S2.out.f1)
    | fail)
  all_goals
    go_wp2_with fail
    refine bodyPost_ret (ret_rb Tryd.results41 _ _ rfl rfl (st_put2 S2.out _ _)) rfl ⟨_, rfl, ?_, a5, cap5, rfl, ?_⟩
    · exact ((Old.trans HG1.out G2.out).own (p := ⟨w.heap.size + 1 + 1 + 1, 0, none⟩) (by simp; omega) _).own (p := ⟨w.heap.size + 1 + 1 + 1, 1, none⟩) (by simp; omega) _
    · have h2 := (O2.out.put (k := w.heap.size + 1 + 1 + 1) (j := 0) (x := .bool a) (by omega)).put (k := w.heap.size + 1 + 1 + 1) (j := 1) (x := .slice a5 zss.length cap5) (by omega)
      have h3 := h2.low (lo' := w.heap.size) (by omega)
      exact h3.high (by simp) (Nat.le_refl _)
end Go.Proofs.YtcbbljadjibfeaaDoor
