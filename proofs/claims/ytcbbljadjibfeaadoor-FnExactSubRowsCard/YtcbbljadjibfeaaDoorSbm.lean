/- Proved: the model's SubRows. -/
import Derived.Test.YtcbbljadjibfeaaDoorSbn
import Derived.Test.YtcbbljadjibfeaaDoorAdn
namespace Go.Proofs.YtcbbljadjibfeaaDoor
open Go.ChangeShapes Go.WideShapes Go.ChangeAt Go.RowKit
open M1
set_option linter.unusedVariables false
set_option linter.unusedSimpArgs false
theorem pair_sub (ps : List Int) (xss yss : List (List Int)) (h : ∀ k, k < ps.length → (xss.getD k []).length = (yss.getD k []).length) : pairL addF ps xss (pairL negF ps yss yss) = pairL subF ps xss yss := by
  unfold pairL
  apply List.map_congr_left
  intro k hk
  have hk' : k < ps.length := by simpa using hk
  have e : ((List.range ps.length).map fun k => pairR negF (ps.getD k 0) (yss.getD k []) (yss.getD k [])).getD k [] = pairR negF (ps.getD k 0) (yss.getD k []) (yss.getD k []) := pairL_get negF ps yss yss k hk'
  rw [e]
  unfold pairR
  apply List.map_congr_left
  intro i hi
  have hi' : i < (xss.getD k []).length := by simpa using hi
  have e2 := pairR_get negF (ps.getD k 0) (yss.getD k []) (yss.getD k []) i (by have := h k hk'; omega)
  unfold pairR at e2
  rw [e2]
  unfold addF subF negF
  rw [Int.add_emod_emod, Int.sub_eq_add_neg]
set_option maxRecDepth 100000 in
set_option maxHeartbeats 4000000 in
theorem spec_SubRows_no (N : Int) (ps : List Int) (a b : Bool) (xss yss : List (List Int)) (v u1 u2 : Value) (w : World) (hv : Row w v ps) (hf : Fit v) (h1 : RowS w u1 xss) (h2 : RowS w u2 yss) (hlp : ps.length ≤ 1048576) (hx : ∀ x ∈ ps, -9223372036854775808 ≤ x ∧ x ≤ 9223372036854775807) (hl1 : xss.length ≤ 1048576) (hr1 : ∀ r ∈ xss, r.length ≤ 1048576) (hl2 : yss.length ≤ 1048576) (hr2 : ∀ r ∈ yss, r.length ≤ 1048576) (hno : twoB N ps a b xss yss = false) :
    Calls Tryd.prog 43 #[.agg #[.int .i64 N, v], .agg #[.bool a, u1], .agg #[.bool b, u2]] w (Rs w false [] false) := by
  have c1 := fun W (h : Old w W) => spec_l5Two N ps a b xss yss v u1 u2 W (hv.old h) hf (h1.old h) (h2.old h) hlp hx hl1 hr1 hl2 hr2
  rw [hno] at c1
  obtain ⟨a0, cap0, ev⟩ := hv.slice
  obtain ⟨a1, cap1, e1⟩ := h1.slice
  obtain ⟨a2, cap2, e2⟩ := h2.slice
  subst ev e1 e2
  have HA : Hid (Old w ((((w.alloc (.cells #[.int .i64 N, .slice a0 ps.length cap0] 42)).alloc (.cells #[.bool a, .slice a1 xss.length cap1] 51)).alloc (.cells #[.bool b, .slice a2 yss.length cap2] 51)).alloc (.cells #[.bool false, .slice none 0 0] 51))) := ((((Old.refl w).alloc _).alloc _).alloc _).alloc _
  have HS : Hid (StW ((((w.alloc (.cells #[.int .i64 N, .slice a0 ps.length cap0] 42)).alloc (.cells #[.bool a, .slice a1 xss.length cap1] 51)).alloc (.cells #[.bool b, .slice a2 yss.length cap2] 51)).alloc (.cells #[.bool false, .slice none 0 0] 51)) (w.heap.size + 1 + 1 + 1) (.bool false) (.slice none 0 0) 51) := by
    have := StW.new (((w.alloc (.cells #[.int .i64 N, .slice a0 ps.length cap0] 42)).alloc (.cells #[.bool a, .slice a1 xss.length cap1] 51)).alloc (.cells #[.bool b, .slice a2 yss.length cap2] 51)) (.bool false) (.slice none 0 0) 51
    simp at this
    exact this
  clear hv h1 h2 hf hx hr1 hr2
  go_enter Tryd.func43, Tryd.ntmps43
  go_wp2_with fail
  refine (c1 _ HA.out).mono ?_
  rintro e w1 ⟨rfl, g1⟩
  have HG1 : Hid (Old w w1) := Old.trans HA.out g1
  have S1 : Hid (StW w1 (w.heap.size + 1 + 1 + 1) (.bool false) (.slice none 0 0) 51) := HS.out.old g1
  have q0 := S1.out.c0
  have q1 := S1.out.c1
  have f0 := S1.out.f0
  have f1 := S1.out.f1
  clear g1
  go_wp2_with fail
  have hs : w.heap.size + 1 + 1 + 1 < w1.heap.size := S1.out.lt
  refine bodyPost_ret (ret_rb (x := .bool false) (y := .slice none 0 0) (z := .bool false) Tryd.results43 _ _ rfl rfl (st_put2 S1.out _ _)) rfl ⟨_, rfl, ?_, XR.nil _ _ _ _ (Nat.le_refl _)⟩
  exact (HG1.out.own (p := ⟨w.heap.size + 1 + 1 + 1, 0, none⟩) (by simp; omega) _).own (p := ⟨w.heap.size + 1 + 1 + 1, 1, none⟩) (by simp; omega) _
set_option maxRecDepth 100000 in
set_option maxHeartbeats 8000000 in
theorem spec_SubRows_yes (N : Int) (ps : List Int) (a b : Bool) (xss yss : List (List Int)) (v u1 u2 : Value) (w : World) (hv : Row w v ps) (hf : Fit v) (h1 : RowS w u1 xss) (h2 : RowS w u2 yss) (hlp : ps.length ≤ 1048576) (hx : ∀ x ∈ ps, -9223372036854775808 ≤ x ∧ x ≤ 9223372036854775807) (hl1 : xss.length ≤ 1048576) (hr1 : ∀ r ∈ xss, r.length ≤ 1048576) (hl2 : yss.length ≤ 1048576) (hr2 : ∀ r ∈ yss, r.length ≤ 1048576) (hno : twoB N ps a b xss yss = true) :
    Calls Tryd.prog 43 #[.agg #[.int .i64 N, v], .agg #[.bool a, u1], .agg #[.bool b, u2]] w (Rs w a (pairL subF ps xss yss) true) := by
  have c1 := fun W (h : Old w W) => spec_l5Two N ps a b xss yss v u1 u2 W (hv.old h) hf (h1.old h) (h2.old h) hlp hx hl1 hr1 hl2 hr2
  rw [hno] at c1
  obtain ⟨t1, t2, t3, t4, t5, t6⟩ := two_parts hno
  have c2 := fun W (h : Old w W) => spec_l5Neg N ps yss v u2 W (hv.old h) (h2.old h) t2 t4 (fun k hk => by
    obtain ⟨r1, r2, r3, r4⟩ := t6 k hk
    refine ⟨by omega, r3, fun i hi => ?_⟩
    obtain ⟨⟨x1, x2⟩, ⟨x3, x4⟩⟩ := r4 i (by omega)
    omega)
  have c3 := fun W u (h : Old w W) (hu : RowS W u (pairL negF ps yss yss)) => spec_l5Add N ps xss (pairL negF ps yss yss) v u1 u W (hv.old h) (h1.old h) hu t2 t3 (pairL_len _ _ _ _) (fun k hk => by
    obtain ⟨r1, r2, r3, r4⟩ := t6 k hk
    rw [pairL_get _ _ _ _ _ hk, pairR_len]
    refine ⟨by omega, by omega, r3, fun i hi => ?_⟩
    obtain ⟨⟨x1, x2⟩, ⟨x3, x4⟩⟩ := r4 i hi
    rw [pairR_get _ _ _ _ _ (by omega)]
    have g1 := Int.emod_nonneg (-((yss.getD k []).getD i 0)) (show ps.getD k 0 ≠ 0 by omega)
    have g2 := Int.emod_lt_of_pos (-((yss.getD k []).getD i 0)) (show 0 < ps.getD k 0 by omega)
    unfold negF
    omega)
  rw [pair_sub ps xss yss (fun k hk => by have := t6 k hk; omega)] at c3
  obtain ⟨a0, cap0, ev⟩ := hv.slice
  obtain ⟨a1, cap1, e1⟩ := h1.slice
  obtain ⟨a2, cap2, e2⟩ := h2.slice
  subst ev e1 e2
  have HA : Hid (Old w ((((w.alloc (.cells #[.int .i64 N, .slice a0 ps.length cap0] 42)).alloc (.cells #[.bool a, .slice a1 xss.length cap1] 51)).alloc (.cells #[.bool b, .slice a2 yss.length cap2] 51)).alloc (.cells #[.bool false, .slice none 0 0] 51))) := ((((Old.refl w).alloc _).alloc _).alloc _).alloc _
  have HS : Hid (StW ((((w.alloc (.cells #[.int .i64 N, .slice a0 ps.length cap0] 42)).alloc (.cells #[.bool a, .slice a1 xss.length cap1] 51)).alloc (.cells #[.bool b, .slice a2 yss.length cap2] 51)).alloc (.cells #[.bool false, .slice none 0 0] 51)) (w.heap.size + 1 + 1 + 1) (.bool false) (.slice none 0 0) 51) := by
    have := StW.new (((w.alloc (.cells #[.int .i64 N, .slice a0 ps.length cap0] 42)).alloc (.cells #[.bool a, .slice a1 xss.length cap1] 51)).alloc (.cells #[.bool b, .slice a2 yss.length cap2] 51)) (.bool false) (.slice none 0 0) 51
    simp at this
    exact this
  have HAS : Hid (∀ W', Old (((w.alloc (.cells #[.int .i64 N, .slice a0 ps.length cap0] 42)).alloc (.cells #[.bool a, .slice a1 xss.length cap1] 51)).alloc (.cells #[.bool b, .slice a2 yss.length cap2] 51)) W' → (W'.cell? ⟨w.heap.size, 0, none⟩ = some (.int .i64 N) ∧ W'.cell? ⟨w.heap.size, 1, none⟩ = some (.slice a0 ps.length cap0) ∧ W'.cell? ⟨w.heap.size + 1, 0, none⟩ = some (.bool a) ∧ W'.cell? ⟨w.heap.size + 1, 1, none⟩ = some (.slice a1 xss.length cap1) ∧ W'.cell? ⟨w.heap.size + 1 + 1, 1, none⟩ = some (.slice a2 yss.length cap2))) := fun W' g' => ⟨((StW.at31 w _ _ _ _ _ _ _ _ _).old g').c0, ((StW.at31 w _ _ _ _ _ _ _ _ _).old g').c1, ((StW.at32 w _ _ _ _ _ _ _ _ _).old g').c0, ((StW.at32 w _ _ _ _ _ _ _ _ _).old g').c1, ((StW.at33 w _ _ _ _ _ _ _ _ _).old g').c1⟩
  have hzl := pairL_len subF ps xss yss
  have HZL : Hid ((pairL subF ps xss yss).length = ps.length) := hzl
  generalize pairL subF ps xss yss = zss at *
  generalize pairL negF ps yss yss = nss at *
  clear hv h1 h2 hf hx hr1 hr2 t1 t2 t3 t4 t5 t6 hzl hno
  go_enter Tryd.func43, Tryd.ntmps43
  go_wp2_with fail
  refine (c1 _ HA.out).mono ?_
  rintro e w1 ⟨rfl, g1⟩
  have HG1 : Hid (Old w w1) := Old.trans HA.out g1
  have HS1 : Hid (StW w1 (w.heap.size + 1 + 1 + 1) (.bool false) (.slice none 0 0) 51) := HS.out.old g1
  have HO3 : Hid (Old (((w.alloc (.cells #[.int .i64 N, .slice a0 ps.length cap0] 42)).alloc (.cells #[.bool a, .slice a1 xss.length cap1] 51)).alloc (.cells #[.bool b, .slice a2 yss.length cap2] 51)) w1) := Old.trans ((Old.refl _).alloc _) g1
  have HAS1 : Hid (∀ W', Old w1 W' → (W'.cell? ⟨w.heap.size, 0, none⟩ = some (.int .i64 N) ∧ W'.cell? ⟨w.heap.size, 1, none⟩ = some (.slice a0 ps.length cap0) ∧ W'.cell? ⟨w.heap.size + 1, 0, none⟩ = some (.bool a) ∧ W'.cell? ⟨w.heap.size + 1, 1, none⟩ = some (.slice a1 xss.length cap1) ∧ W'.cell? ⟨w.heap.size + 1 + 1, 1, none⟩ = some (.slice a2 yss.length cap2))) := fun W' g => HAS.out W' (Old.trans HO3.out g)
  have HAS2 : Hid (∀ W' x y, Old w1 W' → ((fun W' => W'.cell? ⟨w.heap.size, 0, none⟩ = some (.int .i64 N) ∧ W'.cell? ⟨w.heap.size, 1, none⟩ = some (.slice a0 ps.length cap0) ∧ W'.cell? ⟨w.heap.size + 1, 0, none⟩ = some (.bool a) ∧ W'.cell? ⟨w.heap.size + 1, 1, none⟩ = some (.slice a1 xss.length cap1) ∧ W'.cell? ⟨w.heap.size + 1 + 1, 1, none⟩ = some (.slice a2 yss.length cap2)) ((W'.setCell ⟨w.heap.size + 1 + 1 + 1, 0, none⟩ x).setCell ⟨w.heap.size + 1 + 1 + 1, 1, none⟩ y))) := fun W' x y g => HAS.out _ (((Old.trans HO3.out g).own (p := ⟨w.heap.size + 1 + 1 + 1, 0, none⟩) (by simp) _).own (p := ⟨w.heap.size + 1 + 1 + 1, 1, none⟩) (by simp) _)
  have hs : w.heap.size + 1 + 1 + 1 < w1.heap.size := HS1.out.lt
  clear g1
  obtain ⟨z1, z2, z3, z4, z5⟩ := HAS1.out w1 (Old.refl _)
  go_wp2_with fail
  go_region_held3 (fun W' => W'.cell? ⟨w.heap.size, 0, none⟩ = some (.int .i64 N) ∧ W'.cell? ⟨w.heap.size, 1, none⟩ = some (.slice a0 ps.length cap0) ∧ W'.cell? ⟨w.heap.size + 1, 0, none⟩ = some (.bool a) ∧ W'.cell? ⟨w.heap.size + 1, 1, none⟩ = some (.slice a1 xss.length cap1) ∧ W'.cell? ⟨w.heap.size + 1 + 1, 1, none⟩ = some (.slice a2 yss.length cap2)) (first | with_reducible exact HAS1.out _ G2.out | with_reducible exact HAS1.out _ GN.out | with_reducible exact HAS1.out _ (Below.drew (Old.refl w1)) | with_reducible exact HAS2.out _ _ _ G2.out | with_reducible exact HAS1.out _ (Old.refl w1)) (first
    | (go_at_call 82; refine (c2 _ (Below.drew HG1.out)).mono ?_; rintro e wn ⟨vn, rfl, gn, on⟩; obtain ⟨an, capn, rfl⟩ := on.slice; have GN : Hid (Old w1 wn) := Old.trans (Below.drew (Old.refl w1)) gn; have RN : Hid (RowS wn (.slice an nss.length capn) nss) := on.rowS; clear gn on)
    | (go_at_call 79; refine (c3 _ _ (Old.trans HG1.out GN.out) RN.out).mono ?_; rintro e w2 ⟨v2, rfl, g2, o2⟩; obtain ⟨a5, cap5, rfl⟩ := o2.slice; have G2 : Hid (Old w1 w2) := Old.trans GN.out g2; have O2 : Hid (OwS zss w2 w1.heap.size w2.heap.size (.slice a5 zss.length cap5)) := o2.low GN.out.size; clear g2 o2; have S2 : Hid (StW w2 (w.heap.size + 1 + 1 + 1) (.bool false) (.slice none 0 0) 51) := HS1.out.old G2.out; have y6 := S2.out.c0; have y7 := S2.out.c1; have y8 := S2.out.f0; have y9 := S2.out.f1)
    | fail)
  all_goals
    go_wp2_with fail
    refine bodyPost_ret (ret_rb Tryd.results43 _ _ rfl rfl (st_put2 S2.out _ _)) rfl ⟨_, rfl, ?_, a5, cap5, rfl, ?_⟩
    · exact ((Old.trans HG1.out G2.out).own (p := ⟨w.heap.size + 1 + 1 + 1, 0, none⟩) (by simp; omega) _).own (p := ⟨w.heap.size + 1 + 1 + 1, 1, none⟩) (by simp; omega) _
    · have h2 := (O2.out.put (k := w.heap.size + 1 + 1 + 1) (j := 0) (x := .bool a) (by omega)).put (k := w.heap.size + 1 + 1 + 1) (j := 1) (x := .slice a5 zss.length cap5) (by omega)
      have h3 := h2.low (lo' := w.heap.size) (by omega)
      exact h3.high (by simp) (Nat.le_refl _)
end Go.Proofs.YtcbbljadjibfeaaDoor
