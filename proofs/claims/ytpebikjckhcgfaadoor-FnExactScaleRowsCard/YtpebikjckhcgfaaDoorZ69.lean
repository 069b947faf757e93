/- Proved: several texts in one: what each proves is said ahead of it. -/
import Derived.Test.YtpebikjckhcgfaaDoorZ20
import Derived.Test.YtpebikjckhcgfaaDoorZ25
import Derived.Test.YtpebikjckhcgfaaDoorZ30
import Derived.Test.YtpebikjckhcgfaaDoorZ62
import Derived.Test.YtpebikjckhcgfaaDoorZ02
import Derived.Test.YtpebikjckhcgfaaDoorZ68
import Derived.Deep.RegionHeld3
import Derived.Test.YtpebikjckhcgfaaDoorZ61
import Derived.Test.YtpebikjckhcgfaaDoorZ63
import Derived.Test.YtpebikjckhcgfaaDoorZ58
import Derived.Test.YtpebikjckhcgfaaDoorZ16
/- Proved: the model's ScaleRows. -/
namespace Go.Proofs.YtpebikjckhcgfaaDoor
open Go.ChangeShapes Go.WideShapes Go.ChangeAt Go.RowKit
open M2
set_option linter.unusedVariables false
set_option linter.unusedSimpArgs false
set_option maxRecDepth 100000 in
set_option maxHeartbeats 4000000 in
theorem spec_ScaleRows_no (N : Int) (ps : List Int) (a b : Bool) (xss : List (List Int)) (yss : List Int) (v u1 u2 : Value) (w : World) (hv : Row w v ps) (hf : Fit v) (h1 : RowS w u1 xss) (h2 : Row w u2 yss) (hlp : ps.length ≤ 1048576) (hx : ∀ x ∈ ps, -9223372036854775808 ≤ x ∧ x ≤ 9223372036854775807) (hl1 : xss.length ≤ 1048576) (hr1 : ∀ r ∈ xss, r.length ≤ 1048576) (hl2 : yss.length ≤ 1048576) (hno : ¬ (grB N ps xss = true ∧ Good b yss)) :
    Calls Tryd.prog 50 #[.agg #[.int .i64 N, v], .agg #[.bool a, u1], .agg #[.bool b, u2]] w (Rs w false [] false) := by
  have c1 := fun W (h : Old w W) => spec_goodRows N ps a xss v u1 W (hv.old h) hf (h1.old h) hlp hx hl1 hr1
  have c2 := fun W (h : Old w W) => good_any b yss u2 W (h2.old h) hl2
  obtain ⟨a0, cap0, ev⟩ := hv.slice
  obtain ⟨a1, cap1, e1⟩ := h1.slice
  obtain ⟨a2, cap2, e2⟩ := h2.slice
  subst ev e1 e2
  have HA : Hid (Old w ((((w.alloc (.cells #[.int .i64 N, .slice a0 ps.length cap0] 56)).alloc (.cells #[.bool a, .slice a1 xss.length cap1] 53)).alloc (.cells #[.bool b, .slice a2 yss.length cap2] 68)).alloc (.cells #[.bool false, .slice none 0 0] 53))) := ((((Old.refl w).alloc _).alloc _).alloc _).alloc _
  have HS : Hid (StW ((((w.alloc (.cells #[.int .i64 N, .slice a0 ps.length cap0] 56)).alloc (.cells #[.bool a, .slice a1 xss.length cap1] 53)).alloc (.cells #[.bool b, .slice a2 yss.length cap2] 68)).alloc (.cells #[.bool false, .slice none 0 0] 53)) (w.heap.size + 1 + 1 + 1) (.bool false) (.slice none 0 0) 53) := by
    have := StW.new (((w.alloc (.cells #[.int .i64 N, .slice a0 ps.length cap0] 56)).alloc (.cells #[.bool a, .slice a1 xss.length cap1] 53)).alloc (.cells #[.bool b, .slice a2 yss.length cap2] 68)) (.bool false) (.slice none 0 0) 53
    simp at this
    exact this
  clear hv h1 h2 hf hx hr1
  have HC : Hid (∀ W', Old ((((w.alloc (.cells #[.int .i64 N, .slice a0 ps.length cap0] 56)).alloc (.cells #[.bool a, .slice a1 xss.length cap1] 53)).alloc (.cells #[.bool b, .slice a2 yss.length cap2] 68)).alloc (.cells #[.bool false, .slice none 0 0] 53)) W' → (W'.cell? ⟨w.heap.size + 1 + 1, 0, none⟩ = some (.bool b) ∧ W'.cell? ⟨w.heap.size + 1 + 1, 1, none⟩ = some (.slice a2 yss.length cap2))) := fun W' g => by
    have g' := Old.trans ((Old.refl _).alloc _) g
    exact ⟨((StW.at33 w _ _ _ _ _ _ _ _ _).old g').c0, ((StW.at33 w _ _ _ _ _ _ _ _ _).old g').c1⟩
  cases hg : grB N ps xss
  · rw [hg] at c1
    clear hno hg
    go_enter Tryd.func50, Tryd.ntmps50
    go_wp2_with fail
    refine (c1 _ HA.out).mono ?_
    rintro e w1 ⟨rfl, g1⟩
    have HG1 : Hid (Old w w1) := Old.trans HA.out g1
    have S1 : Hid (StW w1 (w.heap.size + 1 + 1 + 1) (.bool false) (.slice none 0 0) 53) := HS.out.old g1
    have q0 := S1.out.c0
    have q1 := S1.out.c1
    have f0 := S1.out.f0
    have f1 := S1.out.f1
    clear g1
    go_wp2_with fail
    have hs : w.heap.size + 1 + 1 + 1 < w1.heap.size := S1.out.lt
    refine bodyPost_ret (ret_rb (x := .bool false) (y := .slice none 0 0) (z := .bool false) Tryd.results50 _ _ rfl rfl (st_put2 S1.out _ _)) rfl ⟨_, rfl, ?_, XR.nil _ _ _ _ (Nat.le_refl _)⟩
    exact (HG1.out.own (p := ⟨w.heap.size + 1 + 1 + 1, 0, none⟩) (by simp; omega) _).own (p := ⟨w.heap.size + 1 + 1 + 1, 1, none⟩) (by simp; omega) _
  · rw [hg] at c1
    have hgd : decide (Good b yss) = false := decide_eq_false (fun h => hno ⟨hg, h⟩)
    rw [hgd] at c2
    clear hno hg hgd
    go_enter Tryd.func50, Tryd.ntmps50
    go_wp2_with fail
    refine (c1 _ HA.out).mono ?_
    rintro e wa ⟨rfl, ga⟩
    have HGa : Hid (Old w wa) := Old.trans HA.out ga
    have GA : Hid (Old ((((w.alloc (.cells #[.int .i64 N, .slice a0 ps.length cap0] 56)).alloc (.cells #[.bool a, .slice a1 xss.length cap1] 53)).alloc (.cells #[.bool b, .slice a2 yss.length cap2] 68)).alloc (.cells #[.bool false, .slice none 0 0] 53)) wa) := ga
    obtain ⟨y0, y1⟩ := HC.out wa ga
    clear ga
    go_wp2_with fail
    refine (c2 _ HGa.out).mono ?_
    rintro e w1 ⟨rfl, gb⟩
    have g1 : Old ((((w.alloc (.cells #[.int .i64 N, .slice a0 ps.length cap0] 56)).alloc (.cells #[.bool a, .slice a1 xss.length cap1] 53)).alloc (.cells #[.bool b, .slice a2 yss.length cap2] 68)).alloc (.cells #[.bool false, .slice none 0 0] 53)) w1 := Old.trans GA.out gb
    clear gb y0 y1
    have HG1 : Hid (Old w w1) := Old.trans HA.out g1
    have S1 : Hid (StW w1 (w.heap.size + 1 + 1 + 1) (.bool false) (.slice none 0 0) 53) := HS.out.old g1
    have q0 := S1.out.c0
    have q1 := S1.out.c1
    have f0 := S1.out.f0
    have f1 := S1.out.f1
    clear g1
    go_wp2_with fail
    have hs : w.heap.size + 1 + 1 + 1 < w1.heap.size := S1.out.lt
    refine bodyPost_ret (ret_rb (x := .bool false) (y := .slice none 0 0) (z := .bool false) Tryd.results50 _ _ rfl rfl (st_put2 S1.out _ _)) rfl ⟨_, rfl, ?_, XR.nil _ _ _ _ (Nat.le_refl _)⟩
    exact (HG1.out.own (p := ⟨w.heap.size + 1 + 1 + 1, 0, none⟩) (by simp; omega) _).own (p := ⟨w.heap.size + 1 + 1 + 1, 1, none⟩) (by simp; omega) _
set_option maxRecDepth 100000 in
set_option maxHeartbeats 8000000 in
theorem spec_ScaleRows_yes (N : Int) (ps : List Int) (a b : Bool) (xss : List (List Int)) (yss : List Int) (v u1 u2 : Value) (w : World) (hv : Row w v ps) (hf : Fit v) (h1 : RowS w u1 xss) (h2 : Row w u2 yss) (hlp : ps.length ≤ 1048576) (hx : ∀ x ∈ ps, -9223372036854775808 ≤ x ∧ x ≤ 9223372036854775807) (hl1 : xss.length ≤ 1048576) (hr1 : ∀ r ∈ xss, r.length ≤ 1048576) (hl2 : yss.length ≤ 1048576) (hyes : grB N ps xss = true ∧ Good b yss) :
    Calls Tryd.prog 50 #[.agg #[.int .i64 N, v], .agg #[.bool a, u1], .agg #[.bool b, u2]] w (Rs w a (pairL (mulF (modW b yss)) ps xss xss) true) := by
  have c1 := fun W (h : Old w W) => spec_goodRows N ps a xss v u1 W (hv.old h) hf (h1.old h) hlp hx hl1 hr1
  have c2 := fun W (h : Old w W) => good_any b yss u2 W (h2.old h) hl2
  rw [hyes.1] at c1
  rw [decide_eq_true hyes.2] at c2
  have htw : twoB N ps a a xss xss = true := two_of.2 ⟨hyes.1, hyes.1, rfl⟩
  obtain ⟨t1, t2, t3, t4, t5, t6⟩ := two_parts htw
  obtain ⟨ex, gx, lx⟩ := good_gw hyes.2
  have c4 := fun W A B C D (h : Old w W) (hr : Row W (.slice B C D) yss) (hA : A = b) => spec_l5Scale (modW b yss) A B C D N ps xss v u1 W (hv.old h) (h1.old h) t2 t3 (fun k hk => by
    obtain ⟨r1, r2, r3, r4⟩ := t6 k hk
    refine ⟨by omega, r3, fun i hi => ?_⟩
    obtain ⟨⟨x1, x2⟩, ⟨x3, x4⟩⟩ := r4 i hi
    omega) (fun k hk => by
    subst hA
    obtain ⟨r1, r2, r3, r4⟩ := t6 k hk
    have e : modW A yss (ps.getD k 0) = sv A (nat yss) % (ps.getD k 0) := by
      unfold modW
      rw [if_pos ⟨hyes.2, r3⟩]
    have g1 := Int.emod_nonneg (sv A (nat yss)) (show ps.getD k 0 ≠ 0 by omega)
    have g2 := Int.emod_lt_of_pos (sv A (nat yss)) (show 0 < ps.getD k 0 by omega)
    rw [e]
    refine ⟨⟨g1, by omega⟩, fun W' q => ?_⟩
    obtain ⟨pn, hpn⟩ : ∃ pn : Nat, ps.getD k 0 = pn := ⟨(ps.getD k 0).toNat, by omega⟩
    rw [hpn] at r3 ⊢
    exact modulo_any A (nat yss) pn _ W' (by rw [ex]; exact hr.old q) gx.1.1 (by omega) (by omega) (by omega))
  obtain ⟨a0, cap0, ev⟩ := hv.slice
  obtain ⟨a1, cap1, e1⟩ := h1.slice
  obtain ⟨a2, cap2, e2⟩ := h2.slice
  subst ev e1 e2
  have HA : Hid (Old w ((((w.alloc (.cells #[.int .i64 N, .slice a0 ps.length cap0] 56)).alloc (.cells #[.bool a, .slice a1 xss.length cap1] 53)).alloc (.cells #[.bool b, .slice a2 yss.length cap2] 68)).alloc (.cells #[.bool false, .slice none 0 0] 53))) := ((((Old.refl w).alloc _).alloc _).alloc _).alloc _
  have HS : Hid (StW ((((w.alloc (.cells #[.int .i64 N, .slice a0 ps.length cap0] 56)).alloc (.cells #[.bool a, .slice a1 xss.length cap1] 53)).alloc (.cells #[.bool b, .slice a2 yss.length cap2] 68)).alloc (.cells #[.bool false, .slice none 0 0] 53)) (w.heap.size + 1 + 1 + 1) (.bool false) (.slice none 0 0) 53) := by
    have := StW.new (((w.alloc (.cells #[.int .i64 N, .slice a0 ps.length cap0] 56)).alloc (.cells #[.bool a, .slice a1 xss.length cap1] 53)).alloc (.cells #[.bool b, .slice a2 yss.length cap2] 68)) (.bool false) (.slice none 0 0) 53
    simp at this
    exact this
  have HAS : Hid (∀ W', Old (((w.alloc (.cells #[.int .i64 N, .slice a0 ps.length cap0] 56)).alloc (.cells #[.bool a, .slice a1 xss.length cap1] 53)).alloc (.cells #[.bool b, .slice a2 yss.length cap2] 68)) W' → (W'.cell? ⟨w.heap.size, 0, none⟩ = some (.int .i64 N) ∧ W'.cell? ⟨w.heap.size, 1, none⟩ = some (.slice a0 ps.length cap0) ∧ W'.cell? ⟨w.heap.size + 1, 0, none⟩ = some (.bool a) ∧ W'.cell? ⟨w.heap.size + 1, 1, none⟩ = some (.slice a1 xss.length cap1) ∧ W'.cell? ⟨w.heap.size + 1 + 1, 0, none⟩ = some (.bool b) ∧ W'.cell? ⟨w.heap.size + 1 + 1, 1, none⟩ = some (.slice a2 yss.length cap2))) := fun W' g' => ⟨((StW.at31 w _ _ _ _ _ _ _ _ _).old g').c0, ((StW.at31 w _ _ _ _ _ _ _ _ _).old g').c1, ((StW.at32 w _ _ _ _ _ _ _ _ _).old g').c0, ((StW.at32 w _ _ _ _ _ _ _ _ _).old g').c1, ((StW.at33 w _ _ _ _ _ _ _ _ _).old g').c0, ((StW.at33 w _ _ _ _ _ _ _ _ _).old g').c1⟩
  have HR2 : Hid (Row w (.slice a2 yss.length cap2) yss) := h2
  have hzl := pairL_len (mulF (modW b yss)) ps xss xss
  have HZL : Hid ((pairL (mulF (modW b yss)) ps xss xss).length = ps.length) := hzl
  generalize pairL (mulF (modW b yss)) ps xss xss = zss at *
  clear hv h1 h2 hf hx hr1 t1 t2 t3 t4 t5 t6 hzl hyes ex gx lx htw
  go_enter Tryd.func50, Tryd.ntmps50
  go_wp2_with fail
  refine (c1 _ HA.out).mono ?_
  rintro e wa ⟨rfl, ga⟩
  have HGa : Hid (Old w wa) := Old.trans HA.out ga
  have GA : Hid (Old ((((w.alloc (.cells #[.int .i64 N, .slice a0 ps.length cap0] 56)).alloc (.cells #[.bool a, .slice a1 xss.length cap1] 53)).alloc (.cells #[.bool b, .slice a2 yss.length cap2] 68)).alloc (.cells #[.bool false, .slice none 0 0] 53)) wa) := ga
  obtain ⟨y1, y2, y3, y4, y5, y6⟩ := HAS.out wa (Old.trans ((Old.refl _).alloc _) ga)
  clear ga
  go_wp2_with fail
  refine (c2 _ HGa.out).mono ?_
  rintro e w1 ⟨rfl, gb⟩
  have g1 : Old ((((w.alloc (.cells #[.int .i64 N, .slice a0 ps.length cap0] 56)).alloc (.cells #[.bool a, .slice a1 xss.length cap1] 53)).alloc (.cells #[.bool b, .slice a2 yss.length cap2] 68)).alloc (.cells #[.bool false, .slice none 0 0] 53)) w1 := Old.trans GA.out gb
  clear gb y1 y2 y3 y4 y5 y6
  have HG1 : Hid (Old w w1) := Old.trans HA.out g1
  have HS1 : Hid (StW w1 (w.heap.size + 1 + 1 + 1) (.bool false) (.slice none 0 0) 53) := HS.out.old g1
  have HO3 : Hid (Old (((w.alloc (.cells #[.int .i64 N, .slice a0 ps.length cap0] 56)).alloc (.cells #[.bool a, .slice a1 xss.length cap1] 53)).alloc (.cells #[.bool b, .slice a2 yss.length cap2] 68)) w1) := Old.trans ((Old.refl _).alloc _) g1
  have HAS1 : Hid (∀ W', Old w1 W' → (W'.cell? ⟨w.heap.size, 0, none⟩ = some (.int .i64 N) ∧ W'.cell? ⟨w.heap.size, 1, none⟩ = some (.slice a0 ps.length cap0) ∧ W'.cell? ⟨w.heap.size + 1, 0, none⟩ = some (.bool a) ∧ W'.cell? ⟨w.heap.size + 1, 1, none⟩ = some (.slice a1 xss.length cap1) ∧ W'.cell? ⟨w.heap.size + 1 + 1, 0, none⟩ = some (.bool b) ∧ W'.cell? ⟨w.heap.size + 1 + 1, 1, none⟩ = some (.slice a2 yss.length cap2))) := fun W' g => HAS.out W' (Old.trans HO3.out g)
  have HAS2 : Hid (∀ W' x y, Old w1 W' → ((fun W' => W'.cell? ⟨w.heap.size, 0, none⟩ = some (.int .i64 N) ∧ W'.cell? ⟨w.heap.size, 1, none⟩ = some (.slice a0 ps.length cap0) ∧ W'.cell? ⟨w.heap.size + 1, 0, none⟩ = some (.bool a) ∧ W'.cell? ⟨w.heap.size + 1, 1, none⟩ = some (.slice a1 xss.length cap1) ∧ W'.cell? ⟨w.heap.size + 1 + 1, 0, none⟩ = some (.bool b) ∧ W'.cell? ⟨w.heap.size + 1 + 1, 1, none⟩ = some (.slice a2 yss.length cap2)) ((W'.setCell ⟨w.heap.size + 1 + 1 + 1, 0, none⟩ x).setCell ⟨w.heap.size + 1 + 1 + 1, 1, none⟩ y))) := fun W' x y g => HAS.out _ (((Old.trans HO3.out g).own (p := ⟨w.heap.size + 1 + 1 + 1, 0, none⟩) (by simp) _).own (p := ⟨w.heap.size + 1 + 1 + 1, 1, none⟩) (by simp) _)
  have hs : w.heap.size + 1 + 1 + 1 < w1.heap.size := HS1.out.lt
  clear g1
  obtain ⟨z1, z2, z3, z4, z5, z6⟩ := HAS1.out w1 (Old.refl _)
  go_wp2_with fail
  go_region_held3 (fun W' => W'.cell? ⟨w.heap.size, 0, none⟩ = some (.int .i64 N) ∧ W'.cell? ⟨w.heap.size, 1, none⟩ = some (.slice a0 ps.length cap0) ∧ W'.cell? ⟨w.heap.size + 1, 0, none⟩ = some (.bool a) ∧ W'.cell? ⟨w.heap.size + 1, 1, none⟩ = some (.slice a1 xss.length cap1) ∧ W'.cell? ⟨w.heap.size + 1 + 1, 0, none⟩ = some (.bool b) ∧ W'.cell? ⟨w.heap.size + 1 + 1, 1, none⟩ = some (.slice a2 yss.length cap2)) (first | with_reducible exact HAS1.out _ G2.out | with_reducible exact HAS1.out _ GN.out | with_reducible exact HAS1.out _ (Below.drew (Old.refl w1)) | with_reducible exact HAS2.out _ _ _ G2.out | with_reducible exact HAS1.out _ (Old.refl w1)) (first
    | (go_at_call 104; refine (in_anyW b a2 yss.length cap2 _).mono ?_; rintro e wn ⟨rfl, gn⟩; have GN : Hid (Old w1 wn) := Old.trans (Below.drew (Old.refl w1)) gn; clear gn)
    | (go_at_call 103; refine (c4 _ b a2 yss.length cap2 (Old.trans HG1.out GN.out) (HR2.out.old (Old.trans HG1.out GN.out)) rfl).mono ?_; rintro e w2 ⟨v2, rfl, g2, o2⟩; obtain ⟨a5, cap5, rfl⟩ := o2.slice; have G2 : Hid (Old w1 w2) := Old.trans GN.out g2; have O2 : Hid (OwS zss w2 w1.heap.size w2.heap.size (.slice a5 zss.length cap5)) := o2.low GN.out.size; clear g2 o2; have S2 : Hid (StW w2 (w.heap.size + 1 + 1 + 1) (.bool false) (.slice none 0 0) 53) := HS1.out.old G2.out; have y6 := S2.out.c0; have y7 := S2.out.c1; have y8 := S2.out.f0; have y9 := S2.out.f1)
    | fail)
  all_goals
    go_wp2_with fail
    refine bodyPost_ret (ret_rb Tryd.results50 _ _ rfl rfl (st_put2 S2.out _ _)) rfl ⟨_, rfl, ?_, a5, cap5, rfl, ?_⟩
    · exact ((Old.trans HG1.out G2.out).own (p := ⟨w.heap.size + 1 + 1 + 1, 0, none⟩) (by simp; omega) _).own (p := ⟨w.heap.size + 1 + 1 + 1, 1, none⟩) (by simp; omega) _
    · have h2 := (O2.out.put (k := w.heap.size + 1 + 1 + 1) (j := 0) (x := .bool a) (by omega)).put (k := w.heap.size + 1 + 1 + 1) (j := 1) (x := .slice a5 zss.length cap5) (by omega)
      have h3 := h2.low (lo' := w.heap.size) (by omega)
      exact h3.high (by simp) (Nat.le_refl _)
end Go.Proofs.YtpebikjckhcgfaaDoor
/- Proved: the program's ScaleRows. -/
namespace Go.Proofs.YtpebikjckhcgfaaDoor
open Go.ChangeShapes Go.WideShapes Go.ChangeAt Go.RowKit
open M2
set_option linter.unusedVariables false
set_option linter.unusedSimpArgs false
set_option maxRecDepth 100000 in
set_option maxHeartbeats 4000000 in
theorem impl_ScaleRows_of (N : Int) (ps ds : List Int) (xss : List (List Int)) (a b : Bool) (a0 a1 a2 : Option Addr) (cap0 cap1 cap2 : Nat) (w : World) (n : Bool) (zss : List (List Int)) (ok : Bool) (hb : Row w (.slice a2 ds.length cap2) ds) (hld : ds.length ≤ 1048576)
    (hno : ¬ Good b ds → n = false ∧ zss = [] ∧ ok = false)
    (c : Good b ds → ∀ W kb, Old w W → StW W kb (.bool b) (.slice a2 ds.length cap2) 68 → Calls Tryd.prog 106 #[.agg #[.int .i64 N, .slice a0 ps.length cap0], .agg #[.bool a, .slice a1 xss.length cap1], .bool a, .func (.func 107) #[] #[.pointer (some ⟨kb, 0, none⟩)]] W (Rs W n zss ok)) :
    Calls Tryd.prog 52 #[.agg #[.int .i64 N, .slice a0 ps.length cap0], .agg #[.bool a, .slice a1 xss.length cap1], .agg #[.bool b, .slice a2 ds.length cap2]] w (Rs w n zss ok) := by
  have cg := fun W (h : Old w W) => good_impl b ds (.slice a2 ds.length cap2) W (hb.old h) hld
  have HA : Hid (Old w ((((w.alloc (.cells #[.int .i64 N, .slice a0 ps.length cap0] 56)).alloc (.cells #[.bool a, .slice a1 xss.length cap1] 53)).alloc (.cells #[.bool b, .slice a2 ds.length cap2] 68)).alloc (.cells #[.bool false, .slice none 0 0] 53))) := ((((Old.refl w).alloc _).alloc _).alloc _).alloc _
  have HS : Hid (StW ((((w.alloc (.cells #[.int .i64 N, .slice a0 ps.length cap0] 56)).alloc (.cells #[.bool a, .slice a1 xss.length cap1] 53)).alloc (.cells #[.bool b, .slice a2 ds.length cap2] 68)).alloc (.cells #[.bool false, .slice none 0 0] 53)) (w.heap.size + 1 + 1 + 1) (.bool false) (.slice none 0 0) 53) := by
    have := StW.new (((w.alloc (.cells #[.int .i64 N, .slice a0 ps.length cap0] 56)).alloc (.cells #[.bool a, .slice a1 xss.length cap1] 53)).alloc (.cells #[.bool b, .slice a2 ds.length cap2] 68)) (.bool false) (.slice none 0 0) 53
    simp at this
    exact this
  have HBX : Hid (∀ W', Old ((((w.alloc (.cells #[.int .i64 N, .slice a0 ps.length cap0] 56)).alloc (.cells #[.bool a, .slice a1 xss.length cap1] 53)).alloc (.cells #[.bool b, .slice a2 ds.length cap2] 68)).alloc (.cells #[.bool false, .slice none 0 0] 53)) W' → StW W' (w.heap.size + 1 + 1) (.bool b) (.slice a2 ds.length cap2) 68 ∧ StW W' w.heap.size (.int .i64 N) (.slice a0 ps.length cap0) 56 ∧ StW W' (w.heap.size + 1) (.bool a) (.slice a1 xss.length cap1) 53) := fun W' g => by
    have g' := Old.trans ((Old.refl _).alloc _) g
    exact ⟨(StW.at33 w _ _ _ _ _ _ _ _ _).old g', (StW.at31 w _ _ _ _ _ _ _ _ _).old g', (StW.at32 w _ _ _ _ _ _ _ _ _).old g'⟩
  clear hb
  by_cases hg : Good b ds
  · rw [decide_eq_true hg] at cg
    have c := c hg
    clear hno hg
    go_enter Tryd.func52, Tryd.ntmps52
    go_wp2_with fail
    refine (cg _ HA.out).mono ?_
    rintro e w1 ⟨rfl, g1⟩
    have HG1 : Hid (Old w w1) := Old.trans HA.out g1
    have S1 : Hid (StW w1 (w.heap.size + 1 + 1 + 1) (.bool false) (.slice none 0 0) 53) := HS.out.old g1
    have HB1 : Hid (StW w1 (w.heap.size + 1 + 1) (.bool b) (.slice a2 ds.length cap2) 68) := (HBX.out w1 g1).1
    have x0 := (HBX.out w1 g1).2.1.c0
    have x1 := (HBX.out w1 g1).2.1.c1
    have x2 := (HBX.out w1 g1).2.2.c0
    have x3 := (HBX.out w1 g1).2.2.c1
    have hs : w.heap.size + 1 + 1 + 1 < w1.heap.size := S1.out.lt
    clear g1
    go_wp2_with fail
    refine (c _ _ HG1.out HB1.out).mono ?_
    rintro e w2 ⟨r0, rfl, g2, xr⟩
    obtain ⟨ax, cx, rfl, ox⟩ := xr
    have HG2 : Hid (Old w w2) := Old.trans HG1.out g2
    have S2 : Hid (StW w2 (w.heap.size + 1 + 1 + 1) (.bool false) (.slice none 0 0) 53) := S1.out.old g2
    have OX : Hid (OwS zss w2 w1.heap.size w2.heap.size (.slice ax zss.length cx)) := ox
    have q0 := S2.out.c0
    have q1 := S2.out.c1
    have f0 := S2.out.f0
    have f1 := S2.out.f1
    clear g2 ox x0 x1 x2 x3
    go_wp2_with fail
    refine bodyPost_ret (ret_rb Tryd.results52 _ _ rfl rfl (st_put2 S2.out _ _)) rfl ⟨_, rfl, ?_, ax, cx, rfl, ?_⟩
    · exact (HG2.out.own (p := ⟨w.heap.size + 1 + 1 + 1, 0, none⟩) (by simp; omega) _).own (p := ⟨w.heap.size + 1 + 1 + 1, 1, none⟩) (by simp; omega) _
    · have h2 := (OX.out.put (k := w.heap.size + 1 + 1 + 1) (j := 0) (x := .bool n) (by omega)).put (k := w.heap.size + 1 + 1 + 1) (j := 1) (x := .slice ax zss.length cx) (by omega)
      have h3 := h2.low (lo' := w.heap.size) (by omega)
      exact h3.high (by simp) (Nat.le_refl _)
  · obtain ⟨rfl, rfl, rfl⟩ := hno hg
    rw [decide_eq_false hg] at cg
    clear c hg hno
    go_enter Tryd.func52, Tryd.ntmps52
    go_wp2_with fail
    refine (cg _ HA.out).mono ?_
    rintro e w1 ⟨rfl, g1⟩
    have HG1 : Hid (Old w w1) := Old.trans HA.out g1
    have S1 : Hid (StW w1 (w.heap.size + 1 + 1 + 1) (.bool false) (.slice none 0 0) 53) := HS.out.old g1
    have q0 := S1.out.c0
    have q1 := S1.out.c1
    have f0 := S1.out.f0
    have f1 := S1.out.f1
    have hs : w.heap.size + 1 + 1 + 1 < w1.heap.size := S1.out.lt
    clear g1
    go_wp2_with fail
    refine bodyPost_ret (ret_rb (x := .bool false) (y := .slice none 0 0) (z := .bool false) Tryd.results52 _ _ rfl rfl (st_put2 S1.out _ _)) rfl ⟨_, rfl, ?_, XR.nil _ _ _ _ (Nat.le_refl _)⟩
    exact (HG1.out.own (p := ⟨w.heap.size + 1 + 1 + 1, 0, none⟩) (by simp; omega) _).own (p := ⟨w.heap.size + 1 + 1 + 1, 1, none⟩) (by simp; omega) _
theorem pairR_mul (m : Int → Int) (p : Int) (xs : List Int) : pairR (mulF fun _ => m p) p xs xs = pairR (mulF m) p xs xs := rfl
theorem impl_ScaleRows (N : Int) (ps ds : List Int) (a b : Bool) (xss : List (List Int)) (v u1 u2 : Value) (w : World) (lo1 hi1 : Nat) (hP : PrsW w) (hT : TabW w) (hv : Row w v ps) (hf : Fit v) (h1 : OwS xss w lo1 hi1 u1) (h2 : Row w u2 ds) (hlp : ps.length ≤ 1048576) (hl1 : xss.length ≤ 1048576) (hr1 : ∀ r ∈ xss, r.length ≤ 1048576) (hld : ds.length ≤ 1048576) :
    Calls Tryd.prog 52 #[.agg #[.int .i64 N, v], .agg #[.bool a, u1], .agg #[.bool b, u2]] w fun e w' => ((grB N ps xss = true ∧ Good b ds) → Rs w a (pairL (mulF (modW b ds)) ps xss xss) true e w') ∧ (¬ (grB N ps xss = true ∧ Good b ds) → Rs w false [] false e w') := by
  obtain ⟨Rf, hRf⟩ := Rings_roots N ps
  obtain ⟨us1, cs1, at1⟩ := h1.ats ps
  obtain ⟨a0, cap0, ev⟩ := hv.slice
  obtain ⟨a1, cap1, e1⟩ := h1.slice
  obtain ⟨a2, cap2, e2⟩ := h2.slice
  subst ev e1 e2
  have c1 := fun W W' (q : Old w W) (p1 : PrsW W') (p2 : TabW W') (q' : Old W W') => impl_ringRows N a ps xss Rf us1 cs1 (.slice a0 ps.length cap0) a1 cap1 W' p1 p2 (hv.old (Old.trans q q')) hf hlp hl1 hr1 (fun h => (at1 h).old (Old.trans q q')) hRf
  by_cases hyes : grB N ps xss = true ∧ Good b ds
  · have htw : twoB N ps a a xss xss = true := two_of.2 ⟨hyes.1, hyes.1, rfl⟩
    obtain ⟨t1, t2, t3, t4, t5, t6⟩ := two_parts htw
    obtain ⟨Nn, hNn⟩ : ∃ Nn : Nat, N = Nn := ⟨N.toNat, by omega⟩
    subst hNn
    refine (impl_ScaleRows_of Nn ps ds xss a b a0 a1 a2 cap0 cap1 cap2 w a (pairL (mulF (modW b ds)) ps xss xss) true h2 hld (fun h => absurd hyes.2 h) (fun _ W kb q hs => eachRow_scale_yes kb Nn ps a a xss Rf us1 _ a1 cap1 W (hP.old q) (hT.old q) (hv.old q) (fun W' p1 p2 q' => c1 W W' q p1 p2 q') hyes.1 (pairL (mulF (modW b ds)) ps xss xss) (pairL_len _ _ _ _) t2.2 (fun k hk => ?_))).mono (fun e w' h => ⟨fun _ => h, fun h' => absurd hyes h'⟩)
    obtain ⟨s1, s2, s3, s4⟩ := t6 k hk
    rw [pairL_get _ _ _ _ _ hk]
    refine ⟨by rw [pairR_len]; omega, fun W' q' => ?_⟩
    obtain ⟨b1, _, _, _, r1⟩ := at1 (by omega)
    have row1 := (r1 k (by omega)).2.2
    have l1 : (xss.getD k []).length = Nn := by omega
    rw [l1] at row1
    have mb : 0 ≤ modW b ds (ps.getD k 0) ∧ modW b ds (ps.getD k 0) ≤ 268435456 := by
      unfold modW
      rw [if_pos ⟨hyes.2, s3⟩]
      have g1 := Int.emod_nonneg (sv b (nat ds)) (show ps.getD k 0 ≠ 0 by omega)
      have g2 := Int.emod_lt_of_pos (sv b (nat ds)) (show 0 < ps.getD k 0 by omega)
      omega
    refine scale_change (ps.getD k 0) (Rf k) (modW b ds (ps.getD k 0)) a b Nn _ (us1 k) a2 ds.length cap2 kb W' (hs.old q') (fun W'' q'' => impl_mod b ds (ps.getD k 0) _ W'' (h2.old (Old.trans q (Old.trans q' q''))) hld) (fun W'' q'' => ?_)
    have := impl_scaled (ps.getD k 0) (Rf k) (modW b ds (ps.getD k 0)) a Nn (xss.getD k []) (us1 k) W'' ((row1.recap (fun h => by rw [h] at l1; simp at l1; omega)).old (Old.trans q (Old.trans q' q''))) mb s3 (by omega) l1 (fun i hi => (s4 i (by omega)).1)
    rw [pairR_mul] at this
    exact this
  · refine (impl_ScaleRows_of N ps ds xss a b a0 a1 a2 cap0 cap1 cap2 w false [] false h2 hld (fun _ => ⟨rfl, rfl, rfl⟩) (fun hg W kb q hs => eachRow_scale_no kb N ps a a xss Rf us1 _ a1 cap1 W (hP.old q) (hT.old q) (hv.old q) (fun W' p1 p2 q' => c1 W W' q p1 p2 q') (by
      cases h : grB N ps xss
      · rfl
      · exact absurd ⟨h, hg⟩ hyes))).mono (fun e w' h => ⟨fun h' => absurd h' hyes, fun _ => h⟩)
end Go.Proofs.YtpebikjckhcgfaaDoor
/- Proved: the statement on ScaleRows at every space and rows, in a world in which the two tables are laid. -/
namespace Go.Proofs.YtpebikjckhcgfaaDoor
open Go.ChangeShapes Go.WideShapes Go.ChangeAt Go.RowKit
open M2
set_option linter.unusedVariables false
set_option linter.unusedSimpArgs false
theorem ScaleRows_any (N : Int) (xs : List Int) (n m : Bool) (xss : List (List Int)) (yss : List Int) (v u t : Value) (w : World) (hv : Row w v xs) (hl : xs.length ≤ 9223372036854775807) (hx : ∀ x ∈ xs, -9223372036854775808 ≤ x ∧ x ≤ 9223372036854775807) (hu : RowS w u xss) (hlx : xss.length ≤ 9223372036854775807) (hlr : ∀ r ∈ xss, r.length ≤ 9223372036854775807) (ht : Row w t yss) (hly : yss.length ≤ 9223372036854775807) (hP : PrsW w) (hT : TabW w) :
    Calls Tryd.prog 12 #[.agg #[.int .i64 N, v], .agg #[.bool n, u], .agg #[.bool m, t]] w fun e w' => e = .returned (.bool true) ∧ Old w w' := by
  obtain ⟨a0, c0, rfl⟩ := hv.slice
  obtain ⟨a1, c1, rfl⟩ := hu.slice
  obtain ⟨a2, c2, rfl⟩ := ht.slice
  have bnd : ∀ {A : Prop}, ¬ leftN 1048576 xs.length < 0 → ¬ leftSS (leftN 1048576 xs.length) xss < 0 → ¬ leftN (leftSS (leftN 1048576 xs.length) xss) yss.length < 0 → (xs.length ≤ 1048576 → xss.length ≤ 1048576 → (∀ r ∈ xss, r.length ≤ 1048576) → yss.length ≤ 1048576 → offL xss xss.length ≤ 1048576 → A) → A := fun h1 h2 h3 k => by
    obtain ⟨q1, q2, q3⟩ := leftN_ok h1 (by omega)
    obtain ⟨p1, p2, p3, p4⟩ := leftSS_ok q3 h2
    obtain ⟨s1, s2, s3⟩ := leftN_ok h3 (by omega)
    have o1 := offL_leftSS q3 h2
    exact k (by omega) (by omega) (fun r hr => by have := p4 r hr; omega) (by omega) (by omega)
  have zb : ∀ (zss : List (List Int)) (ro br : Bool),
      ((grB N xs xss = true ∧ Good m yss) → zss = pairL (mulF (modW m yss)) xs xss xss ∧ ro = true ∧ br = n) → (¬ (grB N xs xss = true ∧ Good m yss) → zss = [] ∧ ro = false ∧ br = false) → zss.length ≤ 6 ∧ (∀ r ∈ zss, r.length ≤ 16) ∧ offL zss zss.length ≤ 96 := fun zss ro br h1 h2 => by
    have key : zss.length ≤ 6 ∧ ∀ r ∈ zss, r.length ≤ 16 := by
      by_cases htw : (grB N xs xss = true ∧ Good m yss)
      rotate_left
      · obtain ⟨rfl, _, _⟩ := h2 htw
        exact ⟨by simp, fun r hr => by cases hr⟩
      · obtain ⟨rfl, _, _⟩ := h1 htw
        obtain ⟨t1, t2, t3, t4, t5, t6⟩ := two_parts (two_of.2 ⟨htw.1, htw.1, (rfl : n = n)⟩)
        refine ⟨by rw [pairL_len]; omega, fun r hr => ?_⟩
        unfold pairL at hr
        rw [List.mem_map] at hr
        obtain ⟨k, hk, rfl⟩ := hr
        have hk' : k < xs.length := by simpa using hk
        rw [pairR_len]
        have := (t6 k hk').1
        omega
    refine ⟨key.1, key.2, ?_⟩
    have := offL_bd zss 16 key.2
    omega
  obtain ⟨zss, ro, br, hy, hn⟩ : ∃ (zss : List (List Int)) (ro br : Bool), ((grB N xs xss = true ∧ Good m yss) → zss = pairL (mulF (modW m yss)) xs xss xss ∧ ro = true ∧ br = n) ∧ (¬ (grB N xs xss = true ∧ Good m yss) → zss = [] ∧ ro = false ∧ br = false) := by
    by_cases h : (grB N xs xss = true ∧ Good m yss)
    · exact ⟨_, true, n, fun _ => ⟨rfl, rfl, rfl⟩, (fun h' => absurd h h')⟩
    · exact ⟨[], false, false, (fun h' => absurd h' h), fun _ => ⟨rfl, rfl, rfl⟩⟩
  obtain ⟨z1, z2, z3⟩ := zb zss ro br hy hn
  have z2' : ∀ r ∈ zss, r.length ≤ 1048576 := fun r hr => by have := z2 r hr; omega
  refine law_scalerows w N xs.length a0 c0 n xss.length a1 c1 m yss.length a2 c2 br zss.length ro (leftN 1048576 xs.length) (leftSS (leftN 1048576 xs.length) xss) (leftN (leftSS (leftN 1048576 xs.length) xss) yss.length)
    (fun W g => ks_sz N a0 xs.length c0 1048576 W hl (by omega) (by omega))
    (fun h W g => by
      obtain ⟨q1, q2, q3⟩ := leftN_ok h (by omega)
      exact kr_sz n xss _ _ W (hu.old g) hlx hlr q3 (by omega))
    (fun h h2 W g => by
      obtain ⟨q1, q2, q3⟩ := leftN_ok h (by omega)
      obtain ⟨p1, p2, p3, p4⟩ := leftSS_ok q3 h2
      exact kw_sz m a2 yss.length c2 _ W hly (by omega) (by omega))
    (XS N xs) (far_XS N xs) shape_XS (fun h1 h2 h3 W g => bnd h1 h2 h3 fun d1 d2 d3 d4 d6 => ks_to N xs _ W (hv.old g) d1) (fun h1 h2 h3 W lo hi g lo' hi' g' k k' => bnd h1 h2 h3 fun d1 d2 d3 d4 d6 => ks_eq N xs W lo hi g lo' hi' g' k k' (by omega))
    (1 + xs.length) (by omega) (fun h1 h2 h3 W lo hi g k => bnd h1 h2 h3 fun d1 d2 d3 d4 d6 => ks_mark N xs 1 W lo hi g k d1 (by omega) (by omega))
    (XR n xss) (far_XR n xss) shape_XR (fun h1 h2 h3 W g => bnd h1 h2 h3 fun d1 d2 d3 d4 d6 => kr_to n xss _ W (hu.old g) d2 d3) (fun h1 h2 h3 W lo hi g lo' hi' g' k k' => bnd h1 h2 h3 fun d1 d2 d3 d4 d6 => kr_eq n xss W lo hi g lo' hi' g' k k' d2 d3)
    (1 + xs.length + offL xss xss.length) (by omega) (fun h1 h2 h3 W lo hi g k => bnd h1 h2 h3 fun d1 d2 d3 d4 d6 => (kr_mark n xss _ W lo hi g k d2 d3 (by omega) (by omega)).mono (fun e w' h => ⟨h.1, h.2.1⟩))
    (XW m yss) (far_XW m yss) shape_XW (fun h1 h2 h3 W g => bnd h1 h2 h3 fun d1 d2 d3 d4 d6 => kw_to m yss _ W (ht.old g) d4) (fun h1 h2 h3 W lo hi g lo' hi' g' k k' => bnd h1 h2 h3 fun d1 d2 d3 d4 d6 => kw_eq m yss W lo hi g lo' hi' g' k k' (by omega))
    (1 + xs.length + offL xss xss.length + yss.length) (by omega) (fun h1 h2 h3 W lo hi g k => bnd h1 h2 h3 fun d1 d2 d3 d4 d6 => kw_mark m yss _ W lo hi g k d4 (by omega) (by omega))
    (XR br zss) (far_XR br zss) shape_XR (XR br zss) (far_XR br zss) shape_XR (XM br 1 zss) (far_XM br 1 zss) shape_XM
    (fun h1 h2 h3 W lo0 hi0 g0 lo1 hi1 g1 lo2 hi2 g2 k0 k1 k2 => bnd h1 h2 h3 fun d1 d2 d3 d4 d6 => ?_) (fun h1 h2 h3 W lo0 hi0 g0 lo1 hi1 g1 lo2 hi2 g2 k0 k1 k2 q => bnd h1 h2 h3 fun d1 d2 d3 d4 d6 => ?_)
    (fun h1 h2 h3 W lo hi p lo' hi' p' k k' => kr_eq br zss W lo hi p lo' hi' p' k k' (by omega) z2')
    (1 + offL zss zss.length) (by omega) (fun h1 h2 h3 W lo hi p k => kr_mark br zss 1 W lo hi p k (by omega) z2' (by omega) (by omega)) (fun h1 h2 h3 W lo hi p k => kr_held br zss 1 W lo hi p k (by omega) z2' (by omega) (by omega))
  · obtain ⟨a, c, rfl, o, f⟩ := k0
    obtain ⟨a', c', rfl, o'⟩ := k1
    obtain ⟨a'', c'', rfl, o''⟩ := k2
    by_cases htw : (grB N xs xss = true ∧ Good m yss)
    · obtain ⟨rfl, rfl, rfl⟩ := hy htw
      exact spec_ScaleRows_yes N xs br m xss yss _ _ _ W o.row f o'.rowS o''.row d1 hx d2 d3 d4 htw
    · obtain ⟨rfl, rfl, rfl⟩ := hn htw
      exact spec_ScaleRows_no N xs n m xss yss _ _ _ W o.row f o'.rowS o''.row d1 hx d2 d3 d4 htw
  · obtain ⟨a, c, rfl, o, f⟩ := k0
    obtain ⟨a', c', rfl, o'⟩ := k1
    obtain ⟨a'', c'', rfl, o''⟩ := k2
    refine (impl_ScaleRows N xs yss n m xss _ _ _ W _ _ (hP.old q) (hT.old q) o.row f o' o''.row d1 d2 d3 d4).mono (fun e w' h => ?_)
    by_cases htw : (grB N xs xss = true ∧ Good m yss)
    · obtain ⟨rfl, rfl, rfl⟩ := hy htw
      exact h.1 htw
    · obtain ⟨rfl, rfl, rfl⟩ := hn htw
      exact h.2 htw
end Go.Proofs.YtpebikjckhcgfaaDoor
