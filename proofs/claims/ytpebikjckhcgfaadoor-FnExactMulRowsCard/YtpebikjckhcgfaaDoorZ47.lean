/- Proved: several texts in one: what each proves is said ahead of it. -/
import Derived.Test.YtpebikjckhcgfaaDoorZ06
import Derived.Test.YtpebikjckhcgfaaDoorZ19
import Derived.Test.YtpebikjckhcgfaaDoorZ31
import Derived.Test.YtpebikjckhcgfaaDoorZ35
import Derived.Test.YtpebikjckhcgfaaDoorZ45
import Derived.Test.YtpebikjckhcgfaaDoorZ43
import Derived.Test.YtpebikjckhcgfaaDoorZ16
/- Proved: the statement on MulRows at every space and rows, in a world in which the two tables are laid. -/
namespace Go.Proofs.YtpebikjckhcgfaaDoor
open Go.ChangeShapes Go.WideShapes Go.ChangeAt Go.RowKit
set_option linter.unusedVariables false
set_option linter.unusedSimpArgs false
def mk2 (f : Int → List Int → List Int → List Int) (ps : List Int) (xss yss : List (List Int)) : List (List Int) := (List.range ps.length).map fun k => f (ps.getD k 0) (xss.getD k []) (yss.getD k [])
theorem mk2_len (f : Int → List Int → List Int → List Int) (ps : List Int) (xss yss : List (List Int)) : (mk2 f ps xss yss).length = ps.length := by simp [mk2]
theorem mk2_get (f : Int → List Int → List Int → List Int) (ps : List Int) (xss yss : List (List Int)) (k : Nat) (hk : k < ps.length) : (mk2 f ps xss yss).getD k [] = f (ps.getD k 0) (xss.getD k []) (yss.getD k []) := by
  simp [mk2, List.getD, hk]
def timesF (N : Int) (a : Bool) (p : Int) (xs ys : List Int) : List Int := if a then toZ (eachN p.toNat N.toNat (xs.map Int.toNat) (ys.map Int.toNat)) else toZ (muO p.toNat N.toNat (xs.map Int.toNat) (ys.map Int.toNat) N.toNat)
theorem timesF_t (M P : Nat) (xs ys : List Nat) : timesF M true P (toZ xs) (toZ ys) = toZ (eachN P M xs ys) := by
  unfold timesF
  rw [toZ_backR, toZ_backR]
  simp
theorem timesF_f (M P : Nat) (xs ys : List Nat) : timesF M false P (toZ xs) (toZ ys) = toZ (muO P M xs ys M) := by
  unfold timesF
  rw [toZ_backR, toZ_backR]
  simp
theorem toZ_getI (xs : List Nat) (i : Nat) : (toZ xs).getD i 0 = (xs.getD i 0 : Int) := by
  unfold toZ
  simp only [List.getD, List.getElem?_map]
  cases xs[i]? <;> rfl
theorem eachN_getZ (P N : Nat) (xs ys : List Nat) (i : Nat) (h : i < N) (la : xs.length = N) (lb : ys.length = N) : (toZ (eachN P N xs ys)).getD i 0 = (toZ xs).getD i 0 * (toZ ys).getD i 0 % (P : Int) := by
  rw [toZ_getI, toZ_getI, toZ_getI, eachN_get _ _ _ _ _ h]
  simp
theorem rows_open {N : Int} {ps : List Int} {a b : Bool} {xss yss : List (List Int)} {Rf : Nat → Int} (hR : ∀ k, RingOk (ps.getD k 0) N → ((0 ≤ Rf k ∧ Rf k < ps.getD k 0) ∧ (∀ W, PrsW W → TabW W → Calls Tryd.prog 61 #[.int .i64 (ps.getD k 0), .int .i64 N] W fun e w' => e = .returned (.tuple #[.agg #[.int .i64 (ps.getD k 0), .int .i64 N, .int .i64 (Rf k)], .bool true]) ∧ Old W w')) ∧ ∃ P M R : Nat, ps.getD k 0 = P ∧ N = M ∧ Rf k = R ∧ R < P ∧ RingOk P M ∧ (F1.Pr P → Rt P (2 * M) R)) (h : twoB N ps a b xss yss = true) (k : Nat) (hk : k < ps.length) :
    ∃ (P M R : Nat) (ys zs : List Nat), ps.getD k 0 = P ∧ N = M ∧ Rf k = R ∧ xss.getD k [] = toZ ys ∧ yss.getD k [] = toZ zs ∧ R < P ∧ (2 ≤ P ∧ P ≤ 268435456) ∧ P % 2 = 1 ∧ Sz4 M ∧ ys.length = M ∧ zs.length = M ∧ (∀ y ∈ ys, y < P) ∧ (∀ y ∈ zs, y < P) ∧ Cg P ((R : Int) ^ (2 * M)) 1 ∧ Cg P ((R : Int) ^ M) (-1) := by
  obtain ⟨g1, g2, g3⟩ := two_of.1 h
  obtain ⟨P, M, R, ys, e1, e2, e3, e4, hlt, hP, hS, la, ha, r1, r2⟩ := row_openR hR g1 k hk
  obtain ⟨P', M', R', zs, e1', e2', e3', e4', _, _, _, lb, hb, _, _⟩ := row_openR hR g2 k hk
  have hok := ((gr_polyR g1).2 k hk).1
  rw [e1, e2] at hok
  obtain rfl : P = P' := by omega
  obtain rfl : M = M' := by omega
  refine ⟨P, M, R, ys, zs, e1, e2, e3, e4, e4', hlt, hP, ?_, hS, la, lb, ha, hb, r1, r2⟩
  have q1 := hok.dv
  have q2 := hok.sz
  rcases q2 with e | e | e | e <;> rw [e] at q1 <;> omega
theorem timesF_len (N : Int) (a b : Bool) (ps : List Int) (xss yss : List (List Int)) (Rf : Nat → Int) (hR : ∀ k, RingOk (ps.getD k 0) N → ((0 ≤ Rf k ∧ Rf k < ps.getD k 0) ∧ (∀ W, PrsW W → TabW W → Calls Tryd.prog 61 #[.int .i64 (ps.getD k 0), .int .i64 N] W fun e w' => e = .returned (.tuple #[.agg #[.int .i64 (ps.getD k 0), .int .i64 N, .int .i64 (Rf k)], .bool true]) ∧ Old W w')) ∧ ∃ P M R : Nat, ps.getD k 0 = P ∧ N = M ∧ Rf k = R ∧ R < P ∧ RingOk P M ∧ (F1.Pr P → Rt P (2 * M) R)) (h : twoB N ps a b xss yss = true) (k : Nat) (hk : k < ps.length) : ((timesF N a (ps.getD k 0) (xss.getD k []) (yss.getD k [])).length : Int) = N := by
  obtain ⟨P, M, R, ys, zs, e1, e2, e3, e4, e5, hlt, hP2, ho, hS, la, lb, ha, hb, r1, r2⟩ := rows_open hR h k hk
  rw [e1, e4, e5, e2]
  cases a
  · rw [timesF_f, toZ_len, muO_len]
  · rw [timesF_t, toZ_len, eachN_len]
theorem spec_MulRows_any (N : Int) (ps : List Int) (a b : Bool) (xss yss : List (List Int)) (Rf : Nat → Int) (hR : ∀ k, RingOk (ps.getD k 0) N → ((0 ≤ Rf k ∧ Rf k < ps.getD k 0) ∧ (∀ W, PrsW W → TabW W → Calls Tryd.prog 61 #[.int .i64 (ps.getD k 0), .int .i64 N] W fun e w' => e = .returned (.tuple #[.agg #[.int .i64 (ps.getD k 0), .int .i64 N, .int .i64 (Rf k)], .bool true]) ∧ Old W w')) ∧ ∃ P M R : Nat, ps.getD k 0 = P ∧ N = M ∧ Rf k = R ∧ R < P ∧ RingOk P M ∧ (F1.Pr P → Rt P (2 * M) R)) (v u1 u2 : Value) (w : World) (hv : Row w v ps) (hf : Fit v) (h1 : RowS w u1 xss) (h2 : RowS w u2 yss) (hlp : ps.length ≤ 1048576) (hx : ∀ x ∈ ps, -9223372036854775808 ≤ x ∧ x ≤ 9223372036854775807) (hl1 : xss.length ≤ 1048576) (hr1 : ∀ r ∈ xss, r.length ≤ 1048576) (hl2 : yss.length ≤ 1048576) (hr2 : ∀ r ∈ yss, r.length ≤ 1048576) (h : twoB N ps a b xss yss = true) :
    Calls Tryd.prog 40 #[.agg #[.int .i64 N, v], .agg #[.bool a, u1], .agg #[.bool b, u2]] w (Rs w a (mk2 (timesF N a) ps xss yss) true) := by
  obtain ⟨t1, t2, t3, t4, t5, t6⟩ := two_parts h
  subst t5
  cases a
  · refine spec_MulRows_back N ps false false xss yss v u1 u2 w hv hf h1 h2 hlp hx hl1 hr1 hl2 hr2 h rfl _ (fun W g => ?_)
    refine spec_l5Mul N ps xss yss _ v u1 u2 W (hv.old g) (h1.old g) (h2.old g) t2 t3 t4 (mk2_len _ _ _ _) (fun k hk W u t hu ht => ?_)
    obtain ⟨P, M, R, ys, zs, e1, e2, e3, e4, e5, hlt, hP2, ho, hS, la, lb, ha, hb, r1, r2⟩ := rows_open hR h k hk
    rw [mk2_get _ _ _ _ _ hk]
    rw [e4] at hu
    rw [e5] at ht
    rw [e1, e4, e5, e2, timesF_f]
    exact spec_l3Mul P M 0 ys zs u t W hu ht hP2 (sz4_bdR hS) la lb ha hb
  · refine spec_MulRows_ahead N ps xss yss v u1 u2 w hv hf h1 h2 hlp hx hl1 hr1 hl2 hr2 h _ t2 t3 t4 (mk2_len _ _ _ _) (fun k hk => ?_)
    obtain ⟨s1, s2, s3, s4⟩ := t6 k hk
    have hlen := timesF_len N true true ps xss yss Rf hR h k hk
    rw [mk2_get _ _ _ _ _ hk]
    refine ⟨by omega, by omega, by omega, s3, fun i hi => ?_⟩
    obtain ⟨⟨q1, q2⟩, q3, q4⟩ := s4 i hi
    refine ⟨by omega, by omega, ?_⟩
    obtain ⟨P, M, R, ys, zs, e1, e2, e3, e4, e5, hlt, hP2, ho, hS, la, lb, ha, hb, r1, r2⟩ := rows_open hR h k hk
    rw [e4, toZ_len] at hi
    rw [e1, e4, e5, e2, timesF_t]
    exact eachN_getZ P M ys zs i (by omega) la lb
theorem impl_MulRows (N : Int) (ps : List Int) (a b : Bool) (xss yss : List (List Int)) (Rf : Nat → Int) (hR : ∀ k, RingOk (ps.getD k 0) N → ((0 ≤ Rf k ∧ Rf k < ps.getD k 0) ∧ (∀ W, PrsW W → TabW W → Calls Tryd.prog 61 #[.int .i64 (ps.getD k 0), .int .i64 N] W fun e w' => e = .returned (.tuple #[.agg #[.int .i64 (ps.getD k 0), .int .i64 N, .int .i64 (Rf k)], .bool true]) ∧ Old W w')) ∧ ∃ P M R : Nat, ps.getD k 0 = P ∧ N = M ∧ Rf k = R ∧ R < P ∧ RingOk P M ∧ (F1.Pr P → Rt P (2 * M) R)) (v u1 u2 : Value) (w : World) (lo1 hi1 lo2 hi2 : Nat) (hP : PrsW w) (hT : TabW w) (hv : Row w v ps) (hf : Fit v) (h1 : OwS xss w lo1 hi1 u1) (h2 : OwS yss w lo2 hi2 u2) (hlp : ps.length ≤ 1048576) (hl1 : xss.length ≤ 1048576) (hr1 : ∀ r ∈ xss, r.length ≤ 1048576) (hl2 : yss.length ≤ 1048576) (hr2 : ∀ r ∈ yss, r.length ≤ 1048576) :
    Calls Tryd.prog 43 #[.agg #[.int .i64 N, v], .agg #[.bool a, u1], .agg #[.bool b, u2]] w fun e w' => (twoB N ps a b xss yss = true → Rs w a (mk2 (timesF N a) ps xss yss) true e w') ∧ (twoB N ps a b xss yss = false → Rs w false [] false e w') := by
  obtain ⟨us1, cs1, at1⟩ := h1.ats ps
  obtain ⟨us2, cs2, at2⟩ := h2.ats ps
  obtain ⟨a0, cap0, ev⟩ := hv.slice
  obtain ⟨a1, cap1, e1⟩ := h1.slice
  obtain ⟨a2, cap2, e2⟩ := h2.slice
  subst ev e1 e2
  have c1 := fun W W' (q : Old w W) (p1 : PrsW W') (p2 : TabW W') (q' : Old W W') => impl_ringRows N a ps xss Rf us1 cs1 (.slice a0 ps.length cap0) a1 cap1 W' p1 p2 (hv.old (Old.trans q q')) hf hlp hl1 hr1 (fun h => (at1 h).old (Old.trans q q')) (fun k hk => (hR k hk).1)
  have c2 := fun W W' (q : Old w W) (p1 : PrsW W') (p2 : TabW W') (q' : Old W W') => impl_ringRows N b ps yss Rf us2 cs2 (.slice a0 ps.length cap0) a2 cap2 W' p1 p2 (hv.old (Old.trans q q')) hf hlp hl2 hr2 (fun h => (at2 h).old (Old.trans q q')) (fun k hk => (hR k hk).1)
  cases htw : twoB N ps a b xss yss
  · have hno : ¬ (grB N ps xss = true ∧ grB N ps yss = true ∧ a = b) := fun h => by
      rw [two_of.2 h] at htw
      cases htw
    refine (impl_MulRows_of N a b a0 a1 a2 _ _ _ _ _ _ w false [] false (fun W q => eachPair_times_no N ps a b xss yss Rf us1 us2 _ a1 a2 cap1 cap2 W (hP.old q) (hT.old q) (hv.old q) (fun W' p1 p2 q' => c1 W W' q p1 p2 q') (fun W' p1 p2 q' => c2 W W' q p1 p2 q') hno)).mono (fun e w' h => ⟨(fun h' => by cases h'), fun _ => h⟩)
  · obtain ⟨g1, g2, g3⟩ := two_of.1 htw
    obtain ⟨t1, t2, t3, t4, t5, t6⟩ := two_parts htw
    obtain ⟨Nn, hNn⟩ : ∃ Nn : Nat, N = Nn := ⟨N.toNat, by omega⟩
    subst hNn
    refine (impl_MulRows_of Nn a b a0 a1 a2 _ _ _ _ _ _ w a (mk2 (timesF Nn a) ps xss yss) true (fun W q => eachPair_times_yes Nn ps a b xss yss Rf us1 us2 _ a1 a2 cap1 cap2 W (hP.old q) (hT.old q) (hv.old q) (fun W' p1 p2 q' => c1 W W' q p1 p2 q') (fun W' p1 p2 q' => c2 W W' q p1 p2 q') g1 g2 g3 (mk2 (timesF Nn a) ps xss yss) (mk2_len _ _ _ _) t2.2 (fun k hk => ?_))).mono (fun e w' h => ⟨fun _ => h, (fun h' => by cases h')⟩)
    obtain ⟨s1, s2, s3, s4⟩ := t6 k hk
    obtain ⟨b1, _, _, _, rr1⟩ := at1 (by omega)
    obtain ⟨b2, _, _, _, rr2⟩ := at2 (by omega)
    have row1 := (rr1 k (by omega)).2.2
    have row2 := (rr2 k (by omega)).2.2
    have l1 : (xss.getD k []).length = Nn := by omega
    have l2 : (yss.getD k []).length = Nn := by omega
    rw [l1] at row1
    rw [l2] at row2
    have row1' := row1.recap (c' := Nn) (fun h => by rw [h] at l1; simp at l1; omega)
    have row2' := row2.recap (c' := Nn) (fun h => by rw [h] at l2; simp at l2; omega)
    have hlen := timesF_len Nn a b ps xss yss Rf hR htw k hk
    rw [mk2_get _ _ _ _ _ hk]
    refine ⟨by omega, fun W' q' => ?_⟩
    obtain ⟨P, M, R, ys, zs, e1, e2, e3, e4, e5, hlt, hP2, ho, hS, la, lb, ha, hb, r1, r2⟩ := rows_open hR htw k hk
    obtain rfl : Nn = M := by omega
    rw [e1, e3, e4, e5]
    rw [e1, e4, e5] at hlen
    rw [e4] at row1'
    rw [e5] at row2'
    have hN2 := sz4_bdR hS
    cases a
    · refine impl_times_false P R Nn b _ (us1 k) (us2 k) W' (fun W'' q'' => ?_) (by omega) (by omega)
      rw [timesF_f]
      exact impl_product P Nn R ys zs _ _ W'' (hT.old (Old.trans q (Old.trans q' q''))) (row1'.old (Old.trans q (Old.trans q' q''))) (row2'.old (Old.trans q (Old.trans q' q''))) hP2 ho hS hlt la lb ha hb r1 r2
    · refine impl_times_true P R Nn b _ (us1 k) (us2 k) W' (fun W'' q'' => ?_) (by omega) (by omega)
      rw [timesF_t]
      exact impl_products P Nn R ys zs _ _ W'' (row1'.old (Old.trans q (Old.trans q' q''))) (row2'.old (Old.trans q (Old.trans q' q''))) hP2 hN2 la lb ha hb
theorem MulRows_any (N : Int) (xs : List Int) (n m : Bool) (xss yss : List (List Int)) (v u t : Value) (w : World) (hv : Row w v xs) (hl : xs.length ≤ 9223372036854775807) (hx : ∀ x ∈ xs, -9223372036854775808 ≤ x ∧ x ≤ 9223372036854775807) (hu : RowS w u xss) (hlx : xss.length ≤ 9223372036854775807) (hlr : ∀ r ∈ xss, r.length ≤ 9223372036854775807) (ht : RowS w t yss) (hly : yss.length ≤ 9223372036854775807) (hlq : ∀ r ∈ yss, r.length ≤ 9223372036854775807) (hP : PrsW w) (hT : TabW w) :
    Calls Tryd.prog 11 #[.agg #[.int .i64 N, v], .agg #[.bool n, u], .agg #[.bool m, t]] w fun e w' => e = .returned (.bool true) ∧ Old w w' := by
  obtain ⟨Rf, hR⟩ := Rings_rt N xs
  obtain ⟨a0, c0, rfl⟩ := hv.slice
  obtain ⟨a1, c1, rfl⟩ := hu.slice
  obtain ⟨a2, c2, rfl⟩ := ht.slice
  have bnd : ∀ {A : Prop}, ¬ leftN 1048576 xs.length < 0 → ¬ leftSS (leftN 1048576 xs.length) xss < 0 → ¬ leftSS (leftSS (leftN 1048576 xs.length) xss) yss < 0 → (xs.length ≤ 1048576 → xss.length ≤ 1048576 → (∀ r ∈ xss, r.length ≤ 1048576) → yss.length ≤ 1048576 → (∀ r ∈ yss, r.length ≤ 1048576) → offL xss xss.length ≤ 1048576 → offL yss yss.length ≤ 1048576 → A) → A := fun h1 h2 h3 k => by
    obtain ⟨q1, q2, q3⟩ := leftN_ok h1 (by omega)
    obtain ⟨p1, p2, p3, p4⟩ := leftSS_ok q3 h2
    obtain ⟨s1, s2, s3, s4⟩ := leftSS_ok (by omega) h3
    have o1 := offL_leftSS q3 h2
    have o2 := offL_leftSS (by omega) h3
    exact k (by omega) (by omega) (fun r hr => by have := p4 r hr; omega) (by omega) (fun r hr => by have := s4 r hr; omega) (by omega) (by omega)
  have zb : ∀ (zss : List (List Int)) (ro br : Bool),
      (twoB N xs n m xss yss = true → zss = mk2 (timesF N n) xs xss yss ∧ ro = true ∧ br = n) → (twoB N xs n m xss yss = false → zss = [] ∧ ro = false ∧ br = false) → zss.length ≤ 6 ∧ (∀ r ∈ zss, r.length ≤ 16) ∧ offL zss zss.length ≤ 96 := fun zss ro br h1 h2 => by
    have key : zss.length ≤ 6 ∧ ∀ r ∈ zss, r.length ≤ 16 := by
      cases htw : twoB N xs n m xss yss
      · obtain ⟨rfl, _, _⟩ := h2 htw
        exact ⟨by simp, fun r hr => by cases hr⟩
      · obtain ⟨rfl, _, _⟩ := h1 htw
        obtain ⟨t1, t2, t3, t4, t5, t6⟩ := two_parts htw
        refine ⟨by rw [mk2_len]; omega, fun r hr => ?_⟩
        unfold mk2 at hr
        rw [List.mem_map] at hr
        obtain ⟨k, hk, rfl⟩ := hr
        have hk' : k < xs.length := by simpa using hk
        have := timesF_len N n m xs xss yss Rf hR htw k hk'
        omega
    refine ⟨key.1, key.2, ?_⟩
    have := offL_bd zss 16 key.2
    omega
  obtain ⟨zss, ro, br, hy, hn⟩ : ∃ (zss : List (List Int)) (ro br : Bool), (twoB N xs n m xss yss = true → zss = mk2 (timesF N n) xs xss yss ∧ ro = true ∧ br = n) ∧ (twoB N xs n m xss yss = false → zss = [] ∧ ro = false ∧ br = false) := by
    cases twoB N xs n m xss yss
    · exact ⟨[], false, false, (fun h => by cases h), fun _ => ⟨rfl, rfl, rfl⟩⟩
    · exact ⟨_, true, n, fun _ => ⟨rfl, rfl, rfl⟩, (fun h => by cases h)⟩
  obtain ⟨z1, z2, z3⟩ := zb zss ro br hy hn
  have z2' : ∀ r ∈ zss, r.length ≤ 1048576 := fun r hr => by have := z2 r hr; omega
  refine law9_MulRows w N xs.length a0 c0 n xss.length a1 c1 m yss.length a2 c2 br zss.length ro (leftN 1048576 xs.length) (leftSS (leftN 1048576 xs.length) xss) (leftSS (leftSS (leftN 1048576 xs.length) xss) yss)
    (fun W g => ks_sz N a0 xs.length c0 1048576 W hl (by omega) (by omega))
    (fun h W g => by
      obtain ⟨q1, q2, q3⟩ := leftN_ok h (by omega)
      exact kr_sz n xss _ _ W (hu.old g) hlx hlr q3 (by omega))
    (fun h h2 W g => by
      obtain ⟨q1, q2, q3⟩ := leftN_ok h (by omega)
      obtain ⟨p1, p2, p3, p4⟩ := leftSS_ok q3 h2
      exact kr_sz m yss _ _ W (ht.old g) hly hlq (by omega) (by omega))
    (XS N xs) (far_XS N xs) shape_XS (fun h1 h2 h3 W g => bnd h1 h2 h3 fun d1 d2 d3 d4 d5 d6 d7 => ks_to N xs _ W (hv.old g) d1) (fun h1 h2 h3 W lo hi g lo' hi' g' k k' => bnd h1 h2 h3 fun d1 d2 d3 d4 d5 d6 d7 => ks_eq N xs W lo hi g lo' hi' g' k k' (by omega))
    (1 + xs.length) (by omega) (fun h1 h2 h3 W lo hi g k => bnd h1 h2 h3 fun d1 d2 d3 d4 d5 d6 d7 => ks_mark N xs 1 W lo hi g k d1 (by omega) (by omega))
    (XR n xss) (far_XR n xss) shape_XR (fun h1 h2 h3 W g => bnd h1 h2 h3 fun d1 d2 d3 d4 d5 d6 d7 => kr_to n xss _ W (hu.old g) d2 d3) (fun h1 h2 h3 W lo hi g lo' hi' g' k k' => bnd h1 h2 h3 fun d1 d2 d3 d4 d5 d6 d7 => kr_eq n xss W lo hi g lo' hi' g' k k' d2 d3)
    (1 + xs.length + offL xss xss.length) (by omega) (fun h1 h2 h3 W lo hi g k => bnd h1 h2 h3 fun d1 d2 d3 d4 d5 d6 d7 => (kr_mark n xss _ W lo hi g k d2 d3 (by omega) (by omega)).mono (fun e w' h => ⟨h.1, h.2.1⟩))
    (XR m yss) (far_XR m yss) shape_XR (fun h1 h2 h3 W g => bnd h1 h2 h3 fun d1 d2 d3 d4 d5 d6 d7 => kr_to m yss _ W (ht.old g) d4 d5) (fun h1 h2 h3 W lo hi g lo' hi' g' k k' => bnd h1 h2 h3 fun d1 d2 d3 d4 d5 d6 d7 => kr_eq m yss W lo hi g lo' hi' g' k k' d4 d5)
    (1 + xs.length + offL xss xss.length + offL yss yss.length) (by omega) (fun h1 h2 h3 W lo hi g k => bnd h1 h2 h3 fun d1 d2 d3 d4 d5 d6 d7 => (kr_mark m yss _ W lo hi g k d4 d5 (by omega) (by omega)).mono (fun e w' h => ⟨h.1, h.2.1⟩))
    (XR br zss) (far_XR br zss) shape_XR (XR br zss) (far_XR br zss) shape_XR (XM br 1 zss) (far_XM br 1 zss) shape_XM
    (fun h1 h2 h3 W lo0 hi0 g0 lo1 hi1 g1 lo2 hi2 g2 k0 k1 k2 _ => bnd h1 h2 h3 fun d1 d2 d3 d4 d5 d6 d7 => ?_) (fun h1 h2 h3 W lo0 hi0 g0 lo1 hi1 g1 lo2 hi2 g2 k0 k1 k2 q => bnd h1 h2 h3 fun d1 d2 d3 d4 d5 d6 d7 => ?_)
    (fun h1 h2 h3 W lo hi p lo' hi' p' k k' => kr_eq br zss W lo hi p lo' hi' p' k k' (by omega) z2')
    (1 + offL zss zss.length) (by omega) (fun h1 h2 h3 W lo hi p k => kr_mark br zss 1 W lo hi p k (by omega) z2' (by omega) (by omega)) (fun h1 h2 h3 W lo hi p k => kr_held br zss 1 W lo hi p k (by omega) z2' (by omega) (by omega))
  · obtain ⟨a, c, rfl, o, f⟩ := k0
    obtain ⟨a', c', rfl, o'⟩ := k1
    obtain ⟨a'', c'', rfl, o''⟩ := k2
    cases htw : twoB N xs n m xss yss
    · obtain ⟨rfl, rfl, rfl⟩ := hn htw
      exact spec_MulRows_no N xs n m xss yss _ _ _ W o.row f o'.rowS o''.rowS d1 hx d2 d3 d4 d5 htw
    · obtain ⟨rfl, rfl, rfl⟩ := hy htw
      exact spec_MulRows_any N xs br m xss yss Rf hR _ _ _ W o.row f o'.rowS o''.rowS d1 hx d2 d3 d4 d5 htw
  · obtain ⟨a, c, rfl, o, f⟩ := k0
    obtain ⟨a', c', rfl, o'⟩ := k1
    obtain ⟨a'', c'', rfl, o''⟩ := k2
    refine (impl_MulRows N xs n m xss yss Rf hR _ _ _ W _ _ _ _ (hP.old q) (hT.old q) o.row f o' o'' d1 d2 d3 d4 d5).mono (fun e w' h => ?_)
    cases htw : twoB N xs n m xss yss
    · obtain ⟨rfl, rfl, rfl⟩ := hn htw
      exact h.2 htw
    · obtain ⟨rfl, rfl, rfl⟩ := hy htw
      exact h.1 htw
end Go.Proofs.YtpebikjckhcgfaaDoor
