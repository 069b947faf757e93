/- Proved: several texts in one: what each proves is said ahead of it. -/
import Derived.Test.YtglbegbhekcddaaDoorRw19
import Derived.Test.YtglbegbhekcddaaDoorRw12
import Derived.Test.YtglbegbhekcddaaDoorRw10
import Derived.Test.YtglbegbhekcddaaDoorRw23
import Derived.Test.YtglbegbhekcddaaDoorRw28
import Derived.Test.YtglbegbhekcddaaDoorRw21
import Derived.Test.YtglbegbhekcddaaDoorRw30
import Derived.Test.YtglbegbhekcddaaDoorRw16
import Derived.Test.YtglbegbhekcddaaDoorRw17
import Derived.Test.YtglbegbhekcddaaDoorRw13
import Derived.Test.YtglbegbhekcddaaDoorRw02
import Derived.Deep.RegionWith
import Derived.Deep.RegionHeld3
import Derived.Deep.DeepCutAuto
import Derived.Test.YtglbegbhekcddaaDoorRw33
import Derived.Test.YtglbegbhekcddaaDoorRw35
import Derived.Test.YtglbegbhekcddaaDoorRw15
import Derived.Test.YtglbegbhekcddaaDoorTum
/- Proved: rows brought ahead and back: what the program and the model make of each. -/
namespace Go.Proofs.YtglbegbhekcddaaDoor
open Go.ChangeShapes Go.WideShapes Go.ChangeAt Go.RowKit
set_option linter.unusedVariables false
set_option linter.unusedSimpArgs false
open M1
def mkL (f : Int → Int → List Int → List Int) (ps : List Int) (Rf : Nat → Int) (xss : List (List Int)) : List (List Int) := (List.range ps.length).map fun k => f (ps.getD k 0) (Rf k) (xss.getD k [])
theorem mkL_len (f : Int → Int → List Int → List Int) (ps : List Int) (Rf : Nat → Int) (xss : List (List Int)) : (mkL f ps Rf xss).length = ps.length := by simp [mkL]
theorem mkL_get (f : Int → Int → List Int → List Int) (ps : List Int) (Rf : Nat → Int) (xss : List (List Int)) (k : Nat) (hk : k < ps.length) : (mkL f ps Rf xss).getD k [] = f (ps.getD k 0) (Rf k) (xss.getD k []) := by
  simp [mkL, List.getD, hk]
def fwZ (N p r : Int) (xs : List Int) : List Int := toZ (fwdS p.toNat N.toNat r.toNat (xs.map Int.toNat))
def bkZ (N p r : Int) (xs : List Int) : List Int := toZ (invL p.toNat N.toNat r.toNat (xs.map Int.toNat))
def aheadF (N : Int) (a : Bool) (p r : Int) (xs : List Int) : List Int := if a then xs else fwZ N p r xs
def backF (N : Int) (a : Bool) (p r : Int) (xs : List Int) : List Int := if a then bkZ N p r xs else xs
theorem toZ_back (ys : List Nat) : (toZ ys).map Int.toNat = ys := by
  rw [toZ, List.map_map]
  refine (List.map_congr_left fun x hx => ?_).trans (List.map_id ys)
  simp
theorem gr_poly {N : Int} {ps : List Int} {xss : List (List Int)} (h : grB N ps xss = true) : xss.length = ps.length ∧ ∀ k, k < ps.length → RingOk (ps.getD k 0) N ∧ polyB (ps.getD k 0) N (xss.getD k []) = true := by
  unfold grB rwB rwA at h
  rw [Bool.and_eq_true, Bool.and_eq_true, decide_eq_true_eq, decide_eq_true_eq] at h
  obtain ⟨h1, h2, h3⟩ := h
  obtain ⟨s1, s2, s3⟩ := sp_ring h1
  refine ⟨h2, fun k hk => ⟨s3 k hk, ?_⟩⟩
  first
  | exact h3 k (by omega) (by omega)
  | exact h3 k (by omega)
theorem fwZ_toZ (P M R : Nat) (ys : List Nat) : fwZ M P R (toZ ys) = toZ (fwdS P M R ys) := by
  unfold fwZ
  rw [toZ_back]
  simp
theorem bkZ_toZ (P M R : Nat) (ys : List Nat) : bkZ M P R (toZ ys) = toZ (invL P M R ys) := by
  unfold bkZ
  rw [toZ_back]
  simp
theorem sz4_bd {M : Nat} (h : Sz4 M) : 2 ≤ M ∧ M ≤ 16 := by
  unfold Sz4 at h
  omega
end Go.Proofs.YtglbegbhekcddaaDoor
/- Proved: what the program makes of rows brought ahead and back, where the model's RingOf is not at hand. -/
namespace Go.Proofs.YtglbegbhekcddaaDoor
open Go.ChangeShapes Go.WideShapes Go.ChangeAt Go.RowKit
set_option linter.unusedVariables false
set_option linter.unusedSimpArgs false
open M1
theorem row_openF {N : Int} {ps : List Int} {xss : List (List Int)} {Rf : Nat → Int} (hR : ∀ k, RingOk (ps.getD k 0) N → ((0 ≤ Rf k ∧ Rf k < ps.getD k 0) ∧ (∀ W, PrsW W → TabW W → Calls Tryd.prog 60 #[.int .i64 (ps.getD k 0), .int .i64 N] W fun e w' => e = .returned (.tuple #[.agg #[.int .i64 (ps.getD k 0), .int .i64 N, .int .i64 (Rf k)], .bool true]) ∧ Old W w')) ∧ ∃ P M R : Nat, ps.getD k 0 = P ∧ N = M ∧ Rf k = R ∧ R < P ∧ RingOk P M ∧ (F1.Pr P → Rt P (2 * M) R)) (h : grB N ps xss = true) (k : Nat) (hk : k < ps.length) :
    ∃ (P M R : Nat) (ys : List Nat), ps.getD k 0 = P ∧ N = M ∧ Rf k = R ∧ xss.getD k [] = toZ ys ∧ R < P ∧ (2 ≤ P ∧ P ≤ 268435456) ∧ Sz4 M ∧ ys.length = M ∧ (∀ y ∈ ys, y < P) ∧ Cg P ((R : Int) ^ (2 * M)) 1 ∧ Cg P ((R : Int) ^ M) (-1) := by
  obtain ⟨h1, h2⟩ := gr_poly h
  obtain ⟨h3, h4⟩ := h2 k hk
  obtain ⟨_, P, M, R, e1, e2, e3, hlt, hok, hrt⟩ := hR k h3
  rw [e1, e2] at h4
  obtain ⟨ys, e4, la, ha⟩ := polyB_yes h4
  have b1 := modB_yes hok.md
  have b2 := hok.sz
  have hP : 2 ≤ P ∧ P ≤ 268435456 := by omega
  have hS : Sz4 M := by omega
  obtain ⟨r1, r2⟩ := (hrt (ring_pr hok)).cg hP.1
  exact ⟨P, M, R, ys, e1, e2, e3, e4, hlt, hP, hS, la, ha, r1, r2⟩
theorem aheadF_lenF (N : Int) (a : Bool) (ps : List Int) (xss : List (List Int)) (Rf : Nat → Int) (hR : ∀ k, RingOk (ps.getD k 0) N → ((0 ≤ Rf k ∧ Rf k < ps.getD k 0) ∧ (∀ W, PrsW W → TabW W → Calls Tryd.prog 60 #[.int .i64 (ps.getD k 0), .int .i64 N] W fun e w' => e = .returned (.tuple #[.agg #[.int .i64 (ps.getD k 0), .int .i64 N, .int .i64 (Rf k)], .bool true]) ∧ Old W w')) ∧ ∃ P M R : Nat, ps.getD k 0 = P ∧ N = M ∧ Rf k = R ∧ R < P ∧ RingOk P M ∧ (F1.Pr P → Rt P (2 * M) R)) (h : grB N ps xss = true) (k : Nat) (hk : k < ps.length) : (((aheadF N a) (ps.getD k 0) (Rf k) (xss.getD k [])).length : Int) = N := by
  obtain ⟨P, M, R, ys, e1, e2, e3, e4, hlt, hP2, hS, la, ha, r1, r2⟩ := row_openF hR h k hk
  rw [e1, e3, e4, e2]
  unfold aheadF
  split
  all_goals first | (rw [toZ_len, la]) | (rw [fwZ_toZ, toZ_len, fwdS_len]; omega) | (rw [fwZ_toZ, toZ_len, fwdS_len])
theorem impl_AheadRowsF (N : Int) (ps : List Int) (a : Bool) (xss : List (List Int)) (Rf : Nat → Int) (hR : ∀ k, RingOk (ps.getD k 0) N → ((0 ≤ Rf k ∧ Rf k < ps.getD k 0) ∧ (∀ W, PrsW W → TabW W → Calls Tryd.prog 60 #[.int .i64 (ps.getD k 0), .int .i64 N] W fun e w' => e = .returned (.tuple #[.agg #[.int .i64 (ps.getD k 0), .int .i64 N, .int .i64 (Rf k)], .bool true]) ∧ Old W w')) ∧ ∃ P M R : Nat, ps.getD k 0 = P ∧ N = M ∧ Rf k = R ∧ R < P ∧ RingOk P M ∧ (F1.Pr P → Rt P (2 * M) R)) (v u1 : Value) (w : World) (lo1 hi1 : Nat) (hP : PrsW w) (hT : TabW w) (hv : Row w v ps) (hf : Fit v) (h1 : OwS xss w lo1 hi1 u1) (hlp : ps.length ≤ 1048576) (hl1 : xss.length ≤ 1048576) (hr1 : ∀ r ∈ xss, r.length ≤ 1048576) :
    Calls Tryd.prog 10 #[.agg #[.int .i64 N, v], .agg #[.bool a, u1]] w fun e w' => (grB N ps xss = true → Rs w true (mkL (aheadF N a) ps Rf xss) true e w') ∧ (grB N ps xss = false → Rs w false [] false e w') := by
  obtain ⟨us1, cs1, at1⟩ := h1.ats ps
  obtain ⟨a0, cap0, ev⟩ := hv.slice
  obtain ⟨a1, cap1, e1⟩ := h1.slice
  subst ev e1
  have c1 := fun W W' (q : Old w W) (p1 : PrsW W') (p2 : TabW W') (q' : Old W W') => impl_ringRows N a ps xss Rf us1 cs1 (.slice a0 ps.length cap0) a1 cap1 W' p1 p2 (hv.old (Old.trans q q')) hf hlp hl1 hr1 (fun h => (at1 h).old (Old.trans q q')) (fun k hk => (hR k hk).1)
  cases hyes : grB N ps xss
  · refine (impl_AheadRows_of N ps xss a a0 a1 cap0 cap1 w false [] false (fun W q => eachRow_ahead_no N ps a true xss Rf us1 _ a1 cap1 W (hP.old q) (hT.old q) (hv.old q) (fun W' p1 p2 q' => c1 W W' q p1 p2 q') hyes)).mono (fun e w' h => ⟨(fun h' => by cases h'), fun _ => h⟩)
  · obtain ⟨t1, t2, t3, t4, t5, t6⟩ := two_parts (two_of.2 ⟨hyes, hyes, (rfl : a = a)⟩)
    obtain ⟨Nn, hNn⟩ : ∃ Nn : Nat, N = Nn := ⟨N.toNat, by omega⟩
    subst hNn
    refine (impl_AheadRows_of Nn ps xss a a0 a1 cap0 cap1 w true (mkL (aheadF Nn a) ps Rf xss) true (fun W q => eachRow_ahead_yes Nn ps a true xss Rf us1 _ a1 cap1 W (hP.old q) (hT.old q) (hv.old q) (fun W' p1 p2 q' => c1 W W' q p1 p2 q') hyes (mkL (aheadF Nn a) ps Rf xss) (mkL_len _ _ _ _) t2.2 (fun k hk => ?_))).mono (fun e w' h => ⟨fun _ => h, (fun h' => by cases h')⟩)
    obtain ⟨s1, s2, s3, s4⟩ := t6 k hk
    obtain ⟨b1, _, _, _, rr1⟩ := at1 (by omega)
    have row1 := (rr1 k (by omega)).2.2
    have l1 : (xss.getD k []).length = Nn := by omega
    rw [l1] at row1
    have row2 := row1.recap (c' := Nn) (fun h => by rw [h] at l1; simp at l1; omega)
    have hlen := aheadF_lenF Nn a ps xss Rf hR hyes k hk
    rw [mkL_get _ _ _ _ _ hk]
    refine ⟨by omega, fun W' q' => ?_⟩
    obtain ⟨P, M, R, ys, e1, e2, e3, e4, hlt, hP2, hS, la, ha, r1, r2⟩ := row_openF hR hyes k hk
    obtain rfl : Nn = M := by omega
    rw [e1, e3, e4] at hlen ⊢
    rw [e4] at row2 l1
    have hN2 := sz4_bd hS
    cases a
    · refine impl_madeAhead_t P R Nn _ (us1 k) W' (fun W'' q'' => ?_) (by omega) (by omega)
      rw [show aheadF Nn false P R (toZ ys) = toZ (fwdS P Nn R ys) from fwZ_toZ P Nn R ys, ← fwd_same P Nn R ys hS la (by omega) ha r1 r2]
      exact impl_forward P Nn R ys _ W'' (hT.old (Old.trans q (Old.trans q' q''))) (row2.old (Old.trans q (Old.trans q' q''))) hP2 hS hlt la ha
    · refine impl_madeAhead_c P R Nn _ (us1 k) W' (fun W'' q'' => ?_)
      exact impl_copied P R true Nn (toZ ys) (us1 k) W'' (row2.old (Old.trans q (Old.trans q' q''))) hN2 l1
theorem backF_lenF (N : Int) (a : Bool) (ps : List Int) (xss : List (List Int)) (Rf : Nat → Int) (hR : ∀ k, RingOk (ps.getD k 0) N → ((0 ≤ Rf k ∧ Rf k < ps.getD k 0) ∧ (∀ W, PrsW W → TabW W → Calls Tryd.prog 60 #[.int .i64 (ps.getD k 0), .int .i64 N] W fun e w' => e = .returned (.tuple #[.agg #[.int .i64 (ps.getD k 0), .int .i64 N, .int .i64 (Rf k)], .bool true]) ∧ Old W w')) ∧ ∃ P M R : Nat, ps.getD k 0 = P ∧ N = M ∧ Rf k = R ∧ R < P ∧ RingOk P M ∧ (F1.Pr P → Rt P (2 * M) R)) (h : grB N ps xss = true) (k : Nat) (hk : k < ps.length) : (((backF N a) (ps.getD k 0) (Rf k) (xss.getD k [])).length : Int) = N := by
  obtain ⟨P, M, R, ys, e1, e2, e3, e4, hlt, hP2, hS, la, ha, r1, r2⟩ := row_openF hR h k hk
  rw [e1, e3, e4, e2]
  unfold backF
  split
  all_goals first | (rw [toZ_len, la]) | (rw [bkZ_toZ, toZ_len, invL_len]; omega) | (rw [bkZ_toZ, toZ_len, invL_len])
theorem impl_BackRowsF (N : Int) (ps : List Int) (a : Bool) (xss : List (List Int)) (Rf : Nat → Int) (hR : ∀ k, RingOk (ps.getD k 0) N → ((0 ≤ Rf k ∧ Rf k < ps.getD k 0) ∧ (∀ W, PrsW W → TabW W → Calls Tryd.prog 60 #[.int .i64 (ps.getD k 0), .int .i64 N] W fun e w' => e = .returned (.tuple #[.agg #[.int .i64 (ps.getD k 0), .int .i64 N, .int .i64 (Rf k)], .bool true]) ∧ Old W w')) ∧ ∃ P M R : Nat, ps.getD k 0 = P ∧ N = M ∧ Rf k = R ∧ R < P ∧ RingOk P M ∧ (F1.Pr P → Rt P (2 * M) R)) (v u1 : Value) (w : World) (lo1 hi1 : Nat) (hP : PrsW w) (hT : TabW w) (hv : Row w v ps) (hf : Fit v) (h1 : OwS xss w lo1 hi1 u1) (hlp : ps.length ≤ 1048576) (hl1 : xss.length ≤ 1048576) (hr1 : ∀ r ∈ xss, r.length ≤ 1048576) :
    Calls Tryd.prog 7 #[.agg #[.int .i64 N, v], .agg #[.bool a, u1]] w fun e w' => (grB N ps xss = true → Rs w false (mkL (backF N a) ps Rf xss) true e w') ∧ (grB N ps xss = false → Rs w false [] false e w') := by
  obtain ⟨us1, cs1, at1⟩ := h1.ats ps
  obtain ⟨a0, cap0, ev⟩ := hv.slice
  obtain ⟨a1, cap1, e1⟩ := h1.slice
  subst ev e1
  have c1 := fun W W' (q : Old w W) (p1 : PrsW W') (p2 : TabW W') (q' : Old W W') => impl_ringRows N a ps xss Rf us1 cs1 (.slice a0 ps.length cap0) a1 cap1 W' p1 p2 (hv.old (Old.trans q q')) hf hlp hl1 hr1 (fun h => (at1 h).old (Old.trans q q')) (fun k hk => (hR k hk).1)
  cases hyes : grB N ps xss
  · refine (impl_BackRows_of N ps xss a a0 a1 cap0 cap1 w false [] false (fun W q => eachRow_back_no N ps a false xss Rf us1 _ a1 cap1 W (hP.old q) (hT.old q) (hv.old q) (fun W' p1 p2 q' => c1 W W' q p1 p2 q') hyes)).mono (fun e w' h => ⟨(fun h' => by cases h'), fun _ => h⟩)
  · obtain ⟨t1, t2, t3, t4, t5, t6⟩ := two_parts (two_of.2 ⟨hyes, hyes, (rfl : a = a)⟩)
    obtain ⟨Nn, hNn⟩ : ∃ Nn : Nat, N = Nn := ⟨N.toNat, by omega⟩
    subst hNn
    refine (impl_BackRows_of Nn ps xss a a0 a1 cap0 cap1 w false (mkL (backF Nn a) ps Rf xss) true (fun W q => eachRow_back_yes Nn ps a false xss Rf us1 _ a1 cap1 W (hP.old q) (hT.old q) (hv.old q) (fun W' p1 p2 q' => c1 W W' q p1 p2 q') hyes (mkL (backF Nn a) ps Rf xss) (mkL_len _ _ _ _) t2.2 (fun k hk => ?_))).mono (fun e w' h => ⟨fun _ => h, (fun h' => by cases h')⟩)
    obtain ⟨s1, s2, s3, s4⟩ := t6 k hk
    obtain ⟨b1, _, _, _, rr1⟩ := at1 (by omega)
    have row1 := (rr1 k (by omega)).2.2
    have l1 : (xss.getD k []).length = Nn := by omega
    rw [l1] at row1
    have row2 := row1.recap (c' := Nn) (fun h => by rw [h] at l1; simp at l1; omega)
    have hlen := backF_lenF Nn a ps xss Rf hR hyes k hk
    rw [mkL_get _ _ _ _ _ hk]
    refine ⟨by omega, fun W' q' => ?_⟩
    obtain ⟨P, M, R, ys, e1, e2, e3, e4, hlt, hP2, hS, la, ha, r1, r2⟩ := row_openF hR hyes k hk
    obtain rfl : Nn = M := by omega
    rw [e1, e3, e4] at hlen ⊢
    rw [e4] at row2 l1
    have hN2 := sz4_bd hS
    cases a
    · refine impl_madeBack_c P R Nn _ (us1 k) W' (fun W'' q'' => ?_)
      exact impl_copied P R false Nn (toZ ys) (us1 k) W'' (row2.old (Old.trans q (Old.trans q' q''))) hN2 l1
    · refine impl_madeBack_t P R Nn _ (us1 k) W' (fun W'' q'' => ?_) (by omega) (by omega)
      rw [show backF Nn true P R (toZ ys) = toZ (invL P Nn R ys) from bkZ_toZ P Nn R ys, ← inv_same P Nn R ys hS la hP2.1 ha r1 r2]
      exact impl_inverse0 P Nn R ys _ W'' (hT.old (Old.trans q (Old.trans q' q''))) (row2.old (Old.trans q (Old.trans q' q''))) hP2 hS hlt la ha
end Go.Proofs.YtglbegbhekcddaaDoor
/- Proved: the statement on MulRows at every space and rows, in a world in which the two tables are laid. -/
namespace Go.Proofs.YtglbegbhekcddaaDoor
open Go.ChangeShapes Go.WideShapes Go.ChangeAt Go.RowKit
set_option linter.unusedVariables false
set_option linter.unusedSimpArgs false
def mk2 (f : Int → List Int → List Int → List Int) (ps : List Int) (xss yss : List (List Int)) : List (List Int) := (List.range ps.length).map fun k => f (ps.getD k 0) (xss.getD k []) (yss.getD k [])
theorem mk2_len (f : Int → List Int → List Int → List Int) (ps : List Int) (xss yss : List (List Int)) : (mk2 f ps xss yss).length = ps.length := by simp [mk2]
theorem mk2_get (f : Int → List Int → List Int → List Int) (ps : List Int) (xss yss : List (List Int)) (k : Nat) (hk : k < ps.length) : (mk2 f ps xss yss).getD k [] = f (ps.getD k 0) (xss.getD k []) (yss.getD k []) := by
  simp [mk2, List.getD, hk]
def timesF (N : Int) (a : Bool) (p : Int) (xs ys : List Int) : List Int := if a then toZ (eachN p.toNat N.toNat (xs.map Int.toNat) (ys.map Int.toNat)) else toZ (muO p.toNat N.toNat (xs.map Int.toNat) (ys.map Int.toNat) N.toNat)
theorem timesF_t (M P : Nat) (xs ys : List Nat) : timesF M true P (toZ xs) (toZ ys) = toZ (eachN P M xs ys) := by
  unfold timesF
  rw [toZ_backR, toZ_backR]
  simp
theorem timesF_f (M P : Nat) (xs ys : List Nat) : timesF M false P (toZ xs) (toZ ys) = toZ (muO P M xs ys M) := by
  unfold timesF
  rw [toZ_backR, toZ_backR]
  simp
theorem toZ_getI (xs : List Nat) (i : Nat) : (toZ xs).getD i 0 = (xs.getD i 0 : Int) := by
  unfold toZ
  simp only [List.getD, List.getElem?_map]
  cases xs[i]? <;> rfl
theorem eachN_getZ (P N : Nat) (xs ys : List Nat) (i : Nat) (h : i < N) (la : xs.length = N) (lb : ys.length = N) : (toZ (eachN P N xs ys)).getD i 0 = (toZ xs).getD i 0 * (toZ ys).getD i 0 % (P : Int) := by
  rw [toZ_getI, toZ_getI, toZ_getI, eachN_get _ _ _ _ _ h]
  simp
theorem rows_open {N : Int} {ps : List Int} {a b : Bool} {xss yss : List (List Int)} {Rf : Nat → Int} (hR : ∀ k, RingOk (ps.getD k 0) N → ((0 ≤ Rf k ∧ Rf k < ps.getD k 0) ∧ (∀ W, PrsW W → TabW W → Calls Tryd.prog 60 #[.int .i64 (ps.getD k 0), .int .i64 N] W fun e w' => e = .returned (.tuple #[.agg #[.int .i64 (ps.getD k 0), .int .i64 N, .int .i64 (Rf k)], .bool true]) ∧ Old W w')) ∧ ∃ P M R : Nat, ps.getD k 0 = P ∧ N = M ∧ Rf k = R ∧ R < P ∧ RingOk P M ∧ (F1.Pr P → Rt P (2 * M) R)) (h : twoB N ps a b xss yss = true) (k : Nat) (hk : k < ps.length) :
    ∃ (P M R : Nat) (ys zs : List Nat), ps.getD k 0 = P ∧ N = M ∧ Rf k = R ∧ xss.getD k [] = toZ ys ∧ yss.getD k [] = toZ zs ∧ R < P ∧ (2 ≤ P ∧ P ≤ 268435456) ∧ P % 2 = 1 ∧ Sz4 M ∧ ys.length = M ∧ zs.length = M ∧ (∀ y ∈ ys, y < P) ∧ (∀ y ∈ zs, y < P) ∧ Cg P ((R : Int) ^ (2 * M)) 1 ∧ Cg P ((R : Int) ^ M) (-1) := by
  obtain ⟨g1, g2, g3⟩ := two_of.1 h
  obtain ⟨P, M, R, ys, e1, e2, e3, e4, hlt, hP, hS, la, ha, r1, r2⟩ := row_openR hR g1 k hk
  obtain ⟨P', M', R', zs, e1', e2', e3', e4', _, _, _, lb, hb, _, _⟩ := row_openR hR g2 k hk
  have hok := ((gr_polyR g1).2 k hk).1
  rw [e1, e2] at hok
  obtain rfl : P = P' := by omega
  obtain rfl : M = M' := by omega
  refine ⟨P, M, R, ys, zs, e1, e2, e3, e4, e4', hlt, hP, ?_, hS, la, lb, ha, hb, r1, r2⟩
  have q1 := hok.dv
  have q2 := hok.sz
  rcases q2 with e | e | e | e <;> rw [e] at q1 <;> omega
theorem timesF_len (N : Int) (a b : Bool) (ps : List Int) (xss yss : List (List Int)) (Rf : Nat → Int) (hR : ∀ k, RingOk (ps.getD k 0) N → ((0 ≤ Rf k ∧ Rf k < ps.getD k 0) ∧ (∀ W, PrsW W → TabW W → Calls Tryd.prog 60 #[.int .i64 (ps.getD k 0), .int .i64 N] W fun e w' => e = .returned (.tuple #[.agg #[.int .i64 (ps.getD k 0), .int .i64 N, .int .i64 (Rf k)], .bool true]) ∧ Old W w')) ∧ ∃ P M R : Nat, ps.getD k 0 = P ∧ N = M ∧ Rf k = R ∧ R < P ∧ RingOk P M ∧ (F1.Pr P → Rt P (2 * M) R)) (h : twoB N ps a b xss yss = true) (k : Nat) (hk : k < ps.length) : ((timesF N a (ps.getD k 0) (xss.getD k []) (yss.getD k [])).length : Int) = N := by
  obtain ⟨P, M, R, ys, zs, e1, e2, e3, e4, e5, hlt, hP2, ho, hS, la, lb, ha, hb, r1, r2⟩ := rows_open hR h k hk
  rw [e1, e4, e5, e2]
  cases a
  · rw [timesF_f, toZ_len, muO_len]
  · rw [timesF_t, toZ_len, eachN_len]
theorem spec_MulRows_any (N : Int) (ps : List Int) (a b : Bool) (xss yss : List (List Int)) (Rf : Nat → Int) (hR : ∀ k, RingOk (ps.getD k 0) N → ((0 ≤ Rf k ∧ Rf k < ps.getD k 0) ∧ (∀ W, PrsW W → TabW W → Calls Tryd.prog 60 #[.int .i64 (ps.getD k 0), .int .i64 N] W fun e w' => e = .returned (.tuple #[.agg #[.int .i64 (ps.getD k 0), .int .i64 N, .int .i64 (Rf k)], .bool true]) ∧ Old W w')) ∧ ∃ P M R : Nat, ps.getD k 0 = P ∧ N = M ∧ Rf k = R ∧ R < P ∧ RingOk P M ∧ (F1.Pr P → Rt P (2 * M) R)) (v u1 u2 : Value) (w : World) (hv : Row w v ps) (hf : Fit v) (h1 : RowS w u1 xss) (h2 : RowS w u2 yss) (hlp : ps.length ≤ 1048576) (hx : ∀ x ∈ ps, -9223372036854775808 ≤ x ∧ x ≤ 9223372036854775807) (hl1 : xss.length ≤ 1048576) (hr1 : ∀ r ∈ xss, r.length ≤ 1048576) (hl2 : yss.length ≤ 1048576) (hr2 : ∀ r ∈ yss, r.length ≤ 1048576) (h : twoB N ps a b xss yss = true) :
    Calls Tryd.prog 6 #[.agg #[.int .i64 N, v], .agg #[.bool a, u1], .agg #[.bool b, u2]] w (Rs w a (mk2 (timesF N a) ps xss yss) true) := by
  obtain ⟨t1, t2, t3, t4, t5, t6⟩ := two_parts h
  subst t5
  cases a
  · refine spec_MulRows_back N ps false false xss yss v u1 u2 w hv hf h1 h2 hlp hx hl1 hr1 hl2 hr2 h rfl _ (fun W g => ?_)
    refine spec_l5Mul N ps xss yss _ v u1 u2 W (hv.old g) (h1.old g) (h2.old g) t2 t3 t4 (mk2_len _ _ _ _) (fun k hk W u t hu ht => ?_)
    obtain ⟨P, M, R, ys, zs, e1, e2, e3, e4, e5, hlt, hP2, ho, hS, la, lb, ha, hb, r1, r2⟩ := rows_open hR h k hk
    rw [mk2_get _ _ _ _ _ hk]
    rw [e4] at hu
    rw [e5] at ht
    rw [e1, e4, e5, e2, timesF_f]
    exact spec_l3Mul P M 0 ys zs u t W hu ht hP2 (sz4_bdR hS) la lb ha hb
  · refine spec_MulRows_ahead N ps xss yss v u1 u2 w hv hf h1 h2 hlp hx hl1 hr1 hl2 hr2 h _ t2 t3 t4 (mk2_len _ _ _ _) (fun k hk => ?_)
    obtain ⟨s1, s2, s3, s4⟩ := t6 k hk
    have hlen := timesF_len N true true ps xss yss Rf hR h k hk
    rw [mk2_get _ _ _ _ _ hk]
    refine ⟨by omega, by omega, by omega, s3, fun i hi => ?_⟩
    obtain ⟨⟨q1, q2⟩, q3, q4⟩ := s4 i hi
    refine ⟨by omega, by omega, ?_⟩
    obtain ⟨P, M, R, ys, zs, e1, e2, e3, e4, e5, hlt, hP2, ho, hS, la, lb, ha, hb, r1, r2⟩ := rows_open hR h k hk
    rw [e4, toZ_len] at hi
    rw [e1, e4, e5, e2, timesF_t]
    exact eachN_getZ P M ys zs i (by omega) la lb
theorem impl_MulRows (N : Int) (ps : List Int) (a b : Bool) (xss yss : List (List Int)) (Rf : Nat → Int) (hR : ∀ k, RingOk (ps.getD k 0) N → ((0 ≤ Rf k ∧ Rf k < ps.getD k 0) ∧ (∀ W, PrsW W → TabW W → Calls Tryd.prog 60 #[.int .i64 (ps.getD k 0), .int .i64 N] W fun e w' => e = .returned (.tuple #[.agg #[.int .i64 (ps.getD k 0), .int .i64 N, .int .i64 (Rf k)], .bool true]) ∧ Old W w')) ∧ ∃ P M R : Nat, ps.getD k 0 = P ∧ N = M ∧ Rf k = R ∧ R < P ∧ RingOk P M ∧ (F1.Pr P → Rt P (2 * M) R)) (v u1 u2 : Value) (w : World) (lo1 hi1 lo2 hi2 : Nat) (hP : PrsW w) (hT : TabW w) (hv : Row w v ps) (hf : Fit v) (h1 : OwS xss w lo1 hi1 u1) (h2 : OwS yss w lo2 hi2 u2) (hlp : ps.length ≤ 1048576) (hl1 : xss.length ≤ 1048576) (hr1 : ∀ r ∈ xss, r.length ≤ 1048576) (hl2 : yss.length ≤ 1048576) (hr2 : ∀ r ∈ yss, r.length ≤ 1048576) :
    Calls Tryd.prog 5 #[.agg #[.int .i64 N, v], .agg #[.bool a, u1], .agg #[.bool b, u2]] w fun e w' => (twoB N ps a b xss yss = true → Rs w a (mk2 (timesF N a) ps xss yss) true e w') ∧ (twoB N ps a b xss yss = false → Rs w false [] false e w') := by
  obtain ⟨us1, cs1, at1⟩ := h1.ats ps
  obtain ⟨us2, cs2, at2⟩ := h2.ats ps
  obtain ⟨a0, cap0, ev⟩ := hv.slice
  obtain ⟨a1, cap1, e1⟩ := h1.slice
  obtain ⟨a2, cap2, e2⟩ := h2.slice
  subst ev e1 e2
  have c1 := fun W W' (q : Old w W) (p1 : PrsW W') (p2 : TabW W') (q' : Old W W') => impl_ringRows N a ps xss Rf us1 cs1 (.slice a0 ps.length cap0) a1 cap1 W' p1 p2 (hv.old (Old.trans q q')) hf hlp hl1 hr1 (fun h => (at1 h).old (Old.trans q q')) (fun k hk => (hR k hk).1)
  have c2 := fun W W' (q : Old w W) (p1 : PrsW W') (p2 : TabW W') (q' : Old W W') => impl_ringRows N b ps yss Rf us2 cs2 (.slice a0 ps.length cap0) a2 cap2 W' p1 p2 (hv.old (Old.trans q q')) hf hlp hl2 hr2 (fun h => (at2 h).old (Old.trans q q')) (fun k hk => (hR k hk).1)
  cases htw : twoB N ps a b xss yss
  · have hno : ¬ (grB N ps xss = true ∧ grB N ps yss = true ∧ a = b) := fun h => by
      rw [two_of.2 h] at htw
      cases htw
    refine (impl_MulRows_of N a b a0 a1 a2 _ _ _ _ _ _ w false [] false (fun W q => eachPair_times_no N ps a b xss yss Rf us1 us2 _ a1 a2 cap1 cap2 W (hP.old q) (hT.old q) (hv.old q) (fun W' p1 p2 q' => c1 W W' q p1 p2 q') (fun W' p1 p2 q' => c2 W W' q p1 p2 q') hno)).mono (fun e w' h => ⟨(fun h' => by cases h'), fun _ => h⟩)
  · obtain ⟨g1, g2, g3⟩ := two_of.1 htw
    obtain ⟨t1, t2, t3, t4, t5, t6⟩ := two_parts htw
    obtain ⟨Nn, hNn⟩ : ∃ Nn : Nat, N = Nn := ⟨N.toNat, by omega⟩
    subst hNn
    refine (impl_MulRows_of Nn a b a0 a1 a2 _ _ _ _ _ _ w a (mk2 (timesF Nn a) ps xss yss) true (fun W q => eachPair_times_yes Nn ps a b xss yss Rf us1 us2 _ a1 a2 cap1 cap2 W (hP.old q) (hT.old q) (hv.old q) (fun W' p1 p2 q' => c1 W W' q p1 p2 q') (fun W' p1 p2 q' => c2 W W' q p1 p2 q') g1 g2 g3 (mk2 (timesF Nn a) ps xss yss) (mk2_len _ _ _ _) t2.2 (fun k hk => ?_))).mono (fun e w' h => ⟨fun _ => h, (fun h' => by cases h')⟩)
    obtain ⟨s1, s2, s3, s4⟩ := t6 k hk
    obtain ⟨b1, _, _, _, rr1⟩ := at1 (by omega)
    obtain ⟨b2, _, _, _, rr2⟩ := at2 (by omega)
    have row1 := (rr1 k (by omega)).2.2
    have row2 := (rr2 k (by omega)).2.2
    have l1 : (xss.getD k []).length = Nn := by omega
    have l2 : (yss.getD k []).length = Nn := by omega
    rw [l1] at row1
    rw [l2] at row2
    have row1' := row1.recap (c' := Nn) (fun h => by rw [h] at l1; simp at l1; omega)
    have row2' := row2.recap (c' := Nn) (fun h => by rw [h] at l2; simp at l2; omega)
    have hlen := timesF_len Nn a b ps xss yss Rf hR htw k hk
    rw [mk2_get _ _ _ _ _ hk]
    refine ⟨by omega, fun W' q' => ?_⟩
    obtain ⟨P, M, R, ys, zs, e1, e2, e3, e4, e5, hlt, hP2, ho, hS, la, lb, ha, hb, r1, r2⟩ := rows_open hR htw k hk
    obtain rfl : Nn = M := by omega
    rw [e1, e3, e4, e5]
    rw [e1, e4, e5] at hlen
    rw [e4] at row1'
    rw [e5] at row2'
    have hN2 := sz4_bdR hS
    cases a
    · refine impl_times_false P R Nn b _ (us1 k) (us2 k) W' (fun W'' q'' => ?_) (by omega) (by omega)
      rw [timesF_f]
      exact impl_product P Nn R ys zs _ _ W'' (hT.old (Old.trans q (Old.trans q' q''))) (row1'.old (Old.trans q (Old.trans q' q''))) (row2'.old (Old.trans q (Old.trans q' q''))) hP2 ho hS hlt la lb ha hb r1 r2
    · refine impl_times_true P R Nn b _ (us1 k) (us2 k) W' (fun W'' q'' => ?_) (by omega) (by omega)
      rw [timesF_t]
      exact impl_products P Nn R ys zs _ _ W'' (row1'.old (Old.trans q (Old.trans q' q''))) (row2'.old (Old.trans q (Old.trans q' q''))) hP2 hN2 la lb ha hb
end Go.Proofs.YtglbegbhekcddaaDoor
/- Proved: the mathematics of the statement on rows: sums and differences, back of a product, back after ahead. -/
namespace Go.Proofs.YtglbegbhekcddaaDoor
open Go.ChangeShapes Go.WideShapes Go.ChangeAt Go.RowKit
set_option linter.unusedVariables false
set_option linter.unusedSimpArgs false
open M1
theorem ext_getR {α : Type} (d : α) {a b : List α} (hl : a.length = b.length) (h : ∀ k, k < a.length → a.getD k d = b.getD k d) : a = b :=
  List.ext_getElem hl fun k h1 h2 => by
    have := h k h1
    simpa [List.getD, h1, h2] using this
theorem polyB_mkR {P N : Nat} {ys : List Nat} (hl : ys.length = N) (h : ∀ y ∈ ys, y < P) : polyB P N (toZ ys) = true := by
  simp only [polyB, Bool.and_eq_true, List.all_eq_true]
  refine ⟨by simp [hl], fun x hx => ?_⟩
  obtain ⟨y, hy, rfl⟩ := List.mem_map.1 hx
  have := h y hy
  simp [resB]
  omega
theorem gr_ofR {N : Int} {ps : List Int} {xss : List (List Int)} (hs : spB N ps = true) (hl : xss.length = ps.length) (h : ∀ k, k < ps.length → polyB (ps.getD k 0) N (xss.getD k []) = true) : grB N ps xss = true := by
  unfold grB rwB rwA
  rw [hs, Bool.true_and, Bool.and_eq_true, decide_eq_true_eq, decide_eq_true_eq]
  exact ⟨hl, fun k hk _ => h k hk⟩
theorem invL_ltR (P N R : Nat) (xs : List Nat) (hP : 0 < P) : ∀ x ∈ invL P N R xs, x < P := fun x hx => by
  unfold invL at hx
  obtain ⟨i, hi, rfl⟩ := List.mem_map.1 hx
  exact Nat.mod_lt _ hP
def RtsR (N : Int) (ps : List Int) (Rf : Nat → Int) : Prop := ∀ k, RingOk (ps.getD k 0) N → ((0 ≤ Rf k ∧ Rf k < ps.getD k 0) ∧ (∀ W, PrsW W → TabW W → Calls Tryd.prog 60 #[.int .i64 (ps.getD k 0), .int .i64 N] W fun e w' => e = .returned (.tuple #[.agg #[.int .i64 (ps.getD k 0), .int .i64 N, .int .i64 (Rf k)], .bool true]) ∧ Old W w')) ∧ ∃ P M R : Nat, ps.getD k 0 = P ∧ N = M ∧ Rf k = R ∧ R < P ∧ RingOk P M ∧ (F1.Pr P → Rt P (2 * M) R)
theorem gr_mulR {N : Int} {ps : List Int} {a b : Bool} {xss yss : List (List Int)} {Rf : Nat → Int} (hR : RtsR N ps Rf) (h : twoB N ps a b xss yss = true) : grB N ps (mk2 (timesF N a) ps xss yss) = true := by
  obtain ⟨g1, g2, g3⟩ := two_of.1 h
  refine gr_ofR (gr_sp g1) (mk2_len _ _ _ _) (fun k hk => ?_)
  obtain ⟨P, M, R, ys, zs, e1, e2, e3, e4, e5, hlt, hP2, ho, hS, la, lb, ha, hb, r1, r2⟩ := rows_open hR h k hk
  rw [mk2_get _ _ _ _ _ hk, e1, e4, e5, e2]
  cases a
  · rw [timesF_f]
    exact polyB_mkR (muO_len _ _ _ _ _) (muO_lt P M ys zs (by omega) M)
  · rw [timesF_t]
    exact polyB_mkR (eachN_len _ _ _ _) (eachN_lt P M ys zs (by omega))
theorem gr_backR {N : Int} {ps : List Int} {xss : List (List Int)} {Rf : Nat → Int} (a : Bool) (hR : RtsR N ps Rf) (h : grB N ps xss = true) : grB N ps (mkL (backF N a) ps Rf xss) = true := by
  refine gr_ofR (gr_sp h) (mkL_len _ _ _ _) (fun k hk => ?_)
  obtain ⟨P, M, R, ys, e1, e2, e3, e4, hlt, hP2, hS, la, ha, r1, r2⟩ := row_openF hR h k hk
  rw [mkL_get _ _ _ _ _ hk, e1, e3, e4, e2]
  cases a
  · exact polyB_mkR la ha
  · rw [show backF M true P R (toZ ys) = toZ (invL P M R ys) from bkZ_toZ P M R ys]
    exact polyB_mkR (by rw [invL_len]) (invL_ltR P M R ys (by omega))
theorem gr_aheadR {N : Int} {ps : List Int} {xss : List (List Int)} {Rf : Nat → Int} (a : Bool) (hR : RtsR N ps Rf) (h : grB N ps xss = true) : grB N ps (mkL (aheadF N a) ps Rf xss) = true := by
  refine gr_ofR (gr_sp h) (mkL_len _ _ _ _) (fun k hk => ?_)
  obtain ⟨P, M, R, ys, e1, e2, e3, e4, hlt, hP2, hS, la, ha, r1, r2⟩ := row_openF hR h k hk
  rw [mkL_get _ _ _ _ _ hk, e1, e3, e4, e2]
  cases a
  · rw [show aheadF M false P R (toZ ys) = toZ (fwdS P M R ys) from fwZ_toZ P M R ys]
    exact polyB_mkR (by rw [fwdS_len]) (fwdS_lt P M R ys (by omega))
  · exact polyB_mkR la ha
theorem gr_addR {N : Int} {ps : List Int} {a b : Bool} {xss yss : List (List Int)} {Rf : Nat → Int} (hR : RtsR N ps Rf) (h : twoB N ps a b xss yss = true) : grB N ps (pairL addF ps xss yss) = true := by
  obtain ⟨g1, g2, g3⟩ := two_of.1 h
  refine gr_ofR (gr_sp g1) (pairL_len _ _ _ _) (fun k hk => ?_)
  obtain ⟨P, M, R, ys, zs, e1, e2, e3, e4, e5, hlt, hP2, ho, hS, la, lb, ha, hb, r1, r2⟩ := rows_open hR h k hk
  rw [pairL_get _ _ _ _ _ hk, e1, e4, e5, e2]
  simp only [polyB, Bool.and_eq_true, List.all_eq_true]
  refine ⟨by rw [pairR_len, toZ_len, la]; simp, fun x hx => ?_⟩
  unfold pairR addF at hx
  obtain ⟨i, hi, rfl⟩ := List.mem_map.1 hx
  have h1 := Int.emod_nonneg ((toZ ys).getD i 0 + (toZ zs).getD i 0) (b := (P : Int)) (by omega)
  have h2 := Int.emod_lt_of_pos ((toZ ys).getD i 0 + (toZ zs).getD i 0) (b := (P : Int)) (by omega)
  simp only [resB, Bool.and_eq_true, decide_eq_true_eq]
  omega
theorem sub_addR {N : Int} {ps : List Int} {a b : Bool} {xss yss : List (List Int)} {Rf : Nat → Int} (hR : RtsR N ps Rf) (h : twoB N ps a b xss yss = true) : pairL subF ps (pairL addF ps xss yss) yss = xss := by
  obtain ⟨g1, g2, g3⟩ := two_of.1 h
  obtain ⟨t1, t2, t3, t4, t5, t6⟩ := two_parts h
  refine ext_getR [] (by rw [pairL_len]; omega) (fun k hk => ?_)
  rw [pairL_len] at hk
  obtain ⟨P, M, R, ys, zs, e1, e2, e3, e4, e5, hlt, hP2, ho, hS, la, lb, ha, hb, r1, r2⟩ := rows_open hR h k hk
  rw [pairL_get _ _ _ _ _ hk, pairL_get _ _ _ _ _ hk, e1, e4, e5]
  refine ext_getR 0 (by rw [pairR_len, pairR_len]) (fun i hi => ?_)
  rw [pairR_len, pairR_len] at hi
  rw [pairR_get _ _ _ _ _ (by rw [pairR_len]; exact hi), pairR_get _ _ _ _ _ hi]
  rw [toZ_len] at hi
  rw [toZ_getI, toZ_getI]
  have hy : ys.getD i 0 < P := by
    have hm : ys.getD i 0 ∈ ys := by simp [List.getD, hi]
    exact ha _ hm
  generalize ys.getD i 0 = y at *
  generalize zs.getD i 0 = z at *
  unfold subF addF
  rw [Int.sub_emod, Int.emod_emod, ← Int.sub_emod, show (y : Int) + z - z = y by omega]
  exact Int.emod_eq_of_lt (by omega) (by omega)
theorem back_fR {N : Int} {ps : List Int} {xss : List (List Int)} {Rf : Nat → Int} (h : grB N ps xss = true) : mkL (backF N false) ps Rf xss = xss := by
  obtain ⟨h1, h2⟩ := gr_poly h
  refine ext_getR [] (by rw [mkL_len]; omega) (fun k hk => ?_)
  rw [mkL_len] at hk
  rw [mkL_get _ _ _ _ _ hk]
  simp [backF]
theorem back_mulR {N : Int} {ps : List Int} {a b : Bool} {xss yss : List (List Int)} {Rf : Nat → Int} (hR : RtsR N ps Rf) (h : twoB N ps a b xss yss = true) : mk2 (timesF N false) ps (mkL (backF N a) ps Rf xss) (mkL (backF N b) ps Rf yss) = mkL (backF N a) ps Rf (mk2 (timesF N a) ps xss yss) := by
  obtain ⟨g1, g2, g3⟩ := two_of.1 h
  subst g3
  have gm := gr_mulR hR h
  cases a
  · rw [back_fR g1, back_fR g2, back_fR gm]
  · refine ext_getR [] (by rw [mk2_len, mkL_len]) (fun k hk => ?_)
    rw [mk2_len] at hk
    obtain ⟨P, M, R, ys, zs, e1, e2, e3, e4, e5, hlt, hP2, ho, hS, la, lb, ha, hb, r1, r2⟩ := rows_open hR h k hk
    rw [mk2_get _ _ _ _ _ hk, mkL_get _ _ _ _ _ hk, mkL_get _ _ _ _ _ hk, mkL_get _ _ _ _ _ hk, mk2_get _ _ _ _ _ hk, e1, e3, e4, e5, e2]
    rw [timesF_t]
    rw [show backF M true P R (toZ ys) = toZ (invL P M R ys) from bkZ_toZ P M R ys, show backF M true P R (toZ zs) = toZ (invL P M R zs) from bkZ_toZ P M R zs, show backF M true P R (toZ (eachN P M ys zs)) = toZ (invL P M R (eachN P M ys zs)) from bkZ_toZ P M R _, timesF_f]
    congr 1
    have f1 := fwd_inv P M R ys hS la hP2.1 ho ha r1 r2
    have f2 := fwd_inv P M R zs hS lb hP2.1 ho hb r1 r2
    have f3 := fwd_mul P M R (invL P M R ys) (invL P M R zs) hS hP2.1 r2
    rw [f1, f2] at f3
    rw [← f3]
    exact (inv_fwd P M R _ hS (muO_len _ _ _ _ _) hP2.1 ho (muO_lt P M _ _ (by omega) M) r1 r2).symm
theorem back_aheadR {N : Int} {ps : List Int} {xss : List (List Int)} {Rf : Nat → Int} (hR : RtsR N ps Rf) (h : twoB N ps false false xss xss = true) : mkL (backF N true) ps Rf (mkL (aheadF N false) ps Rf xss) = xss := by
  obtain ⟨t1, t2, t3, t4, t5, t6⟩ := two_parts h
  refine ext_getR [] (by rw [mkL_len]; omega) (fun k hk => ?_)
  rw [mkL_len] at hk
  obtain ⟨P, M, R, ys, zs, e1, e2, e3, e4, e5, hlt, hP2, ho, hS, la, lb, ha, hb, r1, r2⟩ := rows_open hR h k hk
  rw [mkL_get _ _ _ _ _ hk, mkL_get _ _ _ _ _ hk, e1, e3, e4, e2]
  rw [show aheadF M false P R (toZ ys) = toZ (fwdS P M R ys) from fwZ_toZ P M R ys, show backF M true P R (toZ (fwdS P M R ys)) = toZ (invL P M R (fwdS P M R ys)) from bkZ_toZ P M R _]
  rw [inv_fwd P M R ys hS la hP2.1 ho ha r1 r2]
end Go.Proofs.YtglbegbhekcddaaDoor
