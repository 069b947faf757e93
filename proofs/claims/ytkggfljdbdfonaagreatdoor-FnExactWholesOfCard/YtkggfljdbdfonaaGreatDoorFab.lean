/- Proved: rows brought ahead and back: what the program and the model make of each. -/
import Derived.Test.YtkggfljdbdfonaaGreatDoorRga
import Derived.Test.YtkggfljdbdfonaaGreatDoorWo13
import Derived.Test.YtkggfljdbdfonaaGreatDoorWo14
import Derived.Test.YtkggfljdbdfonaaGreatDoorWo26
import Derived.Test.YtkggfljdbdfonaaGreatDoorWo15
import Derived.Test.YtkggfljdbdfonaaGreatDoorWo24
import Derived.Test.YtkggfljdbdfonaaGreatDoorWo31
import Derived.Test.YtkggfljdbdfonaaGreatDoorCopy
import Derived.Test.YtkggfljdbdfonaaGreatDoorWo27
import Derived.Test.YtkggfljdbdfonaaGreatDoorWo28
import Derived.Test.YtkggfljdbdfonaaGreatDoorWo32
import Derived.Test.YtkggfljdbdfonaaGreatDoorSpInv
import Derived.Test.YtkggfljdbdfonaaGreatDoorWo35
namespace Go.Proofs.YtkggfljdbdfonaaGreatDoor
open Go.ChangeShapes Go.WideShapes Go.ChangeAt Go.RowKit
set_option linter.unusedVariables false
set_option linter.unusedSimpArgs false
open M1
def mkL (f : Int → Int → List Int → List Int) (ps : List Int) (Rf : Nat → Int) (xss : List (List Int)) : List (List Int) := (List.range ps.length).map fun k => f (ps.getD k 0) (Rf k) (xss.getD k [])
theorem mkL_len (f : Int → Int → List Int → List Int) (ps : List Int) (Rf : Nat → Int) (xss : List (List Int)) : (mkL f ps Rf xss).length = ps.length := by simp [mkL]
theorem mkL_get (f : Int → Int → List Int → List Int) (ps : List Int) (Rf : Nat → Int) (xss : List (List Int)) (k : Nat) (hk : k < ps.length) : (mkL f ps Rf xss).getD k [] = f (ps.getD k 0) (Rf k) (xss.getD k []) := by
  simp [mkL, List.getD, hk]
def bkZ (N p r : Int) (xs : List Int) : List Int := toZ (invL p.toNat N.toNat r.toNat (xs.map Int.toNat))
def backF (N : Int) (a : Bool) (p r : Int) (xs : List Int) : List Int := if a then bkZ N p r xs else xs
theorem toZ_back (ys : List Nat) : (toZ ys).map Int.toNat = ys := by
  rw [toZ, List.map_map]
  refine (List.map_congr_left fun x hx => ?_).trans (List.map_id ys)
  simp
theorem gr_poly {N : Int} {ps : List Int} {xss : List (List Int)} (h : grB N ps xss = true) : xss.length = ps.length ∧ ∀ k, k < ps.length → RingOk (ps.getD k 0) N ∧ polyB (ps.getD k 0) N (xss.getD k []) = true := by
  unfold grB rwB rwA at h
  rw [Bool.and_eq_true, Bool.and_eq_true, decide_eq_true_eq, decide_eq_true_eq] at h
  obtain ⟨h1, h2, h3⟩ := h
  obtain ⟨s1, s2, s3⟩ := sp_ring h1
  refine ⟨h2, fun k hk => ⟨s3 k hk, ?_⟩⟩
  first
  | exact h3 k (by omega) (by omega)
  | exact h3 k (by omega)
/-- a row of good rows, opened -/
theorem row_open {N : Int} {ps : List Int} {xss : List (List Int)} {Rf : Nat → Int} (hR : ∀ k, RingOk (ps.getD k 0) N → ((0 ≤ Rf k ∧ Rf k < ps.getD k 0) ∧ (∀ W, PrsW W → TabW W → Calls Tryz.prog 153 #[.int .i64 (ps.getD k 0), .int .i64 N] W fun e w' => e = .returned (.tuple #[.agg #[.int .i64 (ps.getD k 0), .int .i64 N, .int .i64 (Rf k)], .bool true]) ∧ Old W w')) ∧ (∀ W, Calls Tryz.prog 141 #[.int .i64 (ps.getD k 0), .int .i64 N] W fun e w' => e = .returned (.tuple #[.agg #[.int .i64 (ps.getD k 0), .int .i64 N, .int .i64 (Rf k)], .bool true]) ∧ Old W w') ∧ ∃ P M R : Nat, ps.getD k 0 = P ∧ N = M ∧ Rf k = R ∧ R < P ∧ RingOk P M ∧ (F1.Pr P → Rt P (2 * M) R)) (h : grB N ps xss = true) (k : Nat) (hk : k < ps.length) :
    ∃ (P M R : Nat) (ys : List Nat), ps.getD k 0 = P ∧ N = M ∧ Rf k = R ∧ xss.getD k [] = toZ ys ∧ R < P ∧ (2 ≤ P ∧ P ≤ 268435456) ∧ Sz4 M ∧ ys.length = M ∧ (∀ y ∈ ys, y < P) ∧ Cg P ((R : Int) ^ (2 * M)) 1 ∧ Cg P ((R : Int) ^ M) (-1) := by
  obtain ⟨h1, h2⟩ := gr_poly h
  obtain ⟨h3, h4⟩ := h2 k hk
  obtain ⟨_, _, P, M, R, e1, e2, e3, hlt, hok, hrt⟩ := hR k h3
  rw [e1, e2] at h4
  obtain ⟨ys, e4, la, ha⟩ := polyB_yes h4
  have b1 := modB_yes hok.md
  have b2 := hok.sz
  have hP : 2 ≤ P ∧ P ≤ 268435456 := by omega
  have hS : Sz4 M := by omega
  obtain ⟨r1, r2⟩ := (hrt (ring_pr hok)).cg hP.1
  exact ⟨P, M, R, ys, e1, e2, e3, e4, hlt, hP, hS, la, ha, r1, r2⟩
theorem bkZ_toZ (P M R : Nat) (ys : List Nat) : bkZ M P R (toZ ys) = toZ (invL P M R ys) := by
  unfold bkZ
  rw [toZ_back]
  simp
theorem sz4_bd {M : Nat} (h : Sz4 M) : 2 ≤ M ∧ M ≤ 16 := by
  unfold Sz4 at h
  omega
theorem backF_len (N : Int) (a : Bool) (ps : List Int) (xss : List (List Int)) (Rf : Nat → Int) (hR : ∀ k, RingOk (ps.getD k 0) N → ((0 ≤ Rf k ∧ Rf k < ps.getD k 0) ∧ (∀ W, PrsW W → TabW W → Calls Tryz.prog 153 #[.int .i64 (ps.getD k 0), .int .i64 N] W fun e w' => e = .returned (.tuple #[.agg #[.int .i64 (ps.getD k 0), .int .i64 N, .int .i64 (Rf k)], .bool true]) ∧ Old W w')) ∧ (∀ W, Calls Tryz.prog 141 #[.int .i64 (ps.getD k 0), .int .i64 N] W fun e w' => e = .returned (.tuple #[.agg #[.int .i64 (ps.getD k 0), .int .i64 N, .int .i64 (Rf k)], .bool true]) ∧ Old W w') ∧ ∃ P M R : Nat, ps.getD k 0 = P ∧ N = M ∧ Rf k = R ∧ R < P ∧ RingOk P M ∧ (F1.Pr P → Rt P (2 * M) R)) (h : grB N ps xss = true) (k : Nat) (hk : k < ps.length) : (((backF N a) (ps.getD k 0) (Rf k) (xss.getD k [])).length : Int) = N := by
  obtain ⟨P, M, R, ys, e1, e2, e3, e4, hlt, hP2, hS, la, ha, r1, r2⟩ := row_open hR h k hk
  rw [e1, e3, e4, e2]
  unfold backF
  split
  all_goals first | (rw [toZ_len, la]) | (rw [bkZ_toZ, toZ_len, invL_len]; omega) | (rw [bkZ_toZ, toZ_len, invL_len])
theorem spec_l5Back_any (N : Int) (ps : List Int) (a : Bool) (xss : List (List Int)) (Rf : Nat → Int) (hR : ∀ k, RingOk (ps.getD k 0) N → ((0 ≤ Rf k ∧ Rf k < ps.getD k 0) ∧ (∀ W, PrsW W → TabW W → Calls Tryz.prog 153 #[.int .i64 (ps.getD k 0), .int .i64 N] W fun e w' => e = .returned (.tuple #[.agg #[.int .i64 (ps.getD k 0), .int .i64 N, .int .i64 (Rf k)], .bool true]) ∧ Old W w')) ∧ (∀ W, Calls Tryz.prog 141 #[.int .i64 (ps.getD k 0), .int .i64 N] W fun e w' => e = .returned (.tuple #[.agg #[.int .i64 (ps.getD k 0), .int .i64 N, .int .i64 (Rf k)], .bool true]) ∧ Old W w') ∧ ∃ P M R : Nat, ps.getD k 0 = P ∧ N = M ∧ Rf k = R ∧ R < P ∧ RingOk P M ∧ (F1.Pr P → Rt P (2 * M) R)) (v u1 : Value) (w : World) (hv : Row w v ps) (h1 : RowS w u1 xss) (h : grB N ps xss = true) :
    Calls Tryz.prog 46 #[.agg #[.int .i64 N, v], .agg #[.bool a, u1]] w fun e w' => ∃ v', e = .returned v' ∧ Old w w' ∧ OwS (mkL (backF N a) ps Rf xss) w' w.heap.size w'.heap.size v' := by
  obtain ⟨t1, t2, t3, t4, t5, t6⟩ := two_parts (two_of.2 ⟨h, h, (rfl : a = a)⟩)
  obtain ⟨p1, p2⟩ := gr_poly h
  have cR : ∀ k, k < ps.length → ∀ W, Calls Tryz.prog 141 #[.int .i64 (ps.getD k 0), .int .i64 N] W fun e w' => e = .returned (.tuple #[.agg #[.int .i64 (ps.getD k 0), .int .i64 N, .int .i64 (Rf k)], .bool true]) ∧ Old W w' := fun k hk => (hR k (p2 k hk).1).2.1
  cases a
  · refine spec_l5Back_c N ps xss _ Rf v u1 w hv h1 t2 t3 (mkL_len _ _ _ _) cR (fun k hk => ?_)
    have q := (t6 k hk).1
    rw [mkL_get _ _ _ _ _ hk]
    refine ⟨?_, by omega, by omega⟩
    unfold backF
    simp
  · refine spec_l5Back_t N ps xss _ Rf v u1 w hv h1 t2 t3 (mkL_len _ _ _ _) cR (fun k hk W u hu => ?_)
    obtain ⟨P, M, R, ys, e1, e2, e3, e4, hlt, hP2, hS, la, ha, r1, r2⟩ := row_open hR h k hk
    rw [mkL_get _ _ _ _ _ hk]
    rw [e4] at hu
    rw [e1, e3, e4, e2, show backF M true P R (toZ ys) = toZ (invL P M R ys) from bkZ_toZ P M R ys]
    exact spec_l3Inverse P M R ys u W hu hP2 hS hlt la ha (invM_ltI _ _ (by omega)) (invM_ltI _ _ (by omega))
theorem impl_BackRows (N : Int) (ps : List Int) (a : Bool) (xss : List (List Int)) (Rf : Nat → Int) (hR : ∀ k, RingOk (ps.getD k 0) N → ((0 ≤ Rf k ∧ Rf k < ps.getD k 0) ∧ (∀ W, PrsW W → TabW W → Calls Tryz.prog 153 #[.int .i64 (ps.getD k 0), .int .i64 N] W fun e w' => e = .returned (.tuple #[.agg #[.int .i64 (ps.getD k 0), .int .i64 N, .int .i64 (Rf k)], .bool true]) ∧ Old W w')) ∧ (∀ W, Calls Tryz.prog 141 #[.int .i64 (ps.getD k 0), .int .i64 N] W fun e w' => e = .returned (.tuple #[.agg #[.int .i64 (ps.getD k 0), .int .i64 N, .int .i64 (Rf k)], .bool true]) ∧ Old W w') ∧ ∃ P M R : Nat, ps.getD k 0 = P ∧ N = M ∧ Rf k = R ∧ R < P ∧ RingOk P M ∧ (F1.Pr P → Rt P (2 * M) R)) (v u1 : Value) (w : World) (lo1 hi1 : Nat) (hP : PrsW w) (hT : TabW w) (hv : Row w v ps) (hf : Fit v) (h1 : OwS xss w lo1 hi1 u1) (hlp : ps.length ≤ 1048576) (hl1 : xss.length ≤ 1048576) (hr1 : ∀ r ∈ xss, r.length ≤ 1048576) :
    Calls Tryz.prog 49 #[.agg #[.int .i64 N, v], .agg #[.bool a, u1]] w fun e w' => (grB N ps xss = true → Rs w false (mkL (backF N a) ps Rf xss) true e w') ∧ (grB N ps xss = false → Rs w false [] false e w') := by
  obtain ⟨us1, cs1, at1⟩ := h1.ats ps
  obtain ⟨a0, cap0, ev⟩ := hv.slice
  obtain ⟨a1, cap1, e1⟩ := h1.slice
  subst ev e1
  have c1 := fun W W' (q : Old w W) (p1 : PrsW W') (p2 : TabW W') (q' : Old W W') => impl_ringRows N a ps xss Rf us1 cs1 (.slice a0 ps.length cap0) a1 cap1 W' p1 p2 (hv.old (Old.trans q q')) hf hlp hl1 hr1 (fun h => (at1 h).old (Old.trans q q')) (fun k hk => (hR k hk).1)
  cases hyes : grB N ps xss
  · refine (impl_BackRows_of N ps xss a a0 a1 cap0 cap1 w false [] false (fun W q => eachRow_back_no N ps a false xss Rf us1 _ a1 cap1 W (hP.old q) (hT.old q) (hv.old q) (fun W' p1 p2 q' => c1 W W' q p1 p2 q') hyes)).mono (fun e w' h => ⟨(fun h' => by cases h'), fun _ => h⟩)
  · obtain ⟨t1, t2, t3, t4, t5, t6⟩ := two_parts (two_of.2 ⟨hyes, hyes, (rfl : a = a)⟩)
    obtain ⟨Nn, hNn⟩ : ∃ Nn : Nat, N = Nn := ⟨N.toNat, by omega⟩
    subst hNn
    refine (impl_BackRows_of Nn ps xss a a0 a1 cap0 cap1 w false (mkL (backF Nn a) ps Rf xss) true (fun W q => eachRow_back_yes Nn ps a false xss Rf us1 _ a1 cap1 W (hP.old q) (hT.old q) (hv.old q) (fun W' p1 p2 q' => c1 W W' q p1 p2 q') hyes (mkL (backF Nn a) ps Rf xss) (mkL_len _ _ _ _) t2.2 (fun k hk => ?_))).mono (fun e w' h => ⟨fun _ => h, (fun h' => by cases h')⟩)
    obtain ⟨s1, s2, s3, s4⟩ := t6 k hk
    obtain ⟨b1, _, _, _, rr1⟩ := at1 (by omega)
    have row1 := (rr1 k (by omega)).2.2
    have l1 : (xss.getD k []).length = Nn := by omega
    rw [l1] at row1
    have row2 := row1.recap (c' := Nn) (fun h => by rw [h] at l1; simp at l1; omega)
    have hlen := backF_len Nn a ps xss Rf hR hyes k hk
    rw [mkL_get _ _ _ _ _ hk]
    refine ⟨by omega, fun W' q' => ?_⟩
    obtain ⟨P, M, R, ys, e1, e2, e3, e4, hlt, hP2, hS, la, ha, r1, r2⟩ := row_open hR hyes k hk
    obtain rfl : Nn = M := by omega
    rw [e1, e3, e4] at hlen ⊢
    rw [e4] at row2 l1
    have hN2 := sz4_bd hS
    cases a
    · refine impl_madeBack_c P R Nn _ (us1 k) W' (fun W'' q'' => ?_)
      exact impl_copied P R false Nn (toZ ys) (us1 k) W'' (row2.old (Old.trans q (Old.trans q' q''))) hN2 l1
    · refine impl_madeBack_t P R Nn _ (us1 k) W' (fun W'' q'' => ?_) (by omega) (by omega)
      rw [show backF Nn true P R (toZ ys) = toZ (invL P Nn R ys) from bkZ_toZ P Nn R ys, ← inv_same P Nn R ys hS la hP2.1 ha r1 r2]
      exact impl_inverse0 P Nn R ys _ W'' (hT.old (Old.trans q (Old.trans q' q''))) (row2.old (Old.trans q (Old.trans q' q''))) hP2 hS hlt la ha
end Go.Proofs.YtkggfljdbdfonaaGreatDoor
