/- Proved: several texts in one: what each proves is said ahead of it. -/
import Derived.Test.YtpebikjckhcgfaaGreatDoorZ24
import Derived.Test.YtpebikjckhcgfaaGreatDoorZ29
import Derived.Test.YtpebikjckhcgfaaGreatDoorZ34
import Derived.Test.YtpebikjckhcgfaaGreatDoorZ27
import Derived.Test.YtpebikjckhcgfaaGreatDoorZ36
import Derived.Test.YtpebikjckhcgfaaGreatDoorZ20
import Derived.Test.YtpebikjckhcgfaaGreatDoorZ37
import Derived.Test.YtpebikjckhcgfaaGreatDoorZ22
import Derived.Test.YtpebikjckhcgfaaGreatDoorZ17
import Derived.Test.YtpebikjckhcgfaaGreatDoorZ41
import Derived.Test.YtpebikjckhcgfaaGreatDoorZ40
import Derived.Test.YtpebikjckhcgfaaGreatDoorZ13
/- Proved: rows brought ahead and back: what the program and the model make of each. -/
namespace Go.Proofs.YtpebikjckhcgfaaGreatDoor
open Go.ChangeShapes Go.WideShapes Go.ChangeAt Go.RowKit
set_option linter.unusedVariables false
set_option linter.unusedSimpArgs false
open M1
def mkL (f : Int → Int → List Int → List Int) (ps : List Int) (Rf : Nat → Int) (xss : List (List Int)) : List (List Int) := (List.range ps.length).map fun k => f (ps.getD k 0) (Rf k) (xss.getD k [])
theorem mkL_len (f : Int → Int → List Int → List Int) (ps : List Int) (Rf : Nat → Int) (xss : List (List Int)) : (mkL f ps Rf xss).length = ps.length := by simp [mkL]
theorem mkL_get (f : Int → Int → List Int → List Int) (ps : List Int) (Rf : Nat → Int) (xss : List (List Int)) (k : Nat) (hk : k < ps.length) : (mkL f ps Rf xss).getD k [] = f (ps.getD k 0) (Rf k) (xss.getD k []) := by
  simp [mkL, List.getD, hk]
def fwZ (N p r : Int) (xs : List Int) : List Int := toZ (fwdS p.toNat N.toNat r.toNat (xs.map Int.toNat))
def bkZ (N p r : Int) (xs : List Int) : List Int := toZ (invL p.toNat N.toNat r.toNat (xs.map Int.toNat))
def aheadF (N : Int) (a : Bool) (p r : Int) (xs : List Int) : List Int := if a then xs else fwZ N p r xs
def backF (N : Int) (a : Bool) (p r : Int) (xs : List Int) : List Int := if a then bkZ N p r xs else xs
theorem toZ_back (ys : List Nat) : (toZ ys).map Int.toNat = ys := by
  rw [toZ, List.map_map]
  refine (List.map_congr_left fun x hx => ?_).trans (List.map_id ys)
  simp
theorem gr_poly {N : Int} {ps : List Int} {xss : List (List Int)} (h : grB N ps xss = true) : xss.length = ps.length ∧ ∀ k, k < ps.length → RingOk (ps.getD k 0) N ∧ polyB (ps.getD k 0) N (xss.getD k []) = true := by
  unfold grB rwB rwA at h
  rw [Bool.and_eq_true, Bool.and_eq_true, decide_eq_true_eq, decide_eq_true_eq] at h
  obtain ⟨h1, h2, h3⟩ := h
  obtain ⟨s1, s2, s3⟩ := sp_ring h1
  refine ⟨h2, fun k hk => ⟨s3 k hk, ?_⟩⟩
  first
  | exact h3 k (by omega) (by omega)
  | exact h3 k (by omega)
/-- a row of good rows, opened -/
theorem row_open {N : Int} {ps : List Int} {xss : List (List Int)} {Rf : Nat → Int} (hR : ∀ k, RingOk (ps.getD k 0) N → ((0 ≤ Rf k ∧ Rf k < ps.getD k 0) ∧ (∀ W, PrsW W → TabW W → Calls Tryz.prog 72 #[.int .i64 (ps.getD k 0), .int .i64 N] W fun e w' => e = .returned (.tuple #[.agg #[.int .i64 (ps.getD k 0), .int .i64 N, .int .i64 (Rf k)], .bool true]) ∧ Old W w')) ∧ (∀ W, Calls Tryz.prog 54 #[.int .i64 (ps.getD k 0), .int .i64 N] W fun e w' => e = .returned (.tuple #[.agg #[.int .i64 (ps.getD k 0), .int .i64 N, .int .i64 (Rf k)], .bool true]) ∧ Old W w') ∧ ∃ P M R : Nat, ps.getD k 0 = P ∧ N = M ∧ Rf k = R ∧ R < P ∧ RingOk P M ∧ (F1.Pr P → Rt P (2 * M) R)) (h : grB N ps xss = true) (k : Nat) (hk : k < ps.length) :
    ∃ (P M R : Nat) (ys : List Nat), ps.getD k 0 = P ∧ N = M ∧ Rf k = R ∧ xss.getD k [] = toZ ys ∧ R < P ∧ (2 ≤ P ∧ P ≤ 268435456) ∧ Sz4 M ∧ ys.length = M ∧ (∀ y ∈ ys, y < P) ∧ Cg P ((R : Int) ^ (2 * M)) 1 ∧ Cg P ((R : Int) ^ M) (-1) := by
  obtain ⟨h1, h2⟩ := gr_poly h
  obtain ⟨h3, h4⟩ := h2 k hk
  obtain ⟨_, _, P, M, R, e1, e2, e3, hlt, hok, hrt⟩ := hR k h3
  rw [e1, e2] at h4
  obtain ⟨ys, e4, la, ha⟩ := polyB_yes h4
  have b1 := modB_yes hok.md
  have b2 := hok.sz
  have hP : 2 ≤ P ∧ P ≤ 268435456 := by omega
  have hS : Sz4 M := by omega
  obtain ⟨r1, r2⟩ := (hrt (ring_pr hok)).cg hP.1
  exact ⟨P, M, R, ys, e1, e2, e3, e4, hlt, hP, hS, la, ha, r1, r2⟩
theorem fwZ_toZ (P M R : Nat) (ys : List Nat) : fwZ M P R (toZ ys) = toZ (fwdS P M R ys) := by
  unfold fwZ
  rw [toZ_back]
  simp
theorem bkZ_toZ (P M R : Nat) (ys : List Nat) : bkZ M P R (toZ ys) = toZ (invL P M R ys) := by
  unfold bkZ
  rw [toZ_back]
  simp
theorem sz4_bd {M : Nat} (h : Sz4 M) : 2 ≤ M ∧ M ≤ 16 := by
  unfold Sz4 at h
  omega
theorem aheadF_len (N : Int) (a : Bool) (ps : List Int) (xss : List (List Int)) (Rf : Nat → Int) (hR : ∀ k, RingOk (ps.getD k 0) N → ((0 ≤ Rf k ∧ Rf k < ps.getD k 0) ∧ (∀ W, PrsW W → TabW W → Calls Tryz.prog 72 #[.int .i64 (ps.getD k 0), .int .i64 N] W fun e w' => e = .returned (.tuple #[.agg #[.int .i64 (ps.getD k 0), .int .i64 N, .int .i64 (Rf k)], .bool true]) ∧ Old W w')) ∧ (∀ W, Calls Tryz.prog 54 #[.int .i64 (ps.getD k 0), .int .i64 N] W fun e w' => e = .returned (.tuple #[.agg #[.int .i64 (ps.getD k 0), .int .i64 N, .int .i64 (Rf k)], .bool true]) ∧ Old W w') ∧ ∃ P M R : Nat, ps.getD k 0 = P ∧ N = M ∧ Rf k = R ∧ R < P ∧ RingOk P M ∧ (F1.Pr P → Rt P (2 * M) R)) (h : grB N ps xss = true) (k : Nat) (hk : k < ps.length) : (((aheadF N a) (ps.getD k 0) (Rf k) (xss.getD k [])).length : Int) = N := by
  obtain ⟨P, M, R, ys, e1, e2, e3, e4, hlt, hP2, hS, la, ha, r1, r2⟩ := row_open hR h k hk
  rw [e1, e3, e4, e2]
  unfold aheadF
  split
  all_goals first | (rw [toZ_len, la]) | (rw [fwZ_toZ, toZ_len, fwdS_len]; omega) | (rw [fwZ_toZ, toZ_len, fwdS_len])
theorem spec_l5Ahead_any (N : Int) (ps : List Int) (a : Bool) (xss : List (List Int)) (Rf : Nat → Int) (hR : ∀ k, RingOk (ps.getD k 0) N → ((0 ≤ Rf k ∧ Rf k < ps.getD k 0) ∧ (∀ W, PrsW W → TabW W → Calls Tryz.prog 72 #[.int .i64 (ps.getD k 0), .int .i64 N] W fun e w' => e = .returned (.tuple #[.agg #[.int .i64 (ps.getD k 0), .int .i64 N, .int .i64 (Rf k)], .bool true]) ∧ Old W w')) ∧ (∀ W, Calls Tryz.prog 54 #[.int .i64 (ps.getD k 0), .int .i64 N] W fun e w' => e = .returned (.tuple #[.agg #[.int .i64 (ps.getD k 0), .int .i64 N, .int .i64 (Rf k)], .bool true]) ∧ Old W w') ∧ ∃ P M R : Nat, ps.getD k 0 = P ∧ N = M ∧ Rf k = R ∧ R < P ∧ RingOk P M ∧ (F1.Pr P → Rt P (2 * M) R)) (v u1 : Value) (w : World) (hv : Row w v ps) (h1 : RowS w u1 xss) (h : grB N ps xss = true) :
    Calls Tryz.prog 21 #[.agg #[.int .i64 N, v], .agg #[.bool a, u1]] w fun e w' => ∃ v', e = .returned v' ∧ Old w w' ∧ OwS (mkL (aheadF N a) ps Rf xss) w' w.heap.size w'.heap.size v' := by
  obtain ⟨t1, t2, t3, t4, t5, t6⟩ := two_parts (two_of.2 ⟨h, h, (rfl : a = a)⟩)
  obtain ⟨p1, p2⟩ := gr_poly h
  have cR : ∀ k, k < ps.length → ∀ W, Calls Tryz.prog 54 #[.int .i64 (ps.getD k 0), .int .i64 N] W fun e w' => e = .returned (.tuple #[.agg #[.int .i64 (ps.getD k 0), .int .i64 N, .int .i64 (Rf k)], .bool true]) ∧ Old W w' := fun k hk => (hR k (p2 k hk).1).2.1
  cases a
  · refine spec_l5Ahead_t N ps xss _ Rf v u1 w hv h1 t2 t3 (mkL_len _ _ _ _) cR (fun k hk W u hu => ?_)
    obtain ⟨P, M, R, ys, e1, e2, e3, e4, hlt, hP2, hS, la, ha, r1, r2⟩ := row_open hR h k hk
    rw [mkL_get _ _ _ _ _ hk]
    rw [e4] at hu
    rw [e1, e3, e4, e2, show aheadF M false P R (toZ ys) = toZ (fwdS P M R ys) from fwZ_toZ P M R ys]
    exact spec_l3Forward P M R ys u W hu hP2 hS hlt la ha
  · refine spec_l5Ahead_c N ps xss _ Rf v u1 w hv h1 t2 t3 (mkL_len _ _ _ _) cR (fun k hk => ?_)
    have q := (t6 k hk).1
    rw [mkL_get _ _ _ _ _ hk]
    refine ⟨?_, by omega, by omega⟩
    unfold aheadF
    simp
theorem backF_len (N : Int) (a : Bool) (ps : List Int) (xss : List (List Int)) (Rf : Nat → Int) (hR : ∀ k, RingOk (ps.getD k 0) N → ((0 ≤ Rf k ∧ Rf k < ps.getD k 0) ∧ (∀ W, PrsW W → TabW W → Calls Tryz.prog 72 #[.int .i64 (ps.getD k 0), .int .i64 N] W fun e w' => e = .returned (.tuple #[.agg #[.int .i64 (ps.getD k 0), .int .i64 N, .int .i64 (Rf k)], .bool true]) ∧ Old W w')) ∧ (∀ W, Calls Tryz.prog 54 #[.int .i64 (ps.getD k 0), .int .i64 N] W fun e w' => e = .returned (.tuple #[.agg #[.int .i64 (ps.getD k 0), .int .i64 N, .int .i64 (Rf k)], .bool true]) ∧ Old W w') ∧ ∃ P M R : Nat, ps.getD k 0 = P ∧ N = M ∧ Rf k = R ∧ R < P ∧ RingOk P M ∧ (F1.Pr P → Rt P (2 * M) R)) (h : grB N ps xss = true) (k : Nat) (hk : k < ps.length) : (((backF N a) (ps.getD k 0) (Rf k) (xss.getD k [])).length : Int) = N := by
  obtain ⟨P, M, R, ys, e1, e2, e3, e4, hlt, hP2, hS, la, ha, r1, r2⟩ := row_open hR h k hk
  rw [e1, e3, e4, e2]
  unfold backF
  split
  all_goals first | (rw [toZ_len, la]) | (rw [bkZ_toZ, toZ_len, invL_len]; omega) | (rw [bkZ_toZ, toZ_len, invL_len])
theorem spec_l5Back_any (N : Int) (ps : List Int) (a : Bool) (xss : List (List Int)) (Rf : Nat → Int) (hR : ∀ k, RingOk (ps.getD k 0) N → ((0 ≤ Rf k ∧ Rf k < ps.getD k 0) ∧ (∀ W, PrsW W → TabW W → Calls Tryz.prog 72 #[.int .i64 (ps.getD k 0), .int .i64 N] W fun e w' => e = .returned (.tuple #[.agg #[.int .i64 (ps.getD k 0), .int .i64 N, .int .i64 (Rf k)], .bool true]) ∧ Old W w')) ∧ (∀ W, Calls Tryz.prog 54 #[.int .i64 (ps.getD k 0), .int .i64 N] W fun e w' => e = .returned (.tuple #[.agg #[.int .i64 (ps.getD k 0), .int .i64 N, .int .i64 (Rf k)], .bool true]) ∧ Old W w') ∧ ∃ P M R : Nat, ps.getD k 0 = P ∧ N = M ∧ Rf k = R ∧ R < P ∧ RingOk P M ∧ (F1.Pr P → Rt P (2 * M) R)) (v u1 : Value) (w : World) (hv : Row w v ps) (h1 : RowS w u1 xss) (h : grB N ps xss = true) :
    Calls Tryz.prog 20 #[.agg #[.int .i64 N, v], .agg #[.bool a, u1]] w fun e w' => ∃ v', e = .returned v' ∧ Old w w' ∧ OwS (mkL (backF N a) ps Rf xss) w' w.heap.size w'.heap.size v' := by
  obtain ⟨t1, t2, t3, t4, t5, t6⟩ := two_parts (two_of.2 ⟨h, h, (rfl : a = a)⟩)
  obtain ⟨p1, p2⟩ := gr_poly h
  have cR : ∀ k, k < ps.length → ∀ W, Calls Tryz.prog 54 #[.int .i64 (ps.getD k 0), .int .i64 N] W fun e w' => e = .returned (.tuple #[.agg #[.int .i64 (ps.getD k 0), .int .i64 N, .int .i64 (Rf k)], .bool true]) ∧ Old W w' := fun k hk => (hR k (p2 k hk).1).2.1
  cases a
  · refine spec_l5Back_c N ps xss _ Rf v u1 w hv h1 t2 t3 (mkL_len _ _ _ _) cR (fun k hk => ?_)
    have q := (t6 k hk).1
    rw [mkL_get _ _ _ _ _ hk]
    refine ⟨?_, by omega, by omega⟩
    unfold backF
    simp
  · refine spec_l5Back_t N ps xss _ Rf v u1 w hv h1 t2 t3 (mkL_len _ _ _ _) cR (fun k hk W u hu => ?_)
    obtain ⟨P, M, R, ys, e1, e2, e3, e4, hlt, hP2, hS, la, ha, r1, r2⟩ := row_open hR h k hk
    rw [mkL_get _ _ _ _ _ hk]
    rw [e4] at hu
    rw [e1, e3, e4, e2, show backF M true P R (toZ ys) = toZ (invL P M R ys) from bkZ_toZ P M R ys]
    exact spec_l3Inverse P M R ys u W hu hP2 hS hlt la ha (invM_ltI _ _ (by omega)) (invM_ltI _ _ (by omega))
end Go.Proofs.YtpebikjckhcgfaaGreatDoor
/- Proved: the statement on TurnRows at every space, rows and number, in a world in which the two tables are laid. -/
namespace Go.Proofs.YtpebikjckhcgfaaGreatDoor
open Go.ChangeShapes Go.WideShapes Go.ChangeAt Go.RowKit
set_option linter.unusedVariables false
set_option linter.unusedSimpArgs false
open M1
def tnZ (N t p : Int) (xs : List Int) : List Int := trnS p.toNat N.toNat t.toNat (xs.map Int.toNat) N.toNat
def pkZ (N t : Int) (xs : List Int) : List Int := toZ ((tabN N.toNat t.toNat).map fun q => (xs.map Int.toNat).getD q 0)
def turnF (N t : Int) (a : Bool) (p r : Int) (xs : List Int) : List Int := if a then pkZ N t xs else tnZ N t p xs
theorem tnZ_toZ (P M T : Nat) (ys : List Nat) : tnZ M T P (toZ ys) = trnS P M T ys M := by
  unfold tnZ
  rw [toZ_back]
  simp
theorem pkZ_toZ (M T : Nat) (ys : List Nat) : pkZ M T (toZ ys) = toZ ((tabN M T).map fun q => ys.getD q 0) := by
  unfold pkZ
  rw [toZ_back]
  simp
theorem trn_toZ (P N t : Nat) (xs : List Nat) (hN : 0 < N) (hP : 0 < P) (hx : ∀ x ∈ xs, x < P) (m : Nat) : toZ ((trnS P N t xs m).map Int.toNat) = trnS P N t xs m := by
  rw [toZ, List.map_map]
  refine (List.map_congr_left fun x hx' => ?_).trans (List.map_id _)
  obtain ⟨i, hi, rfl⟩ := List.getElem_of_mem hx'
  have h := trn_bd P N t xs hN hP hx m i
  rw [show (trnS P N t xs m).getD i 0 = (trnS P N t xs m)[i] by simp [List.getD, hi]] at h
  show ((trnS P N t xs m)[i].toNat : Int) = (trnS P N t xs m)[i]
  omega
theorem trn_ltN (P N t : Nat) (xs : List Nat) (hN : 0 < N) (hP : 0 < P) (hx : ∀ x ∈ xs, x < P) (m : Nat) : ∀ y ∈ (trnS P N t xs m).map Int.toNat, y < P := by
  intro y hy
  rw [List.mem_map] at hy
  obtain ⟨x, hx', rfl⟩ := hy
  obtain ⟨i, hi, rfl⟩ := List.getElem_of_mem hx'
  have h := trn_bd P N t xs hN hP hx m i
  rw [show (trnS P N t xs m).getD i 0 = (trnS P N t xs m)[i] by simp [List.getD, hi]] at h
  omega
theorem invL_lt (P N R : Nat) (xs : List Nat) (hP : 0 < P) : ∀ x ∈ invL P N R xs, x < P := fun x hx => by
  unfold invL at hx
  rw [List.mem_map] at hx
  obtain ⟨i, _, rfl⟩ := hx
  exact Nat.mod_lt _ hP
theorem turnB_nat {N t : Int} (h : turnB N t = true) (hN : 0 ≤ N) : ∃ T : Nat, t = T ∧ (T : Int) < 2 * N ∧ T % 2 = 1 := by
  unfold turnB at h
  simp only [Bool.and_eq_true, decide_eq_true_eq, beq_iff_eq] at h
  exact ⟨t.toNat, by omega, by omega, by omega⟩
theorem odd_open {N : Int} {ps : List Int} {xss : List (List Int)} (h : grB N ps xss = true) (k : Nat) (hk : k < ps.length) (P : Nat) (e : ps.getD k 0 = P) : P % 2 = 1 := by
  have hok := ((gr_poly h).2 k hk).1
  have q1 := hok.dv
  have q2 := hok.sz
  rw [e] at q1
  rcases q2 with e | e | e | e <;> rw [e] at q1 <;> omega
theorem turnF_len (N t : Int) (a : Bool) (ps : List Int) (xss : List (List Int)) (Rf : Nat → Int) (hR : ∀ k, RingOk (ps.getD k 0) N → ((0 ≤ Rf k ∧ Rf k < ps.getD k 0) ∧ (∀ W, PrsW W → TabW W → Calls Tryz.prog 72 #[.int .i64 (ps.getD k 0), .int .i64 N] W fun e w' => e = .returned (.tuple #[.agg #[.int .i64 (ps.getD k 0), .int .i64 N, .int .i64 (Rf k)], .bool true]) ∧ Old W w')) ∧ (∀ W, Calls Tryz.prog 54 #[.int .i64 (ps.getD k 0), .int .i64 N] W fun e w' => e = .returned (.tuple #[.agg #[.int .i64 (ps.getD k 0), .int .i64 N, .int .i64 (Rf k)], .bool true]) ∧ Old W w') ∧ ∃ P M R : Nat, ps.getD k 0 = P ∧ N = M ∧ Rf k = R ∧ R < P ∧ RingOk P M ∧ (F1.Pr P → Rt P (2 * M) R)) (h : grB N ps xss = true) (k : Nat) (hk : k < ps.length) : ((turnF N t a (ps.getD k 0) (Rf k) (xss.getD k [])).length : Int) = N := by
  obtain ⟨P, M, R, ys, e1, e2, e3, e4, hlt, hP2, hS, la, ha, r1, r2⟩ := row_open hR h k hk
  rw [e4, e2]
  unfold turnF
  cases a
  · rw [if_neg (by simp)]
    unfold tnZ
    rw [trnS_len]
    simp
  · rw [if_pos rfl]
    unfold pkZ
    rw [toZ_len, List.length_map, tabN_len]
    simp
theorem spec_TurnRows_any (N t : Int) (ps : List Int) (a : Bool) (xss : List (List Int)) (Rf : Nat → Int) (hR : ∀ k, RingOk (ps.getD k 0) N → ((0 ≤ Rf k ∧ Rf k < ps.getD k 0) ∧ (∀ W, PrsW W → TabW W → Calls Tryz.prog 72 #[.int .i64 (ps.getD k 0), .int .i64 N] W fun e w' => e = .returned (.tuple #[.agg #[.int .i64 (ps.getD k 0), .int .i64 N, .int .i64 (Rf k)], .bool true]) ∧ Old W w')) ∧ (∀ W, Calls Tryz.prog 54 #[.int .i64 (ps.getD k 0), .int .i64 N] W fun e w' => e = .returned (.tuple #[.agg #[.int .i64 (ps.getD k 0), .int .i64 N, .int .i64 (Rf k)], .bool true]) ∧ Old W w') ∧ ∃ P M R : Nat, ps.getD k 0 = P ∧ N = M ∧ Rf k = R ∧ R < P ∧ RingOk P M ∧ (F1.Pr P → Rt P (2 * M) R)) (v u1 : Value) (w : World) (ht : -9223372036854775808 ≤ t ∧ t ≤ 9223372036854775807) (hv : Row w v ps) (hf : Fit v) (h1 : RowS w u1 xss) (hlp : ps.length ≤ 1048576) (hx : ∀ x ∈ ps, -9223372036854775808 ≤ x ∧ x ≤ 9223372036854775807) (hl1 : xss.length ≤ 1048576) (hr1 : ∀ r ∈ xss, r.length ≤ 1048576) (h : grB N ps xss = true) (ho : turnB N t = true) :
    Calls Tryz.prog 6 #[.agg #[.int .i64 N, v], .agg #[.bool a, u1], .int .i64 t] w (Rs w a (mkL (turnF N t a) ps Rf xss) true) := by
  obtain ⟨t1, t2, t3, t4, t5, t6⟩ := two_parts (two_of.2 ⟨h, h, (rfl : a = a)⟩)
  have hN : 2 ≤ N ∧ N ≤ 16 := by omega
  obtain ⟨T, hT, hTl, hTo⟩ := turnB_nat ho (by omega)
  obtain ⟨p1, p2⟩ := gr_poly h
  have cR : ∀ k, k < ps.length → ∀ W, Calls Tryz.prog 54 #[.int .i64 (ps.getD k 0), .int .i64 N] W fun e w' => e = .returned (.tuple #[.agg #[.int .i64 (ps.getD k 0), .int .i64 N, .int .i64 (Rf k)], .bool true]) ∧ Old W w' := fun k hk => (hR k (p2 k hk).1).2.1
  cases a
  · refine spec_TurnRows_back N t ps xss v u1 w ht hv hf h1 hlp hx hl1 hr1 h hN ho (mkL (backF N false) ps Rf xss) _ (fun W g => spec_l5Back_any N ps false xss Rf hR v u1 W (hv.old g) (h1.old g) h) (fun W x g hx' => spec_l5Turn N t ps (mkL (backF N false) ps Rf xss) _ v x W (hv.old g) hx' t2 (mkL_len _ _ _ _) (mkL_len _ _ _ _) (fun k hk W u hu => ?_))
    obtain ⟨P, M, R, ys, e1, e2, e3, e4, hlt, hP2, hS, la, ha, r1, r2⟩ := row_open hR h k hk
    rw [mkL_get _ _ _ _ _ hk] at hu ⊢
    rw [show backF N false (ps.getD k 0) (Rf k) (xss.getD k []) = xss.getD k [] from rfl, e4] at hu
    rw [show turnF N t false (ps.getD k 0) (Rf k) (xss.getD k []) = tnZ N t (ps.getD k 0) (xss.getD k []) from rfl, e1, e4, e2, hT, tnZ_toZ]
    exact spec_turned P M R T ys u W hu hP2 (sz4_bd hS) la ha (by omega)
  · refine spec_TurnRows_ahead N t ps xss v u1 w ht hv hf h1 hlp hx hl1 hr1 h hN ho (mkL (backF N true) ps Rf xss) (mkL (fun p r xs => tnZ N t p (bkZ N p r xs)) ps Rf xss) (fun W g => spec_l5Back_any N ps true xss Rf hR v u1 W (hv.old g) (h1.old g) h) (fun W x g hx' => spec_l5Turn N t ps (mkL (backF N true) ps Rf xss) _ v x W (hv.old g) hx' t2 (mkL_len _ _ _ _) (mkL_len _ _ _ _) (fun k hk W u hu => ?_)) _ (fun W x g hx' => spec_l5Ahead_t N ps (mkL (fun p r xs => tnZ N t p (bkZ N p r xs)) ps Rf xss) _ Rf v x W (hv.old g) hx' t2 (mkL_len _ _ _ _) (mkL_len _ _ _ _) cR (fun k hk W u hu => ?_))
    · obtain ⟨P, M, R, ys, e1, e2, e3, e4, hlt, hP2, hS, la, ha, r1, r2⟩ := row_open hR h k hk
      rw [mkL_get _ _ _ _ _ hk] at hu ⊢
      rw [show backF N true (ps.getD k 0) (Rf k) (xss.getD k []) = bkZ N (ps.getD k 0) (Rf k) (xss.getD k []) from rfl, e1, e3, e4, e2, bkZ_toZ] at hu
      rw [e1, e3, e4, e2, hT, bkZ_toZ, tnZ_toZ]
      exact spec_turned P M R T _ u W hu hP2 (sz4_bd hS) (invL_len _ _ _ _) (invL_lt P M R ys (by omega)) (by omega)
    · obtain ⟨P, M, R, ys, e1, e2, e3, e4, hlt, hP2, hS, la, ha, r1, r2⟩ := row_open hR h k hk
      have hod := odd_open h k hk P e1
      rw [mkL_get _ _ _ _ _ hk] at hu ⊢
      rw [e1, e3, e4, e2, hT, bkZ_toZ, tnZ_toZ, ← trn_toZ P M T _ (by omega) (by omega) (invL_lt P M R ys (by omega)) M] at hu
      rw [show turnF N t true (ps.getD k 0) (Rf k) (xss.getD k []) = pkZ N t (xss.getD k []) from rfl, e1, e3, e4, e2, hT, pkZ_toZ, ← turn_pick P M R T ys hS la hP2.1 hod ha (by omega) hTo r1 r2]
      exact spec_l3Forward P M R _ u W hu hP2 hS hlt (by rw [List.length_map, trnS_len]) (trn_ltN P M T _ (by omega) (by omega) (invL_lt P M R ys (by omega)) M)
theorem impl_TurnRows_any (N t : Int) (ps : List Int) (a : Bool) (xss : List (List Int)) (Rf : Nat → Int) (hR : ∀ k, RingOk (ps.getD k 0) N → ((0 ≤ Rf k ∧ Rf k < ps.getD k 0) ∧ (∀ W, PrsW W → TabW W → Calls Tryz.prog 72 #[.int .i64 (ps.getD k 0), .int .i64 N] W fun e w' => e = .returned (.tuple #[.agg #[.int .i64 (ps.getD k 0), .int .i64 N, .int .i64 (Rf k)], .bool true]) ∧ Old W w')) ∧ (∀ W, Calls Tryz.prog 54 #[.int .i64 (ps.getD k 0), .int .i64 N] W fun e w' => e = .returned (.tuple #[.agg #[.int .i64 (ps.getD k 0), .int .i64 N, .int .i64 (Rf k)], .bool true]) ∧ Old W w') ∧ ∃ P M R : Nat, ps.getD k 0 = P ∧ N = M ∧ Rf k = R ∧ R < P ∧ RingOk P M ∧ (F1.Pr P → Rt P (2 * M) R)) (v u1 : Value) (w : World) (lo1 hi1 : Nat) (ht : -9223372036854775808 ≤ t ∧ t ≤ 9223372036854775807) (hP : PrsW w) (hTb : TabW w) (hv : Row w v ps) (hf : Fit v) (h1 : OwS xss w lo1 hi1 u1) (hlp : ps.length ≤ 1048576) (hl1 : xss.length ≤ 1048576) (hr1 : ∀ r ∈ xss, r.length ≤ 1048576) :
    Calls Tryz.prog 9 #[.agg #[.int .i64 N, v], .agg #[.bool a, u1], .int .i64 t] w fun e w' => ((grB N ps xss && turnB N t) = true → Rs w a (mkL (turnF N t a) ps Rf xss) true e w') ∧ ((grB N ps xss && turnB N t) = false → Rs w false [] false e w') := by
  obtain ⟨us1, cs1, at1⟩ := h1.ats ps
  obtain ⟨a0, cap0, ev⟩ := hv.slice
  obtain ⟨a1, cap1, e1⟩ := h1.slice
  subst ev e1
  have c1 := fun W W' (q : Old w W) (p1 : PrsW W') (p2 : TabW W') (q' : Old W W') => impl_ringRows N a ps xss Rf us1 cs1 (.slice a0 ps.length cap0) a1 cap1 W' p1 p2 (hv.old (Old.trans q q')) hf hlp hl1 hr1 (fun h => (at1 h).old (Old.trans q q')) (fun k hk => (hR k hk).1)
  cases htt : (rgB N && turnB N t)
  · have hno : (grB N ps xss && turnB N t) = false := by
      cases hg : grB N ps xss
      · rfl
      · obtain ⟨t1, t2, t3, t4, t5, t6⟩ := two_parts (two_of.2 ⟨hg, hg, (rfl : a = a)⟩)
        have : rgB N = true := by
          unfold grB spB at hg
          simp only [Bool.and_eq_true] at hg
          exact hg.1.1
        rw [this] at htt
        exact htt
    refine (impl_TurnRows_no N t ps xss a a0 a1 cap0 cap1 w (fun W g => impl_TurnTable_no N t W ht htt)).mono (fun e w' h => ⟨(fun h' => by rw [hno] at h'; cases h'), fun _ => h⟩)
  · rw [Bool.and_eq_true] at htt
    obtain ⟨hrg, ho⟩ := htt
    have hS4 : N = 2 ∨ N = 4 ∨ N = 8 ∨ N = 16 := rgB_yes hrg
    obtain ⟨T, hT, hTl, hTo⟩ := turnB_nat ho (by omega)
    obtain ⟨Nn, hNn⟩ : ∃ Nn : Nat, N = Nn := ⟨N.toNat, by omega⟩
    subst hNn hT
    have hS : Sz4 Nn := by
      unfold Sz4
      omega
    have ctb := fun W (g : Old w W) => impl_TurnTable_yes Nn T W (hTb.old g) hS ho (by omega)
    cases hyes : grB Nn ps xss
    · refine (impl_TurnRows_yes Nn T ps xss a a0 a1 cap0 cap1 w (toZ (tabN Nn T)) false [] false ctb (fun W tb gb at0 tc q k1 k2 rt => eachRow_turn_no tb gb Nn ps a a xss Rf us1 _ a1 cap1 W (hP.old q) (hTb.old q) (hv.old q) (fun W' p1 p2 q' => c1 W W' q p1 p2 q') hyes)).mono (fun e w' h => ⟨(fun h' => by simp at h'), fun _ => h⟩)
    · obtain ⟨t1, t2, t3, t4, t5, t6⟩ := two_parts (two_of.2 ⟨hyes, hyes, (rfl : a = a)⟩)
      refine (impl_TurnRows_yes Nn T ps xss a a0 a1 cap0 cap1 w (toZ (tabN Nn T)) a (mkL (turnF Nn T a) ps Rf xss) true ctb (fun W tb gb at0 tc q k1 k2 rt => eachRow_turn_yes tb gb Nn ps a a xss Rf us1 _ a1 cap1 W (hP.old q) (hTb.old q) (hv.old q) (fun W' p1 p2 q' => c1 W W' q p1 p2 q') hyes (mkL (turnF Nn T a) ps Rf xss) (mkL_len _ _ _ _) t2.2 (fun k hk => ?_))).mono (fun e w' h => ⟨fun _ => h, (fun h' => by rw [ho] at h'; simp at h')⟩)
      obtain ⟨s1, s2, s3, s4⟩ := t6 k hk
      obtain ⟨b1, _, _, _, rr1⟩ := at1 (by omega)
      have row1 := (rr1 k (by omega)).2.2
      have l1 : (xss.getD k []).length = Nn := by omega
      rw [l1] at row1
      have row2 := row1.recap (c' := Nn) (fun h => by rw [h] at l1; simp at l1; omega)
      have hlen := turnF_len Nn T a ps xss Rf hR hyes k hk
      rw [mkL_get _ _ _ _ _ hk]
      refine ⟨by omega, fun W' q' => ?_⟩
      obtain ⟨P, M, R, ys, e1, e2, e3, e4, hlt, hP2, hS', la, ha, r1, r2⟩ := row_open hR hyes k hk
      obtain rfl : Nn = M := by omega
      rw [e1, e3, e4] at hlen ⊢
      rw [e4] at row2 l1
      have hN2 := sz4_bd hS
      have k1' := (q'.cell (p := ⟨tb, 0, none⟩) (block_lt_of_cell k1)).trans k1
      have k2' := (q'.cell (p := ⟨gb, 0, none⟩) (block_lt_of_cell k2)).trans k2
      cases a
      · refine turn_change_false P R T Nn _ (us1 k) tb gb at0 _ tc W' k1' k2' (fun W'' q'' => ?_) (by omega) (by omega)
        rw [show turnF Nn T false P R (toZ ys) = trnS P Nn T ys Nn from tnZ_toZ P Nn T ys]
        exact impl_turned P Nn R T ys _ W'' (row2.old (Old.trans q (Old.trans q' q''))) hP2 hN2 la ha (by omega)
      · refine turn_change_true P R T Nn _ (us1 k) tb gb at0 _ tc W' k1' k2' (fun W'' q'' => ?_)
        rw [show turnF Nn T true P R (toZ ys) = toZ ((tabN Nn T).map fun q => ys.getD q 0) from pkZ_toZ Nn T ys]
        refine impl_picked P R true Nn (toZ ys) (toZ (tabN Nn T)) _ (us1 k) _ W'' (row2.old (Old.trans q (Old.trans q' q''))) (rt.old (Old.trans q' q'')) hN2 l1 (by rw [toZ_len, tabN_len]) (by rw [toZ_len, List.length_map, tabN_len]) (fun i hi => ?_)
        have hb : (tabN Nn T).getD i 0 < Nn := by
          rw [tabN_get Nn T i hi]
          exact back_lt0 hS _
        rw [toZ_get]
        refine ⟨by omega, ?_⟩
        rw [Int.toNat_natCast, toZ_get, toZ_get]
        have hil : i < (tabN Nn T).length := by rw [tabN_len]; exact hi
        simp [List.getD, hil]
theorem TurnRows_any (N t : Int) (xs : List Int) (n : Bool) (xss : List (List Int)) (v u : Value) (w : World) (ht : -9223372036854775808 ≤ t ∧ t ≤ 9223372036854775807) (hv : Row w v xs) (hl : xs.length ≤ 9223372036854775807) (hx : ∀ x ∈ xs, -9223372036854775808 ≤ x ∧ x ≤ 9223372036854775807) (hu : RowS w u xss) (hlx : xss.length ≤ 9223372036854775807) (hlr : ∀ r ∈ xss, r.length ≤ 9223372036854775807) (hP : PrsW w) (hT : TabW w) :
    Calls Tryz.prog 3 #[.agg #[.int .i64 N, v], .agg #[.bool n, u], .int .i64 t] w fun e w' => e = .returned (.bool true) ∧ Old w w' := by
  obtain ⟨Rf, hR⟩ := Rings_both N xs
  obtain ⟨a0, c0, rfl⟩ := hv.slice
  obtain ⟨a1, c1, rfl⟩ := hu.slice
  have bnd : ∀ {A : Prop}, ¬ leftN 1048576 xs.length < 0 → ¬ leftSS (leftN 1048576 xs.length) xss < 0 → (xs.length ≤ 1048576 → xss.length ≤ 1048576 → (∀ r ∈ xss, r.length ≤ 1048576) → offL xss xss.length ≤ 1048576 → A) → A := fun h1 h2 k => by
    obtain ⟨q1, q2, q3⟩ := leftN_ok h1 (by omega)
    obtain ⟨p1, p2, p3, p4⟩ := leftSS_ok q3 h2
    have o1 := offL_leftSS q3 h2
    exact k (by omega) (by omega) (fun r hr => by have := p4 r hr; omega) (by omega)
  obtain ⟨zss, ro, br, hy, hn, hz⟩ : ∃ (zss : List (List Int)) (ro br : Bool), ((grB N xs xss && turnB N t) = true → zss = mkL (turnF N t n) xs Rf xss ∧ ro = true ∧ br = n) ∧ ((grB N xs xss && turnB N t) = false → zss = [] ∧ ro = false ∧ br = false) ∧ (zss.length ≤ 6 ∧ (∀ r ∈ zss, r.length ≤ 16)) := by
    cases h0 : (grB N xs xss && turnB N t)
    · exact ⟨[], false, false, (fun h => by cases h), (fun _ => ⟨rfl, rfl, rfl⟩), by simp, (fun r hr => by cases hr)⟩
    · have h := (Bool.and_eq_true _ _ ▸ h0 : grB N xs xss = true ∧ turnB N t = true).1
      refine ⟨_, true, n, fun _ => ⟨rfl, rfl, rfl⟩, (fun h => by cases h), ?_, fun r hr => ?_⟩
      · obtain ⟨t1, t2, t3, t4, t5, t6⟩ := two_parts (two_of.2 ⟨h, h, (rfl : n = n)⟩)
        rw [mkL_len]
        omega
      · obtain ⟨t1, t2, t3, t4, t5, t6⟩ := two_parts (two_of.2 ⟨h, h, (rfl : n = n)⟩)
        unfold mkL at hr
        rw [List.mem_map] at hr
        obtain ⟨k, hk, rfl⟩ := hr
        have hk' : k < xs.length := by simpa using hk
        have := turnF_len N t n xs xss Rf hR h k hk'
        omega
  obtain ⟨z1, z2⟩ := hz
  have z3 : offL zss zss.length ≤ 96 := by
    have := offL_bd zss 16 z2
    omega
  have z2' : ∀ r ∈ zss, r.length ≤ 1048576 := fun r hr => by have := z2 r hr; omega
  refine law_turnrows w t N xs.length a0 c0 n xss.length a1 c1 br zss.length ro (leftN 1048576 xs.length) (leftSS (leftN 1048576 xs.length) xss)
    (fun W g => ks_sz N a0 xs.length c0 1048576 W hl (by omega) (by omega))
    (fun h W g => by
      obtain ⟨q1, q2, q3⟩ := leftN_ok h (by omega)
      exact kr_sz n xss _ _ W (hu.old g) hlx hlr q3 (by omega))
    (XS N xs) (far_XS N xs) shape_XS (fun h1 h2 W g => bnd h1 h2 fun d1 d2 d3 d6 => ks_to N xs _ W (hv.old g) d1) (fun h1 h2 W lo hi g lo' hi' g' k k' => bnd h1 h2 fun d1 d2 d3 d6 => ks_eq N xs W lo hi g lo' hi' g' k k' (by omega))
    (1 + xs.length) (by omega) (fun h1 h2 W lo hi g k => bnd h1 h2 fun d1 d2 d3 d6 => ks_mark N xs 1 W lo hi g k d1 (by omega) (by omega))
    (XR n xss) (far_XR n xss) shape_XR (fun h1 h2 W g => bnd h1 h2 fun d1 d2 d3 d6 => kr_to n xss _ W (hu.old g) d2 d3) (fun h1 h2 W lo hi g lo' hi' g' k k' => bnd h1 h2 fun d1 d2 d3 d6 => kr_eq n xss W lo hi g lo' hi' g' k k' d2 d3)
    (1 + xs.length + offL xss xss.length) (by omega) (fun h1 h2 W lo hi g k => bnd h1 h2 fun d1 d2 d3 d6 => (kr_mark n xss _ W lo hi g k d2 d3 (by omega) (by omega)).mono (fun e w' h => ⟨h.1, h.2.1⟩))
    (XR br zss) (far_XR br zss) shape_XR (XR br zss) (far_XR br zss) shape_XR (XM br 1 zss) (far_XM br 1 zss) shape_XM
    (fun h1 h2 W lo0 hi0 g0 lo1 hi1 g1 k0 k1 => bnd h1 h2 fun d1 d2 d3 d6 => ?_) (fun h1 h2 W lo0 hi0 g0 lo1 hi1 g1 k0 k1 q => bnd h1 h2 fun d1 d2 d3 d6 => ?_)
    (fun h1 h2 W lo hi p lo' hi' p' k k' => kr_eq br zss W lo hi p lo' hi' p' k k' (by omega) z2')
    (1 + offL zss zss.length) (by omega) (fun h1 h2 W lo hi p k => kr_mark br zss 1 W lo hi p k (by omega) z2' (by omega) (by omega)) (fun h1 h2 W lo hi p k => kr_held br zss 1 W lo hi p k (by omega) z2' (by omega) (by omega))
  · obtain ⟨a, c, rfl, o, f⟩ := k0
    obtain ⟨a', c', rfl, o'⟩ := k1
    cases htw : (grB N xs xss && turnB N t)
    · obtain ⟨rfl, rfl, rfl⟩ := hn htw
      cases hg : grB N xs xss
      · exact spec_TurnRows_no1 N t xs n xss _ _ W ht o.row f o'.rowS d1 hx d2 d3 hg
      · rw [hg, Bool.true_and] at htw
        obtain ⟨t1, t2, t3, t4, t5, t6⟩ := two_parts (two_of.2 ⟨hg, hg, (rfl : n = n)⟩)
        exact spec_TurnRows_no2 N t xs n xss _ _ W ht o.row f o'.rowS d1 hx d2 d3 hg (by omega) htw
    · obtain ⟨rfl, rfl, rfl⟩ := hy htw
      rw [Bool.and_eq_true] at htw
      exact spec_TurnRows_any N t xs _ xss Rf hR _ _ W ht o.row f o'.rowS d1 hx d2 d3 htw.1 htw.2
  · obtain ⟨a, c, rfl, o, f⟩ := k0
    obtain ⟨a', c', rfl, o'⟩ := k1
    refine (impl_TurnRows_any N t xs n xss Rf hR _ _ W _ _ ht (hP.old q) (hT.old q) o.row f o' d1 d2 d3).mono (fun e w' h => ?_)
    cases htw : (grB N xs xss && turnB N t)
    · obtain ⟨rfl, rfl, rfl⟩ := hn htw
      exact h.2 htw
    · obtain ⟨rfl, rfl, rfl⟩ := hy htw
      exact h.1 htw
end Go.Proofs.YtpebikjckhcgfaaGreatDoor
