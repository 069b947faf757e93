/- Proved: several texts in one: what each proves is said ahead of it. -/
import Derived.Test.YtpebikjckhcgfaaDoorZ13
import Derived.Test.YtpebikjckhcgfaaDoorZ16
import Derived.Test.YtpebikjckhcgfaaDoorZ18
import Derived.Test.YtpebikjckhcgfaaDoorZ12
/- Proved: a row of good rows, opened, where only the program's rings are known. -/
namespace Go.Proofs.YtpebikjckhcgfaaDoor
open Go.ChangeShapes Go.WideShapes Go.ChangeAt Go.RowKit
open M1
set_option linter.unusedVariables false
set_option linter.unusedSimpArgs false
theorem toZ_backR (ys : List Nat) : (toZ ys).map Int.toNat = ys := by
  rw [toZ, List.map_map]
  refine (List.map_congr_left fun x hx => ?_).trans (List.map_id ys)
  simp
theorem gr_polyR {N : Int} {ps : List Int} {xss : List (List Int)} (h : grB N ps xss = true) : xss.length = ps.length ∧ ∀ k, k < ps.length → RingOk (ps.getD k 0) N ∧ polyB (ps.getD k 0) N (xss.getD k []) = true := by
  unfold grB rwB rwA at h
  rw [Bool.and_eq_true, Bool.and_eq_true, decide_eq_true_eq, decide_eq_true_eq] at h
  obtain ⟨h1, h2, h3⟩ := h
  obtain ⟨s1, s2, s3⟩ := sp_ring h1
  refine ⟨h2, fun k hk => ⟨s3 k hk, ?_⟩⟩
  first
  | exact h3 k (by omega) (by omega)
  | exact h3 k (by omega)
/-- a row of good rows, opened -/
theorem row_openR {N : Int} {ps : List Int} {xss : List (List Int)} {Rf : Nat → Int} (hR : ∀ k, RingOk (ps.getD k 0) N → ((0 ≤ Rf k ∧ Rf k < ps.getD k 0) ∧ (∀ W, PrsW W → TabW W → Calls Tryd.prog 61 #[.int .i64 (ps.getD k 0), .int .i64 N] W fun e w' => e = .returned (.tuple #[.agg #[.int .i64 (ps.getD k 0), .int .i64 N, .int .i64 (Rf k)], .bool true]) ∧ Old W w')) ∧ ∃ P M R : Nat, ps.getD k 0 = P ∧ N = M ∧ Rf k = R ∧ R < P ∧ RingOk P M ∧ (F1.Pr P → Rt P (2 * M) R)) (h : grB N ps xss = true) (k : Nat) (hk : k < ps.length) :
    ∃ (P M R : Nat) (ys : List Nat), ps.getD k 0 = P ∧ N = M ∧ Rf k = R ∧ xss.getD k [] = toZ ys ∧ R < P ∧ (2 ≤ P ∧ P ≤ 268435456) ∧ Sz4 M ∧ ys.length = M ∧ (∀ y ∈ ys, y < P) ∧ Cg P ((R : Int) ^ (2 * M)) 1 ∧ Cg P ((R : Int) ^ M) (-1) := by
  obtain ⟨h1, h2⟩ := gr_polyR h
  obtain ⟨h3, h4⟩ := h2 k hk
  obtain ⟨_, P, M, R, e1, e2, e3, hlt, hok, hrt⟩ := hR k h3
  rw [e1, e2] at h4
  obtain ⟨ys, e4, la, ha⟩ := polyB_yes h4
  have b1 := modB_yes hok.md
  have b2 := hok.sz
  have hP : 2 ≤ P ∧ P ≤ 268435456 := by omega
  have hS : Sz4 M := by omega
  obtain ⟨r1, r2⟩ := (hrt (ring_pr hok)).cg hP.1
  exact ⟨P, M, R, ys, e1, e2, e3, e4, hlt, hP, hS, la, ha, r1, r2⟩
theorem sz4_bdR {M : Nat} (h : Sz4 M) : 2 ≤ M ∧ M ≤ 16 := by
  unfold Sz4 at h
  omega
end Go.Proofs.YtpebikjckhcgfaaDoor
