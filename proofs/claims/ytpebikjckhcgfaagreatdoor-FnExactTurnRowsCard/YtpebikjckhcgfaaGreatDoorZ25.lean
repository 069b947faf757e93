/- Proved: several texts in one: what each proves is said ahead of it. -/
import Derived.Test.YtpebikjckhcgfaaGreatDoorZ21
import Derived.Test.YtpebikjckhcgfaaGreatDoorZ16
import Derived.Deep.RegionHeld3
/- Proved: the model's AddRows. -/
namespace Go.Proofs.YtpebikjckhcgfaaGreatDoor
open Go.ChangeShapes Go.WideShapes Go.ChangeAt Go.RowKit
open M1
set_option linter.unusedVariables false
set_option linter.unusedSimpArgs false
theorem infoRw : (Tryz.prog.info? 30).map (·.size) = some 2 := by kernel_rfl
/-- rows and a bool that are answered -/
theorem ret_rb {fn : Func} {p u : Tmp} (h : fn.results = #[.cell p 30, .tmp u]) (tmps : Array Value) (w : World) {g : Nat} {x y z : Value} (hp : tmps.getD p undef = .pointer (some ⟨g, 0, none⟩)) (hu : tmps.getD u undef = z) (hs : StW w g x y 30) :
    (results fn tmps).run Tryz.prog w = .ok (.tuple #[.agg #[x, y], z]) w := by
  have hld := run_loadVar_row (P := Tryz.prog) w g 30 30 #[x, y] (0, 0) _ hs Tryz.underlying30 rfl infoRw
  rw [results_cell_tmp h, hp, hu]
  simp [asAddr, Result.andThen, hld]
/-- both rows good and both ahead or both not -/
def twoB (N : Int) (ps : List Int) (a b : Bool) (xss yss : List (List Int)) : Bool := grB N ps xss && (rwB N ps yss && (a == b))
theorem gr_sp {N : Int} {ps : List Int} {xss : List (List Int)} (h : grB N ps xss = true) : spB N ps = true := by
  unfold grB at h
  rw [Bool.and_eq_true] at h
  exact h.1
theorem two_parts {N : Int} {ps : List Int} {a b : Bool} {xss yss : List (List Int)} (h : twoB N ps a b xss yss = true) : (N = 2 ∨ N = 4 ∨ N = 8 ∨ N = 16) ∧ (1 ≤ ps.length ∧ ps.length ≤ 6) ∧ xss.length = ps.length ∧ yss.length = ps.length ∧ a = b ∧
    ∀ k, k < ps.length → ((xss.getD k []).length : Int) = N ∧ ((yss.getD k []).length : Int) = N ∧ (2 ≤ ps.getD k 0 ∧ ps.getD k 0 ≤ 268435456) ∧ ∀ i, i < (xss.getD k []).length → (0 ≤ (xss.getD k []).getD i 0 ∧ (xss.getD k []).getD i 0 < ps.getD k 0) ∧ (0 ≤ (yss.getD k []).getD i 0 ∧ (yss.getD k []).getD i 0 < ps.getD k 0) := by
  unfold twoB grB at h
  rw [Bool.and_eq_true, Bool.and_eq_true, Bool.and_eq_true] at h
  obtain ⟨⟨h1, h2⟩, h3, h4⟩ := h
  obtain ⟨s1, s2, s3⟩ := sp_ring h1
  obtain ⟨b1, b2⟩ := bas_at s2
  unfold rwB at h2 h3
  rw [Bool.and_eq_true] at h2 h3
  have l1 := of_decide_eq_true h2.1
  have l2 := of_decide_eq_true h3.1
  refine ⟨s1, b1, l1, l2, by simpa using h4, fun k hk => ?_⟩
  have r1 := of_decide_eq_true h2.2 k hk (Nat.zero_le _)
  have r2 := of_decide_eq_true h3.2 k hk (Nat.zero_le _)
  unfold polyB at r1 r2
  rw [Bool.and_eq_true] at r1 r2
  have e1 := of_decide_eq_true r1.1
  have e2 := of_decide_eq_true r2.1
  refine ⟨e1, e2, pm_bd (b2 k hk), fun i hi => ?_⟩
  have key : ∀ (xs : List Int) (p : Int), xs.all (fun x => resB x p) = true → ∀ i, i < xs.length → 0 ≤ xs.getD i 0 ∧ xs.getD i 0 < p := fun xs p ha i hi => by
    have := List.all_eq_true.1 ha (xs.getD i 0) (by simp [List.getD, hi])
    simpa [resB] using this
  exact ⟨key _ _ r1.2 i hi, key _ _ r2.2 i (by omega)⟩
end Go.Proofs.YtpebikjckhcgfaaGreatDoor
