/- Proved: residues of a basis opened; no function of the program. -/
import Derived.Test.YtfgooclnohnkmaaGreatDoorNL
import Derived.Test.YtfgooclnohnkmaaGreatDoorRsb
namespace Go.Proofs.YtfgooclnohnkmaaGreatDoor
open Go.ChangeShapes Go.WideShapes Go.ChangeAt Go.RowKit
open M2
set_option linter.unusedVariables false
set_option linter.unusedSimpArgs false
/-- the number that has the residues -/
def coN (rs ps : List Nat) : Nat := sumN rs ps ps.length % prodN ps
/-- residues of a basis -/
structure Res (rs ps : List Nat) : Prop where
  bas : Bas ps
  len : rs.length = ps.length
  lt : ∀ i, i < ps.length → rs.getD i 0 < ps.getD i 0
theorem coN_cnt {rs ps : List Nat} (h : Res rs ps) : cnt (coN rs ps) ≤ 7 := Nat.le_trans (cnt_mono (Nat.mod_le _ _)) (sumN_cnt h.bas _ (Nat.le_refl _))
theorem rsB_yes {rs xs : List Int} {ps : List Nat} (hx : xs = toZ ps) (hb : Bas ps) (h : rsB rs xs = true) : ∃ qs : List Nat, rs = toZ qs ∧ Res qs ps := by
  subst hx
  simp only [rsB, Bool.and_eq_true, decide_eq_true_eq] at h
  obtain ⟨h1, h2⟩ := h
  have h3 : ∀ i, i < rs.length → 0 ≤ rs.getD i 0 ∧ rs.getD i 0 < ((ps.getD i 0 : Nat) : Int) := fun i hi => by
    have := of_decide_eq_true h2 i (by omega) (Nat.zero_le _)
    simp only [resB, Bool.and_eq_true, decide_eq_true_eq] at this
    rw [toZ_get] at this
    exact this
  have e : rs = toZ (rs.map Int.toNat) := by
    rw [toZ, List.map_map]
    refine (List.map_id rs).symm.trans (List.map_congr_left fun x hx => ?_)
    obtain ⟨j, hj, e⟩ := List.getElem_of_mem hx
    have h4 := (h3 j hj).1
    have e2 : rs.getD j 0 = x := by simp [List.getD, hj, e]
    rw [e2] at h4
    simp
    omega
  refine ⟨rs.map Int.toNat, e, hb, by rw [List.length_map, h1, toZ_len], fun i hi => ?_⟩
  have hi2 : i < rs.length := by rw [h1, toZ_len]; exact hi
  have h5 := h3 i hi2
  have e3 : (rs.map Int.toNat).getD i 0 = (rs.getD i 0).toNat := by simp [List.getD, hi2]
  rw [e3]
  omega
end Go.Proofs.YtfgooclnohnkmaaGreatDoor
