/- Proved: the statement on FloorConvert at every four lists, in a world in which the two tables are laid. -/
import Derived.Test.YtejkejfhahmhcaaDoorSfl
namespace Go.Proofs.YtejkejfhahmhcaaDoor
open Go.ChangeShapes Go.WideShapes Go.ChangeAt Go.RowKit
open M2
set_option linter.unusedVariables false
theorem FloorConvert_any (rs us xs ts : List Int) (v d u q : Value) (w : World) (hv : Row w v rs) (hd : Row w d us) (hu : Row w u xs) (hq : Row w q ts) (hlr : rs.length ≤ 9223372036854775807) (hld : us.length ≤ 9223372036854775807) (hl : xs.length ≤ 9223372036854775807) (hlq : ts.length ≤ 9223372036854775807) (hx : ∀ x ∈ xs, -9223372036854775808 ≤ x ∧ x ≤ 9223372036854775807) (ht : ∀ x ∈ ts, -9223372036854775808 ≤ x ∧ x ≤ 9223372036854775807) (hP : PrsW w) (hT : TabW w) :
    Calls Tryd.prog 9 #[v, d, u, q] w fun e w' => e = .returned (.bool true) ∧ Old w w' := by
  cases h : flB rs us xs ts
  · exact law_FloorConvert rs us xs ts v d u q w hv hlr hd hld hu hl hq hlq hP hT false [] (by simp)
      (fun _ _ _ _ v d u q W hr _ hr1 _ hr2 hf hr3 hf3 => spec_FloorConvert_no rs us xs ts v d u q W hr hr1 hr2 hf hr3 hf3 hl hlr hld hlq hx ht h)
      (fun _ _ _ _ v d u q W hp ht' hr _ hr1 _ hr2 hf hr3 hf3 => impl_FloorConvert_no rs us xs ts v d u q W hp ht' hr hr1 hr2 hf hr3 hf3 hl hlq h)
  · have h' := h
    unfold flB at h'
    rw [Bool.and_eq_true, Bool.and_eq_true] at h'
    obtain ⟨⟨h123, h4⟩, h5⟩ := h'
    have h5' : xs.any (fun x => ts.contains x) = false := by simpa using h5
    have h6 := h123
    rw [Bool.and_eq_true, Bool.and_eq_true] at h6
    obtain ⟨⟨h1, h2⟩, h3⟩ := h6
    obtain ⟨ps, rfl, hb⟩ := basB_yes h1
    obtain ⟨ns, rfl, hB⟩ := basB_yes h2
    obtain ⟨qs, rfl, hR⟩ := rsB_yes rfl hb h3
    obtain ⟨ms, rfl, hS⟩ := rsB_yes rfl hB h4
    exact law_FloorConvert (toZ qs) (toZ ms) (toZ ps) (toZ ns) v d u q w hv hlr hd hld hu hl hq hlq hP hT true (toZ (flL ps (yL qs ps) ms ns)) (by rw [toZ_len, flL_len]; have := hB.len6; omega)
      (fun _ _ _ _ v d u q W hr _ hr1 _ hr2 hf hr3 hf3 => spec_FloorConvert_yes qs ms ps ns v d u q W hr hr1 hr2 hf hr3 hf3 hR hS h1 h2 h3 h4 h5')
      (fun _ _ _ _ v d u q W hp ht' hr _ hr1 _ hr2 hf hr3 hf3 => impl_FloorConvert_yes qs ms ps ns v d u q W hp ht' hr hr1 hr2 hf hr3 hf3 hR hS h123 h4 h5')
end Go.Proofs.YtejkejfhahmhcaaDoor
