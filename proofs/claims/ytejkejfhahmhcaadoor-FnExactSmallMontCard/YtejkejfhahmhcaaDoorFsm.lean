/- Proved: the statement on SmallMont at all arguments, in a world in which the two tables are laid. -/
import Derived.Test.YtejkejfhahmhcaaDoorSms
namespace Go.Proofs.YtejkejfhahmhcaaDoor
open Go.ChangeShapes Go.WideShapes Go.ChangeAt Go.RowKit
open M2
set_option linter.unusedVariables false
theorem SmallMont_any (rs xs ts : List Int) (a m : Int) (v u q : Value) (w : World) (hv : Row w v rs) (hu : Row w u xs) (hq : Row w q ts) (hlr : rs.length ≤ 9223372036854775807) (hl : xs.length ≤ 9223372036854775807) (hlq : ts.length ≤ 9223372036854775807) (hx : ∀ x ∈ xs, -9223372036854775808 ≤ x ∧ x ≤ 9223372036854775807) (ht : ∀ x ∈ ts, -9223372036854775808 ≤ x ∧ x ≤ 9223372036854775807) (hm : -9223372036854775808 ≤ m ∧ m ≤ 9223372036854775807) (hP : PrsW w) (hT : TabW w) :
    Calls Tryd.prog 8 #[v, .int .i64 a, u, .int .i64 m, q] w fun e w' => e = .returned (.bool true) ∧ Old w w' := by
  cases h : smB rs a xs m ts
  · exact law_SmallMont a m rs xs ts v u q w hv hlr hu hl hq hlq hP hT false [] (by simp)
      (fun _ _ _ v u q W hr _ hr2 hf hr3 hf3 => spec_SmallMont_no rs xs ts a m v u q W hr hr2 hf hr3 hf3 hl hlr hlq hx ht hm h)
      (fun _ _ _ v u q W hp ht' hr _ hr2 hf hr3 hf3 => impl_SmallMont_no rs xs ts a m v u q W hp ht' hr hr2 hf hr3 hf3 hl hlr hlq hm h)
  · have h' := h
    unfold smB at h'
    simp only [Bool.and_eq_true] at h'
    obtain ⟨⟨⟨⟨⟨⟨h1, h2⟩, h3⟩, h4⟩, h5⟩, h6⟩, h7⟩ := h'
    obtain ⟨ps, rfl, hb⟩ := basB_yes h1
    obtain ⟨ns, rfl, hB⟩ := basB_yes h2
    obtain ⟨qs, rfl, hR⟩ := rsB_yes rfl hb h3
    obtain ⟨m1, m2, _⟩ := smlB_out h4
    simp only [resB, Bool.and_eq_true, decide_eq_true_eq] at h5
    obtain ⟨A, rfl⟩ := Int.eq_ofNat_of_zero_le h5.1
    obtain ⟨M, rfl⟩ := Int.eq_ofNat_of_zero_le (show 0 ≤ m by omega)
    exact law_SmallMont (A : Int) (M : Int) (toZ qs) (toZ ps) (toZ ns) v u q w hv hlr hu hl hq hlq hP hT true (toZ (smL M A ps (yL qs ps) ns)) (by rw [toZ_len, smL_len]; have := hB.len6; omega)
      (fun _ _ _ v u q W hr _ hr2 hf hr3 hf3 => spec_SmallMont_yes qs ps ns A M v u q W hr hr2 hf hr3 hf3 hR hB (by omega) (by omega) h)
      (fun _ _ _ v u q W hp ht' hr _ hr2 hf hr3 hf3 => impl_SmallMont_yes qs ps ns A M v u q W hp ht' hr hr2 hf hr3 hf3 hR hB (by omega) (by omega) h)
end Go.Proofs.YtejkejfhahmhcaaDoor
