/- Proved: the statement on GoodRows at every space and rows, in a world in which the two tables are laid. -/
import Derived.Test.YtcbbljadjibfeaaDoorLawGoodRows
import Derived.Test.YtcbbljadjibfeaaDoorRRs2
namespace Go.Proofs.YtcbbljadjibfeaaDoor
open Go.ChangeShapes Go.WideShapes Go.ChangeAt Go.RowKit
set_option linter.unusedVariables false
set_option linter.unusedSimpArgs false
theorem GoodRows_any (N : Int) (xs : List Int) (n : Bool) (xss : List (List Int)) (v u : Value) (w : World) (hv : Row w v xs) (hl : xs.length ≤ 9223372036854775807) (hx : ∀ x ∈ xs, -9223372036854775808 ≤ x ∧ x ≤ 9223372036854775807) (hu : RowS w u xss) (hlx : xss.length ≤ 9223372036854775807) (hlr : ∀ r ∈ xss, r.length ≤ 9223372036854775807) (hP : PrsW w) (hT : TabW w) :
    Calls Tryd.prog 6 #[.agg #[.int .i64 N, v], .agg #[.bool n, u]] w fun e w' => e = .returned (.bool true) ∧ Old w w' := by
  obtain ⟨a0, c0, rfl⟩ := hv.slice
  obtain ⟨a1, c1, rfl⟩ := hu.slice
  have bnd : ∀ {A : Prop}, ¬ leftN 1048576 xs.length < 0 → ¬ leftSS (leftN 1048576 xs.length) xss < 0 → (xs.length ≤ 1048576 → xss.length ≤ 1048576 → (∀ r ∈ xss, r.length ≤ 1048576) → A) → A := fun h1 h2 k => by
    obtain ⟨q1, q2, q3⟩ := leftN_ok h1 (by omega)
    obtain ⟨p1, p2, p3, p4⟩ := leftSS_ok q3 h2
    exact k (by omega) (by omega) (fun r hr => by have := p4 r hr; omega)
  refine law_grows w N xs.length a0 c0 n xss.length a1 c1 (grB N xs xss) (leftN 1048576 xs.length) (leftSS (leftN 1048576 xs.length) xss)
    (fun W g => ks_sz N a0 xs.length c0 1048576 W hl (by omega) (by omega))
    (fun h W g => by
      obtain ⟨q1, q2, q3⟩ := leftN_ok h (by omega)
      exact kr_sz n xss _ _ W (hu.old g) hlx hlr q3 (by omega))
    (XS N xs) (far_XS N xs) shape_XS (fun h1 h2 W g => bnd h1 h2 fun h3 h4 h5 => ks_to N xs _ W (hv.old g) h3) (fun h1 h2 W lo hi g lo' hi' g' k k' => bnd h1 h2 fun h3 h4 h5 => ks_eq N xs W lo hi g lo' hi' g' k k' (by omega))
    (XR n xss) (far_XR n xss) shape_XR (fun h1 h2 W g => bnd h1 h2 fun h3 h4 h5 => kr_to n xss _ W (hu.old g) h4 h5) (fun h1 h2 W lo hi g lo' hi' g' k k' => bnd h1 h2 fun h3 h4 h5 => kr_eq n xss W lo hi g lo' hi' g' k k' h4 h5)
    (fun h1 h2 W lo0 hi0 g0 lo1 hi1 g1 k0 k1 => bnd h1 h2 fun h3 h4 h5 => ?_) (fun h1 h2 W lo0 hi0 g0 lo1 hi1 g1 k0 k1 q => bnd h1 h2 fun h3 h4 h5 => ?_)
  · obtain ⟨a, c, rfl, o, f⟩ := k0
    obtain ⟨a', c', rfl, o'⟩ := k1
    exact spec_goodRows N xs n xss _ _ W o.row f o'.rowS h3 hx h4 h5
  · obtain ⟨a, c, rfl, o, f⟩ := k0
    obtain ⟨a', c', rfl, o'⟩ := k1
    exact impl_goodRows N n xs xss _ _ W _ _ (hP.old q) (hT.old q) o.row f h3 h4 h5 o'
end Go.Proofs.YtcbbljadjibfeaaDoor
