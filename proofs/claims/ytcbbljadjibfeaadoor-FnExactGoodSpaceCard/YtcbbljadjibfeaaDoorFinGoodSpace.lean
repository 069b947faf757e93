/- Proved: the statement on GoodSpace at every space, in a world in which the two tables are laid. -/
import Derived.Test.YtcbbljadjibfeaaDoorLawGoodSpace
import Derived.Test.YtcbbljadjibfeaaDoorRgs2
namespace Go.Proofs.YtcbbljadjibfeaaDoor
open Go.ChangeShapes Go.WideShapes Go.ChangeAt Go.RowKit
set_option linter.unusedVariables false
set_option linter.unusedSimpArgs false
theorem GoodSpace_any (N : Int) (xs : List Int) (v : Value) (w : World) (hv : Row w v xs) (hl : xs.length ≤ 9223372036854775807) (hx : ∀ x ∈ xs, -9223372036854775808 ≤ x ∧ x ≤ 9223372036854775807) (hP : PrsW w) (hT : TabW w) :
    Calls Tryd.prog 5 #[.agg #[.int .i64 N, v]] w fun e w' => e = .returned (.bool true) ∧ Old w w' := by
  obtain ⟨a0, c0, rfl⟩ := hv.slice
  have bnd : ∀ {A : Prop}, ¬ leftN 1048576 xs.length < 0 → (xs.length ≤ 1048576 → A) → A := fun h1 k => by
    obtain ⟨q1, q2, q3⟩ := leftN_ok h1 (by omega)
    exact k (by omega)
  refine law_gspace w N xs.length a0 c0 (spB N xs) (leftN 1048576 xs.length)
    (fun W g => ks_sz N a0 xs.length c0 1048576 W hl (by omega) (by omega))
    (XS N xs) (far_XS N xs) shape_XS (fun h1 W g => bnd h1 fun h3 => ks_to N xs _ W (hv.old g) h3) (fun h1 W lo hi g lo' hi' g' k k' => bnd h1 fun h3 => ks_eq N xs W lo hi g lo' hi' g' k k' (by omega))
    (fun h1 W lo hi g k => ?_) (fun h1 W lo hi g k q => ?_)
  · obtain ⟨a, c, rfl, o, f⟩ := k
    exact spec_goodSpace N xs _ W o.row f hl hx
  · obtain ⟨a, c, rfl, o, f⟩ := k
    exact impl_goodSpace N xs _ W (hP.old q) (hT.old q) o.row f hl
end Go.Proofs.YtcbbljadjibfeaaDoor
