/- Proved: the statement on GoodParams at every argument, in a world in which the two tables are laid. -/
import Derived.Test.YtinldhoimnbkhaaDoorLawGoodParams
import Derived.Test.YtinldhoimnbkhaaDoorDa09
namespace Go.Proofs.YtinldhoimnbkhaaDoor
open Go.ChangeShapes Go.WideShapes Go.ChangeAt Go.RowKit
set_option linter.unusedVariables false
set_option linter.unusedSimpArgs false
theorem GoodParams_any (N T E : Int) (xs : List Int) (v : Value) (w : World) (hv : Row w v xs) (hl : xs.length ≤ 9223372036854775807) (hx : ∀ x ∈ xs, -9223372036854775808 ≤ x ∧ x ≤ 9223372036854775807) (hP : PrsW w) (hT : TabW w) :
    Calls Tryd.prog 7 #[.agg #[.int .i64 N, .int .i64 T, .int .i64 E, v]] w fun e w' => e = .returned (.bool true) ∧ Old w w' := by
  obtain ⟨a0, c0, rfl⟩ := hv.slice
  have bnd : ∀ {A : Prop}, ¬ leftN 1048576 xs.length < 0 → (xs.length ≤ 1048576 → A) → A := fun h1 k => by
    obtain ⟨q1, q2, q3⟩ := leftN_ok h1 (by omega)
    exact k (by omega)
  refine law9_GoodParams w N T E xs.length a0 c0 (prB N T E xs) (leftN 1048576 xs.length)
    (fun W g => kp_sz N T E a0 xs.length c0 1048576 W hl (by omega) (by omega))
    (XP N T E xs) (far_XP N T E xs) shape_XP (fun h1 W g => bnd h1 fun h3 => kp_to N T E xs _ W (hv.old g) h3) (fun h1 W lo hi g lo' hi' g' k k' => bnd h1 fun h3 => kp_eq N T E xs W lo hi g lo' hi' g' k k' (by omega))
    (fun h1 W lo hi g k _ => ?_) (fun h1 W lo hi g k q => ?_)
  · obtain ⟨a, c, rfl, o, f⟩ := k
    exact spec_goodParams N T E xs _ W o.row f hl hx
  · obtain ⟨a, c, rfl, o, f⟩ := k
    exact impl_goodParams2 N T E xs _ W (hP.old q) (hT.old q) o.row f hl
end Go.Proofs.YtinldhoimnbkhaaDoor
