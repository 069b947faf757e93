/- Proved: the statement on GoodSecret at every argument, in a world in which the two tables are laid. -/
import Derived.Test.YtfgooclnohnkmaaDoorLawGoodSecret
import Derived.Test.YtfgooclnohnkmaaDoorNC
import Derived.Test.YtfgooclnohnkmaaDoorND
namespace Go.Proofs.YtfgooclnohnkmaaDoor
open Go.ChangeShapes Go.WideShapes Go.ChangeAt Go.RowKit
set_option linter.unusedVariables false
set_option linter.unusedSimpArgs false
theorem GoodSecret_any (N T E : Int) (xs ss : List Int) (v u : Value) (w : World) (hv : Row w v xs) (hl : xs.length ≤ 9223372036854775807) (hx : ∀ x ∈ xs, -9223372036854775808 ≤ x ∧ x ≤ 9223372036854775807) (hu : Row w u ss) (hs : ss.length ≤ 9223372036854775807) (hP : PrsW w) (hT : TabW w) :
    Calls Tryd.prog 8 #[.agg #[.int .i64 N, .int .i64 T, .int .i64 E, v], u] w fun e w' => e = .returned (.bool true) ∧ Old w w' := by
  obtain ⟨a0, c0, rfl⟩ := hv.slice
  obtain ⟨a1, c1, eu⟩ := hu.slice
  subst eu
  have bnd : ∀ {A : Prop}, ¬ (1048576 : Int) < (ss.length : Int) → ¬ leftN 1048576 xs.length < 0 → (xs.length ≤ 1048576 → ss.length ≤ 1048576 → A) → A := fun h0 h1 k => by
    obtain ⟨q1, q2, q3⟩ := leftN_ok h1 (by omega)
    exact k (by omega) (by omega)
  refine law9_GoodSecret w N T E xs.length a0 c0 ss.length a1 c1 (prB N T E xs && wiB N 1 ss) (leftN 1048576 xs.length)
    (fun _ W g => kp_sz N T E a0 xs.length c0 1048576 W hl (by omega) (by omega))
    (XP N T E xs) (far_XP N T E xs) shape_XP (fun h0 h1 W g => bnd h0 h1 fun h3 _ => kp_to N T E xs _ W (hv.old g) h3) (fun h0 h1 W lo hi g lo' hi' g' k k' => bnd h0 h1 fun h3 _ => kp_eq N T E xs W lo hi g lo' hi' g' k k' (by omega))
    (XI ss) (far_XI ss) shape_XI (fun h0 h1 W g => bnd h0 h1 fun _ h3 => ki_to ss _ W (hu.old g) h3) (fun h0 h1 W lo hi g lo' hi' g' k k' => bnd h0 h1 fun _ h3 => ki_eq ss W lo hi g lo' hi' g' k k' (by omega))
    (fun h0 h1 W lo hi g lo1 hi1 g1 k k1 _ => ?_) (fun h0 h1 W lo hi g lo1 hi1 g1 k k1 q => ?_)
  · obtain ⟨a, c, rfl, o, f⟩ := k
    obtain ⟨a', c', rfl, o', f'⟩ := k1
    exact spec_goodSecret N T E xs ss _ _ W o.row f o'.row hl hs hx
  · obtain ⟨a, c, rfl, o, f⟩ := k
    obtain ⟨a', c', rfl, o', f'⟩ := k1
    exact impl_goodSecret N T E xs ss _ _ W (hP.old q) (hT.old q) o.row f o'.row hl hs
end Go.Proofs.YtfgooclnohnkmaaDoor
