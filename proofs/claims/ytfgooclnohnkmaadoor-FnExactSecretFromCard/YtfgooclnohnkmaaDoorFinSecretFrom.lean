/- Proved: the statement on SecretFrom at every argument, in a world in which the two tables are laid. -/
import Derived.Test.YtfgooclnohnkmaaDoorLawSecretFrom
import Derived.Test.YtfgooclnohnkmaaDoorNC
import Derived.Test.YtfgooclnohnkmaaDoorNF
namespace Go.Proofs.YtfgooclnohnkmaaDoor
open Go.ChangeShapes Go.WideShapes Go.ChangeAt Go.RowKit
set_option linter.unusedVariables false
set_option linter.unusedSimpArgs false
theorem SecretFrom_any (N T E : Int) (xs ws : List Int) (v u : Value) (at_ : Int) (w : World) (hv : Row w v xs) (hl : xs.length ≤ 9223372036854775807) (hx : ∀ x ∈ xs, -9223372036854775808 ≤ x ∧ x ≤ 9223372036854775807) (hu : Row w u ws) (hs : ws.length ≤ 9223372036854775807) (hP : PrsW w) (hT : TabW w) :
    Calls Tryd.prog 7 #[.agg #[.int .i64 N, .int .i64 T, .int .i64 E, v], u, .int .i64 at_] w fun e w' => e = .returned (.bool true) ∧ Old w w' := by
  obtain ⟨a0, c0, rfl⟩ := hv.slice
  obtain ⟨a1, c1, eu⟩ := hu.slice
  subst eu
  have bnd : ∀ {A : Prop}, ¬ (1048576 : Int) < (ws.length : Int) → ¬ leftN 1048576 xs.length < 0 → (xs.length ≤ 1048576 → ws.length ≤ 1048576 → A) → A := fun h0 h1 k => by
    obtain ⟨q1, q2, q3⟩ := leftN_ok h1 (by omega)
    exact k (by omega) (by omega)
  have hz := len_sec N T E xs ws at_
  refine law9_SecretFrom w N T E xs.length a0 c0 ws.length a1 c1 at_ (aL (secA N T E xs ws at_)).length (aK (secA N T E xs ws at_)) (secA N T E xs ws at_).isSome (leftN 1048576 xs.length)
    (fun _ W g => kp_sz N T E a0 xs.length c0 1048576 W hl (by omega) (by omega))
    (XP N T E xs) (far_XP N T E xs) shape_XP (fun h0 h1 W g => bnd h0 h1 fun h3 _ => kp_to N T E xs _ W (hv.old g) h3) (fun h0 h1 W lo hi g lo' hi' g' k k' => bnd h0 h1 fun h3 _ => kp_eq N T E xs W lo hi g lo' hi' g' k k' (by omega))
    (1 + xs.length) (by omega) (fun h0 h1 W lo hi g k => bnd h0 h1 fun h3 _ => kp_mark N T E xs 1 W lo hi g k h3 (by omega) (by omega))
    (XI ws) (far_XI ws) shape_XI (fun h0 h1 W g => bnd h0 h1 fun _ h3 => ki_to ws _ W (hu.old g) h3) (fun h0 h1 W lo hi g lo' hi' g' k k' => bnd h0 h1 fun _ h3 => ki_eq ws W lo hi g lo' hi' g' k k' (by omega))
    (1 + xs.length + ws.length) (by omega) (fun h0 h1 W lo hi g k => bnd h0 h1 fun h2 h3 => ki_mark ws (1 + xs.length) W lo hi g k h3 (by omega) (by omega))
    (YI (aL (secA N T E xs ws at_))) (far_YI _) shape_YI (YI (aL (secA N T E xs ws at_))) (far_YI _) shape_YI (YM 1 (aL (secA N T E xs ws at_)).length) (far_YM _ _) shape_YM
    (fun h0 h1 W lo hi g lo1 hi1 g1 k k1 _ => ?_) (fun h0 h1 W lo hi g lo1 hi1 g1 k k1 q => ?_)
    (fun h0 h1 W lo hi p lo' hi' p' k k' => yi_eq _ W lo hi p lo' hi' p' k k' (by omega))
    (1 + (aL (secA N T E xs ws at_)).length) (by omega) (fun h0 h1 W lo hi p k => yi_mark _ 1 W lo hi p k (by omega) (by omega) (by omega))
    (fun h0 h1 W lo hi p k => ym_held _ 1 W lo hi p k (by omega) (by omega) (by omega))
  · obtain ⟨a, c, rfl, o, f⟩ := k
    obtain ⟨a', c', rfl, o', f'⟩ := k1
    exact (spec_SecretFrom N T E xs ws _ _ at_ W o.row f hl hx o'.row hs).mono fun e w' ⟨v', h1, h2, h3⟩ => ⟨v', h1, h2, yi_of h3⟩
  · obtain ⟨a, c, rfl, o, f⟩ := k
    obtain ⟨a', c', rfl, o', f'⟩ := k1
    exact (impl_SecretFrom N T E xs ws _ _ at_ W (hP.old q) (hT.old q) o.row f hl o'.row f' hs).mono fun e w' ⟨v', h1, h2, h3⟩ => ⟨v', h1, h2, yi_of h3⟩
end Go.Proofs.YtfgooclnohnkmaaDoor
