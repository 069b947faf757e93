/- Proved: the statement on SubRows at every space and rows, in a world in which the two tables are laid. -/
import Derived.Test.YtcbbljadjibfeaaDoorLawSubRows
import Derived.Test.YtcbbljadjibfeaaDoorIprS
import Derived.Test.YtcbbljadjibfeaaDoorKRows4
namespace Go.Proofs.YtcbbljadjibfeaaDoor
open Go.ChangeShapes Go.WideShapes Go.ChangeAt Go.RowKit
open M1
set_option linter.unusedVariables false
set_option linter.unusedSimpArgs false
theorem SubRows_any (N : Int) (xs : List Int) (n m : Bool) (xss yss : List (List Int)) (v u t : Value) (w : World) (hv : Row w v xs) (hl : xs.length ≤ 9223372036854775807) (hx : ∀ x ∈ xs, -9223372036854775808 ≤ x ∧ x ≤ 9223372036854775807) (hu : RowS w u xss) (hlx : xss.length ≤ 9223372036854775807) (hlr : ∀ r ∈ xss, r.length ≤ 9223372036854775807) (ht : RowS w t yss) (hly : yss.length ≤ 9223372036854775807) (hlq : ∀ r ∈ yss, r.length ≤ 9223372036854775807) (hP : PrsW w) (hT : TabW w) :
    Calls Tryd.prog 9 #[.agg #[.int .i64 N, v], .agg #[.bool n, u], .agg #[.bool m, t]] w fun e w' => e = .returned (.bool true) ∧ Old w w' := by
  obtain ⟨a0, c0, rfl⟩ := hv.slice
  obtain ⟨a1, c1, rfl⟩ := hu.slice
  obtain ⟨a2, c2, rfl⟩ := ht.slice
  have bnd : ∀ {A : Prop}, ¬ leftN 1048576 xs.length < 0 → ¬ leftSS (leftN 1048576 xs.length) xss < 0 → ¬ leftSS (leftSS (leftN 1048576 xs.length) xss) yss < 0 → (xs.length ≤ 1048576 → xss.length ≤ 1048576 → (∀ r ∈ xss, r.length ≤ 1048576) → yss.length ≤ 1048576 → (∀ r ∈ yss, r.length ≤ 1048576) → offL xss xss.length ≤ 1048576 → offL yss yss.length ≤ 1048576 → A) → A := fun h1 h2 h3 k => by
    obtain ⟨q1, q2, q3⟩ := leftN_ok h1 (by omega)
    obtain ⟨p1, p2, p3, p4⟩ := leftSS_ok q3 h2
    obtain ⟨s1, s2, s3, s4⟩ := leftSS_ok (by omega) h3
    have o1 := offL_leftSS q3 h2
    have o2 := offL_leftSS (by omega) h3
    exact k (by omega) (by omega) (fun r hr => by have := p4 r hr; omega) (by omega) (fun r hr => by have := s4 r hr; omega) (by omega) (by omega)
  have zb : ∀ (zss : List (List Int)) (ro br : Bool),
      (twoB N xs n m xss yss = true → zss = pairL subF xs xss yss ∧ ro = true ∧ br = n) → (twoB N xs n m xss yss = false → zss = [] ∧ ro = false ∧ br = false) → zss.length ≤ 6 ∧ (∀ r ∈ zss, r.length ≤ 16) ∧ offL zss zss.length ≤ 96 := fun zss ro br h1 h2 => by
    have key : zss.length ≤ 6 ∧ ∀ r ∈ zss, r.length ≤ 16 := by
      cases htw : twoB N xs n m xss yss
      · obtain ⟨rfl, _, _⟩ := h2 htw
        exact ⟨by simp, fun r hr => by cases hr⟩
      · obtain ⟨rfl, _, _⟩ := h1 htw
        obtain ⟨t1, t2, t3, t4, t5, t6⟩ := two_parts htw
        refine ⟨by rw [pairL_len]; omega, fun r hr => ?_⟩
        unfold pairL at hr
        rw [List.mem_map] at hr
        obtain ⟨k, hk, rfl⟩ := hr
        have hk' : k < xs.length := by simpa using hk
        rw [pairR_len]
        have := (t6 k hk').1
        omega
    refine ⟨key.1, key.2, ?_⟩
    have := offL_bd zss 16 key.2
    omega
  obtain ⟨zss, ro, br, hy, hn⟩ : ∃ (zss : List (List Int)) (ro br : Bool), (twoB N xs n m xss yss = true → zss = pairL subF xs xss yss ∧ ro = true ∧ br = n) ∧ (twoB N xs n m xss yss = false → zss = [] ∧ ro = false ∧ br = false) := by
    cases twoB N xs n m xss yss
    · exact ⟨[], false, false, (fun h => by cases h), fun _ => ⟨rfl, rfl, rfl⟩⟩
    · exact ⟨_, true, n, fun _ => ⟨rfl, rfl, rfl⟩, (fun h => by cases h)⟩
  obtain ⟨z1, z2, z3⟩ := zb zss ro br hy hn
  have z2' : ∀ r ∈ zss, r.length ≤ 1048576 := fun r hr => by have := z2 r hr; omega
  refine law_subrows w N xs.length a0 c0 n xss.length a1 c1 m yss.length a2 c2 br zss.length ro (leftN 1048576 xs.length) (leftSS (leftN 1048576 xs.length) xss) (leftSS (leftSS (leftN 1048576 xs.length) xss) yss)
    (fun W g => ks_sz N a0 xs.length c0 1048576 W hl (by omega) (by omega))
    (fun h W g => by
      obtain ⟨q1, q2, q3⟩ := leftN_ok h (by omega)
      exact kr_sz n xss _ _ W (hu.old g) hlx hlr q3 (by omega))
    (fun h h2 W g => by
      obtain ⟨q1, q2, q3⟩ := leftN_ok h (by omega)
      obtain ⟨p1, p2, p3, p4⟩ := leftSS_ok q3 h2
      exact kr_sz m yss _ _ W (ht.old g) hly hlq (by omega) (by omega))
    (XS N xs) (far_XS N xs) shape_XS (fun h1 h2 h3 W g => bnd h1 h2 h3 fun d1 d2 d3 d4 d5 d6 d7 => ks_to N xs _ W (hv.old g) d1) (fun h1 h2 h3 W lo hi g lo' hi' g' k k' => bnd h1 h2 h3 fun d1 d2 d3 d4 d5 d6 d7 => ks_eq N xs W lo hi g lo' hi' g' k k' (by omega))
    (1 + xs.length) (by omega) (fun h1 h2 h3 W lo hi g k => bnd h1 h2 h3 fun d1 d2 d3 d4 d5 d6 d7 => ks_mark N xs 1 W lo hi g k d1 (by omega) (by omega))
    (XR n xss) (far_XR n xss) shape_XR (fun h1 h2 h3 W g => bnd h1 h2 h3 fun d1 d2 d3 d4 d5 d6 d7 => kr_to n xss _ W (hu.old g) d2 d3) (fun h1 h2 h3 W lo hi g lo' hi' g' k k' => bnd h1 h2 h3 fun d1 d2 d3 d4 d5 d6 d7 => kr_eq n xss W lo hi g lo' hi' g' k k' d2 d3)
    (1 + xs.length + offL xss xss.length) (by omega) (fun h1 h2 h3 W lo hi g k => bnd h1 h2 h3 fun d1 d2 d3 d4 d5 d6 d7 => (kr_mark n xss _ W lo hi g k d2 d3 (by omega) (by omega)).mono (fun e w' h => ⟨h.1, h.2.1⟩))
    (XR m yss) (far_XR m yss) shape_XR (fun h1 h2 h3 W g => bnd h1 h2 h3 fun d1 d2 d3 d4 d5 d6 d7 => kr_to m yss _ W (ht.old g) d4 d5) (fun h1 h2 h3 W lo hi g lo' hi' g' k k' => bnd h1 h2 h3 fun d1 d2 d3 d4 d5 d6 d7 => kr_eq m yss W lo hi g lo' hi' g' k k' d4 d5)
    (1 + xs.length + offL xss xss.length + offL yss yss.length) (by omega) (fun h1 h2 h3 W lo hi g k => bnd h1 h2 h3 fun d1 d2 d3 d4 d5 d6 d7 => (kr_mark m yss _ W lo hi g k d4 d5 (by omega) (by omega)).mono (fun e w' h => ⟨h.1, h.2.1⟩))
    (XR br zss) (far_XR br zss) shape_XR (XR br zss) (far_XR br zss) shape_XR (XM br 1 zss) (far_XM br 1 zss) shape_XM
    (fun h1 h2 h3 W lo0 hi0 g0 lo1 hi1 g1 lo2 hi2 g2 k0 k1 k2 => bnd h1 h2 h3 fun d1 d2 d3 d4 d5 d6 d7 => ?_) (fun h1 h2 h3 W lo0 hi0 g0 lo1 hi1 g1 lo2 hi2 g2 k0 k1 k2 q => bnd h1 h2 h3 fun d1 d2 d3 d4 d5 d6 d7 => ?_)
    (fun h1 h2 h3 W lo hi p lo' hi' p' k k' => kr_eq br zss W lo hi p lo' hi' p' k k' (by omega) z2')
    (1 + offL zss zss.length) (by omega) (fun h1 h2 h3 W lo hi p k => kr_mark br zss 1 W lo hi p k (by omega) z2' (by omega) (by omega)) (fun h1 h2 h3 W lo hi p k => kr_held br zss 1 W lo hi p k (by omega) z2' (by omega) (by omega))
  · obtain ⟨a, c, rfl, o, f⟩ := k0
    obtain ⟨a', c', rfl, o'⟩ := k1
    obtain ⟨a'', c'', rfl, o''⟩ := k2
    cases htw : twoB N xs n m xss yss
    · obtain ⟨rfl, rfl, rfl⟩ := hn htw
      exact spec_SubRows_no N xs n m xss yss _ _ _ W o.row f o'.rowS o''.rowS d1 hx d2 d3 d4 d5 htw
    · obtain ⟨rfl, rfl, rfl⟩ := hy htw
      exact spec_SubRows_yes N xs br m xss yss _ _ _ W o.row f o'.rowS o''.rowS d1 hx d2 d3 d4 d5 htw
  · obtain ⟨a, c, rfl, o, f⟩ := k0
    obtain ⟨a', c', rfl, o'⟩ := k1
    obtain ⟨a'', c'', rfl, o''⟩ := k2
    refine (impl_SubRows N xs n m xss yss _ _ _ W _ _ _ _ (hP.old q) (hT.old q) o.row f o' o'' d1 d2 d3 d4 d5).mono (fun e w' h => ?_)
    cases htw : twoB N xs n m xss yss
    · obtain ⟨rfl, rfl, rfl⟩ := hn htw
      exact h.2 htw
    · obtain ⟨rfl, rfl, rfl⟩ := hy htw
      exact h.1 htw
end Go.Proofs.YtcbbljadjibfeaaDoor
