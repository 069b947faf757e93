/- Proved: several texts in one: what each proves is said ahead of it. -/
import Derived.Test.YtpebikjckhcgfaaDoorZ51
import Derived.Test.YtpebikjckhcgfaaDoorZ52
import Derived.Test.YtpebikjckhcgfaaDoorZ16
/- Proved: the statement on AheadRows at every space and rows, in a world in which the two tables are laid. -/
namespace Go.Proofs.YtpebikjckhcgfaaDoor
open Go.ChangeShapes Go.WideShapes Go.ChangeAt Go.RowKit
set_option linter.unusedVariables false
set_option linter.unusedSimpArgs false
theorem AheadRows_any (N : Int) (xs : List Int) (n : Bool) (xss : List (List Int)) (v u : Value) (w : World) (hv : Row w v xs) (hl : xs.length ≤ 9223372036854775807) (hx : ∀ x ∈ xs, -9223372036854775808 ≤ x ∧ x ≤ 9223372036854775807) (hu : RowS w u xss) (hlx : xss.length ≤ 9223372036854775807) (hlr : ∀ r ∈ xss, r.length ≤ 9223372036854775807) (hP : PrsW w) (hT : TabW w) :
    Calls Tryd.prog 13 #[.agg #[.int .i64 N, v], .agg #[.bool n, u]] w fun e w' => e = .returned (.bool true) ∧ Old w w' := by
  obtain ⟨Rf, hR⟩ := Rings_both N xs
  obtain ⟨a0, c0, rfl⟩ := hv.slice
  obtain ⟨a1, c1, rfl⟩ := hu.slice
  have bnd : ∀ {A : Prop}, ¬ leftN 1048576 xs.length < 0 → ¬ leftSS (leftN 1048576 xs.length) xss < 0 → (xs.length ≤ 1048576 → xss.length ≤ 1048576 → (∀ r ∈ xss, r.length ≤ 1048576) → offL xss xss.length ≤ 1048576 → A) → A := fun h1 h2 k => by
    obtain ⟨q1, q2, q3⟩ := leftN_ok h1 (by omega)
    obtain ⟨p1, p2, p3, p4⟩ := leftSS_ok q3 h2
    have o1 := offL_leftSS q3 h2
    exact k (by omega) (by omega) (fun r hr => by have := p4 r hr; omega) (by omega)
  obtain ⟨zss, ro, br, hy, hn, hz⟩ : ∃ (zss : List (List Int)) (ro br : Bool), (grB N xs xss = true → zss = mkL (aheadF N n) xs Rf xss ∧ ro = true ∧ br = true) ∧ (grB N xs xss = false → zss = [] ∧ ro = false ∧ br = false) ∧ (zss.length ≤ 6 ∧ (∀ r ∈ zss, r.length ≤ 16)) := by
    cases h : grB N xs xss
    · exact ⟨[], false, false, (fun h => by cases h), (fun _ => ⟨rfl, rfl, rfl⟩), by simp, (fun r hr => by cases hr)⟩
    · refine ⟨_, true, true, fun _ => ⟨rfl, rfl, rfl⟩, (fun h => by cases h), ?_, fun r hr => ?_⟩
      · obtain ⟨t1, t2, t3, t4, t5, t6⟩ := two_parts (two_of.2 ⟨h, h, (rfl : n = n)⟩)
        rw [mkL_len]
        omega
      · obtain ⟨t1, t2, t3, t4, t5, t6⟩ := two_parts (two_of.2 ⟨h, h, (rfl : n = n)⟩)
        unfold mkL at hr
        rw [List.mem_map] at hr
        obtain ⟨k, hk, rfl⟩ := hr
        have hk' : k < xs.length := by simpa using hk
        have := aheadF_len N n xs xss Rf hR h k hk'
        omega
  obtain ⟨z1, z2⟩ := hz
  have z3 : offL zss zss.length ≤ 96 := by
    have := offL_bd zss 16 z2
    omega
  have z2' : ∀ r ∈ zss, r.length ≤ 1048576 := fun r hr => by have := z2 r hr; omega
  refine law_aheadrows w N xs.length a0 c0 n xss.length a1 c1 br zss.length ro (leftN 1048576 xs.length) (leftSS (leftN 1048576 xs.length) xss)
    (fun W g => ks_sz N a0 xs.length c0 1048576 W hl (by omega) (by omega))
    (fun h W g => by
      obtain ⟨q1, q2, q3⟩ := leftN_ok h (by omega)
      exact kr_sz n xss _ _ W (hu.old g) hlx hlr q3 (by omega))
    (XS N xs) (far_XS N xs) shape_XS (fun h1 h2 W g => bnd h1 h2 fun d1 d2 d3 d6 => ks_to N xs _ W (hv.old g) d1) (fun h1 h2 W lo hi g lo' hi' g' k k' => bnd h1 h2 fun d1 d2 d3 d6 => ks_eq N xs W lo hi g lo' hi' g' k k' (by omega))
    (1 + xs.length) (by omega) (fun h1 h2 W lo hi g k => bnd h1 h2 fun d1 d2 d3 d6 => ks_mark N xs 1 W lo hi g k d1 (by omega) (by omega))
    (XR n xss) (far_XR n xss) shape_XR (fun h1 h2 W g => bnd h1 h2 fun d1 d2 d3 d6 => kr_to n xss _ W (hu.old g) d2 d3) (fun h1 h2 W lo hi g lo' hi' g' k k' => bnd h1 h2 fun d1 d2 d3 d6 => kr_eq n xss W lo hi g lo' hi' g' k k' d2 d3)
    (1 + xs.length + offL xss xss.length) (by omega) (fun h1 h2 W lo hi g k => bnd h1 h2 fun d1 d2 d3 d6 => (kr_mark n xss _ W lo hi g k d2 d3 (by omega) (by omega)).mono (fun e w' h => ⟨h.1, h.2.1⟩))
    (XR br zss) (far_XR br zss) shape_XR (XR br zss) (far_XR br zss) shape_XR (XM br 1 zss) (far_XM br 1 zss) shape_XM
    (fun h1 h2 W lo0 hi0 g0 lo1 hi1 g1 k0 k1 => bnd h1 h2 fun d1 d2 d3 d6 => ?_) (fun h1 h2 W lo0 hi0 g0 lo1 hi1 g1 k0 k1 q => bnd h1 h2 fun d1 d2 d3 d6 => ?_)
    (fun h1 h2 W lo hi p lo' hi' p' k k' => kr_eq br zss W lo hi p lo' hi' p' k k' (by omega) z2')
    (1 + offL zss zss.length) (by omega) (fun h1 h2 W lo hi p k => kr_mark br zss 1 W lo hi p k (by omega) z2' (by omega) (by omega)) (fun h1 h2 W lo hi p k => kr_held br zss 1 W lo hi p k (by omega) z2' (by omega) (by omega))
  · obtain ⟨a, c, rfl, o, f⟩ := k0
    obtain ⟨a', c', rfl, o'⟩ := k1
    cases htw : grB N xs xss
    · obtain ⟨rfl, rfl, rfl⟩ := hn htw
      exact spec_AheadRows_no N xs n xss _ _ W o.row f o'.rowS d1 hx d2 d3 htw
    · obtain ⟨rfl, rfl, rfl⟩ := hy htw
      exact spec_AheadRows_yes N xs n xss _ _ W o.row f o'.rowS d1 hx d2 d3 htw _ (fun W' g => spec_l5Ahead_any N xs n xss Rf hR _ _ W' (o.row.old g) (o'.rowS.old g) htw)
  · obtain ⟨a, c, rfl, o, f⟩ := k0
    obtain ⟨a', c', rfl, o'⟩ := k1
    refine (impl_AheadRows N xs n xss Rf hR _ _ W _ _ (hP.old q) (hT.old q) o.row f o' d1 d2 d3).mono (fun e w' h => ?_)
    cases htw : grB N xs xss
    · obtain ⟨rfl, rfl, rfl⟩ := hn htw
      exact h.2 htw
    · obtain ⟨rfl, rfl, rfl⟩ := hy htw
      exact h.1 htw
end Go.Proofs.YtpebikjckhcgfaaDoor
