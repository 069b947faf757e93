/- Proved: the statement on RowsOf at every space and whole numbers, in a world in which the two tables are laid. -/
import Derived.Test.YtfgooclnohnkmaaDoorLawRowsOf
import Derived.Test.YtfgooclnohnkmaaDoorNG
import Derived.Test.YtfgooclnohnkmaaDoorKRows4
import Derived.Test.YtfgooclnohnkmaaDoorRos
namespace Go.Proofs.YtfgooclnohnkmaaDoor
open Go.ChangeShapes Go.WideShapes Go.ChangeAt Go.RowKit
set_option linter.unusedVariables false
set_option linter.unusedSimpArgs false
theorem roX_small (N : Int) (ps : List Int) (bs : List Bool) (xss : List (List Int)) : (roX N ps bs xss).length ≤ 6 ∧ ∀ r ∈ roX N ps bs xss, r.length ≤ 16 := by
  unfold roX
  split
  · rename_i h
    unfold roB at h
    simp only [Bool.and_eq_true, decide_eq_true_eq] at h
    have hb := bas_at (sp_ring h.1).2.1
    have hN := (sp_ring h.1).1
    refine ⟨by rw [rofX_len]; omega, fun r hr => ?_⟩
    obtain ⟨p, _, rfl⟩ := List.mem_map.1 hr
    rw [lbZ_len]
    omega
  · simp
theorem RowsOf_any (N : Int) (ps : List Int) (bs : List Bool) (xss : List (List Int)) (v u : Value) (w : World) (hv : Row w v ps) (hlp : ps.length ≤ 9223372036854775807) (hx : ∀ x ∈ ps, -9223372036854775808 ≤ x ∧ x ≤ 9223372036854775807) (hu : RowW w u bs xss) (hl : xss.length ≤ 9223372036854775807) (hr : ∀ r ∈ xss, r.length ≤ 9223372036854775807) (hP : PrsW w) (hT : TabW w) :
    Calls Tryd.prog 5 #[.agg #[.int .i64 N, v], u] w fun e w' => e = .returned (.bool true) ∧ Old w w' := by
  obtain ⟨a0, c0, rfl⟩ := hv.slice
  obtain ⟨a1, c1, eu⟩ := hu.slice
  subst eu
  have hbl : bs.length = xss.length := hu.1
  obtain ⟨z1, z2⟩ := roX_small N ps bs xss
  have ho := offL_row 16 _ z2
  have ho2 : offL (roX N ps bs xss) (roX N ps bs xss).length ≤ 96 := by omega
  have hz2 : ∀ r ∈ roX N ps bs xss, r.length ≤ 1048576 := fun r h => by have := z2 r h; omega
  have bnd : ∀ {A : Prop}, ¬ leftN 1048576 ps.length < 0 → ¬ leftSS (leftN 1048576 ps.length) xss < 0 → (ps.length ≤ 1048576 → xss.length ≤ 1048576 → (∀ r ∈ xss, r.length ≤ 1048576) → (offL xss xss.length : Int) ≤ 1048576 → A) → A := fun h1 h2 k => by
    obtain ⟨q1, q2, q3⟩ := leftN_ok h1 (by omega)
    obtain ⟨p1, p2, p3, p4⟩ := leftSS_ok q3 h2
    have p5 := offL_leftSS q3 h2
    exact k (by omega) (by omega) (fun r hr => by have := p4 r hr; omega) (by omega)
  refine law9_RowsOf w N ps.length a0 c0 xss.length a1 c1 false (roX N ps bs xss).length (roB N ps bs xss) (leftN 1048576 ps.length) (leftSS (leftN 1048576 ps.length) xss)
    (fun W g => ks_sz N a0 ps.length c0 1048576 W hlp (by omega) (by omega))
    (fun h1 W g => by
      obtain ⟨q1, q2, q3⟩ := leftN_ok h1 (by omega)
      exact szWholeS_any bs xss _ _ W (hu.old g) hl hr q3 (by omega))
    (XS N ps) (far_XS N ps) shape_XS (fun h1 h2 W g => bnd h1 h2 fun h3 _ _ _ => ks_to N ps _ W (hv.old g) h3) (fun h1 h2 W lo hi g lo' hi' g' k k' => bnd h1 h2 fun h3 _ _ _ => ks_eq N ps W lo hi g lo' hi' g' k k' (by omega))
    (1 + ps.length) (by omega) (fun h1 h2 W lo hi g k => bnd h1 h2 fun h3 _ _ _ => ks_mark N ps 1 W lo hi g k h3 (by omega) (by omega))
    (YW bs xss) (far_YW _ _) shape_YW (fun h1 h2 W g => bnd h1 h2 fun _ h3 h4 _ => yw_to bs xss _ W (hu.old g) h3 h4) (fun h1 h2 W lo hi g lo' hi' g' k k' => bnd h1 h2 fun _ h3 h4 _ => yw_eq bs xss hbl W lo hi g lo' hi' g' k k' h3 h4)
    (1 + ps.length + offW xss xss.length) (by omega) (fun h1 h2 W lo hi g k => bnd h1 h2 fun h3 h4 h5 h6 => (yw_mark bs xss (1 + ps.length) W lo hi g k h4 h5 (by omega) (by unfold offW; omega)).mono fun e w' h => ⟨h.1, h.2.1⟩)
    (XR false (roX N ps bs xss)) (far_XR _ _) shape_XR (XR false (roX N ps bs xss)) (far_XR _ _) shape_XR (XM false 1 (roX N ps bs xss)) (far_XM _ _ _) shape_XM
    (fun h1 h2 W lo0 hi0 g0 lo1 hi1 g1 k0 k1 q => bnd h1 h2 fun h3 h4 h5 _ => ?_) (fun h1 h2 W lo0 hi0 g0 lo1 hi1 g1 k0 k1 q => bnd h1 h2 fun h3 h4 h5 _ => ?_)
    (fun h1 h2 W lo hi p lo' hi' p' k k' => kr_eq false _ W lo hi p lo' hi' p' k k' (by omega) hz2)
    (1 + offL (roX N ps bs xss) (roX N ps bs xss).length) (by omega) (fun h1 h2 W lo hi p k => kr_mark false _ 1 W lo hi p k (by omega) hz2 (by omega) (by omega))
    (fun h1 h2 W lo hi p k => kr_held false _ 1 W lo hi p k (by omega) hz2 (by omega) (by omega))
  · obtain ⟨a, c, rfl, o, f⟩ := k0
    exact spec_RowsOf N ps bs xss _ _ W o.row f h3 hx (k1.rowW hbl) h4 h5
  · obtain ⟨a, c, rfl, o, f⟩ := k0
    unfold roX
    cases hro : roB N ps bs xss
    · exact impl_RowsOf_no N ps bs xss _ _ W (hP.old q) (hT.old q) o.row f h3 (k1.rowW hbl) h4 h5 hro
    · exact impl_RowsOf_yes N ps bs xss _ _ W (hP.old q) (hT.old q) o.row f h3 (k1.rowW hbl) h4 h5 hro
end Go.Proofs.YtfgooclnohnkmaaDoor
