/- Proved: the statement on NegCipher at every argument, in a world in which the two tables are laid. -/
import Derived.Test.YtakleianimcmdaaGreatDoorLawNegCipher
import Derived.Test.YtakleianimcmdaaGreatDoorA13
import Derived.Test.YtakleianimcmdaaGreatDoorA26
import Derived.Test.YtakleianimcmdaaGreatDoorIne
import Derived.Test.YtakleianimcmdaaGreatDoorA30
import Derived.Test.YtakleianimcmdaaGreatDoorKCb
import Derived.Test.YtakleianimcmdaaGreatDoorA28
namespace Go.Proofs.YtakleianimcmdaaGreatDoor
open Go.ChangeShapes Go.WideShapes Go.ChangeAt Go.RowKit
set_option linter.unusedVariables false
set_option linter.unusedSimpArgs false
theorem negZ_row {N : Int} {ps : List Int} {xsss : List (List (List Int))} (hN : N ≤ 16) (hps : ps.length ≤ 6) (hC : ciB N ps xsss = true) : (negZ ps xsss).length ≤ 3 ∧ ∀ r ∈ negZ ps xsss, r.length ≤ 6 ∧ ∀ q ∈ r, q.length ≤ 16 := by
  obtain ⟨hm, hB⟩ := rd_true hC
  refine ⟨by rw [negZ_len]; omega, fun r hr => ?_⟩
  unfold negZ at hr
  rw [List.mem_map] at hr
  obtain ⟨xss, hx, rfl⟩ := hr
  obtain ⟨j, hj, rfl⟩ := List.mem_iff_getElem.mp hx
  have hw := hB j hj
  have e : xsss.getD j [] = xsss[j] := by simp [List.getD, hj]
  rw [e] at hw
  obtain ⟨h1, h2⟩ := rw_parts hw
  refine ⟨by rw [pairL_len]; exact hps, fun q hq => ?_⟩
  unfold pairL at hq
  rw [List.mem_map] at hq
  obtain ⟨k, hk, rfl⟩ := hq
  rw [List.mem_range] at hk
  rw [pairR_len]
  have := (poly_parts (h2 k hk)).1
  omega
set_option maxRecDepth 100000 in
theorem spec_NegCipher_any (N T E : Int) (ps : List Int) (xsss : List (List (List Int))) (v u : Value) (w : World) (hv : Row w v ps) (hf : Fit v) (hu : RowT w u xsss) (hlp : ps.length ≤ 9223372036854775807) (hl : xsss.length ≤ 1048576) (hr : ∀ r ∈ xsss, r.length ≤ 1048576 ∧ ∀ q ∈ r, q.length ≤ 1048576) (hx : ∀ x ∈ ps, -9223372036854775808 ≤ x ∧ x ≤ 9223372036854775807) (Z : List (List (List Int))) (ok : Bool) (hy : (prB N T E ps && ciB N ps xsss) = true → Z = negZ ps xsss ∧ ok = true) (hn : (prB N T E ps && ciB N ps xsss) = false → Z = [] ∧ ok = false) :
    Calls Tryz.prog 27 #[.agg #[.int .i64 N, .int .i64 T, .int .i64 E, v], .agg #[u]] w (CiA Z ok w) := by
  have KG := fun W (g : Old w W) => spec_goodCipher N T E ps xsss v u W (hv.old g) hf (hu.old g) hlp hl hr hx
  obtain ⟨a0, c0, ev⟩ := hv.slice
  cases h : (prB N T E ps && ciB N ps xsss)
  · rw [h] at KG
    obtain ⟨rfl, rfl⟩ := hn h
    obtain ⟨a1, c1, eu⟩ := hu.slice
    subst ev eu
    exact spec_NegCipher_no N T E _ _ _ _ _ _ w KG
  · rw [h] at KG
    obtain ⟨rfl, rfl⟩ := hy h
    rw [Bool.and_eq_true] at h
    obtain ⟨hm, hB⟩ := rd_true h.2
    obtain ⟨hz4, hbb, _⟩ := sp_ring (prB_sp h.1)
    have hps := (bas_at hbb).1
    have hpb : ∀ k, k < ps.length → 2 ≤ ps.getD k 0 ∧ ps.getD k 0 ≤ 268435456 := fun k hk => pm_bd ((bas_at hbb).2 k hk)
    rcases hu with ⟨a, cap, e, e2⟩ | ⟨b, o, cap, us, e, hb, h0, hc⟩
    · rw [e2] at hm
      simp at hm
    · subst ev e
      rw [← negZ_len ps xsss] at KG ⊢
      refine spec_NegCipher_yes N T E _ _ _ b o cap (negZ ps xsss) us w (by rw [negZ_len]; exact hm) hb (fun j hj => ?_) (fun j hj => ?_) KG (fun j hj W g => ?_)
      · rw [negZ_len] at hj
        obtain ⟨x, y, e⟩ := (hc j hj).2.slice
        exact ⟨x, _, y, e⟩
      · rw [negZ_len] at hj
        exact (hc j hj).1
      · rw [negZ_len] at hj
        rw [negZ_get ps xsss j hj]
        obtain ⟨h1, h2⟩ := rw_parts (hB j hj)
        refine spec_l5Neg N ps (xsss.getD j []) _ (us j) W (hv.old g) ((hc j hj).2.old g) hps h1 (fun k hk => ?_)
        obtain ⟨p1, p2⟩ := poly_parts (h2 k hk)
        have := hpb k hk
        refine ⟨by omega, this, fun i hi => ?_⟩
        have := p2 i hi
        omega
set_option maxRecDepth 100000 in
theorem NegCipher_any (N T E : Int) (xs : List Int) (xsss : List (List (List Int))) (v u : Value) (w : World) (hv : Row w v xs) (hl : xs.length ≤ 9223372036854775807) (hx : ∀ x ∈ xs, -9223372036854775808 ≤ x ∧ x ≤ 9223372036854775807) (hu : RowT w u xsss) (hs : xsss.length ≤ 9223372036854775807) (hsr : ∀ r ∈ xsss, r.length ≤ 9223372036854775807 ∧ ∀ q ∈ r, q.length ≤ 9223372036854775807) (hP : PrsW w) (hT : TabW w) :
    Calls Tryz.prog 6 #[.agg #[.int .i64 N, .int .i64 T, .int .i64 E, v], .agg #[u]] w fun e w' => e = .returned (.bool true) ∧ Old w w' := by
  obtain ⟨a0, c0, rfl⟩ := hv.slice
  obtain ⟨a1, c1, eu⟩ := hu.slice
  subst eu
  have bnd : ∀ {A : Prop}, ¬ leftN 1048576 xs.length < 0 → ¬ leftTT (leftN 1048576 xs.length) xsss < 0 → (xs.length ≤ 1048576 → xsss.length ≤ 1048576 → (∀ r ∈ xsss, r.length ≤ 1048576 ∧ ∀ q ∈ r, q.length ≤ 1048576) → offT xsss xsss.length ≤ 1048576 → A) → A := fun h0 h1 k => by
    obtain ⟨q1, q2, q3⟩ := leftN_ok h0 (by omega)
    obtain ⟨p1, p2, p3, p4, p5⟩ := leftTT_ok q3 h1
    exact k (by omega) (by omega) (fun r hr => by
      have := p5 r hr
      exact ⟨by omega, fun q hq => by have := this.2 q hq; omega⟩) (by omega)
  obtain ⟨Z, ok, hy, hn, z1, z2⟩ : ∃ (Z : List (List (List Int))) (ok : Bool), ((prB N T E xs && ciB N xs xsss) = true → Z = negZ xs xsss ∧ ok = true) ∧ ((prB N T E xs && ciB N xs xsss) = false → Z = [] ∧ ok = false) ∧ Z.length ≤ 3 ∧ ∀ r ∈ Z, r.length ≤ 6 ∧ ∀ q ∈ r, q.length ≤ 16 := by
    cases h : (prB N T E xs && ciB N xs xsss)
    · exact ⟨[], false, (fun h => by cases h), (fun _ => ⟨rfl, rfl⟩), by simp, fun r hr => by cases hr⟩
    · rw [Bool.and_eq_true] at h
      obtain ⟨hz4, hbb, _⟩ := sp_ring (prB_sp h.1)
      have := negZ_row (by omega) (bas_at hbb).1.2 h.2
      exact ⟨negZ xs xsss, true, (fun _ => ⟨rfl, rfl⟩), (fun h => by cases h), this.1, this.2⟩
  have ho : offT Z Z.length ≤ 288 := by
    have := offT_bd Z 6 16 z2
    omega
  have z3 : ∀ r ∈ Z, r.length ≤ 1048576 ∧ ∀ q ∈ r, q.length ≤ 1048576 := fun r hr => by
    have := z2 r hr
    exact ⟨by omega, fun q hq => by have := this.2 q hq; omega⟩
  refine law9_NegCipher w N T E xs.length a0 c0 xsss.length a1 c1 Z.length ok (leftN 1048576 xs.length) (leftTT (leftN 1048576 xs.length) xsss)
    (fun W g => kp_sz N T E a0 xs.length c0 1048576 W hl (by omega) (by omega))
    (fun h0 W g => by
      obtain ⟨q1, q2, q3⟩ := leftN_ok h0 (by omega)
      exact kc_sz xsss _ _ W (hu.old g) hs hsr q3 (by omega))
    (XP N T E xs) (far_XP N T E xs) shape_XP (fun h0 h1 W g => bnd h0 h1 fun h3 _ _ _ => kp_to N T E xs _ W (hv.old g) h3) (fun h0 h1 W lo hi g lo' hi' g' k k' => bnd h0 h1 fun h3 _ _ _ => kp_eq N T E xs W lo hi g lo' hi' g' k k' (by omega))
    (1 + xs.length) (by omega) (fun h0 h1 W lo hi g k => bnd h0 h1 fun h3 _ _ _ => kp_mark N T E xs 1 W lo hi g k h3 (by omega) (by omega))
    (XC xsss) (far_XC xsss) shape_XC (fun h0 h1 W g => bnd h0 h1 fun _ h3 h4 _ => kc_to xsss _ W (hu.old g) h3 h4) (fun h0 h1 W lo hi g lo' hi' g' k k' => bnd h0 h1 fun _ h3 h4 _ => kc_eq xsss W lo hi g lo' hi' g' k k' h3 h4)
    (1 + xs.length + offT xsss xsss.length) (by omega) (fun h0 h1 W lo hi g k => bnd h0 h1 fun h2 h3 h4 h5 => (kc_mark xsss (1 + xs.length) W lo hi g k h3 h4 (by omega) (by omega)).mono (fun e w' h => ⟨h.1, h.2.1⟩))
    (XC Z) (far_XC _) shape_XC (XC Z) (far_XC _) shape_XC (XCm 1 Z) (far_XCm _ _) shape_XCm
    (fun h0 h1 W lo hi g lo1 hi1 g1 k k1 q => bnd h0 h1 fun _ h3 h4 _ => ?_) (fun h0 h1 W lo hi g lo1 hi1 g1 k k1 q => bnd h0 h1 fun _ h3 h4 _ => ?_)
    (fun h0 h1 W lo hi p lo' hi' p' k k' => kc_eq Z W lo hi p lo' hi' p' k k' (by omega) z3)
    (1 + offT Z Z.length) (by omega) (fun h0 h1 W lo hi p k => kc_mark Z 1 W lo hi p k (by omega) z3 (by omega) (by omega))
    (fun h0 h1 W lo hi p k => kc_held Z 1 W lo hi p k (by omega) z3 (by omega) (by omega))
  · obtain ⟨a, c, rfl, o, f⟩ := k
    obtain ⟨a', c', rfl, o'⟩ := k1
    exact spec_NegCipher_any N T E xs xsss _ _ W o.row f o'.rowT hl h3 h4 hx Z ok hy hn
  · obtain ⟨a, c, rfl, o, f⟩ := k
    obtain ⟨a', c', rfl, o'⟩ := k1
    exact impl_NegCipher N T E xs xsss _ _ W lo1 hi1 (hP.old q) (hT.old q) o.row f o' hl h3 h4 Z ok hy hn
end Go.Proofs.YtakleianimcmdaaGreatDoor
