/- Proved: the statement on WholesOf at every space and rows, in a world in which the two tables are laid. -/
import Derived.Test.YtfgooclnohnkmaaGreatDoorLawWholesOf
import Derived.Test.YtfgooclnohnkmaaGreatDoorNG
import Derived.Test.YtfgooclnohnkmaaGreatDoorKRows4
import Derived.Test.YtfgooclnohnkmaaGreatDoorWog
import Derived.Test.YtfgooclnohnkmaaGreatDoorWos
namespace Go.Proofs.YtfgooclnohnkmaaGreatDoor
open Go.ChangeShapes Go.WideShapes Go.ChangeAt Go.RowKit
set_option linter.unusedVariables false
set_option linter.unusedSimpArgs false
open M1 M2
theorem invL_ltW (P N R : Nat) (xs : List Nat) (hP : 0 < P) : ∀ x ∈ invL P N R xs, x < P := fun x hx => by
  unfold invL at hx
  rw [List.mem_map] at hx
  obtain ⟨i, _, rfl⟩ := hx
  exact Nat.mod_lt _ hP
theorem toZ_bd {P : Nat} {ys : List Nat} (h : ∀ y ∈ ys, y < P) (i : Nat) (hi : i < ys.length) : 0 ≤ (toZ ys).getD i 0 ∧ (toZ ys).getD i 0 < (P : Int) := by
  have e : (toZ ys).getD i 0 = ((ys[i] : Nat) : Int) := by simp [toZ, List.getD, hi]
  have := h ys[i] (List.getElem_mem hi)
  rw [e]
  omega
theorem gr_back {N : Int} {ps : List Int} {xss : List (List Int)} {Rf : Nat → Int} (n : Bool) (hR : ∀ k, RingOk (ps.getD k 0) N → ((0 ≤ Rf k ∧ Rf k < ps.getD k 0) ∧ (∀ W, PrsW W → TabW W → Calls Tryz.prog 163 #[.int .i64 (ps.getD k 0), .int .i64 N] W fun e w' => e = .returned (.tuple #[.agg #[.int .i64 (ps.getD k 0), .int .i64 N, .int .i64 (Rf k)], .bool true]) ∧ Old W w')) ∧ (∀ W, Calls Tryz.prog 185 #[.int .i64 (ps.getD k 0), .int .i64 N] W fun e w' => e = .returned (.tuple #[.agg #[.int .i64 (ps.getD k 0), .int .i64 N, .int .i64 (Rf k)], .bool true]) ∧ Old W w') ∧ ∃ P M R : Nat, ps.getD k 0 = P ∧ N = M ∧ Rf k = R ∧ R < P ∧ RingOk P M ∧ (F1.Pr P → Rt P (2 * M) R)) (h : grB N ps xss = true) (Nn : Nat) (hn : N = Nn) :
    Gr Nn ps (mkL (backF N n) ps Rf xss) := by
  have hs : spB N ps = true := by
    unfold grB at h
    rw [Bool.and_eq_true] at h
    exact h.1
  refine ⟨(sp_ring hs).2.1, mkL_len _ _ _ _, fun j hj => ?_⟩
  rw [mkL_get _ _ _ _ j hj]
  obtain ⟨P, M, R, ys, e1, e2, e3, e4, hlt, hP2, hS, la, ha, r1, r2⟩ := row_open hR h j hj
  have hM : M = Nn := by omega
  subst hM
  rw [e1, e3, e4, e2]
  unfold backF
  cases n
  · simp only [Bool.false_eq_true, if_false]
    refine ⟨by rw [toZ_len, la], fun i hi => toZ_bd ha i (by omega)⟩
  · simp only [if_true]
    rw [bkZ_toZ]
    refine ⟨by rw [toZ_len, invL_len], fun i hi => toZ_bd (invL_ltW P M R ys (by omega)) i (by rw [invL_len]; exact hi)⟩
set_option maxRecDepth 100000 in
theorem WholesOf_any (N : Int) (ps : List Int) (n : Bool) (xss : List (List Int)) (v u : Value) (w : World) (hv : Row w v ps) (hl : ps.length ≤ 9223372036854775807) (hx : ∀ x ∈ ps, -9223372036854775808 ≤ x ∧ x ≤ 9223372036854775807) (hu : RowS w u xss) (hlx : xss.length ≤ 9223372036854775807) (hlr : ∀ r ∈ xss, r.length ≤ 9223372036854775807) (hP : PrsW w) (hT : TabW w) :
    Calls Tryz.prog 5 #[.agg #[.int .i64 N, v], .agg #[.bool n, u]] w fun e w' => e = .returned (.bool true) ∧ Old w w' := by
  obtain ⟨Rf, hR⟩ := Rings_both N ps
  obtain ⟨a0, c0, rfl⟩ := hv.slice
  obtain ⟨a1, c1, rfl⟩ := hu.slice
  have bnd : ∀ {A : Prop}, ¬ leftN 1048576 ps.length < 0 → ¬ leftSS (leftN 1048576 ps.length) xss < 0 → (ps.length ≤ 1048576 → xss.length ≤ 1048576 → (∀ r ∈ xss, r.length ≤ 1048576) → offL xss xss.length ≤ 1048576 → A) → A := fun h1 h2 k => by
    obtain ⟨q1, q2, q3⟩ := leftN_ok h1 (by omega)
    obtain ⟨p1, p2, p3, p4⟩ := leftSS_ok q3 h2
    have o1 := offL_leftSS q3 h2
    exact k (by omega) (by omega) (fun r hr => by have := p4 r hr; omega) (by omega)
  obtain ⟨bs, yss, ok, hb, z1, z2, hcase⟩ : ∃ (bs : List Bool) (yss : List (List Int)) (ok : Bool), bs.length = yss.length ∧ yss.length ≤ 16 ∧ (∀ r ∈ yss, r.length ≤ 7) ∧ ((grB N ps xss = false ∧ bs = [] ∧ yss = [] ∧ ok = false) ∨ (grB N ps xss = true ∧ ok = true ∧ ∃ Nn : Nat, N = Nn ∧ (1 ≤ Nn ∧ Nn ≤ 16) ∧ (1 ≤ ps.length ∧ ps.length ≤ 6) ∧ Gr Nn ps (mkL (backF N n) ps Rf xss) ∧ bs = whB Nn ps (mkL (backF N n) ps Rf xss) ∧ yss = whX Nn ps (mkL (backF N n) ps Rf xss))) := by
    cases h : grB N ps xss
    · exact ⟨[], [], false, rfl, by simp, (fun r hr => by cases hr), .inl ⟨rfl, rfl, rfl, rfl⟩⟩
    · have hs : spB N ps = true := by
        unfold grB at h
        rw [Bool.and_eq_true] at h
        exact h.1
      have hN := (sp_ring hs).1
      have hb := (bas_at (sp_ring hs).2.1).1
      have hG := gr_back n hR h N.toNat (by omega)
      exact ⟨_, _, true, by rw [whB_len, whX_len], by rw [whX_len]; omega, whX_row hG, .inr ⟨rfl, rfl, N.toNat, by omega, by omega, hb, hG, rfl, rfl⟩⟩
  have ho : offW yss yss.length ≤ 128 := by
    have := offW_row z2
    omega
  have z2' : ∀ r ∈ yss, r.length ≤ 1048576 := fun r hr => by have := z2 r hr; omega
  refine law9_WholesOf w N ps.length a0 c0 n xss.length a1 c1 yss.length ok (leftN 1048576 ps.length) (leftSS (leftN 1048576 ps.length) xss)
    (fun W g => ks_sz N a0 ps.length c0 1048576 W hl (by omega) (by omega))
    (fun h W g => by
      obtain ⟨q1, q2, q3⟩ := leftN_ok h (by omega)
      exact kr_sz n xss _ _ W (hu.old g) hlx hlr q3 (by omega))
    (XS N ps) (far_XS N ps) shape_XS (fun h1 h2 W g => bnd h1 h2 fun d1 d2 d3 d6 => ks_to N ps _ W (hv.old g) d1) (fun h1 h2 W lo hi g lo' hi' g' k k' => bnd h1 h2 fun d1 d2 d3 d6 => ks_eq N ps W lo hi g lo' hi' g' k k' (by omega))
    (1 + ps.length) (by omega) (fun h1 h2 W lo hi g k => bnd h1 h2 fun d1 d2 d3 d6 => ks_mark N ps 1 W lo hi g k d1 (by omega) (by omega))
    (XR n xss) (far_XR n xss) shape_XR (fun h1 h2 W g => bnd h1 h2 fun d1 d2 d3 d6 => kr_to n xss _ W (hu.old g) d2 d3) (fun h1 h2 W lo hi g lo' hi' g' k k' => bnd h1 h2 fun d1 d2 d3 d6 => kr_eq n xss W lo hi g lo' hi' g' k k' d2 d3)
    (1 + ps.length + offL xss xss.length) (by omega) (fun h1 h2 W lo hi g k => bnd h1 h2 fun d1 d2 d3 d6 => (kr_mark n xss _ W lo hi g k d2 d3 (by omega) (by omega)).mono (fun e w' h => ⟨h.1, h.2.1⟩))
    (YW bs yss) (far_YW _ _) shape_YW (YW bs yss) (far_YW _ _) shape_YW (YWm 1 yss) (far_YWm _ _) shape_YWm
    (fun h1 h2 W lo0 hi0 g0 lo1 hi1 g1 k0 k1 q => bnd h1 h2 fun d1 d2 d3 d6 => ?_) (fun h1 h2 W lo0 hi0 g0 lo1 hi1 g1 k0 k1 q => bnd h1 h2 fun d1 d2 d3 d6 => ?_)
    (fun h1 h2 W lo hi p lo' hi' p' k k' => yw_eq bs yss hb W lo hi p lo' hi' p' k k' (by omega) z2')
    (1 + offW yss yss.length) (by omega) (fun h1 h2 W lo hi p k => yw_mark bs yss 1 W lo hi p k (by omega) z2' (by omega) (by omega))
    (fun h1 h2 W lo hi p k => yw_held yss 1 W lo hi p k (by omega) z2' (by omega) (by omega))
  · obtain ⟨a, c, rfl, o, f⟩ := k0
    obtain ⟨a', c', rfl, o'⟩ := k1
    have cg := fun W' (g : Old W W') => spec_goodRows N ps n xss _ _ W' (o.row.old g) f (o'.rowS.old g) d1 hx d2 d3
    obtain ⟨hg, rfl, rfl, rfl⟩ | ⟨hg, rfl, Nn, hNn, hN, hps, hG, eb, ey⟩ := hcase
    · rw [hg] at cg
      exact spec_WholesOf_no N ps n xss _ _ _ W o.row cg
    · rw [hg] at cg
      refine spec_WholesOf_yes N ps n xss (mkL (backF N n) ps Rf xss) bs yss Nn _ _ _ W o.row hN (by rw [ey, whX_len]) (fun k hk W' u' hr => ?_) cg (fun W' g => (spec_l5Back_any N ps n xss Rf hR _ _ W' (o.row.old g) (o'.rowS.old g) hg).mono fun e w' h => ?_) (fun W' u' g hr => ?_)
      · rw [eb, ey, whB_get _ _ _ k hk, whX_get _ _ _ k hk] at *
        exact out_any _ (dig (ctN ps (mkL (backF N n) ps Rf xss) k)) u' W' hr (by have := ctN_cnt hG k hk; omega)
      · obtain ⟨v', rfl, g', o2⟩ := h
        obtain ⟨x, z, rfl⟩ := o2.slice
        exact ⟨_, _, _, rfl, g', o2.rowS⟩
      · rw [hNn] at hr hG eb ey ⊢
        rw [eb, ey]
        refine (spec_l5Wholes Nn ps _ _ u' W' (o.row.old g) hr hN hps hG).mono fun e w' h => ?_
        obtain ⟨v', rfl, g', o2⟩ := h
        obtain ⟨x, z, e⟩ := o2.slice
        rw [whX_len] at e
        subst e
        exact ⟨_, _, rfl, g', o2⟩
  · obtain ⟨a, c, rfl, o, f⟩ := k0
    obtain ⟨a', c', rfl, o'⟩ := k1
    obtain ⟨hg, rfl, rfl, rfl⟩ | ⟨hg, rfl, Nn, hNn, hN, hps, hG, eb, ey⟩ := hcase
    · exact impl_WholesOf_no N ps n xss _ _ _ W o.row (fun W' g => (impl_BackRows N ps n xss Rf hR _ _ W' _ _ ((hP.old q).old g) ((hT.old q).old g) (o.row.old g) f ((far_OwS xss).old o' g o'.1) d1 d2 d3).mono fun e w' h => h.2 hg)
    · rw [hNn] at hG eb ey ⊢
      rw [eb, ey]
      refine impl_WholesOf_yes Nn ps n xss _ _ _ _ W o.row f hN hps hG (fun W' g => ?_)
      rw [← hNn]
      exact (impl_BackRows N ps n xss Rf hR _ _ W' _ _ ((hP.old q).old g) ((hT.old q).old g) (o.row.old g) f ((far_OwS xss).old o' g o'.1) d1 d2 d3).mono fun e w' h => h.1 hg
end Go.Proofs.YtfgooclnohnkmaaGreatDoor
