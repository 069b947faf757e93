/- Proved: several texts in one: what each proves is said ahead of it. -/
import Derived.Test.YtglbegbhekcddaaDoorRw32
import Derived.Test.YtglbegbhekcddaaDoorRw12
import Derived.Test.YtglbegbhekcddaaDoorRw43
import Derived.Test.YtglbegbhekcddaaDoorRw15
/- Proved: all that the statement on rows asks of the functions, at any drawn space and rows. -/
namespace Go.Proofs.YtglbegbhekcddaaDoor
open Go.ChangeShapes Go.WideShapes Go.ChangeAt Go.RowKit
set_option linter.unusedVariables false
set_option linter.unusedSimpArgs false
def OwE (xss : List (List Int)) (W : World) (v : Value) : Prop := ∃ lo hi, OwS xss W lo hi v
theorem OwE.old {xss : List (List Int)} {W W' : World} {v : Value} (h : OwE xss W v) (q : Old W W') : OwE xss W' v := by
  obtain ⟨lo, hi, h⟩ := h
  exact ⟨lo, hi, (far_OwS xss).old h q h.1⟩
theorem OwE.rowS {xss : List (List Int)} {W : World} {v : Value} (h : OwE xss W v) : RowS W v xss := by
  obtain ⟨lo, hi, h⟩ := h
  exact h.rowS
structure RwK (w : World) (n : Int) (ls : List Int) (ah bh : Bool) (xss yss zss bx by' us ss ws : List (List Int)) (ch ok : Bool) : Prop where
  ki : (∀ W v u1 u2, Old w W → Row W v ls → Fit v → OwE xss W u1 → OwE yss W u2 → Calls Tryd.prog 5 #[.agg #[.int .i64 n, v], .agg #[.bool ah, u1], .agg #[.bool bh, u2]] W (Rs W ch zss ok))
  ks : (∀ W v u1 u2, Old w W → Row W v ls → Fit v → OwE xss W u1 → OwE yss W u2 → Calls Tryd.prog 6 #[.agg #[.int .i64 n, v], .agg #[.bool ah, u1], .agg #[.bool bh, u2]] W (Rs W ch zss ok))
  kc : ok = true → ch = ah
  bu : us.length ≤ 1048576 ∧ ∀ r ∈ us, r.length ≤ 1048576
  bb : bx.length ≤ 1048576 ∧ ∀ r ∈ bx, r.length ≤ 1048576
  kx : ok = true → (∀ W v u1, Old w W → Row W v ls → Fit v → OwE xss W u1 → Calls Tryd.prog 7 #[.agg #[.int .i64 n, v], .agg #[.bool ah, u1]] W (Rs W false bx true))
  ky : ok = true → (∀ W v u1, Old w W → Row W v ls → Fit v → OwE yss W u1 → Calls Tryd.prog 7 #[.agg #[.int .i64 n, v], .agg #[.bool bh, u1]] W (Rs W false by' true))
  ku : ok = true → (∀ W v u1 u2, Old w W → Row W v ls → Fit v → OwE bx W u1 → OwE by' W u2 → Calls Tryd.prog 5 #[.agg #[.int .i64 n, v], .agg #[.bool false, u1], .agg #[.bool false, u2]] W (Rs W false us true))
  kv : ok = true → (∀ W v u1, Old w W → Row W v ls → Fit v → OwE zss W u1 → Calls Tryd.prog 7 #[.agg #[.int .i64 n, v], .agg #[.bool ah, u1]] W (Rs W false us true))
  ka : ok = true → (∀ W v u1 u2, Old w W → Row W v ls → Fit v → OwE xss W u1 → OwE yss W u2 → Calls Tryd.prog 8 #[.agg #[.int .i64 n, v], .agg #[.bool ah, u1], .agg #[.bool bh, u2]] W (Rs W ah ss true))
  kl : ok = true → (∀ W v u1 u2, Old w W → Row W v ls → Fit v → OwE ss W u1 → OwE yss W u2 → Calls Tryd.prog 9 #[.agg #[.int .i64 n, v], .agg #[.bool ah, u1], .agg #[.bool bh, u2]] W (Rs W ah xss true))
  kw : ok = true → (∀ W v u1, Old w W → Row W v ls → Fit v → OwE bx W u1 → Calls Tryd.prog 10 #[.agg #[.int .i64 n, v], .agg #[.bool false, u1]] W (Rs W true ws true))
  kz : ok = true → (∀ W v u1, Old w W → Row W v ls → Fit v → OwE ws W u1 → Calls Tryd.prog 7 #[.agg #[.int .i64 n, v], .agg #[.bool true, u1]] W (Rs W false bx true))
set_option maxRecDepth 100000 in
set_option maxHeartbeats 8000000 in
theorem rw_all (w : World) (n : Int) (ls : List Int) (ah bh : Bool) (xss yss : List (List Int)) (hP : PrsW w) (hT : TabW w) (hl : ls.length ≤ 4) (hx : ∀ x ∈ ls, -9223372036854775808 ≤ x ∧ x ≤ 9223372036854775807) (h1 : xss.length ≤ 5) (h2 : yss.length ≤ 5) (h3 : ∀ r ∈ xss, r.length ≤ 33) (h4 : ∀ r ∈ yss, r.length ≤ 33) : ∃ zss bx by' us ss ws ch ok, RwK w n ls ah bh xss yss zss bx by' us ss ws ch ok := by
  obtain ⟨Rf, hR⟩ := Rings_rt n ls
  have hR' : RtsR n ls Rf := hR
  have b3 : ∀ r ∈ xss, r.length ≤ 1048576 := fun r hr => by have := h3 r hr; omega
  have b4 : ∀ r ∈ yss, r.length ≤ 1048576 := fun r hr => by have := h4 r hr; omega
  cases htw : twoB n ls ah bh xss yss
  · refine ⟨[], [], [], [], [], [], false, false, ⟨?_, ?_, (fun h => by cases h), ⟨by simp, fun r hr => by cases hr⟩, ⟨by simp, fun r hr => by cases hr⟩, (fun h => by cases h), (fun h => by cases h), (fun h => by cases h), (fun h => by cases h), (fun h => by cases h), (fun h => by cases h), (fun h => by cases h), (fun h => by cases h)⟩⟩
    · rintro W v u1 u2 g hv hf ⟨lo1, hi1, o1⟩ ⟨lo2, hi2, o2⟩
      exact (impl_MulRows n ls ah bh xss yss Rf hR v u1 u2 W lo1 hi1 lo2 hi2 (hP.old g) (hT.old g) hv hf o1 o2 (by omega) (by omega) b3 (by omega) b4).mono (fun e w' h => h.2 htw)
    · rintro W v u1 u2 g hv hf ⟨lo1, hi1, o1⟩ ⟨lo2, hi2, o2⟩
      exact spec_MulRows_no n ls ah bh xss yss v u1 u2 W hv hf o1.rowS o2.rowS (by omega) hx (by omega) b3 (by omega) b4 htw
  · obtain ⟨g1, g2, g3⟩ := two_of.1 htw
    have gx := gr_backR ah hR' g1
    have gy := gr_backR bh hR' g2
    have gz := gr_mulR hR' htw
    have gs := gr_addR hR' htw
    have txy : twoB n ls false false (mkL (backF n ah) ls Rf xss) (mkL (backF n bh) ls Rf yss) = true := two_of.2 ⟨gx, gy, rfl⟩
    have tss : twoB n ls ah bh (pairL addF ls xss yss) yss = true := two_of.2 ⟨gs, g2, g3⟩
    have txx : twoB n ls false false (mkL (backF n ah) ls Rf xss) (mkL (backF n ah) ls Rf xss) = true := two_of.2 ⟨gx, gx, rfl⟩
    have gw := gr_aheadR false hR' gx
    have gu := gr_mulR hR' txy
    have bnd : ∀ zss, grB n ls zss = true → zss.length ≤ 1048576 ∧ ∀ r ∈ zss, r.length ≤ 1048576 := fun zss hz => by
      obtain ⟨t1, t2, t3, t4, t5, t6⟩ := two_parts (two_of.2 ⟨hz, hz, (rfl : ah = ah)⟩)
      refine ⟨by omega, fun r hr => ?_⟩
      obtain ⟨k, hk, rfl⟩ := List.getElem_of_mem hr
      have h := (t6 k (by omega)).1
      have e : zss.getD k [] = zss[k] := by simp [List.getD, hk]
      rw [e] at h
      omega
    obtain ⟨x1, x2⟩ := bnd _ gx
    obtain ⟨y1, y2⟩ := bnd _ gy
    obtain ⟨z1, z2⟩ := bnd _ gz
    obtain ⟨s1, s2⟩ := bnd _ gs
    obtain ⟨v1, v2⟩ := bnd _ gw
    refine ⟨mk2 (timesF n ah) ls xss yss, mkL (backF n ah) ls Rf xss, mkL (backF n bh) ls Rf yss, mk2 (timesF n false) ls (mkL (backF n ah) ls Rf xss) (mkL (backF n bh) ls Rf yss), pairL addF ls xss yss, mkL (aheadF n false) ls Rf (mkL (backF n ah) ls Rf xss), ah, true, ⟨?_, ?_, fun _ => rfl, bnd _ gu, ⟨x1, x2⟩, fun _ => ?_, fun _ => ?_, fun _ => ?_, fun _ => ?_, fun _ => ?_, fun _ => ?_, fun _ => ?_, fun _ => ?_⟩⟩
    · rintro W v u1 u2 g hv hf ⟨lo1, hi1, o1⟩ ⟨lo2, hi2, o2⟩
      exact (impl_MulRows n ls ah bh xss yss Rf hR v u1 u2 W lo1 hi1 lo2 hi2 (hP.old g) (hT.old g) hv hf o1 o2 (by omega) (by omega) b3 (by omega) b4).mono (fun e w' h => h.1 htw)
    · rintro W v u1 u2 g hv hf ⟨lo1, hi1, o1⟩ ⟨lo2, hi2, o2⟩
      exact spec_MulRows_any n ls ah bh xss yss Rf hR v u1 u2 W hv hf o1.rowS o2.rowS (by omega) hx (by omega) b3 (by omega) b4 htw
    · rintro W v u1 g hv hf ⟨lo1, hi1, o1⟩
      exact (impl_BackRowsF n ls ah xss Rf hR v u1 W lo1 hi1 (hP.old g) (hT.old g) hv hf o1 (by omega) (by omega) b3).mono (fun e w' h => h.1 g1)
    · rintro W v u1 g hv hf ⟨lo1, hi1, o1⟩
      exact (impl_BackRowsF n ls bh yss Rf hR v u1 W lo1 hi1 (hP.old g) (hT.old g) hv hf o1 (by omega) (by omega) b4).mono (fun e w' h => h.1 g2)
    · rintro W v u1 u2 g hv hf ⟨lo1, hi1, o1⟩ ⟨lo2, hi2, o2⟩
      exact (impl_MulRows n ls false false _ _ Rf hR v u1 u2 W lo1 hi1 lo2 hi2 (hP.old g) (hT.old g) hv hf o1 o2 (by omega) x1 x2 y1 y2).mono (fun e w' h => h.1 txy)
    · rintro W v u1 g hv hf ⟨lo1, hi1, o1⟩
      rw [back_mulR hR' htw]
      exact (impl_BackRowsF n ls ah _ Rf hR v u1 W lo1 hi1 (hP.old g) (hT.old g) hv hf o1 (by omega) z1 z2).mono (fun e w' h => h.1 gz)
    · rintro W v u1 u2 g hv hf ⟨lo1, hi1, o1⟩ ⟨lo2, hi2, o2⟩
      exact (impl_AddRows n ls ah bh xss yss v u1 u2 W lo1 hi1 lo2 hi2 (hP.old g) (hT.old g) hv hf o1 o2 (by omega) (by omega) b3 (by omega) b4).mono (fun e w' h => h.1 htw)
    · rintro W v u1 u2 g hv hf ⟨lo1, hi1, o1⟩ ⟨lo2, hi2, o2⟩
      have c := (impl_SubRows n ls ah bh (pairL addF ls xss yss) yss v u1 u2 W lo1 hi1 lo2 hi2 (hP.old g) (hT.old g) hv hf o1 o2 (by omega) s1 s2 (by omega) b4).mono (fun e w' h => h.1 tss)
      rw [sub_addR hR' htw] at c
      exact c
    · rintro W v u1 g hv hf ⟨lo1, hi1, o1⟩
      exact (impl_AheadRowsF n ls false _ Rf hR v u1 W lo1 hi1 (hP.old g) (hT.old g) hv hf o1 (by omega) x1 x2).mono (fun e w' h => h.1 gx)
    · rintro W v u1 g hv hf ⟨lo1, hi1, o1⟩
      have c := (impl_BackRowsF n ls true (mkL (aheadF n false) ls Rf (mkL (backF n ah) ls Rf xss)) Rf hR v u1 W lo1 hi1 (hP.old g) (hT.old g) hv hf o1 (by omega) v1 v2).mono (fun e w' h => h.1 gw)
      rw [back_aheadR hR' txx] at c
      exact c
end Go.Proofs.YtglbegbhekcddaaDoor
/- Proved: the walk of the statement on rows, in a world in which the tables are laid. -/
namespace Go.Proofs.YtglbegbhekcddaaDoor
open Go.ChangeShapes Go.WideShapes Go.ChangeAt Go.RowKit
set_option linter.unusedVariables false
set_option linter.unusedSimpArgs false
set_option maxRecDepth 100000 in
set_option maxHeartbeats 8000000 in
theorem law_Rows (w : World) (code : Value) (len : Nat) (h : BysW w code len) (hl : len ≤ 9223372036854775807) (hP : PrsW w) (hT : TabW w) :
    Calls Tryd.prog 3 #[code] w fun e w' => e = .returned (.bool true) ∧ Old w w' := by
  have KD : Hid (Calls Tryd.prog 4 #[code] w (ThR w)) := drawMulRows_c w code len h hl
  obtain ⟨ca, ccap, hcode⟩ : ∃ ca ccap, code = .slice ca len ccap := by
    rcases h with ⟨a, cap, e, e2⟩ | ⟨b, o, cap, e, _⟩
    · exact ⟨a, cap, by rw [e, e2]⟩
    · exact ⟨_, cap, e⟩
  subst hcode
  have HP : Hid (PrsW w) := hP
  have HT : Hid (TabW w) := hT
  clear h hP hT
  by_cases hbig : (1048576 : Int) < (len : Int)
  · have dL : decide ((1048576 : Int) < (len : Int)) = true := decide_eq_true hbig
    go_enter Tryd.func3, Tryd.ntmps3
    go_wp2_with fail
    go_ret
    exact ⟨rfl, Old.refl _⟩
  have dL : decide ((1048576 : Int) < (len : Int)) = false := decide_eq_false hbig
  go_enter Tryd.func3, Tryd.ntmps3
  go_wp2_with fail
  refine KD.out.mono ?_
  rintro e w1 ⟨n, p, cp, ls, ah, a, ca, xss, bh, b, cb, yss, rfl, g1, hn, hl4, hpr, hcp, ⟨hx5, hy5⟩, hxr, hyr, rp, oa, ob⟩
  obtain ⟨zss, bx, by', us, ss, ws, ch, ok, K⟩ := rw_all w n ls ah bh xss yss HP.out HT.out (by omega) (fun x hx => by have := (hpr x hx).1; have := (hpr x hx).2; omega) (by omega) (by omega) hxr hyr
  have HK : Hid (RwK w n ls ah bh xss yss zss bx by' us ss ws ch ok) := K
  have HXB : Hid (xss.length ≤ 1048576 ∧ ∀ r ∈ xss, r.length ≤ 1048576) := ⟨by omega, fun r hr => by have := hxr r hr; omega⟩
  have R1 : Hid (Row w1 (.slice p ls.length cp) ls) := rp.1
  have EA1 : Hid (OwE xss w1 (.slice a xss.length ca)) := ⟨_, _, oa⟩
  have EB1 : Hid (OwE yss w1 (.slice b yss.length cb)) := ⟨_, _, ob⟩
  obtain ⟨lp, hlp⟩ : ∃ lp, ls.length = lp := ⟨_, rfl⟩
  obtain ⟨la, hla⟩ : ∃ la, xss.length = la := ⟨_, rfl⟩
  obtain ⟨lb, hlb⟩ : ∃ lb, yss.length = lb := ⟨_, rfl⟩
  rw [hlp] at R1 hcp
  rw [hla] at EA1
  rw [hlb] at EB1
  rw [hlp, hla, hlb]
  have fP : Fit (.slice p lp cp) := hcp
  have O1 : Hid (Old w w1) := g1
  clear K KD hn hl4 hpr hcp hx5 hy5 hxr hyr rp oa ob hlp hla hlb g1 HP HT
  obtain ⟨B1, hB1⟩ : ∃ B1 : World, ((w1.alloc (.cells #[.int .i64 n, .slice p lp cp] 25)).alloc (.cells #[.bool ah, .slice a la ca] 28)).alloc (.cells #[.bool bh, .slice b lb cb] 28) = B1 := ⟨_, rfl⟩
  have GB : Old w1 B1 := by rw [← hB1]; exact (((Old.refl w1).alloc _).alloc _).alloc _
  have O : Hid (Old w B1) := Old.trans O1.out GB
  have XS : Hid (Bk B1 w1.heap.size #[.int .i64 n, .slice p lp cp] 25) := by rw [← hB1]; exact ((Bk.new' w1 _ _ rfl).alloc _).alloc _
  have XA : Hid (Bk B1 (w1.heap.size + 1) #[.bool ah, .slice a la ca] 28) := by rw [← hB1]; exact (Bk.new' _ _ _ (by simp)).alloc _
  have XB : Hid (Bk B1 (w1.heap.size + 2) #[.bool bh, .slice b lb cb] 28) := by rw [← hB1]; exact Bk.new' _ _ _ (by simp)
  have RP : Hid (Row B1 (.slice p lp cp) ls) := R1.out.old GB
  have EA : Hid (OwE xss B1 (.slice a la ca)) := EA1.out.old GB
  have EB : Hid (OwE yss B1 (.slice b lb cb)) := EB1.out.old GB
  obtain ⟨ks, hks⟩ : ∃ ks, w1.heap.size = ks := ⟨_, rfl⟩
  rw [hks] at XS XA XB
  clear GB O1 R1 EA1 EB1
  have c0S := XS.out.c (i := 0) rfl
  have c1S := XS.out.c (i := 1) rfl
  have c0A := XA.out.c (i := 0) rfl
  have c1A := XA.out.c (i := 1) rfl
  have c0B := XB.out.c (i := 0) rfl
  have c1B := XB.out.c (i := 1) rfl
  go_wp2_with fail
  refine (HK.out.ki _ _ _ _ O.out RP.out fP EA.out EB.out).mono ?_
  rintro e w2 ⟨r2, rfl, g2, a2, c2, rfl, o2⟩
  have EC : Hid (OwE zss w2 (.slice a2 zss.length c2)) := ⟨_, _, o2⟩
  obtain ⟨l2, hl2⟩ : ∃ l, zss.length = l := ⟨_, rfl⟩
  rw [hl2] at EC
  rw [hl2]
  obtain ⟨B2, hB2⟩ : ∃ B : World, w2.alloc (.cells #[.bool ch, .slice a2 l2 c2] 28) = B := ⟨_, rfl⟩
  have GB : Old B1 B2 := by rw [← hB2]; exact g2.alloc _
  have XC : Hid (Bk B2 w2.heap.size #[.bool ch, .slice a2 l2 c2] 28) := by rw [← hB2]; exact Bk.new' w2 _ _ rfl
  replace EC : Hid (OwE zss B2 (.slice a2 l2 c2)) := by rw [← hB2]; exact EC.out.old ((Old.refl w2).alloc _)
  replace O : Hid (Old w B2) := Old.trans O.out GB
  replace RP : Hid (Row B2 (.slice p lp cp) ls) := RP.out.old GB
  replace XS : Hid (Bk B2 ks #[.int .i64 n, .slice p lp cp] 25) := XS.out.old GB
  replace XA : Hid (Bk B2 (ks + 1) #[.bool ah, .slice a la ca] 28) := XA.out.old GB
  replace XB : Hid (Bk B2 (ks + 2) #[.bool bh, .slice b lb cb] 28) := XB.out.old GB
  replace EA : Hid (OwE xss B2 (.slice a la ca)) := EA.out.old GB
  replace EB : Hid (OwE yss B2 (.slice b lb cb)) := EB.out.old GB
  obtain ⟨k2, hk2⟩ : ∃ k, w2.heap.size = k := ⟨_, rfl⟩
  rw [hk2] at XC
  clear GB g2 o2 hl2 c0S c1S c0A c1A c0B c1B hB1 hks
  have c0S := XS.out.c (i := 0) rfl
  have c1S := XS.out.c (i := 1) rfl
  have c0A := XA.out.c (i := 0) rfl
  have c1A := XA.out.c (i := 1) rfl
  have c0B := XB.out.c (i := 0) rfl
  have c1B := XB.out.c (i := 1) rfl
  go_wp2_with fail
  refine (HK.out.ks _ _ _ _ O.out RP.out fP EA.out EB.out).mono ?_
  rintro e w3 ⟨r3, rfl, g3, a3, c3, rfl, o3⟩
  have ED : Hid (OwE zss w3 (.slice a3 zss.length c3)) := ⟨_, _, o3⟩
  obtain ⟨l3, hl3⟩ : ∃ l, zss.length = l := ⟨_, rfl⟩
  rw [hl3] at ED
  rw [hl3]
  obtain ⟨B3, hB3⟩ : ∃ B : World, w3.alloc (.cells #[.bool ch, .slice a3 l3 c3] 28) = B := ⟨_, rfl⟩
  have GB : Old B2 B3 := by rw [← hB3]; exact g3.alloc _
  have XD : Hid (Bk B3 w3.heap.size #[.bool ch, .slice a3 l3 c3] 28) := by rw [← hB3]; exact Bk.new' w3 _ _ rfl
  replace ED : Hid (OwE zss B3 (.slice a3 l3 c3)) := by rw [← hB3]; exact ED.out.old ((Old.refl w3).alloc _)
  replace O : Hid (Old w B3) := Old.trans O.out GB
  replace RP : Hid (Row B3 (.slice p lp cp) ls) := RP.out.old GB
  replace XS : Hid (Bk B3 ks #[.int .i64 n, .slice p lp cp] 25) := XS.out.old GB
  replace XA : Hid (Bk B3 (ks + 1) #[.bool ah, .slice a la ca] 28) := XA.out.old GB
  replace XB : Hid (Bk B3 (ks + 2) #[.bool bh, .slice b lb cb] 28) := XB.out.old GB
  replace XC : Hid (Bk B3 k2 #[.bool ch, .slice a2 l2 c2] 28) := XC.out.old GB
  replace EA : Hid (OwE xss B3 (.slice a la ca)) := EA.out.old GB
  replace EB : Hid (OwE yss B3 (.slice b lb cb)) := EB.out.old GB
  replace EC : Hid (OwE zss B3 (.slice a2 l2 c2)) := EC.out.old GB
  obtain ⟨k3, hk3⟩ : ∃ k, w3.heap.size = k := ⟨_, rfl⟩
  rw [hk3] at XD
  clear GB g3 o3 hl3 c0S c1S c0A c1A c0B c1B hB2 hk2
  have dn : (ok != ok) = false := by simp
  cases ok
  · go_wp2_with fail
    go_ret
    exact ⟨rfl, O.out⟩
  obtain rfl := HK.out.kc rfl
  have c0S := XS.out.c (i := 0) rfl
  have c1S := XS.out.c (i := 1) rfl
  have c0A := XA.out.c (i := 0) rfl
  have c1A := XA.out.c (i := 1) rfl
  go_wp2_with fail
  refine (HK.out.kx rfl _ _ _ O.out RP.out fP EA.out).mono ?_
  rintro e w4 ⟨r4, rfl, g4, a4, c4, rfl, o4⟩
  have EX : Hid (OwE bx w4 (.slice a4 bx.length c4)) := ⟨_, _, o4⟩
  obtain ⟨l4, hl4⟩ : ∃ l, bx.length = l := ⟨_, rfl⟩
  rw [hl4] at EX
  rw [hl4]
  obtain ⟨B4, hB4⟩ : ∃ B : World, w4.alloc (.cells #[.bool false, .slice a4 l4 c4] 28) = B := ⟨_, rfl⟩
  have GB : Old B3 B4 := by rw [← hB4]; exact g4.alloc _
  have XX : Hid (Bk B4 w4.heap.size #[.bool false, .slice a4 l4 c4] 28) := by rw [← hB4]; exact Bk.new' w4 _ _ rfl
  replace EX : Hid (OwE bx B4 (.slice a4 l4 c4)) := by rw [← hB4]; exact EX.out.old ((Old.refl w4).alloc _)
  replace O : Hid (Old w B4) := Old.trans O.out GB
  replace RP : Hid (Row B4 (.slice p lp cp) ls) := RP.out.old GB
  replace XS : Hid (Bk B4 ks #[.int .i64 n, .slice p lp cp] 25) := XS.out.old GB
  replace XA : Hid (Bk B4 (ks + 1) #[.bool ch, .slice a la ca] 28) := XA.out.old GB
  replace XB : Hid (Bk B4 (ks + 2) #[.bool bh, .slice b lb cb] 28) := XB.out.old GB
  replace XC : Hid (Bk B4 k2 #[.bool ch, .slice a2 l2 c2] 28) := XC.out.old GB
  replace XD : Hid (Bk B4 k3 #[.bool ch, .slice a3 l3 c3] 28) := XD.out.old GB
  replace EA : Hid (OwE xss B4 (.slice a la ca)) := EA.out.old GB
  replace EB : Hid (OwE yss B4 (.slice b lb cb)) := EB.out.old GB
  replace EC : Hid (OwE zss B4 (.slice a2 l2 c2)) := EC.out.old GB
  replace ED : Hid (OwE zss B4 (.slice a3 l3 c3)) := ED.out.old GB
  obtain ⟨k4, hk4⟩ : ∃ k, w4.heap.size = k := ⟨_, rfl⟩
  rw [hk4] at XX
  clear GB g4 o4 hl4 c0S c1S c0A c1A hB3 hk3
  have c0S := XS.out.c (i := 0) rfl
  have c1S := XS.out.c (i := 1) rfl
  have c0B := XB.out.c (i := 0) rfl
  have c1B := XB.out.c (i := 1) rfl
  go_wp2_with fail
  refine (HK.out.ky rfl _ _ _ O.out RP.out fP EB.out).mono ?_
  rintro e w5 ⟨r5, rfl, g5, a5, c5, rfl, o5⟩
  have EY : Hid (OwE by' w5 (.slice a5 by'.length c5)) := ⟨_, _, o5⟩
  obtain ⟨l5, hl5⟩ : ∃ l, by'.length = l := ⟨_, rfl⟩
  rw [hl5] at EY
  rw [hl5]
  obtain ⟨B5, hB5⟩ : ∃ B : World, w5.alloc (.cells #[.bool false, .slice a5 l5 c5] 28) = B := ⟨_, rfl⟩
  have GB : Old B4 B5 := by rw [← hB5]; exact g5.alloc _
  have XY : Hid (Bk B5 w5.heap.size #[.bool false, .slice a5 l5 c5] 28) := by rw [← hB5]; exact Bk.new' w5 _ _ rfl
  replace EY : Hid (OwE by' B5 (.slice a5 l5 c5)) := by rw [← hB5]; exact EY.out.old ((Old.refl w5).alloc _)
  replace O : Hid (Old w B5) := Old.trans O.out GB
  replace RP : Hid (Row B5 (.slice p lp cp) ls) := RP.out.old GB
  replace XS : Hid (Bk B5 ks #[.int .i64 n, .slice p lp cp] 25) := XS.out.old GB
  replace XA : Hid (Bk B5 (ks + 1) #[.bool ch, .slice a la ca] 28) := XA.out.old GB
  replace XB : Hid (Bk B5 (ks + 2) #[.bool bh, .slice b lb cb] 28) := XB.out.old GB
  replace XC : Hid (Bk B5 k2 #[.bool ch, .slice a2 l2 c2] 28) := XC.out.old GB
  replace XD : Hid (Bk B5 k3 #[.bool ch, .slice a3 l3 c3] 28) := XD.out.old GB
  replace XX : Hid (Bk B5 k4 #[.bool false, .slice a4 l4 c4] 28) := XX.out.old GB
  replace EA : Hid (OwE xss B5 (.slice a la ca)) := EA.out.old GB
  replace EB : Hid (OwE yss B5 (.slice b lb cb)) := EB.out.old GB
  replace EC : Hid (OwE zss B5 (.slice a2 l2 c2)) := EC.out.old GB
  replace ED : Hid (OwE zss B5 (.slice a3 l3 c3)) := ED.out.old GB
  replace EX : Hid (OwE bx B5 (.slice a4 l4 c4)) := EX.out.old GB
  obtain ⟨k5, hk5⟩ : ∃ k, w5.heap.size = k := ⟨_, rfl⟩
  rw [hk5] at XY
  clear GB g5 o5 hl5 c0S c1S c0B c1B hB4 hk4
  have c0S := XS.out.c (i := 0) rfl
  have c1S := XS.out.c (i := 1) rfl
  have c0X := XX.out.c (i := 0) rfl
  have c1X := XX.out.c (i := 1) rfl
  have c0Y := XY.out.c (i := 0) rfl
  have c1Y := XY.out.c (i := 1) rfl
  go_wp2_with fail
  refine (HK.out.ku rfl _ _ _ _ O.out RP.out fP EX.out EY.out).mono ?_
  rintro e w6 ⟨r6, rfl, g6, a6, c6, rfl, o6⟩
  have EU : Hid (OwE us w6 (.slice a6 us.length c6)) := ⟨_, _, o6⟩
  obtain ⟨l6, hl6⟩ : ∃ l, us.length = l := ⟨_, rfl⟩
  rw [hl6] at EU
  rw [hl6]
  obtain ⟨B6, hB6⟩ : ∃ B : World, w6.alloc (.cells #[.bool false, .slice a6 l6 c6] 28) = B := ⟨_, rfl⟩
  have GB : Old B5 B6 := by rw [← hB6]; exact g6.alloc _
  have XU : Hid (Bk B6 w6.heap.size #[.bool false, .slice a6 l6 c6] 28) := by rw [← hB6]; exact Bk.new' w6 _ _ rfl
  replace EU : Hid (OwE us B6 (.slice a6 l6 c6)) := by rw [← hB6]; exact EU.out.old ((Old.refl w6).alloc _)
  replace O : Hid (Old w B6) := Old.trans O.out GB
  replace RP : Hid (Row B6 (.slice p lp cp) ls) := RP.out.old GB
  replace XS : Hid (Bk B6 ks #[.int .i64 n, .slice p lp cp] 25) := XS.out.old GB
  replace XA : Hid (Bk B6 (ks + 1) #[.bool ch, .slice a la ca] 28) := XA.out.old GB
  replace XB : Hid (Bk B6 (ks + 2) #[.bool bh, .slice b lb cb] 28) := XB.out.old GB
  replace XC : Hid (Bk B6 k2 #[.bool ch, .slice a2 l2 c2] 28) := XC.out.old GB
  replace XD : Hid (Bk B6 k3 #[.bool ch, .slice a3 l3 c3] 28) := XD.out.old GB
  replace XX : Hid (Bk B6 k4 #[.bool false, .slice a4 l4 c4] 28) := XX.out.old GB
  replace XY : Hid (Bk B6 k5 #[.bool false, .slice a5 l5 c5] 28) := XY.out.old GB
  replace EA : Hid (OwE xss B6 (.slice a la ca)) := EA.out.old GB
  replace EB : Hid (OwE yss B6 (.slice b lb cb)) := EB.out.old GB
  replace EC : Hid (OwE zss B6 (.slice a2 l2 c2)) := EC.out.old GB
  replace ED : Hid (OwE zss B6 (.slice a3 l3 c3)) := ED.out.old GB
  replace EX : Hid (OwE bx B6 (.slice a4 l4 c4)) := EX.out.old GB
  replace EY : Hid (OwE by' B6 (.slice a5 l5 c5)) := EY.out.old GB
  obtain ⟨k6, hk6⟩ : ∃ k, w6.heap.size = k := ⟨_, rfl⟩
  rw [hk6] at XU
  clear GB g6 o6 hl6 c0S c1S c0X c1X c0Y c1Y hB5 hk5
  have c0S := XS.out.c (i := 0) rfl
  have c1S := XS.out.c (i := 1) rfl
  have c0C := XC.out.c (i := 0) rfl
  have c1C := XC.out.c (i := 1) rfl
  go_wp2_with fail
  refine (HK.out.kv rfl _ _ _ O.out RP.out fP EC.out).mono ?_
  rintro e w7 ⟨r7, rfl, g7, a7, c7, rfl, o7⟩
  have EV : Hid (OwE us w7 (.slice a7 us.length c7)) := ⟨_, _, o7⟩
  obtain ⟨l7, hl7⟩ : ∃ l, us.length = l := ⟨_, rfl⟩
  rw [hl7] at EV
  rw [hl7]
  obtain ⟨B7, hB7⟩ : ∃ B : World, w7.alloc (.cells #[.bool false, .slice a7 l7 c7] 28) = B := ⟨_, rfl⟩
  have GB : Old B6 B7 := by rw [← hB7]; exact g7.alloc _
  have XV : Hid (Bk B7 w7.heap.size #[.bool false, .slice a7 l7 c7] 28) := by rw [← hB7]; exact Bk.new' w7 _ _ rfl
  replace EV : Hid (OwE us B7 (.slice a7 l7 c7)) := by rw [← hB7]; exact EV.out.old ((Old.refl w7).alloc _)
  replace O : Hid (Old w B7) := Old.trans O.out GB
  replace RP : Hid (Row B7 (.slice p lp cp) ls) := RP.out.old GB
  replace XS : Hid (Bk B7 ks #[.int .i64 n, .slice p lp cp] 25) := XS.out.old GB
  replace XA : Hid (Bk B7 (ks + 1) #[.bool ch, .slice a la ca] 28) := XA.out.old GB
  replace XB : Hid (Bk B7 (ks + 2) #[.bool bh, .slice b lb cb] 28) := XB.out.old GB
  replace XC : Hid (Bk B7 k2 #[.bool ch, .slice a2 l2 c2] 28) := XC.out.old GB
  replace XD : Hid (Bk B7 k3 #[.bool ch, .slice a3 l3 c3] 28) := XD.out.old GB
  replace XX : Hid (Bk B7 k4 #[.bool false, .slice a4 l4 c4] 28) := XX.out.old GB
  replace XY : Hid (Bk B7 k5 #[.bool false, .slice a5 l5 c5] 28) := XY.out.old GB
  replace XU : Hid (Bk B7 k6 #[.bool false, .slice a6 l6 c6] 28) := XU.out.old GB
  replace EA : Hid (OwE xss B7 (.slice a la ca)) := EA.out.old GB
  replace EB : Hid (OwE yss B7 (.slice b lb cb)) := EB.out.old GB
  replace EC : Hid (OwE zss B7 (.slice a2 l2 c2)) := EC.out.old GB
  replace ED : Hid (OwE zss B7 (.slice a3 l3 c3)) := ED.out.old GB
  replace EX : Hid (OwE bx B7 (.slice a4 l4 c4)) := EX.out.old GB
  replace EY : Hid (OwE by' B7 (.slice a5 l5 c5)) := EY.out.old GB
  replace EU : Hid (OwE us B7 (.slice a6 l6 c6)) := EU.out.old GB
  obtain ⟨k7, hk7⟩ : ∃ k, w7.heap.size = k := ⟨_, rfl⟩
  rw [hk7] at XV
  clear GB g7 o7 hl7 c0S c1S c0C c1C hB6 hk6
  have c0S := XS.out.c (i := 0) rfl
  have c1S := XS.out.c (i := 1) rfl
  have c0A := XA.out.c (i := 0) rfl
  have c1A := XA.out.c (i := 1) rfl
  have c0B := XB.out.c (i := 0) rfl
  have c1B := XB.out.c (i := 1) rfl
  go_wp2_with fail
  refine (HK.out.ka rfl _ _ _ _ O.out RP.out fP EA.out EB.out).mono ?_
  rintro e w8 ⟨r8, rfl, g8, a8, c8, rfl, o8⟩
  have EM : Hid (OwE ss w8 (.slice a8 ss.length c8)) := ⟨_, _, o8⟩
  obtain ⟨l8, hl8⟩ : ∃ l, ss.length = l := ⟨_, rfl⟩
  rw [hl8] at EM
  rw [hl8]
  obtain ⟨B8, hB8⟩ : ∃ B : World, w8.alloc (.cells #[.bool ch, .slice a8 l8 c8] 28) = B := ⟨_, rfl⟩
  have GB : Old B7 B8 := by rw [← hB8]; exact g8.alloc _
  have XM : Hid (Bk B8 w8.heap.size #[.bool ch, .slice a8 l8 c8] 28) := by rw [← hB8]; exact Bk.new' w8 _ _ rfl
  replace EM : Hid (OwE ss B8 (.slice a8 l8 c8)) := by rw [← hB8]; exact EM.out.old ((Old.refl w8).alloc _)
  replace O : Hid (Old w B8) := Old.trans O.out GB
  replace RP : Hid (Row B8 (.slice p lp cp) ls) := RP.out.old GB
  replace XS : Hid (Bk B8 ks #[.int .i64 n, .slice p lp cp] 25) := XS.out.old GB
  replace XA : Hid (Bk B8 (ks + 1) #[.bool ch, .slice a la ca] 28) := XA.out.old GB
  replace XB : Hid (Bk B8 (ks + 2) #[.bool bh, .slice b lb cb] 28) := XB.out.old GB
  replace XC : Hid (Bk B8 k2 #[.bool ch, .slice a2 l2 c2] 28) := XC.out.old GB
  replace XD : Hid (Bk B8 k3 #[.bool ch, .slice a3 l3 c3] 28) := XD.out.old GB
  replace XX : Hid (Bk B8 k4 #[.bool false, .slice a4 l4 c4] 28) := XX.out.old GB
  replace XY : Hid (Bk B8 k5 #[.bool false, .slice a5 l5 c5] 28) := XY.out.old GB
  replace XU : Hid (Bk B8 k6 #[.bool false, .slice a6 l6 c6] 28) := XU.out.old GB
  replace XV : Hid (Bk B8 k7 #[.bool false, .slice a7 l7 c7] 28) := XV.out.old GB
  replace EA : Hid (OwE xss B8 (.slice a la ca)) := EA.out.old GB
  replace EB : Hid (OwE yss B8 (.slice b lb cb)) := EB.out.old GB
  replace EC : Hid (OwE zss B8 (.slice a2 l2 c2)) := EC.out.old GB
  replace ED : Hid (OwE zss B8 (.slice a3 l3 c3)) := ED.out.old GB
  replace EX : Hid (OwE bx B8 (.slice a4 l4 c4)) := EX.out.old GB
  replace EY : Hid (OwE by' B8 (.slice a5 l5 c5)) := EY.out.old GB
  replace EU : Hid (OwE us B8 (.slice a6 l6 c6)) := EU.out.old GB
  replace EV : Hid (OwE us B8 (.slice a7 l7 c7)) := EV.out.old GB
  obtain ⟨k8, hk8⟩ : ∃ k, w8.heap.size = k := ⟨_, rfl⟩
  rw [hk8] at XM
  clear GB g8 o8 hl8 c0S c1S c0A c1A c0B c1B hB7 hk7
  have c0S := XS.out.c (i := 0) rfl
  have c1S := XS.out.c (i := 1) rfl
  have c0B := XB.out.c (i := 0) rfl
  have c1B := XB.out.c (i := 1) rfl
  have c0M := XM.out.c (i := 0) rfl
  have c1M := XM.out.c (i := 1) rfl
  go_wp2_with fail
  refine (HK.out.kl rfl _ _ _ _ O.out RP.out fP EM.out EB.out).mono ?_
  rintro e w9 ⟨r9, rfl, g9, a9, c9, rfl, o9⟩
  have EL : Hid (OwE xss w9 (.slice a9 xss.length c9)) := ⟨_, _, o9⟩
  obtain ⟨l9, hl9⟩ : ∃ l, xss.length = l := ⟨_, rfl⟩
  rw [hl9] at EL
  rw [hl9]
  obtain ⟨B9, hB9⟩ : ∃ B : World, w9.alloc (.cells #[.bool ch, .slice a9 l9 c9] 28) = B := ⟨_, rfl⟩
  have GB : Old B8 B9 := by rw [← hB9]; exact g9.alloc _
  have XL : Hid (Bk B9 w9.heap.size #[.bool ch, .slice a9 l9 c9] 28) := by rw [← hB9]; exact Bk.new' w9 _ _ rfl
  replace EL : Hid (OwE xss B9 (.slice a9 l9 c9)) := by rw [← hB9]; exact EL.out.old ((Old.refl w9).alloc _)
  replace O : Hid (Old w B9) := Old.trans O.out GB
  replace RP : Hid (Row B9 (.slice p lp cp) ls) := RP.out.old GB
  replace XS : Hid (Bk B9 ks #[.int .i64 n, .slice p lp cp] 25) := XS.out.old GB
  replace XA : Hid (Bk B9 (ks + 1) #[.bool ch, .slice a la ca] 28) := XA.out.old GB
  replace XB : Hid (Bk B9 (ks + 2) #[.bool bh, .slice b lb cb] 28) := XB.out.old GB
  replace XC : Hid (Bk B9 k2 #[.bool ch, .slice a2 l2 c2] 28) := XC.out.old GB
  replace XD : Hid (Bk B9 k3 #[.bool ch, .slice a3 l3 c3] 28) := XD.out.old GB
  replace XX : Hid (Bk B9 k4 #[.bool false, .slice a4 l4 c4] 28) := XX.out.old GB
  replace XY : Hid (Bk B9 k5 #[.bool false, .slice a5 l5 c5] 28) := XY.out.old GB
  replace XU : Hid (Bk B9 k6 #[.bool false, .slice a6 l6 c6] 28) := XU.out.old GB
  replace XV : Hid (Bk B9 k7 #[.bool false, .slice a7 l7 c7] 28) := XV.out.old GB
  replace XM : Hid (Bk B9 k8 #[.bool ch, .slice a8 l8 c8] 28) := XM.out.old GB
  replace EA : Hid (OwE xss B9 (.slice a la ca)) := EA.out.old GB
  replace EB : Hid (OwE yss B9 (.slice b lb cb)) := EB.out.old GB
  replace EC : Hid (OwE zss B9 (.slice a2 l2 c2)) := EC.out.old GB
  replace ED : Hid (OwE zss B9 (.slice a3 l3 c3)) := ED.out.old GB
  replace EX : Hid (OwE bx B9 (.slice a4 l4 c4)) := EX.out.old GB
  replace EY : Hid (OwE by' B9 (.slice a5 l5 c5)) := EY.out.old GB
  replace EU : Hid (OwE us B9 (.slice a6 l6 c6)) := EU.out.old GB
  replace EV : Hid (OwE us B9 (.slice a7 l7 c7)) := EV.out.old GB
  replace EM : Hid (OwE ss B9 (.slice a8 l8 c8)) := EM.out.old GB
  obtain ⟨k9, hk9⟩ : ∃ k, w9.heap.size = k := ⟨_, rfl⟩
  rw [hk9] at XL
  clear GB g9 o9 hl9 c0S c1S c0M c1M c0B c1B hB8 hk8
  have c0S := XS.out.c (i := 0) rfl
  have c1S := XS.out.c (i := 1) rfl
  have c0X := XX.out.c (i := 0) rfl
  have c1X := XX.out.c (i := 1) rfl
  go_wp2_with fail
  refine (HK.out.kw rfl _ _ _ O.out RP.out fP EX.out).mono ?_
  rintro e w10 ⟨r10, rfl, g10, a10, c10, rfl, o10⟩
  have EW : Hid (OwE ws w10 (.slice a10 ws.length c10)) := ⟨_, _, o10⟩
  obtain ⟨l10, hl10⟩ : ∃ l, ws.length = l := ⟨_, rfl⟩
  rw [hl10] at EW
  rw [hl10]
  obtain ⟨B10, hB10⟩ : ∃ B : World, w10.alloc (.cells #[.bool true, .slice a10 l10 c10] 28) = B := ⟨_, rfl⟩
  have GB : Old B9 B10 := by rw [← hB10]; exact g10.alloc _
  have XW : Hid (Bk B10 w10.heap.size #[.bool true, .slice a10 l10 c10] 28) := by rw [← hB10]; exact Bk.new' w10 _ _ rfl
  replace EW : Hid (OwE ws B10 (.slice a10 l10 c10)) := by rw [← hB10]; exact EW.out.old ((Old.refl w10).alloc _)
  replace O : Hid (Old w B10) := Old.trans O.out GB
  replace RP : Hid (Row B10 (.slice p lp cp) ls) := RP.out.old GB
  replace XS : Hid (Bk B10 ks #[.int .i64 n, .slice p lp cp] 25) := XS.out.old GB
  replace XA : Hid (Bk B10 (ks + 1) #[.bool ch, .slice a la ca] 28) := XA.out.old GB
  replace XB : Hid (Bk B10 (ks + 2) #[.bool bh, .slice b lb cb] 28) := XB.out.old GB
  replace XC : Hid (Bk B10 k2 #[.bool ch, .slice a2 l2 c2] 28) := XC.out.old GB
  replace XD : Hid (Bk B10 k3 #[.bool ch, .slice a3 l3 c3] 28) := XD.out.old GB
  replace XX : Hid (Bk B10 k4 #[.bool false, .slice a4 l4 c4] 28) := XX.out.old GB
  replace XY : Hid (Bk B10 k5 #[.bool false, .slice a5 l5 c5] 28) := XY.out.old GB
  replace XU : Hid (Bk B10 k6 #[.bool false, .slice a6 l6 c6] 28) := XU.out.old GB
  replace XV : Hid (Bk B10 k7 #[.bool false, .slice a7 l7 c7] 28) := XV.out.old GB
  replace XM : Hid (Bk B10 k8 #[.bool ch, .slice a8 l8 c8] 28) := XM.out.old GB
  replace XL : Hid (Bk B10 k9 #[.bool ch, .slice a9 l9 c9] 28) := XL.out.old GB
  replace EA : Hid (OwE xss B10 (.slice a la ca)) := EA.out.old GB
  replace EB : Hid (OwE yss B10 (.slice b lb cb)) := EB.out.old GB
  replace EC : Hid (OwE zss B10 (.slice a2 l2 c2)) := EC.out.old GB
  replace ED : Hid (OwE zss B10 (.slice a3 l3 c3)) := ED.out.old GB
  replace EX : Hid (OwE bx B10 (.slice a4 l4 c4)) := EX.out.old GB
  replace EY : Hid (OwE by' B10 (.slice a5 l5 c5)) := EY.out.old GB
  replace EU : Hid (OwE us B10 (.slice a6 l6 c6)) := EU.out.old GB
  replace EV : Hid (OwE us B10 (.slice a7 l7 c7)) := EV.out.old GB
  replace EM : Hid (OwE ss B10 (.slice a8 l8 c8)) := EM.out.old GB
  replace EL : Hid (OwE xss B10 (.slice a9 l9 c9)) := EL.out.old GB
  obtain ⟨k10, hk10⟩ : ∃ k, w10.heap.size = k := ⟨_, rfl⟩
  rw [hk10] at XW
  clear GB g10 o10 hl10 c0S c1S c0X c1X hB9 hk9
  have c0S := XS.out.c (i := 0) rfl
  have c1S := XS.out.c (i := 1) rfl
  have c0W := XW.out.c (i := 0) rfl
  have c1W := XW.out.c (i := 1) rfl
  go_wp2_with fail
  refine (HK.out.kz rfl _ _ _ O.out RP.out fP EW.out).mono ?_
  rintro e w11 ⟨r11, rfl, g11, a11, c11, rfl, o11⟩
  have EZ : Hid (OwE bx w11 (.slice a11 bx.length c11)) := ⟨_, _, o11⟩
  obtain ⟨l11, hl11⟩ : ∃ l, bx.length = l := ⟨_, rfl⟩
  rw [hl11] at EZ
  rw [hl11]
  obtain ⟨B11, hB11⟩ : ∃ B : World, w11.alloc (.cells #[.bool false, .slice a11 l11 c11] 28) = B := ⟨_, rfl⟩
  have GB : Old B10 B11 := by rw [← hB11]; exact g11.alloc _
  have XZ : Hid (Bk B11 w11.heap.size #[.bool false, .slice a11 l11 c11] 28) := by rw [← hB11]; exact Bk.new' w11 _ _ rfl
  replace EZ : Hid (OwE bx B11 (.slice a11 l11 c11)) := by rw [← hB11]; exact EZ.out.old ((Old.refl w11).alloc _)
  replace O : Hid (Old w B11) := Old.trans O.out GB
  replace RP : Hid (Row B11 (.slice p lp cp) ls) := RP.out.old GB
  replace XS : Hid (Bk B11 ks #[.int .i64 n, .slice p lp cp] 25) := XS.out.old GB
  replace XA : Hid (Bk B11 (ks + 1) #[.bool ch, .slice a la ca] 28) := XA.out.old GB
  replace XB : Hid (Bk B11 (ks + 2) #[.bool bh, .slice b lb cb] 28) := XB.out.old GB
  replace XC : Hid (Bk B11 k2 #[.bool ch, .slice a2 l2 c2] 28) := XC.out.old GB
  replace XD : Hid (Bk B11 k3 #[.bool ch, .slice a3 l3 c3] 28) := XD.out.old GB
  replace XX : Hid (Bk B11 k4 #[.bool false, .slice a4 l4 c4] 28) := XX.out.old GB
  replace XY : Hid (Bk B11 k5 #[.bool false, .slice a5 l5 c5] 28) := XY.out.old GB
  replace XU : Hid (Bk B11 k6 #[.bool false, .slice a6 l6 c6] 28) := XU.out.old GB
  replace XV : Hid (Bk B11 k7 #[.bool false, .slice a7 l7 c7] 28) := XV.out.old GB
  replace XM : Hid (Bk B11 k8 #[.bool ch, .slice a8 l8 c8] 28) := XM.out.old GB
  replace XL : Hid (Bk B11 k9 #[.bool ch, .slice a9 l9 c9] 28) := XL.out.old GB
  replace XW : Hid (Bk B11 k10 #[.bool true, .slice a10 l10 c10] 28) := XW.out.old GB
  replace EA : Hid (OwE xss B11 (.slice a la ca)) := EA.out.old GB
  replace EB : Hid (OwE yss B11 (.slice b lb cb)) := EB.out.old GB
  replace EC : Hid (OwE zss B11 (.slice a2 l2 c2)) := EC.out.old GB
  replace ED : Hid (OwE zss B11 (.slice a3 l3 c3)) := ED.out.old GB
  replace EX : Hid (OwE bx B11 (.slice a4 l4 c4)) := EX.out.old GB
  replace EY : Hid (OwE by' B11 (.slice a5 l5 c5)) := EY.out.old GB
  replace EU : Hid (OwE us B11 (.slice a6 l6 c6)) := EU.out.old GB
  replace EV : Hid (OwE us B11 (.slice a7 l7 c7)) := EV.out.old GB
  replace EM : Hid (OwE ss B11 (.slice a8 l8 c8)) := EM.out.old GB
  replace EL : Hid (OwE xss B11 (.slice a9 l9 c9)) := EL.out.old GB
  replace EW : Hid (OwE ws B11 (.slice a10 l10 c10)) := EW.out.old GB
  obtain ⟨k11, hk11⟩ : ∃ k, w11.heap.size = k := ⟨_, rfl⟩
  rw [hk11] at XZ
  clear GB g11 o11 hl11 c0S c1S c0W c1W hB10 hk10
  have c0U := XU.out.c (i := 0) rfl
  have c1U := XU.out.c (i := 1) rfl
  have c0V := XV.out.c (i := 0) rfl
  have c1V := XV.out.c (i := 1) rfl
  have q1 := hid (sameRows_yes us (.slice a6 l6 c6) (.slice a7 l7 c7) B11 EU.out.rowS EV.out.rowS HK.out.bu.1 HK.out.bu.2)
  go_wp2_with fail
  refine q1.out.mono ?_
  rintro e u1 ⟨rfl, d1⟩
  replace O : Hid (Old w u1) := Old.trans O.out d1
  replace XS : Hid (Bk u1 ks #[.int .i64 n, .slice p lp cp] 25) := XS.out.old d1
  replace XA : Hid (Bk u1 (ks + 1) #[.bool ch, .slice a la ca] 28) := XA.out.old d1
  replace XB : Hid (Bk u1 (ks + 2) #[.bool bh, .slice b lb cb] 28) := XB.out.old d1
  replace XC : Hid (Bk u1 k2 #[.bool ch, .slice a2 l2 c2] 28) := XC.out.old d1
  replace XD : Hid (Bk u1 k3 #[.bool ch, .slice a3 l3 c3] 28) := XD.out.old d1
  replace XX : Hid (Bk u1 k4 #[.bool false, .slice a4 l4 c4] 28) := XX.out.old d1
  replace XY : Hid (Bk u1 k5 #[.bool false, .slice a5 l5 c5] 28) := XY.out.old d1
  replace XU : Hid (Bk u1 k6 #[.bool false, .slice a6 l6 c6] 28) := XU.out.old d1
  replace XV : Hid (Bk u1 k7 #[.bool false, .slice a7 l7 c7] 28) := XV.out.old d1
  replace XM : Hid (Bk u1 k8 #[.bool ch, .slice a8 l8 c8] 28) := XM.out.old d1
  replace XL : Hid (Bk u1 k9 #[.bool ch, .slice a9 l9 c9] 28) := XL.out.old d1
  replace XW : Hid (Bk u1 k10 #[.bool true, .slice a10 l10 c10] 28) := XW.out.old d1
  replace XZ : Hid (Bk u1 k11 #[.bool false, .slice a11 l11 c11] 28) := XZ.out.old d1
  replace EA : Hid (OwE xss u1 (.slice a la ca)) := EA.out.old d1
  replace EB : Hid (OwE yss u1 (.slice b lb cb)) := EB.out.old d1
  replace EC : Hid (OwE zss u1 (.slice a2 l2 c2)) := EC.out.old d1
  replace ED : Hid (OwE zss u1 (.slice a3 l3 c3)) := ED.out.old d1
  replace EX : Hid (OwE bx u1 (.slice a4 l4 c4)) := EX.out.old d1
  replace EY : Hid (OwE by' u1 (.slice a5 l5 c5)) := EY.out.old d1
  replace EU : Hid (OwE us u1 (.slice a6 l6 c6)) := EU.out.old d1
  replace EV : Hid (OwE us u1 (.slice a7 l7 c7)) := EV.out.old d1
  replace EM : Hid (OwE ss u1 (.slice a8 l8 c8)) := EM.out.old d1
  replace EL : Hid (OwE xss u1 (.slice a9 l9 c9)) := EL.out.old d1
  replace EW : Hid (OwE ws u1 (.slice a10 l10 c10)) := EW.out.old d1
  replace EZ : Hid (OwE bx u1 (.slice a11 l11 c11)) := EZ.out.old d1
  clear d1 q1 c0U c1U c0V c1V hB11 hk11
  have c0A := XA.out.c (i := 0) rfl
  have c1A := XA.out.c (i := 1) rfl
  have c0L := XL.out.c (i := 0) rfl
  have c1L := XL.out.c (i := 1) rfl
  have q2 := hid (sameRows_yes xss (.slice a9 l9 c9) (.slice a la ca) u1 EL.out.rowS EA.out.rowS HXB.out.1 HXB.out.2)
  go_wp2_with fail
  refine q2.out.mono ?_
  rintro e u2 ⟨rfl, d2⟩
  replace O : Hid (Old w u2) := Old.trans O.out d2
  replace XS : Hid (Bk u2 ks #[.int .i64 n, .slice p lp cp] 25) := XS.out.old d2
  replace XA : Hid (Bk u2 (ks + 1) #[.bool ch, .slice a la ca] 28) := XA.out.old d2
  replace XB : Hid (Bk u2 (ks + 2) #[.bool bh, .slice b lb cb] 28) := XB.out.old d2
  replace XC : Hid (Bk u2 k2 #[.bool ch, .slice a2 l2 c2] 28) := XC.out.old d2
  replace XD : Hid (Bk u2 k3 #[.bool ch, .slice a3 l3 c3] 28) := XD.out.old d2
  replace XX : Hid (Bk u2 k4 #[.bool false, .slice a4 l4 c4] 28) := XX.out.old d2
  replace XY : Hid (Bk u2 k5 #[.bool false, .slice a5 l5 c5] 28) := XY.out.old d2
  replace XU : Hid (Bk u2 k6 #[.bool false, .slice a6 l6 c6] 28) := XU.out.old d2
  replace XV : Hid (Bk u2 k7 #[.bool false, .slice a7 l7 c7] 28) := XV.out.old d2
  replace XM : Hid (Bk u2 k8 #[.bool ch, .slice a8 l8 c8] 28) := XM.out.old d2
  replace XL : Hid (Bk u2 k9 #[.bool ch, .slice a9 l9 c9] 28) := XL.out.old d2
  replace XW : Hid (Bk u2 k10 #[.bool true, .slice a10 l10 c10] 28) := XW.out.old d2
  replace XZ : Hid (Bk u2 k11 #[.bool false, .slice a11 l11 c11] 28) := XZ.out.old d2
  replace EA : Hid (OwE xss u2 (.slice a la ca)) := EA.out.old d2
  replace EB : Hid (OwE yss u2 (.slice b lb cb)) := EB.out.old d2
  replace EC : Hid (OwE zss u2 (.slice a2 l2 c2)) := EC.out.old d2
  replace ED : Hid (OwE zss u2 (.slice a3 l3 c3)) := ED.out.old d2
  replace EX : Hid (OwE bx u2 (.slice a4 l4 c4)) := EX.out.old d2
  replace EY : Hid (OwE by' u2 (.slice a5 l5 c5)) := EY.out.old d2
  replace EU : Hid (OwE us u2 (.slice a6 l6 c6)) := EU.out.old d2
  replace EV : Hid (OwE us u2 (.slice a7 l7 c7)) := EV.out.old d2
  replace EM : Hid (OwE ss u2 (.slice a8 l8 c8)) := EM.out.old d2
  replace EL : Hid (OwE xss u2 (.slice a9 l9 c9)) := EL.out.old d2
  replace EW : Hid (OwE ws u2 (.slice a10 l10 c10)) := EW.out.old d2
  replace EZ : Hid (OwE bx u2 (.slice a11 l11 c11)) := EZ.out.old d2
  clear d2 q2 c0L c1L c0A c1A
  have c0X := XX.out.c (i := 0) rfl
  have c1X := XX.out.c (i := 1) rfl
  have c0Z := XZ.out.c (i := 0) rfl
  have c1Z := XZ.out.c (i := 1) rfl
  have q3 := hid (sameRows_yes bx (.slice a11 l11 c11) (.slice a4 l4 c4) u2 EZ.out.rowS EX.out.rowS HK.out.bb.1 HK.out.bb.2)
  go_wp2_with fail
  refine q3.out.mono ?_
  rintro e u3 ⟨rfl, d3⟩
  replace O : Hid (Old w u3) := Old.trans O.out d3
  clear d3 q3 c0Z c1Z c0X c1X
  go_wp2_with fail
  go_ret
  exact ⟨rfl, O.out⟩
end Go.Proofs.YtglbegbhekcddaaDoor
