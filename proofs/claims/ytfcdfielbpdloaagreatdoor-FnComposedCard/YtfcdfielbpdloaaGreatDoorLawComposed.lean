/- Proved: the walk of the statement FnComposed: a number that is composed has its residues, and comes back centred. -/
import Derived.Test.YtfcdfielbpdloaaGreatDoorC206
import Derived.Test.YtfcdfielbpdloaaGreatDoorC236
import Derived.Test.YtfcdfielbpdloaaGreatDoorC219
import Derived.Test.YtfcdfielbpdloaaGreatDoorC239
namespace Go.Proofs.YtfcdfielbpdloaaGreatDoor
open Go.ChangeShapes Go.WideShapes Go.ChangeAt Go.RowKit
open M2
set_option linter.unusedVariables false
set_option linter.unusedSimpArgs false
set_option maxRecDepth 100000 in
set_option maxHeartbeats 8000000 in
theorem sameWholes_t (b : Bool) (xs : List Int) (a1 : Option Addr) (c1 : Nat) (a2 : Option Addr) (c2 : Nat) (w : World) (hv : Row w (.slice a1 xs.length c1) xs) (hu : Row w (.slice a2 xs.length c2) xs) (hl : xs.length ≤ 1048576) :
    Calls Tryz.prog 15 #[.agg #[.bool b, .slice a1 xs.length c1], .agg #[.bool b, .slice a2 xs.length c2]] w fun e w' => e = .returned (.bool true) ∧ Old w w' := by
  have HA : Hid (Old w ((w.alloc (.cells #[.bool b, .slice a1 xs.length c1] 27)).alloc (.cells #[.bool b, .slice a2 xs.length c2] 27))) := ((Old.refl w).alloc _).alloc _
  have PA : Hid (Bk ((w.alloc (.cells #[.bool b, .slice a1 xs.length c1] 27)).alloc (.cells #[.bool b, .slice a2 xs.length c2] 27)) w.heap.size #[.bool b, .slice a1 xs.length c1] 27) := (Bk.new' w _ _ rfl).alloc _
  have PB : Hid (Bk ((w.alloc (.cells #[.bool b, .slice a1 xs.length c1] 27)).alloc (.cells #[.bool b, .slice a2 xs.length c2] 27)) (w.heap.size + 1) #[.bool b, .slice a2 xs.length c2] 27) := Bk.new' _ _ _ (by simp)
  have K := fun W (q : Old w W) => same_yes xs _ _ W (hv.old q) (hu.old q) hl
  have p0 := PA.out.c (i := 0) rfl
  have p1 := PA.out.c (i := 1) rfl
  have q0 := PB.out.c (i := 0) rfl
  have q1 := PB.out.c (i := 1) rfl
  have d0 : (b == b) = true := by simp
  clear hv hu
  go_enter Tryz.func15, Tryz.ntmps15
  go_wp2_with fail
  refine (K _ HA.out).mono ?_
  rintro e w1 ⟨rfl, g1⟩
  have HO := hid (Old.trans HA.out g1)
  clear g1
  go_wp2_with fail
  go_ret
  exact ⟨rfl, HO.out⟩
set_option maxRecDepth 100000 in
set_option maxHeartbeats 8000000 in
theorem law_Composed (w : World) (code more : Value) (len len2 : Nat) (h : BysW w code len) (hl : len ≤ 9223372036854775807) (h2 : BysW w more len2) (hl2 : len2 ≤ 9223372036854775807) (hP : PrsW w) (hT : TabW w) :
    Calls Tryz.prog 3 #[code, more] w fun e w' => e = .returned (.bool true) ∧ Old w w' := by
  have KD : Hid (Calls Tryz.prog 5 #[code] w (TwLc w)) := drawComp_c w code len h hl
  obtain ⟨ca0, ccap, hcode⟩ : ∃ ca ccap, code = .slice ca len ccap := by
    rcases h with ⟨a, cap, e, e2⟩ | ⟨b, o, cap, e, _⟩
    · exact ⟨a, cap, by rw [e, e2]⟩
    · exact ⟨_, cap, e⟩
  obtain ⟨cb0, dcap, hmore⟩ : ∃ ca ccap, more = .slice ca len2 ccap := by
    rcases h2 with ⟨a, cap, e, e2⟩ | ⟨b, o, cap, e, _⟩
    · exact ⟨a, cap, by rw [e, e2]⟩
    · exact ⟨_, cap, e⟩
  subst hcode hmore
  have HMO := hid h2
  have HP := hid hP
  have HT := hid hT
  have KT := hid (fun W (q : Old w W) => drawRes_c W _ len2 (bysW_oldX HMO.out q) hl2)
  clear h h2 hP hT HMO
  obtain ⟨S, hS⟩ : ∃ S, wrap64 ((len : Int) + (len2 : Int)) = S := ⟨_, rfl⟩
  by_cases hb : (1048576 : Int) < S
  · have d1 : decide ((1048576 : Int) < S) = true := decide_eq_true hb
    go_enter Tryz.func3, Tryz.ntmps3
    go_wp2_with fail
    go_ret
    exact ⟨rfl, Old.refl _⟩
  have d1 : decide ((1048576 : Int) < S) = false := decide_eq_false hb
  clear hb
  go_enter Tryz.func3, Tryz.ntmps3
  go_wp2_with fail
  refine KD.out.mono ?_
  rintro e w1 ⟨r, cr, zs, a, ca, xs, rfl, g1, ⟨hz9, hx8⟩, hca, hxb, rz, ra⟩
  obtain ⟨ds, nb, es, ok, K⟩ := cm_all zs xs (by omega) (by omega) (fun x hx => by have := hxb x hx; omega)
  have HK := hid K
  have O1 := hid g1
  have HRZ := hid rz
  have HRA := hid ra
  have HZ : Hid (zs.length ≤ 9) := hz9
  obtain ⟨lx, hlx⟩ : ∃ lx, xs.length = lx := ⟨_, rfl⟩
  obtain ⟨lz, hlz⟩ : ∃ lz, zs.length = lz := ⟨_, rfl⟩
  have HLZ : Hid (zs.length = lz) := hlz
  rw [hlx] at HRA hca
  rw [hlz] at HRZ
  rw [hlx, hlz]
  have fA : Fit (.slice a lx ca) := hca
  clear KD d1 hS g1 rz ra hxb K hlx hlz hz9 hx8
  go_wp2_with fail
  refine (HK.out.ki _ _ _ (HP.out.old O1.out) (HT.out.old O1.out) HRZ.out HRA.out fA).mono ?_
  rintro e w2 ⟨v2, rfl, g2, o2⟩
  obtain ⟨xa, xc, rfl⟩ := (Own.row o2).sliceN
  obtain ⟨ld, hld⟩ : ∃ ld, ds.length = ld := ⟨_, rfl⟩
  have HR2 : Hid (Row w2 (.slice xa ds.length xc) (toI ds)) := Own.row o2
  rw [hld] at HR2
  rw [hld]
  obtain ⟨B2, hB2⟩ : ∃ B2 : World, w2.alloc (.cells #[.bool false, .slice xa ld xc] 27) = B2 := ⟨_, rfl⟩
  have O2 : Hid (Old w1 B2) := by rw [← hB2]; exact g2.alloc _
  have X2 : Hid (Bk B2 w2.heap.size #[.bool false, .slice xa ld xc] 27) := by rw [← hB2]; exact Bk.new' w2 _ _ rfl
  have R2 : Hid (Row B2 (.slice xa ld xc) (toI ds)) := by rw [← hB2]; exact HR2.out.old ((Old.refl w2).alloc _)
  obtain ⟨bx, hbx⟩ : ∃ bx, w2.heap.size = bx := ⟨_, rfl⟩
  rw [hbx] at X2
  clear g2 o2 hld HR2
  go_wp2_with fail
  refine (HK.out.ks _ _ _ (HRZ.out.old O2.out) (HRA.out.old O2.out) fA).mono ?_
  rintro e w3 ⟨v3, rfl, g3, o3⟩
  obtain ⟨ya, yc, rfl⟩ := (Own.row o3).sliceN
  obtain ⟨ldd, hldd⟩ : ∃ ld, ds.length = ld := ⟨_, rfl⟩
  rw [hldd]
  obtain ⟨B3, hB3⟩ : ∃ B3 : World, w3.alloc (.cells #[.bool false, .slice ya ldd yc] 27) = B3 := ⟨_, rfl⟩
  have O3 : Hid (Old w1 B3) := by rw [← hB3]; exact (Old.trans O2.out g3).alloc _
  have U3 : Hid (Old w B3) := Old.trans O1.out O3.out
  have X3 : Hid (Bk B3 bx #[.bool false, .slice xa ld xc] 27) := by rw [← hB3]; exact (X2.out.old g3).alloc _
  have R3 : Hid (Row B3 (.slice xa ld xc) (toI ds)) := by rw [← hB3]; exact R2.out.old (g3.alloc _)
  obtain ⟨by', hby⟩ : ∃ by', w3.heap.size = by' := ⟨_, rfl⟩
  have dn : (ok != ok) = false := by simp
  clear g3 o3 O2 X2 R2 hB2 hbx hldd
  cases ok
  · go_wp2_with fail
    refine (KT.out _ U3.out).mono ?_
    rintro e t1 ⟨m, na, nc, us, fb, fcb, fys, rfl, h1, ⟨i1, i2⟩, i3, i4, q1, q2⟩
    obtain ⟨L, fk, Q, b1, b2, RK⟩ := rs_all m us fys (by omega) (by omega) (fun x hx => by have := i4 x hx; omega)
    have HRK := hid RK
    have A1 : Hid (Old w t1) := Old.trans U3.out h1
    have Q0 := hid q1
    have Q1 := hid q2
    have HUL : Hid (us.length ≤ 41) := i1
    obtain ⟨l0, el0⟩ : ∃ l0, us.length = l0 := ⟨_, rfl⟩
    obtain ⟨l1, el1⟩ : ∃ l1, fys.length = l1 := ⟨_, rfl⟩
    have HL0 : Hid (us.length = l0) := el0
    rw [el0] at Q0
    rw [el1] at Q1 i3
    rw [el0, el1]
    have gB : Fit (.slice fb l1 fcb) := i3
    obtain ⟨C1, hC1⟩ : ∃ C1 : World, t1.alloc (.cells #[.bool m, .slice na l0 nc] 27) = C1 := ⟨_, rfl⟩
    have P1 : Hid (Old t1 C1) := by rw [← hC1]; exact (Old.refl t1).alloc _
    have N1 : Hid (Bk C1 t1.heap.size #[.bool m, .slice na l0 nc] 27) := by rw [← hC1]; exact Bk.new' t1 _ _ rfl
    obtain ⟨bn, hbn⟩ : ∃ bn, t1.heap.size = bn := ⟨_, rfl⟩
    rw [hbn] at N1
    have y0 := N1.out.c (i := 0) rfl
    have y1 := N1.out.c (i := 1) rfl
    clear h1 q1 q2 i4 RK el0 el1 i1 i2 hB3 hby
    go_wp2_with fail
    refine (HRK.out.ki _ _ _ (HP.out.old (Old.trans A1.out P1.out)) (HT.out.old (Old.trans A1.out P1.out)) (Q0.out.old P1.out) (Q1.out.old P1.out) gB).mono ?_
    rintro e t2 ⟨y2, rfl, h2, z2⟩
    obtain ⟨ja, jc, rfl⟩ := (Own.row z2).slice
    obtain ⟨lL, eL⟩ : ∃ lL, L.length = lL := ⟨_, rfl⟩
    have Z2 : Hid (Row t2 (.slice ja L.length jc) L) := Own.row z2
    rw [eL] at Z2
    rw [eL]
    have P2 : Hid (Old t1 t2) := Old.trans P1.out h2
    have N2 : Hid (Bk t2 bn #[.bool m, .slice na l0 nc] 27) := N1.out.old h2
    clear h2 z2 N1 y0 y1 eL hC1 hbn P1
    have y0 := N2.out.c (i := 0) rfl
    have y1 := N2.out.c (i := 1) rfl
    go_wp2_with fail
    refine (HRK.out.ks _ _ _ (Q0.out.old P2.out) (Q1.out.old P2.out) gB).mono ?_
    rintro e t3 ⟨y3, rfl, h3, z3⟩
    obtain ⟨ka, kc, rfl⟩ := (Own.row z3).slice
    obtain ⟨lM, eM⟩ : ∃ lL, L.length = lL := ⟨_, rfl⟩
    rw [eM]
    have P3 : Hid (Old t1 t3) := Old.trans P2.out h3
    have N3 : Hid (Bk t3 bn #[.bool m, .slice na l0 nc] 27) := N2.out.old h3
    have Z3 : Hid (Row t3 (.slice ja lL jc) L) := Z2.out.old h3
    have A3 : Hid (Old w t3) := Old.trans A1.out P3.out
    have dk : (fk != fk) = false := by simp
    clear h3 z3 N2 y0 y1 P2 Z2 eM
    cases fk
    · go_wp2_with fail
      go_ret
      exact ⟨rfl, A3.out⟩
    go_wp2_with fail
    refine (HRK.out.kp rfl _ _ (Q1.out.old P3.out) gB).mono ?_
    rintro e t4 ⟨y4, rfl, h4, z4⟩
    obtain ⟨qa, qc, rfl⟩ := (Own.row z4).sliceN
    obtain ⟨lq, elq⟩ : ∃ lq, Q.length = lq := ⟨_, rfl⟩
    have Y4 : Hid (Row t4 (.slice qa Q.length qc) (toI Q)) := Own.row z4
    rw [elq] at Y4
    rw [elq]
    obtain ⟨C4, hC4⟩ : ∃ C4 : World, t4.alloc (.cells #[.bool false, .slice qa lq qc] 27) = C4 := ⟨_, rfl⟩
    have P4 : Hid (Old t1 C4) := by rw [← hC4]; exact (Old.trans P3.out h4).alloc _
    have N4 : Hid (Bk C4 bn #[.bool m, .slice na l0 nc] 27) := by rw [← hC4]; exact (N3.out.old h4).alloc _
    have M4 : Hid (Bk C4 t4.heap.size #[.bool false, .slice qa lq qc] 27) := by rw [← hC4]; exact Bk.new' t4 _ _ rfl
    have Z4 : Hid (Row C4 (.slice ja lL jc) L) := by rw [← hC4]; exact Z3.out.old (h4.alloc _)
    have YY4 : Hid (Row C4 (.slice qa lq qc) (toI Q)) := by rw [← hC4]; exact Y4.out.old ((Old.refl t4).alloc _)
    obtain ⟨bq, hbq⟩ : ∃ bq, t4.heap.size = bq := ⟨_, rfl⟩
    rw [hbq] at M4
    clear h4 z4 N3 Z3 Y4 elq P3 A3 dk
    go_wp2_with fail
    refine reg_Cb C4 m na l0 nc bn qa lq qc bq b1 b2 N4.out M4.out HRK.out.hb (fun W g => HRK.out.k1 rfl _ W (Q0.out.old (Old.trans P4.out g))) (fun W g => HRK.out.k2 rfl _ W (YY4.out.old g)) _ _ ?_ ?_ ?_ ?_
    iterate 3 (· exact rfl)
    intro us' t5 g5 h7
    have P5 : Hid (Old t1 t5) := Old.trans P4.out g5
    have N5 : Hid (Bk t5 bn #[.bool m, .slice na l0 nc] 27) := N4.out.old g5
    have Z5 : Hid (Row t5 (.slice ja lL jc) L) := Z4.out.old g5
    have A5 : Hid (Old w t5) := Old.trans A1.out P5.out
    simp only [putAll, Act.put, slotCb, List.range, List.range.loop, List.map_cons, List.map_nil, List.getD_cons_zero, List.getD_cons_succ, List.setIfInBounds_toArray, List.set_cons_succ, List.set_cons_zero]
    simp only [h7]
    clear g5 h7 hC4 hbq P4 N4 M4 Z4 YY4
    by_cases hge : b2 - 1 ≤ b1
    · have d7 : decide (b2 - 1 ≤ b1) = true := decide_eq_true hge
      rw [d7]
      go_wp2_with fail
      go_ret
      exact ⟨rfl, A5.out⟩
    have d7 : decide (b2 - 1 ≤ b1) = false := decide_eq_false hge
    rw [d7]
    obtain ⟨eN, KC⟩ := HRK.out.kc rfl (by omega)
    have HKC := hid KC
    have HEN : Hid (toI (nat us) = us) := eN
    clear KC eN hge d7
    go_wp2_with fail
    refine (HKC.out _ _ _ (HP.out.old A5.out) (HT.out.old A5.out) Z5.out (Q1.out.old P5.out) gB).mono ?_
    rintro e t6 ⟨y6, rfl, h6, z6⟩
    have r6 : Row t6 y6 us := by have h := Own.row z6; rw [HEN.out] at h; exact h
    obtain ⟨ga, gc, rfl⟩ := r6.slice
    have W6 := hid r6
    have e0 := HL0.out
    rw [e0] at W6
    rw [e0]
    obtain ⟨C6, hC6⟩ : ∃ C6 : World, t6.alloc (.cells #[.bool m, .slice ga l0 gc] 27) = C6 := ⟨_, rfl⟩
    have P6 : Hid (Old t1 C6) := by rw [← hC6]; exact (Old.trans P5.out h6).alloc _
    have A6 : Hid (Old w C6) := Old.trans A1.out P6.out
    have N6 : Hid (Bk C6 bn #[.bool m, .slice na l0 nc] 27) := by rw [← hC6]; exact (N5.out.old h6).alloc _
    have M6 : Hid (Bk C6 t6.heap.size #[.bool m, .slice ga l0 gc] 27) := by rw [← hC6]; exact Bk.new' t6 _ _ rfl
    have W7 : Hid (Row C6 (.slice ga l0 gc) us) := by rw [← hC6]; exact W6.out.old ((Old.refl t6).alloc _)
    obtain ⟨bg, hbg⟩ : ∃ bg, t6.heap.size = bg := ⟨_, rfl⟩
    rw [hbg] at M6
    have KE : Calls Tryz.prog 15 #[.agg #[.bool m, .slice ga l0 gc], .agg #[.bool m, .slice na l0 nc]] C6 fun e w' => e = .returned (.bool true) ∧ Old C6 w' := by
      have hh := sameWholes_t m us ga gc na nc C6 (by rw [e0]; exact W7.out) (by rw [e0]; exact Q0.out.old P6.out) (by have := HUL.out; omega)
      rw [e0] at hh
      exact hh
    have HKE := hid KE
    have y0 := N6.out.c (i := 0) rfl
    have y1 := N6.out.c (i := 1) rfl
    have y2 := M6.out.c (i := 0) rfl
    have y3 := M6.out.c (i := 1) rfl
    clear h6 z6 r6 W6 KE e0 N5 Z5 P5 A5 HKC
    go_wp2_with fail
    refine HKE.out.mono ?_
    rintro e t7 ⟨rfl, h7⟩
    have A7 : Hid (Old w t7) := Old.trans A6.out h7
    clear h7 y0 y1 y2 y3 hC6 hbg
    go_wp2_with fail
    go_ret
    exact ⟨rfl, A7.out⟩
  have p0 := X3.out.c (i := 0) rfl
  have p1 := X3.out.c (i := 1) rfl
  go_wp2_with fail
  refine (HK.out.kr rfl _ _ _ (HP.out.old U3.out) (HT.out.old U3.out) R3.out (HRA.out.old O3.out) fA).mono ?_
  rintro e w4 ⟨v4, rfl, g4, o4⟩
  obtain ⟨sa, sc, rfl⟩ := (Own.row o4).slice
  have S4 : Hid (Row w4 (.slice sa zs.length sc) zs) := Own.row o4
  have ez := HLZ.out
  rw [ez] at S4
  rw [ez]
  have O4 : Hid (Old w1 w4) := Old.trans O3.out g4
  have U4 : Hid (Old w w4) := Old.trans O1.out O4.out
  clear g4 o4 p0 p1 O3 U3 X3 R3 hB3 hby dn
  go_wp2_with fail
  refine (HK.out.kc rfl _ _ _ (HP.out.old U4.out) (HT.out.old U4.out) (HRZ.out.old O4.out) (HRA.out.old O4.out) fA).mono ?_
  rintro e w5 ⟨v5, rfl, g5, o5⟩
  obtain ⟨ea, ec, rfl⟩ := (Own.row o5).sliceN
  obtain ⟨le, hle⟩ : ∃ le, es.length = le := ⟨_, rfl⟩
  have HR5 : Hid (Row w5 (.slice ea es.length ec) (toI es)) := Own.row o5
  rw [hle] at HR5
  rw [hle]
  obtain ⟨B5, hB5⟩ : ∃ B5 : World, w5.alloc (.cells #[.bool nb, .slice ea le ec] 27) = B5 := ⟨_, rfl⟩
  have O5 : Hid (Old w1 B5) := by rw [← hB5]; exact (Old.trans O4.out g5).alloc _
  have U5 : Hid (Old w B5) := Old.trans O1.out O5.out
  have X5 : Hid (Bk B5 w5.heap.size #[.bool nb, .slice ea le ec] 27) := by rw [← hB5]; exact Bk.new' w5 _ _ rfl
  have R5 : Hid (Row B5 (.slice ea le ec) (toI es)) := by rw [← hB5]; exact HR5.out.old ((Old.refl w5).alloc _)
  have S5 : Hid (Row B5 (.slice sa lz sc) zs) := by rw [← hB5]; exact S4.out.old (g5.alloc _)
  obtain ⟨be, hbe⟩ : ∃ be, w5.heap.size = be := ⟨_, rfl⟩
  rw [hbe] at X5
  have p0 := X5.out.c (i := 0) rfl
  have p1 := X5.out.c (i := 1) rfl
  clear g5 o5 hle HR5 O4 U4 S4
  go_wp2_with fail
  refine (HK.out.kt rfl _ _ _ (HP.out.old U5.out) (HT.out.old U5.out) R5.out (HRA.out.old O5.out) fA).mono ?_
  rintro e w6 ⟨v6, rfl, g6, o6⟩
  obtain ⟨ta, tc, rfl⟩ := (Own.row o6).slice
  have T6 : Hid (Row w6 (.slice ta zs.length tc) zs) := Own.row o6
  rw [ez] at T6
  rw [ez]
  have O6 : Hid (Old w1 w6) := Old.trans O5.out g6
  have S6 : Hid (Row w6 (.slice sa lz sc) zs) := S5.out.old g6
  have KE := same_yes zs (.slice sa lz sc) (.slice r lz cr) w6 S6.out (HRZ.out.old O6.out) (by have := HZ.out; omega)
  have HKE := hid KE
  clear g6 o6 p0 p1 O5 U5 X5 R5 S5 hB5 hbe KE
  go_wp2_with fail
  refine HKE.out.mono ?_
  rintro e w7 ⟨rfl, g7⟩
  have O7 : Hid (Old w1 w7) := Old.trans O6.out g7
  have KF := same_yes zs (.slice ta lz tc) (.slice r lz cr) w7 (T6.out.old g7) (HRZ.out.old O7.out) (by have := HZ.out; omega)
  have HKF := hid KF
  clear g7 KF HKE
  go_wp2_with fail
  refine HKF.out.mono ?_
  rintro e w8 ⟨rfl, g8⟩
  have U8 : Hid (Old w w8) := Old.trans O1.out (Old.trans O7.out g8)
  clear g8 HKF
  go_wp2_with fail
  refine (KT.out _ U8.out).mono ?_
  rintro e t1 ⟨m, na, nc, us, fb, fcb, fys, rfl, h1, ⟨i1, i2⟩, i3, i4, q1, q2⟩
  obtain ⟨L, fk, Q, b1, b2, RK⟩ := rs_all m us fys (by omega) (by omega) (fun x hx => by have := i4 x hx; omega)
  have HRK := hid RK
  have A1 : Hid (Old w t1) := Old.trans U8.out h1
  have Q0 := hid q1
  have Q1 := hid q2
  have HUL : Hid (us.length ≤ 41) := i1
  obtain ⟨l0, el0⟩ : ∃ l0, us.length = l0 := ⟨_, rfl⟩
  obtain ⟨l1, el1⟩ : ∃ l1, fys.length = l1 := ⟨_, rfl⟩
  have HL0 : Hid (us.length = l0) := el0
  rw [el0] at Q0
  rw [el1] at Q1 i3
  rw [el0, el1]
  have gB : Fit (.slice fb l1 fcb) := i3
  obtain ⟨C1, hC1⟩ : ∃ C1 : World, t1.alloc (.cells #[.bool m, .slice na l0 nc] 27) = C1 := ⟨_, rfl⟩
  have P1 : Hid (Old t1 C1) := by rw [← hC1]; exact (Old.refl t1).alloc _
  have N1 : Hid (Bk C1 t1.heap.size #[.bool m, .slice na l0 nc] 27) := by rw [← hC1]; exact Bk.new' t1 _ _ rfl
  obtain ⟨bn, hbn⟩ : ∃ bn, t1.heap.size = bn := ⟨_, rfl⟩
  rw [hbn] at N1
  have y0 := N1.out.c (i := 0) rfl
  have y1 := N1.out.c (i := 1) rfl
  clear h1 q1 q2 i4 RK el0 el1 i1 i2 
  go_wp2_with fail
  refine (HRK.out.ki _ _ _ (HP.out.old (Old.trans A1.out P1.out)) (HT.out.old (Old.trans A1.out P1.out)) (Q0.out.old P1.out) (Q1.out.old P1.out) gB).mono ?_
  rintro e t2 ⟨y2, rfl, h2, z2⟩
  obtain ⟨ja, jc, rfl⟩ := (Own.row z2).slice
  obtain ⟨lL, eL⟩ : ∃ lL, L.length = lL := ⟨_, rfl⟩
  have Z2 : Hid (Row t2 (.slice ja L.length jc) L) := Own.row z2
  rw [eL] at Z2
  rw [eL]
  have P2 : Hid (Old t1 t2) := Old.trans P1.out h2
  have N2 : Hid (Bk t2 bn #[.bool m, .slice na l0 nc] 27) := N1.out.old h2
  clear h2 z2 N1 y0 y1 eL hC1 hbn P1
  have y0 := N2.out.c (i := 0) rfl
  have y1 := N2.out.c (i := 1) rfl
  go_wp2_with fail
  refine (HRK.out.ks _ _ _ (Q0.out.old P2.out) (Q1.out.old P2.out) gB).mono ?_
  rintro e t3 ⟨y3, rfl, h3, z3⟩
  obtain ⟨ka, kc, rfl⟩ := (Own.row z3).slice
  obtain ⟨lM, eM⟩ : ∃ lL, L.length = lL := ⟨_, rfl⟩
  rw [eM]
  have P3 : Hid (Old t1 t3) := Old.trans P2.out h3
  have N3 : Hid (Bk t3 bn #[.bool m, .slice na l0 nc] 27) := N2.out.old h3
  have Z3 : Hid (Row t3 (.slice ja lL jc) L) := Z2.out.old h3
  have A3 : Hid (Old w t3) := Old.trans A1.out P3.out
  have dk : (fk != fk) = false := by simp
  clear h3 z3 N2 y0 y1 P2 Z2 eM
  cases fk
  · go_wp2_with fail
    go_ret
    exact ⟨rfl, A3.out⟩
  go_wp2_with fail
  refine (HRK.out.kp rfl _ _ (Q1.out.old P3.out) gB).mono ?_
  rintro e t4 ⟨y4, rfl, h4, z4⟩
  obtain ⟨qa, qc, rfl⟩ := (Own.row z4).sliceN
  obtain ⟨lq, elq⟩ : ∃ lq, Q.length = lq := ⟨_, rfl⟩
  have Y4 : Hid (Row t4 (.slice qa Q.length qc) (toI Q)) := Own.row z4
  rw [elq] at Y4
  rw [elq]
  obtain ⟨C4, hC4⟩ : ∃ C4 : World, t4.alloc (.cells #[.bool false, .slice qa lq qc] 27) = C4 := ⟨_, rfl⟩
  have P4 : Hid (Old t1 C4) := by rw [← hC4]; exact (Old.trans P3.out h4).alloc _
  have N4 : Hid (Bk C4 bn #[.bool m, .slice na l0 nc] 27) := by rw [← hC4]; exact (N3.out.old h4).alloc _
  have M4 : Hid (Bk C4 t4.heap.size #[.bool false, .slice qa lq qc] 27) := by rw [← hC4]; exact Bk.new' t4 _ _ rfl
  have Z4 : Hid (Row C4 (.slice ja lL jc) L) := by rw [← hC4]; exact Z3.out.old (h4.alloc _)
  have YY4 : Hid (Row C4 (.slice qa lq qc) (toI Q)) := by rw [← hC4]; exact Y4.out.old ((Old.refl t4).alloc _)
  obtain ⟨bq, hbq⟩ : ∃ bq, t4.heap.size = bq := ⟨_, rfl⟩
  rw [hbq] at M4
  clear h4 z4 N3 Z3 Y4 elq P3 A3 dk
  go_wp2_with fail
  refine reg_Cb C4 m na l0 nc bn qa lq qc bq b1 b2 N4.out M4.out HRK.out.hb (fun W g => HRK.out.k1 rfl _ W (Q0.out.old (Old.trans P4.out g))) (fun W g => HRK.out.k2 rfl _ W (YY4.out.old g)) _ _ ?_ ?_ ?_ ?_
  iterate 3 (· exact rfl)
  intro us' t5 g5 h7
  have P5 : Hid (Old t1 t5) := Old.trans P4.out g5
  have N5 : Hid (Bk t5 bn #[.bool m, .slice na l0 nc] 27) := N4.out.old g5
  have Z5 : Hid (Row t5 (.slice ja lL jc) L) := Z4.out.old g5
  have A5 : Hid (Old w t5) := Old.trans A1.out P5.out
  simp only [putAll, Act.put, slotCb, List.range, List.range.loop, List.map_cons, List.map_nil, List.getD_cons_zero, List.getD_cons_succ, List.setIfInBounds_toArray, List.set_cons_succ, List.set_cons_zero]
  simp only [h7]
  clear g5 h7 hC4 hbq P4 N4 M4 Z4 YY4
  by_cases hge : b2 - 1 ≤ b1
  · have d7 : decide (b2 - 1 ≤ b1) = true := decide_eq_true hge
    rw [d7]
    go_wp2_with fail
    go_ret
    exact ⟨rfl, A5.out⟩
  have d7 : decide (b2 - 1 ≤ b1) = false := decide_eq_false hge
  rw [d7]
  obtain ⟨eN, KC⟩ := HRK.out.kc rfl (by omega)
  have HKC := hid KC
  have HEN : Hid (toI (nat us) = us) := eN
  clear KC eN hge d7
  go_wp2_with fail
  refine (HKC.out _ _ _ (HP.out.old A5.out) (HT.out.old A5.out) Z5.out (Q1.out.old P5.out) gB).mono ?_
  rintro e t6 ⟨y6, rfl, h6, z6⟩
  have r6 : Row t6 y6 us := by have h := Own.row z6; rw [HEN.out] at h; exact h
  obtain ⟨ga, gc, rfl⟩ := r6.slice
  have W6 := hid r6
  have e0 := HL0.out
  rw [e0] at W6
  rw [e0]
  obtain ⟨C6, hC6⟩ : ∃ C6 : World, t6.alloc (.cells #[.bool m, .slice ga l0 gc] 27) = C6 := ⟨_, rfl⟩
  have P6 : Hid (Old t1 C6) := by rw [← hC6]; exact (Old.trans P5.out h6).alloc _
  have A6 : Hid (Old w C6) := Old.trans A1.out P6.out
  have N6 : Hid (Bk C6 bn #[.bool m, .slice na l0 nc] 27) := by rw [← hC6]; exact (N5.out.old h6).alloc _
  have M6 : Hid (Bk C6 t6.heap.size #[.bool m, .slice ga l0 gc] 27) := by rw [← hC6]; exact Bk.new' t6 _ _ rfl
  have W7 : Hid (Row C6 (.slice ga l0 gc) us) := by rw [← hC6]; exact W6.out.old ((Old.refl t6).alloc _)
  obtain ⟨bg, hbg⟩ : ∃ bg, t6.heap.size = bg := ⟨_, rfl⟩
  rw [hbg] at M6
  have KE : Calls Tryz.prog 15 #[.agg #[.bool m, .slice ga l0 gc], .agg #[.bool m, .slice na l0 nc]] C6 fun e w' => e = .returned (.bool true) ∧ Old C6 w' := by
    have hh := sameWholes_t m us ga gc na nc C6 (by rw [e0]; exact W7.out) (by rw [e0]; exact Q0.out.old P6.out) (by have := HUL.out; omega)
    rw [e0] at hh
    exact hh
  have HKE := hid KE
  have y0 := N6.out.c (i := 0) rfl
  have y1 := N6.out.c (i := 1) rfl
  have y2 := M6.out.c (i := 0) rfl
  have y3 := M6.out.c (i := 1) rfl
  clear h6 z6 r6 W6 KE e0 N5 Z5 P5 A5 HKC
  go_wp2_with fail
  refine HKE.out.mono ?_
  rintro e t7 ⟨rfl, h7⟩
  have A7 : Hid (Old w t7) := Old.trans A6.out h7
  clear h7 y0 y1 y2 y3 hC6 hbg
  go_wp2_with fail
  go_ret
  exact ⟨rfl, A7.out⟩
end Go.Proofs.YtfcdfielbpdloaaGreatDoor
