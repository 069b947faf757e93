/- Proved: the walk of the statement FnWholes: a quotient times its divisor and what is left are the number again, and a number comes back from its text. -/
import Derived.Test.YtjedpceiimceoaaDoorV16
import Derived.Test.YtjedpceiimceoaaDoorWth
import Derived.Test.YtjedpceiimceoaaDoorV34
import Derived.Test.YtjedpceiimceoaaDoorRde
import Derived.Test.YtjedpceiimceoaaDoorV12
import Derived.Test.YtjedpceiimceoaaDoorV25
import Derived.Test.YtjedpceiimceoaaDoorV26
namespace Go.Proofs.YtjedpceiimceoaaDoor
open Go.ChangeShapes Go.WideShapes Go.ChangeAt Go.RowKit
open M2
set_option linter.unusedVariables false
set_option linter.unusedSimpArgs false
set_option maxRecDepth 100000 in
set_option maxHeartbeats 8000000 in
theorem sameWholes_t (b : Bool) (xs : List Int) (a1 : Option Addr) (c1 : Nat) (a2 : Option Addr) (c2 : Nat) (w : World) (hv : Row w (.slice a1 xs.length c1) xs) (hu : Row w (.slice a2 xs.length c2) xs) (hl : xs.length ≤ 1048576) :
    Calls Tryd.prog 10 #[.agg #[.bool b, .slice a1 xs.length c1], .agg #[.bool b, .slice a2 xs.length c2]] w fun e w' => e = .returned (.bool true) ∧ Old w w' := by
  have HA : Hid (Old w ((w.alloc (.cells #[.bool b, .slice a1 xs.length c1] 25)).alloc (.cells #[.bool b, .slice a2 xs.length c2] 25))) := ((Old.refl w).alloc _).alloc _
  have PA : Hid (Bk ((w.alloc (.cells #[.bool b, .slice a1 xs.length c1] 25)).alloc (.cells #[.bool b, .slice a2 xs.length c2] 25)) w.heap.size #[.bool b, .slice a1 xs.length c1] 25) := (Bk.new' w _ _ rfl).alloc _
  have PB : Hid (Bk ((w.alloc (.cells #[.bool b, .slice a1 xs.length c1] 25)).alloc (.cells #[.bool b, .slice a2 xs.length c2] 25)) (w.heap.size + 1) #[.bool b, .slice a2 xs.length c2] 25) := Bk.new' _ _ _ (by simp)
  have K := fun W (q : Old w W) => same_yes xs _ _ W (hv.old q) (hu.old q) hl
  have p0 := PA.out.c (i := 0) rfl
  have p1 := PA.out.c (i := 1) rfl
  have q0 := PB.out.c (i := 0) rfl
  have q1 := PB.out.c (i := 1) rfl
  have d0 : (b == b) = true := by simp
  clear hv hu
  go_enter Tryd.func10, Tryd.ntmps10
  go_wp2_with fail
  refine (K _ HA.out).mono ?_
  rintro e w1 ⟨rfl, g1⟩
  have HO := Lib.hid (Old.trans HA.out g1)
  clear g1
  go_wp2_with fail
  go_ret
  exact ⟨rfl, HO.out⟩
set_option maxRecDepth 100000 in
set_option maxHeartbeats 8000000 in
theorem law_Wholes (w : World) (code more : Value) (len len2 : Nat) (h : BysW w code len) (hl : len ≤ 9223372036854775807) (h2 : BysW w more len2) (hl2 : len2 ≤ 9223372036854775807) (hT : TabP w) :
    Calls Tryd.prog 3 #[code, more] w fun e w' => e = .returned (.bool true) ∧ Old w w' := by
  have KD : Hid (Calls Tryd.prog 5 #[code] w (TwoW w)) := drawDiv_c w code len h hl
  obtain ⟨ca0, ccap, hcode⟩ : ∃ ca ccap, code = .slice ca len ccap := by
    rcases h with ⟨a, cap, e, e2⟩ | ⟨b, o, cap, e, _⟩
    · exact ⟨a, cap, by rw [e, e2]⟩
    · exact ⟨_, cap, e⟩
  obtain ⟨cb0, dcap, hmore⟩ : ∃ ca ccap, more = .slice ca len2 ccap := by
    rcases h2 with ⟨a, cap, e, e2⟩ | ⟨b, o, cap, e, _⟩
    · exact ⟨a, cap, by rw [e, e2]⟩
    · exact ⟨_, cap, e⟩
  subst hcode hmore
  have HMO := Lib.hid h2
  have HTT := Lib.hid hT
  have KT := fun W (q : Old w W) => drawText_c W _ len2 (bysW_oldX HMO.out q) hl2
  clear h h2 hT
  obtain ⟨S, hS⟩ : ∃ S, wrap64 ((len : Int) + (len2 : Int)) = S := ⟨_, rfl⟩
  by_cases hb : (1048576 : Int) < S
  · have d1 : decide ((1048576 : Int) < S) = true := decide_eq_true hb
    go_enter Tryd.func3, Tryd.ntmps3
    go_wp2_with fail
    go_ret
    exact ⟨rfl, Old.refl _⟩
  have d1 : decide ((1048576 : Int) < S) = false := decide_eq_false hb
  clear hb
  go_enter Tryd.func3, Tryd.ntmps3
  go_wp2_with fail
  refine KD.out.mono ?_
  rintro e w1 ⟨n, a, ca, xs, m, b, cb, ys, rfl, g1, rx, ry, hx, hy⟩
  obtain ⟨q1, q2, r2, dk, hD⟩ : ∃ q1 q2 r2 dk, divW n m xs ys = (q1, q2, r2, dk) := ⟨_, _, _, _, rfl⟩
  have KI := fun W (q : Old w1 W) => impl_div n m xs ys _ _ W (rx.1.old q) (ry.1.old q) (by omega) (by omega) _ hD
  have KS := fun W (q : Old w1 W) => spec_div n m xs ys _ _ W (rx.1.old q) (ry.1.old q) (by omega) (by omega) _ hD
  have lD := len_div n m xs ys
  rw [hD] at lD
  have HRX := Lib.hid rx.1
  have HRY := Lib.hid ry.1
  obtain ⟨lx, hlx⟩ : ∃ lx, xs.length = lx := ⟨_, rfl⟩
  obtain ⟨ly, hly⟩ : ∃ ly, ys.length = ly := ⟨_, rfl⟩
  have HX : Hid (xs.length ≤ 41) := hx
  have HY : Hid (ys.length ≤ 41) := hy
  have HLX : Hid (xs.length = lx) := hlx
  have HLD : Hid (q2.length ≤ 40 ∧ r2.length ≤ 40) := lD
  have HOK : Hid (dk = true → cmpW false m (toI r2) ys = -1 ∧ ∀ m1 m2, mulW q1 m (toI q2) ys = (m1, m2, true) → addW m1 false (toI m2) (toI r2) = (n, nat xs, true) ∧ toI (nat xs) = xs) := fun h => divided_ok n m xs ys q1 q2 r2 (h ▸ hD)
  rw [hlx] at KI KS HRX
  rw [hly] at KI KS HRY
  rw [hlx, hly]
  have O1 : Hid (Old w ((w1.alloc (.cells #[.bool n, .slice a lx ca] 25)).alloc (.cells #[.bool m, .slice b ly cb] 25))) := (g1.alloc _).alloc _
  have V1 : Hid (Old w1 ((w1.alloc (.cells #[.bool n, .slice a lx ca] 25)).alloc (.cells #[.bool m, .slice b ly cb] 25))) := ((Old.refl w1).alloc _).alloc _
  have XA1 : Hid (Bk ((w1.alloc (.cells #[.bool n, .slice a lx ca] 25)).alloc (.cells #[.bool m, .slice b ly cb] 25)) (w1.heap.size) #[.bool n, .slice a lx ca] 25) := (Bk.new' w1 _ _ rfl).alloc _
  have XB1 : Hid (Bk ((w1.alloc (.cells #[.bool n, .slice a lx ca] 25)).alloc (.cells #[.bool m, .slice b ly cb] 25)) (w1.heap.size + 1) #[.bool m, .slice b ly cb] 25) := Bk.new' _ _ _ (by simp)
  clear hD lD hx hy hlx hly rx ry g1 KD d1 hS
  have p0 := XA1.out.c (i := 0) rfl
  have p1 := XA1.out.c (i := 1) rfl
  have p2 := XB1.out.c (i := 0) rfl
  have p3 := XB1.out.c (i := 1) rfl
  go_wp2_with fail
  refine (KI _ V1.out).mono ?_
  rintro e w2 ⟨v1, v2, rfl, g2, o1, o2, _⟩
  obtain ⟨qa, qc, rfl⟩ := (Own.row o1).sliceN
  obtain ⟨ra, rc, rfl⟩ := (Own.row o2).sliceN
  have O2 : Hid (Old w ((w2.alloc (.cells #[.bool q1, .slice qa q2.length qc] 25)).alloc (.cells #[.bool false, .slice ra r2.length rc] 25))) := ((Old.trans O1.out g2).alloc _).alloc _
  have V2 : Hid (Old w1 ((w2.alloc (.cells #[.bool q1, .slice qa q2.length qc] 25)).alloc (.cells #[.bool false, .slice ra r2.length rc] 25))) := ((Old.trans V1.out g2).alloc _).alloc _
  have XA2 : Hid (Bk ((w2.alloc (.cells #[.bool q1, .slice qa q2.length qc] 25)).alloc (.cells #[.bool false, .slice ra r2.length rc] 25)) (w1.heap.size) #[.bool n, .slice a lx ca] 25) := ((XA1.out.old g2).alloc _).alloc _
  have XB2 : Hid (Bk ((w2.alloc (.cells #[.bool q1, .slice qa q2.length qc] 25)).alloc (.cells #[.bool false, .slice ra r2.length rc] 25)) (w1.heap.size + 1) #[.bool m, .slice b ly cb] 25) := ((XB1.out.old g2).alloc _).alloc _
  have XQ2 : Hid (Bk ((w2.alloc (.cells #[.bool q1, .slice qa q2.length qc] 25)).alloc (.cells #[.bool false, .slice ra r2.length rc] 25)) (w2.heap.size) #[.bool q1, .slice qa q2.length qc] 25) := (Bk.new' w2 _ _ rfl).alloc _
  have XR2 : Hid (Bk ((w2.alloc (.cells #[.bool q1, .slice qa q2.length qc] 25)).alloc (.cells #[.bool false, .slice ra r2.length rc] 25)) (w2.heap.size + 1) #[.bool false, .slice ra r2.length rc] 25) := Bk.new' _ _ _ (by simp)
  have RQ2 : Hid (Row ((w2.alloc (.cells #[.bool q1, .slice qa q2.length qc] 25)).alloc (.cells #[.bool false, .slice ra r2.length rc] 25)) (.slice qa q2.length qc) (toI q2)) := (Own.row o1).old (((Old.refl w2).alloc _).alloc _)
  have RR2 : Hid (Row ((w2.alloc (.cells #[.bool q1, .slice qa q2.length qc] 25)).alloc (.cells #[.bool false, .slice ra r2.length rc] 25)) (.slice ra r2.length rc) (toI r2)) := (Own.row o2).old (((Old.refl w2).alloc _).alloc _)
  clear g2 o1 o2 KI O1 V1 XA1 XB1 p0 p1 p2 p3
  have p0 := XA2.out.c (i := 0) rfl
  have p1 := XA2.out.c (i := 1) rfl
  have p2 := XB2.out.c (i := 0) rfl
  have p3 := XB2.out.c (i := 1) rfl
  go_wp2_with fail
  refine (KS _ V2.out).mono ?_
  rintro e w3 ⟨v3, v4, rfl, g3, o3, o4⟩
  obtain ⟨sa, sc, rfl⟩ := (Own.row o3).sliceN
  obtain ⟨ta, tc, rfl⟩ := (Own.row o4).sliceN
  have O3 : Hid (Old w ((w3.alloc (.cells #[.bool q1, .slice sa q2.length sc] 25)).alloc (.cells #[.bool false, .slice ta r2.length tc] 25))) := ((Old.trans O2.out g3).alloc _).alloc _
  have V3 : Hid (Old w1 ((w3.alloc (.cells #[.bool q1, .slice sa q2.length sc] 25)).alloc (.cells #[.bool false, .slice ta r2.length tc] 25))) := ((Old.trans V2.out g3).alloc _).alloc _
  have XA3 : Hid (Bk ((w3.alloc (.cells #[.bool q1, .slice sa q2.length sc] 25)).alloc (.cells #[.bool false, .slice ta r2.length tc] 25)) (w1.heap.size) #[.bool n, .slice a lx ca] 25) := ((XA2.out.old g3).alloc _).alloc _
  have XB3 : Hid (Bk ((w3.alloc (.cells #[.bool q1, .slice sa q2.length sc] 25)).alloc (.cells #[.bool false, .slice ta r2.length tc] 25)) (w1.heap.size + 1) #[.bool m, .slice b ly cb] 25) := ((XB2.out.old g3).alloc _).alloc _
  have XQ3 : Hid (Bk ((w3.alloc (.cells #[.bool q1, .slice sa q2.length sc] 25)).alloc (.cells #[.bool false, .slice ta r2.length tc] 25)) (w2.heap.size) #[.bool q1, .slice qa q2.length qc] 25) := ((XQ2.out.old g3).alloc _).alloc _
  have XR3 : Hid (Bk ((w3.alloc (.cells #[.bool q1, .slice sa q2.length sc] 25)).alloc (.cells #[.bool false, .slice ta r2.length tc] 25)) (w2.heap.size + 1) #[.bool false, .slice ra r2.length rc] 25) := ((XR2.out.old g3).alloc _).alloc _
  have RQ3 : Hid (Row ((w3.alloc (.cells #[.bool q1, .slice sa q2.length sc] 25)).alloc (.cells #[.bool false, .slice ta r2.length tc] 25)) (.slice qa q2.length qc) (toI q2)) := RQ2.out.old (((g3).alloc _).alloc _)
  have RR3 : Hid (Row ((w3.alloc (.cells #[.bool q1, .slice sa q2.length sc] 25)).alloc (.cells #[.bool false, .slice ta r2.length tc] 25)) (.slice ra r2.length rc) (toI r2)) := RR2.out.old (((g3).alloc _).alloc _)
  clear g3 o3 o4 KS O2 V2 XA2 XB2 XQ2 XR2 RQ2 RR2 p0 p1 p2 p3
  have dn : (dk != dk) = false := by simp
  cases dk
  · go_wp2_with fail
    refine (KT _ O3.out).mono ?_
    rintro e wt ⟨tn, za, zc, zs, rfl, gt, rt, hz⟩
    obtain ⟨T, hX⟩ := txI_any tn zs
    obtain ⟨lz, hlz⟩ : ∃ lz, zs.length = lz := ⟨_, rfl⟩
    have HRZ := Lib.hid rt.1
    have HZ : Hid (zs.length ≤ 41) := hz
    have HLZ : Hid (zs.length = lz) := hlz
    have HXX := Lib.hid hX
    rw [hlz] at HRZ
    rw [hlz]
    have OT : Hid (Old w (wt.alloc (.cells #[.bool tn, .slice za lz zc] 25))) := (Old.trans O3.out gt).alloc _
    have UT : Hid (Old wt (wt.alloc (.cells #[.bool tn, .slice za lz zc] 25))) := (Old.refl wt).alloc _
    have XT : Hid (Bk (wt.alloc (.cells #[.bool tn, .slice za lz zc] 25)) (wt.heap.size) #[.bool tn, .slice za lz zc] 25) := Bk.new' wt _ _ rfl
    have KW := fun W (q : Old wt W) (q2 : Old w W) => impl_WholeText tn zs _ W T (HRZ.out.old q) (by have := HZ.out; omega) (HTT.out.old q2) HXX.out
    have KX := fun W (q : Old wt W) => spec_WholeText tn zs _ W T (HRZ.out.old q) (by have := HZ.out; omega) HXX.out
    have y0 := XT.out.c (i := 0) rfl
    have y1 := XT.out.c (i := 1) rfl
    clear gt rt hz hlz hX
    go_wp2_with fail
    refine (KW _ UT.out OT.out).mono ?_
    rintro e wu ⟨rfl, gu⟩
    have OU : Hid (Old w wu) := Old.trans OT.out gu
    have UU : Hid (Old wt wu) := Old.trans UT.out gu
    have XU : Hid (Bk wu (wt.heap.size) #[.bool tn, .slice za lz zc] 25) := XT.out.old gu
    clear y0 y1 gu OT UT XT KW
    have y0 := XU.out.c (i := 0) rfl
    have y1 := XU.out.c (i := 1) rfl
    go_wp2_with fail
    refine (KX _ UU.out).mono ?_
    rintro e wv ⟨rfl, gv⟩
    have OV : Hid (Old w wv) := Old.trans OU.out gv
    have UV : Hid (Old wt wv) := Old.trans UU.out gv
    have XV : Hid (Bk wv (wt.heap.size) #[.bool tn, .slice za lz zc] 25) := XU.out.old gv
    clear y0 y1 gv OU UU XU KX
    by_cases hg : Good tn zs
    · obtain ⟨hrd, hem, hsz⟩ := read_text HXX.out hg
      have KR := fun W => impl_ReadWhole T W (by omega)
      unfold RdA at KR
      rw [hrd] at KR
      have HZN : Hid (toI (nat zs) = zs) := (good_gw hg).1
      clear hrd hg
      go_wp2_with fail
      refine (KR _).mono ?_
      rintro e wx ⟨v9, rfl, gx, o9⟩
      have hlq : (nat zs).length = lz := by rw [nat_len]; exact HLZ.out
      have o9' : Row wx v9 zs := by have h := Own.row o9; rw [HZN.out] at h; exact h
      obtain ⟨xa9, xc9, rfl⟩ := o9'.slice
      have HL9 := HLZ.out
      have OX : Hid (Old w (wx.alloc (.cells #[.bool tn, .slice xa9 lz xc9] 25))) := (Old.trans OV.out gx).alloc _
      have XX : Hid (Bk (wx.alloc (.cells #[.bool tn, .slice xa9 lz xc9] 25)) (wt.heap.size) #[.bool tn, .slice za lz zc] 25) := (XV.out.old gx).alloc _
      have XM : Hid (Bk (wx.alloc (.cells #[.bool tn, .slice xa9 lz xc9] 25)) (wx.heap.size) #[.bool tn, .slice xa9 lz xc9] 25) := Bk.new' wx _ _ rfl
      have KF : Calls Tryd.prog 10 #[.agg #[.bool tn, .slice xa9 lz xc9], .agg #[.bool tn, .slice za lz zc]] (wx.alloc (.cells #[.bool tn, .slice xa9 lz xc9] 25)) fun e w' => e = .returned (.bool true) ∧ Old (wx.alloc (.cells #[.bool tn, .slice xa9 lz xc9] 25)) w' := by
        have hh := sameWholes_t tn zs xa9 xc9 za zc (wx.alloc (.cells #[.bool tn, .slice xa9 lz xc9] 25)) (o9'.old ((Old.refl wx).alloc _)) (by rw [HL9]; exact HRZ.out.old ((Old.trans UV.out gx).alloc _)) (by have := HZ.out; omega)
        rw [HL9] at hh
        exact hh
      rw [HL9]
      have y0 := XX.out.c (i := 0) rfl
      have y1 := XX.out.c (i := 1) rfl
      have y2 := XM.out.c (i := 0) rfl
      have y3 := XM.out.c (i := 1) rfl
      clear gx o9 o9' KR hem hsz HL9 hlq
      go_wp2_with fail
      refine KF.mono ?_
      rintro e wy ⟨rfl, gy⟩
      have OY : Hid (Old w wy) := Old.trans OX.out gy
      clear gy y0 y1 y2 y3
      go_wp2_with fail
      go_ret
      exact ⟨rfl, OY.out⟩
    · have hTe := HXX.out.bad hg
      clear HXX
      subst hTe
      go_wp2_with fail
      go_ret
      exact ⟨rfl, OV.out⟩
  have HDO := Lib.hid (HOK.out rfl)
  obtain ⟨m1, m2, m3, hM⟩ : ∃ m1 m2 m3, mulW q1 m (toI q2) ys = (m1, m2, m3) := ⟨_, _, _, rfl⟩
  have lM := len_mul q1 m (toI q2) ys
  have KM := fun W (r : Row W (.slice qa q2.length qc) (toI q2)) (q : Old w1 W) => impl_mul q1 m (toI q2) ys (.slice qa q2.length qc) (.slice b ly cb) W r (HRY.out.old q) (by rw [toI_len]; have := HLD.out; omega) (by have := HY.out; omega)
  rw [hM] at KM lM
  have HLM : Hid (m2.length ≤ 1000) := lM
  have HMM : Hid (mulW q1 m (toI q2) ys = (m1, m2, m3)) := hM
  clear hM lM HOK dn
  have p0 := XQ3.out.c (i := 0) rfl
  have p1 := XQ3.out.c (i := 1) rfl
  have p2 := XB3.out.c (i := 0) rfl
  have p3 := XB3.out.c (i := 1) rfl
  go_wp2_with fail
  refine (KM _ RQ3.out V3.out).mono ?_
  rintro e w4 ⟨v5, rfl, g4, o5⟩
  obtain ⟨ma, mc, rfl⟩ := (Own.row o5).sliceN
  have O4 : Hid (Old w (w4.alloc (.cells #[.bool m1, .slice ma m2.length mc] 25))) := (Old.trans O3.out g4).alloc _
  have V4 : Hid (Old w1 (w4.alloc (.cells #[.bool m1, .slice ma m2.length mc] 25))) := (Old.trans V3.out g4).alloc _
  have XA4 : Hid (Bk (w4.alloc (.cells #[.bool m1, .slice ma m2.length mc] 25)) (w1.heap.size) #[.bool n, .slice a lx ca] 25) := (XA3.out.old g4).alloc _
  have XB4 : Hid (Bk (w4.alloc (.cells #[.bool m1, .slice ma m2.length mc] 25)) (w1.heap.size + 1) #[.bool m, .slice b ly cb] 25) := (XB3.out.old g4).alloc _
  have XQ4 : Hid (Bk (w4.alloc (.cells #[.bool m1, .slice ma m2.length mc] 25)) (w2.heap.size) #[.bool q1, .slice qa q2.length qc] 25) := (XQ3.out.old g4).alloc _
  have XR4 : Hid (Bk (w4.alloc (.cells #[.bool m1, .slice ma m2.length mc] 25)) (w2.heap.size + 1) #[.bool false, .slice ra r2.length rc] 25) := (XR3.out.old g4).alloc _
  have RQ4 : Hid (Row (w4.alloc (.cells #[.bool m1, .slice ma m2.length mc] 25)) (.slice qa q2.length qc) (toI q2)) := RQ3.out.old ((g4).alloc _)
  have RR4 : Hid (Row (w4.alloc (.cells #[.bool m1, .slice ma m2.length mc] 25)) (.slice ra r2.length rc) (toI r2)) := RR3.out.old ((g4).alloc _)
  have XX4 : Hid (Bk (w4.alloc (.cells #[.bool m1, .slice ma m2.length mc] 25)) (w4.heap.size) #[.bool m1, .slice ma m2.length mc] 25) := Bk.new' w4 _ _ rfl
  have RX4 : Hid (Row (w4.alloc (.cells #[.bool m1, .slice ma m2.length mc] 25)) (.slice ma m2.length mc) (toI m2)) := (Own.row o5).old ((Old.refl w4).alloc _)
  clear g4 o5 KM O3 V3 XA3 XB3 XQ3 XR3 RQ3 RR3 p0 p1 p2 p3
  obtain ⟨a1, a2, a3, hA⟩ : ∃ a1 a2 a3, addW m1 false (toI m2) (toI r2) = (a1, a2, a3) := ⟨_, _, _, rfl⟩
  have lA := len_add m1 false (toI m2) (toI r2)
  have KA := fun W (r : Row W (.slice ma m2.length mc) (toI m2)) (r' : Row W (.slice ra r2.length rc) (toI r2)) => impl_add m1 false (toI m2) (toI r2) (.slice ma m2.length mc) (.slice ra r2.length rc) W r r' (by rw [toI_len]; have := HLM.out; omega) (by rw [toI_len]; have := HLD.out; omega)
  rw [hA] at KA lA
  have HLA : Hid (a2.length ≤ 1000) := lA
  have HAX : Hid (m3 = true → a1 = n ∧ a2 = nat xs ∧ a3 = true ∧ toI (nat xs) = xs) := fun h3 => by
    obtain ⟨h5, h6⟩ := HDO.out.2 m1 m2 (h3 ▸ HMM.out)
    rw [hA] at h5
    injection h5 with h7 h8
    injection h8 with h8 h9
    exact ⟨h7, h8, h9, h6⟩
  clear hA lA HMM
  have p0 := XX4.out.c (i := 0) rfl
  have p1 := XX4.out.c (i := 1) rfl
  have p2 := XR4.out.c (i := 0) rfl
  have p3 := XR4.out.c (i := 1) rfl
  go_wp2_with fail
  refine (KA _ RX4.out RR4.out).mono ?_
  rintro e w5 ⟨v6, rfl, g5, o6⟩
  obtain ⟨ya, yc, rfl⟩ := (Own.row o6).sliceN
  have O5 : Hid (Old w (w5.alloc (.cells #[.bool a1, .slice ya a2.length yc] 25))) := (Old.trans O4.out g5).alloc _
  have V5 : Hid (Old w1 (w5.alloc (.cells #[.bool a1, .slice ya a2.length yc] 25))) := (Old.trans V4.out g5).alloc _
  have XA5 : Hid (Bk (w5.alloc (.cells #[.bool a1, .slice ya a2.length yc] 25)) (w1.heap.size) #[.bool n, .slice a lx ca] 25) := (XA4.out.old g5).alloc _
  have XB5 : Hid (Bk (w5.alloc (.cells #[.bool a1, .slice ya a2.length yc] 25)) (w1.heap.size + 1) #[.bool m, .slice b ly cb] 25) := (XB4.out.old g5).alloc _
  have XQ5 : Hid (Bk (w5.alloc (.cells #[.bool a1, .slice ya a2.length yc] 25)) (w2.heap.size) #[.bool q1, .slice qa q2.length qc] 25) := (XQ4.out.old g5).alloc _
  have XR5 : Hid (Bk (w5.alloc (.cells #[.bool a1, .slice ya a2.length yc] 25)) (w2.heap.size + 1) #[.bool false, .slice ra r2.length rc] 25) := (XR4.out.old g5).alloc _
  have XX5 : Hid (Bk (w5.alloc (.cells #[.bool a1, .slice ya a2.length yc] 25)) (w4.heap.size) #[.bool m1, .slice ma m2.length mc] 25) := (XX4.out.old g5).alloc _
  have RQ5 : Hid (Row (w5.alloc (.cells #[.bool a1, .slice ya a2.length yc] 25)) (.slice qa q2.length qc) (toI q2)) := RQ4.out.old ((g5).alloc _)
  have RR5 : Hid (Row (w5.alloc (.cells #[.bool a1, .slice ya a2.length yc] 25)) (.slice ra r2.length rc) (toI r2)) := RR4.out.old ((g5).alloc _)
  have RX5 : Hid (Row (w5.alloc (.cells #[.bool a1, .slice ya a2.length yc] 25)) (.slice ma m2.length mc) (toI m2)) := RX4.out.old ((g5).alloc _)
  have XY5 : Hid (Bk (w5.alloc (.cells #[.bool a1, .slice ya a2.length yc] 25)) (w5.heap.size) #[.bool a1, .slice ya a2.length yc] 25) := Bk.new' w5 _ _ rfl
  have RY5 : Hid (Row (w5.alloc (.cells #[.bool a1, .slice ya a2.length yc] 25)) (.slice ya a2.length yc) (toI a2)) := (Own.row o6).old ((Old.refl w5).alloc _)
  clear g5 o6 KA O4 V4 XA4 XB4 XQ4 XR4 XX4 RQ4 RR4 RX4 p0 p1 p2 p3
  have KC := fun W (r' : Row W (.slice ra r2.length rc) (toI r2)) (q : Old w1 W) => impl_cmp false m (toI r2) ys (.slice ra r2.length rc) (.slice b ly cb) W r' (HRY.out.old q) (by rw [toI_len]; have := HLD.out; omega) (by have := HY.out; omega)
  rw [HDO.out.1] at KC
  clear HDO
  cases m3
  · have p0 := XR5.out.c (i := 0) rfl
    have p1 := XR5.out.c (i := 1) rfl
    have p2 := XB5.out.c (i := 0) rfl
    have p3 := XB5.out.c (i := 1) rfl
    go_wp2_with fail
    refine (KC _ RR5.out V5.out).mono ?_
    rintro e w6 ⟨rfl, g6⟩
    have O6 : Hid (Old w w6) := Old.trans O5.out g6
    clear g6 p0 p1 p2 p3
    go_wp2_with fail
    refine (KT _ O6.out).mono ?_
    rintro e wt ⟨tn, za, zc, zs, rfl, gt, rt, hz⟩
    obtain ⟨T, hX⟩ := txI_any tn zs
    obtain ⟨lz, hlz⟩ : ∃ lz, zs.length = lz := ⟨_, rfl⟩
    have HRZ := Lib.hid rt.1
    have HZ : Hid (zs.length ≤ 41) := hz
    have HLZ : Hid (zs.length = lz) := hlz
    have HXX := Lib.hid hX
    rw [hlz] at HRZ
    rw [hlz]
    have OT : Hid (Old w (wt.alloc (.cells #[.bool tn, .slice za lz zc] 25))) := (Old.trans O6.out gt).alloc _
    have UT : Hid (Old wt (wt.alloc (.cells #[.bool tn, .slice za lz zc] 25))) := (Old.refl wt).alloc _
    have XT : Hid (Bk (wt.alloc (.cells #[.bool tn, .slice za lz zc] 25)) (wt.heap.size) #[.bool tn, .slice za lz zc] 25) := Bk.new' wt _ _ rfl
    have KW := fun W (q : Old wt W) (q2 : Old w W) => impl_WholeText tn zs _ W T (HRZ.out.old q) (by have := HZ.out; omega) (HTT.out.old q2) HXX.out
    have KX := fun W (q : Old wt W) => spec_WholeText tn zs _ W T (HRZ.out.old q) (by have := HZ.out; omega) HXX.out
    have y0 := XT.out.c (i := 0) rfl
    have y1 := XT.out.c (i := 1) rfl
    clear gt rt hz hlz hX
    go_wp2_with fail
    refine (KW _ UT.out OT.out).mono ?_
    rintro e wu ⟨rfl, gu⟩
    have OU : Hid (Old w wu) := Old.trans OT.out gu
    have UU : Hid (Old wt wu) := Old.trans UT.out gu
    have XU : Hid (Bk wu (wt.heap.size) #[.bool tn, .slice za lz zc] 25) := XT.out.old gu
    clear y0 y1 gu OT UT XT KW
    have y0 := XU.out.c (i := 0) rfl
    have y1 := XU.out.c (i := 1) rfl
    go_wp2_with fail
    refine (KX _ UU.out).mono ?_
    rintro e wv ⟨rfl, gv⟩
    have OV : Hid (Old w wv) := Old.trans OU.out gv
    have UV : Hid (Old wt wv) := Old.trans UU.out gv
    have XV : Hid (Bk wv (wt.heap.size) #[.bool tn, .slice za lz zc] 25) := XU.out.old gv
    clear y0 y1 gv OU UU XU KX
    by_cases hg : Good tn zs
    · obtain ⟨hrd, hem, hsz⟩ := read_text HXX.out hg
      have KR := fun W => impl_ReadWhole T W (by omega)
      unfold RdA at KR
      rw [hrd] at KR
      have HZN : Hid (toI (nat zs) = zs) := (good_gw hg).1
      clear hrd hg
      go_wp2_with fail
      refine (KR _).mono ?_
      rintro e wx ⟨v9, rfl, gx, o9⟩
      have hlq : (nat zs).length = lz := by rw [nat_len]; exact HLZ.out
      have o9' : Row wx v9 zs := by have h := Own.row o9; rw [HZN.out] at h; exact h
      obtain ⟨xa9, xc9, rfl⟩ := o9'.slice
      have HL9 := HLZ.out
      have OX : Hid (Old w (wx.alloc (.cells #[.bool tn, .slice xa9 lz xc9] 25))) := (Old.trans OV.out gx).alloc _
      have XX : Hid (Bk (wx.alloc (.cells #[.bool tn, .slice xa9 lz xc9] 25)) (wt.heap.size) #[.bool tn, .slice za lz zc] 25) := (XV.out.old gx).alloc _
      have XM : Hid (Bk (wx.alloc (.cells #[.bool tn, .slice xa9 lz xc9] 25)) (wx.heap.size) #[.bool tn, .slice xa9 lz xc9] 25) := Bk.new' wx _ _ rfl
      have KF : Calls Tryd.prog 10 #[.agg #[.bool tn, .slice xa9 lz xc9], .agg #[.bool tn, .slice za lz zc]] (wx.alloc (.cells #[.bool tn, .slice xa9 lz xc9] 25)) fun e w' => e = .returned (.bool true) ∧ Old (wx.alloc (.cells #[.bool tn, .slice xa9 lz xc9] 25)) w' := by
        have hh := sameWholes_t tn zs xa9 xc9 za zc (wx.alloc (.cells #[.bool tn, .slice xa9 lz xc9] 25)) (o9'.old ((Old.refl wx).alloc _)) (by rw [HL9]; exact HRZ.out.old ((Old.trans UV.out gx).alloc _)) (by have := HZ.out; omega)
        rw [HL9] at hh
        exact hh
      rw [HL9]
      have y0 := XX.out.c (i := 0) rfl
      have y1 := XX.out.c (i := 1) rfl
      have y2 := XM.out.c (i := 0) rfl
      have y3 := XM.out.c (i := 1) rfl
      clear gx o9 o9' KR hem hsz HL9 hlq
      go_wp2_with fail
      refine KF.mono ?_
      rintro e wy ⟨rfl, gy⟩
      have OY : Hid (Old w wy) := Old.trans OX.out gy
      clear gy y0 y1 y2 y3
      go_wp2_with fail
      go_ret
      exact ⟨rfl, OY.out⟩
    · have hTe := HXX.out.bad hg
      clear HXX
      subst hTe
      go_wp2_with fail
      go_ret
      exact ⟨rfl, OV.out⟩
  · obtain ⟨h7, h8, h9, h10⟩ := HAX.out rfl
    clear HAX
    have hlq : a2.length = lx := by rw [h8, nat_len]; exact HLX.out
    have HRL : Hid (toI a2 = xs) := by rw [h8]; exact h10
    subst h7 h9
    clear h8 h10
    rw [hlq]
    rw [hlq] at XY5 RY5
    rw [hlq] at O5
    rw [hlq] at V5
    rw [hlq] at XA5
    rw [hlq] at XB5
    rw [hlq] at XQ5
    rw [hlq] at XR5
    rw [hlq] at XX5
    rw [hlq] at RQ5
    rw [hlq] at RR5
    rw [hlq] at RX5
    have KE : Calls Tryd.prog 10 #[.agg #[.bool a1, .slice ya lx yc], .agg #[.bool a1, .slice a lx ca]] (w5.alloc (.cells #[.bool a1, .slice ya lx yc] 25)) fun e w' => e = .returned (.bool true) ∧ Old (w5.alloc (.cells #[.bool a1, .slice ya lx yc] 25)) w' := by
      have hh := sameWholes_t a1 xs ya yc a ca (w5.alloc (.cells #[.bool a1, .slice ya lx yc] 25)) (by rw [HLX.out, ← HRL.out]; exact RY5.out) (by rw [HLX.out]; exact HRX.out.old V5.out) (by have := HX.out; omega)
      rw [HLX.out] at hh
      exact hh
    have p0 := XY5.out.c (i := 0) rfl
    have p1 := XY5.out.c (i := 1) rfl
    have p2 := XA5.out.c (i := 0) rfl
    have p3 := XA5.out.c (i := 1) rfl
    have p4 := XR5.out.c (i := 0) rfl
    have p5 := XR5.out.c (i := 1) rfl
    have p6 := XB5.out.c (i := 0) rfl
    have p7 := XB5.out.c (i := 1) rfl
    go_wp2_with fail
    refine KE.mono ?_
    rintro e w6 ⟨rfl, g6⟩
    have O6 : Hid (Old w w6) := Old.trans O5.out g6
    have V6 : Hid (Old w1 w6) := Old.trans V5.out g6
    have XR6 : Hid (Bk w6 (w2.heap.size + 1) #[.bool false, .slice ra r2.length rc] 25) := XR5.out.old g6
    have XB6 : Hid (Bk w6 (w1.heap.size + 1) #[.bool m, .slice b ly cb] 25) := XB5.out.old g6
    have RR6 : Hid (Row w6 (.slice ra r2.length rc) (toI r2)) := RR5.out.old g6
    clear g6 p0 p1 p2 p3 p4 p5 p6 p7 KE
    have p0 := XR6.out.c (i := 0) rfl
    have p1 := XR6.out.c (i := 1) rfl
    have p2 := XB6.out.c (i := 0) rfl
    have p3 := XB6.out.c (i := 1) rfl
    go_wp2_with fail
    refine (KC _ RR6.out V6.out).mono ?_
    rintro e w7 ⟨rfl, g7⟩
    have O7 : Hid (Old w w7) := Old.trans O6.out g7
    clear g7 p0 p1 p2 p3
    go_wp2_with fail
    refine (KT _ O7.out).mono ?_
    rintro e wt ⟨tn, za, zc, zs, rfl, gt, rt, hz⟩
    obtain ⟨T, hX⟩ := txI_any tn zs
    obtain ⟨lz, hlz⟩ : ∃ lz, zs.length = lz := ⟨_, rfl⟩
    have HRZ := Lib.hid rt.1
    have HZ : Hid (zs.length ≤ 41) := hz
    have HLZ : Hid (zs.length = lz) := hlz
    have HXX := Lib.hid hX
    rw [hlz] at HRZ
    rw [hlz]
    have OT : Hid (Old w (wt.alloc (.cells #[.bool tn, .slice za lz zc] 25))) := (Old.trans O7.out gt).alloc _
    have UT : Hid (Old wt (wt.alloc (.cells #[.bool tn, .slice za lz zc] 25))) := (Old.refl wt).alloc _
    have XT : Hid (Bk (wt.alloc (.cells #[.bool tn, .slice za lz zc] 25)) (wt.heap.size) #[.bool tn, .slice za lz zc] 25) := Bk.new' wt _ _ rfl
    have KW := fun W (q : Old wt W) (q2 : Old w W) => impl_WholeText tn zs _ W T (HRZ.out.old q) (by have := HZ.out; omega) (HTT.out.old q2) HXX.out
    have KX := fun W (q : Old wt W) => spec_WholeText tn zs _ W T (HRZ.out.old q) (by have := HZ.out; omega) HXX.out
    have y0 := XT.out.c (i := 0) rfl
    have y1 := XT.out.c (i := 1) rfl
    clear gt rt hz hlz hX
    go_wp2_with fail
    refine (KW _ UT.out OT.out).mono ?_
    rintro e wu ⟨rfl, gu⟩
    have OU : Hid (Old w wu) := Old.trans OT.out gu
    have UU : Hid (Old wt wu) := Old.trans UT.out gu
    have XU : Hid (Bk wu (wt.heap.size) #[.bool tn, .slice za lz zc] 25) := XT.out.old gu
    clear y0 y1 gu OT UT XT KW
    have y0 := XU.out.c (i := 0) rfl
    have y1 := XU.out.c (i := 1) rfl
    go_wp2_with fail
    refine (KX _ UU.out).mono ?_
    rintro e wv ⟨rfl, gv⟩
    have OV : Hid (Old w wv) := Old.trans OU.out gv
    have UV : Hid (Old wt wv) := Old.trans UU.out gv
    have XV : Hid (Bk wv (wt.heap.size) #[.bool tn, .slice za lz zc] 25) := XU.out.old gv
    clear y0 y1 gv OU UU XU KX
    by_cases hg : Good tn zs
    · obtain ⟨hrd, hem, hsz⟩ := read_text HXX.out hg
      have KR := fun W => impl_ReadWhole T W (by omega)
      unfold RdA at KR
      rw [hrd] at KR
      have HZN : Hid (toI (nat zs) = zs) := (good_gw hg).1
      clear hrd hg
      go_wp2_with fail
      refine (KR _).mono ?_
      rintro e wx ⟨v9, rfl, gx, o9⟩
      have hlq : (nat zs).length = lz := by rw [nat_len]; exact HLZ.out
      have o9' : Row wx v9 zs := by have h := Own.row o9; rw [HZN.out] at h; exact h
      obtain ⟨xa9, xc9, rfl⟩ := o9'.slice
      have HL9 := HLZ.out
      have OX : Hid (Old w (wx.alloc (.cells #[.bool tn, .slice xa9 lz xc9] 25))) := (Old.trans OV.out gx).alloc _
      have XX : Hid (Bk (wx.alloc (.cells #[.bool tn, .slice xa9 lz xc9] 25)) (wt.heap.size) #[.bool tn, .slice za lz zc] 25) := (XV.out.old gx).alloc _
      have XM : Hid (Bk (wx.alloc (.cells #[.bool tn, .slice xa9 lz xc9] 25)) (wx.heap.size) #[.bool tn, .slice xa9 lz xc9] 25) := Bk.new' wx _ _ rfl
      have KF : Calls Tryd.prog 10 #[.agg #[.bool tn, .slice xa9 lz xc9], .agg #[.bool tn, .slice za lz zc]] (wx.alloc (.cells #[.bool tn, .slice xa9 lz xc9] 25)) fun e w' => e = .returned (.bool true) ∧ Old (wx.alloc (.cells #[.bool tn, .slice xa9 lz xc9] 25)) w' := by
        have hh := sameWholes_t tn zs xa9 xc9 za zc (wx.alloc (.cells #[.bool tn, .slice xa9 lz xc9] 25)) (o9'.old ((Old.refl wx).alloc _)) (by rw [HL9]; exact HRZ.out.old ((Old.trans UV.out gx).alloc _)) (by have := HZ.out; omega)
        rw [HL9] at hh
        exact hh
      rw [HL9]
      have y0 := XX.out.c (i := 0) rfl
      have y1 := XX.out.c (i := 1) rfl
      have y2 := XM.out.c (i := 0) rfl
      have y3 := XM.out.c (i := 1) rfl
      clear gx o9 o9' KR hem hsz HL9 hlq
      go_wp2_with fail
      refine KF.mono ?_
      rintro e wy ⟨rfl, gy⟩
      have OY : Hid (Old w wy) := Old.trans OX.out gy
      clear gy y0 y1 y2 y3
      go_wp2_with fail
      go_ret
      exact ⟨rfl, OY.out⟩
    · have hTe := HXX.out.bad hg
      clear HXX
      subst hTe
      go_wp2_with fail
      go_ret
      exact ⟨rfl, OV.out⟩
end Go.Proofs.YtjedpceiimceoaaDoor
