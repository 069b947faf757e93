/- Proved: the walk of the statement FnRounded: what is rounded is at most half a divisor away. -/
import Derived.Test.YtimmcijoebmaiaaR05
import Derived.Test.YtimmcijoebmaiaaR00
import Derived.Test.YtimmcijoebmaiaaR19
import Derived.Test.YtimmcijoebmaiaaR07
import Derived.Test.YtimmcijoebmaiaaR20
namespace Go.Proofs.Ytimmcijoebmaiaa
open Go.ChangeShapes Go.WideShapes Go.ChangeAt Go.RowKit
open M2
set_option linter.unusedVariables false
set_option linter.unusedSimpArgs false
theorem told_yes {z : Int} {r1 : Bool} {r2 : List Nat} (h : told z = (r1, r2, true)) : r1 = ng z ∧ r2 = dg z ∧ (dg z).length ≤ 40 := by
  unfold told at h
  split at h
  · rename_i hl
    injection h with h1 h2
    injection h2 with h2 h3
    exact ⟨h1.symm, h2.symm, hl⟩
  · injection h with h1 h2
    injection h2 with h2 h3
    cases h3
theorem round_near (X q : Int) (Y : Nat) (hY : 0 < Y) (hq : q = (2 * X + (Y : Int)) / (2 * (Y : Int))) : ((X - q * (Y : Int)) + (X - q * (Y : Int))).natAbs ≤ Y := by
  have h1 := Int.emod_add_mul_ediv (2 * X + (Y : Int)) (2 * (Y : Int))
  have h2 := Int.emod_nonneg (2 * X + (Y : Int)) (show 2 * (Y : Int) ≠ 0 by omega)
  have h3 := Int.emod_lt_of_pos (2 * X + (Y : Int)) (show (0 : Int) < 2 * (Y : Int) by omega)
  rw [← hq] at h1
  have e : 2 * (Y : Int) * q = 2 * (q * (Y : Int)) := by rw [Int.mul_assoc, Int.mul_comm (Y : Int) q]
  rw [e] at h1
  generalize q * (Y : Int) = t at *
  omega
theorem neg_sv (z : Int) : sv (!(ng z) && decide (0 < (dg z).length)) (dg z) = -z ∧ Gw (!(ng z) && decide (0 < (dg z).length)) (dg z) := by
  have hv : val (dg z) = z.natAbs := by
    unfold dg
    exact val_dig _
  have hg := gw_of z
  rcases Int.lt_trichotomy z 0 with h | h | h
  · have e : ng z = true := by unfold ng; exact decide_eq_true h
    rw [e]
    refine ⟨?_, hg.1, fun h => by cases h⟩
    show (val (dg z) : Int) = -z
    rw [hv]
    omega
  · subst h
    exact ⟨rfl, hg.1, fun h => by cases h⟩
  · have e : ng z = false := by unfold ng; exact decide_eq_false (by omega)
    have hl : dg z ≠ [] := fun h0 => by
      unfold dg at h0
      have := dig_nil h0
      omega
    have hl2 : 0 < (dg z).length := List.length_pos_iff.2 hl
    rw [e, decide_eq_true hl2]
    refine ⟨?_, hg.1, fun _ => hl⟩
    show -(val (dg z) : Int) = -z
    rw [hv]
    omega
theorem rounded_ok (n m : Bool) (xs ys : List Int) (r1 : Bool) (r2 : List Nat) (m1 : Bool) (m2 : List Nat) (a1 : Bool) (a2 : List Nat) (e1 : Bool) (e2 : List Nat)
    (hr : roundW n m xs ys = (r1, r2, true)) (hm : mulW r1 m (toI r2) ys = (m1, m2, true)) (ha : addW n (!m1 && decide (0 < m2.length)) xs (toI m2) = (a1, a2, true)) (he : addW a1 a1 (toI a2) (toI a2) = (e1, e2, true)) :
    cmpW false m (toI e2) ys ≤ 0 := by
  unfold roundW at hr
  split at hr
  case isFalse => cases hr
  rename_i hd
  obtain ⟨⟨hgx, hgy⟩, rfl, hl⟩ := hd
  obtain ⟨ex, gx, lx⟩ := good_gw hgx
  obtain ⟨ey, gy, ly⟩ := good_gw hgy
  have hY : 0 < val (nat ys) := by
    rcases Nat.eq_zero_or_pos (val (nat ys)) with h0 | h0
    · exfalso
      have h1 := dig_val gy.1
      rw [h0] at h1
      have h2 : (nat ys).length = 0 := by rw [← h1]; rfl
      rw [nat_len] at h2
      omega
    · exact h0
  obtain ⟨q, hq⟩ : ∃ q : Int, q = (2 * sv n (nat xs) + (val (nat ys) : Int)) / (2 * (val (nat ys) : Int)) := ⟨_, rfl⟩
  rw [← hq] at hr
  obtain ⟨rfl, rfl, lq⟩ := told_yes hr
  have hgq : Good (ng q) (toI (dg q)) := gw_good (gw_of q) lq
  unfold mulW at hm
  rw [if_pos ⟨hgq, hgy⟩, nat_toI, sv_of] at hm
  have es : sv false (nat ys) = (val (nat ys) : Int) := rfl
  rw [es] at hm
  obtain ⟨rfl, rfl, lm⟩ := told_yes hm
  obtain ⟨n1, n2⟩ := neg_sv (q * (val (nat ys) : Int))
  have hgm := gw_good n2 lm
  unfold addW at ha
  rw [if_pos ⟨hgx, hgm⟩, nat_toI, n1] at ha
  obtain ⟨rfl, rfl, ld⟩ := told_yes ha
  obtain ⟨d, hd⟩ : ∃ d : Int, d = sv n (nat xs) + -(q * (val (nat ys) : Int)) := ⟨_, rfl⟩
  rw [← hd] at he ld
  have hgd := gw_good (gw_of d) ld
  unfold addW at he
  rw [if_pos ⟨hgd, hgd⟩, nat_toI, sv_of] at he
  obtain ⟨rfl, rfl, le⟩ := told_yes he
  have hge : Good false (toI (dg (d + d))) := gw_good ⟨(gw_of (d + d)).1, fun h => by cases h⟩ le
  have hv : val (dg (d + d)) = (d + d).natAbs := by
    unfold dg
    exact val_dig _
  have hn := round_near (sv n (nat xs)) q (val (nat ys)) hY hq
  unfold cmpW
  rw [if_pos ⟨hge, hgy⟩, nat_toI]
  show cmpI (val (dg (d + d)) : Int) (val (nat ys) : Int) ≤ 0
  rw [hv]
  have hdd : (d + d).natAbs ≤ val (nat ys) := by
    rw [hd]
    rw [show sv n (nat xs) + -(q * (val (nat ys) : Int)) = sv n (nat xs) - q * (val (nat ys) : Int) from rfl]
    exact hn
  unfold cmpI
  split
  · decide
  · split
    · omega
    · decide
set_option maxRecDepth 100000 in
set_option maxHeartbeats 8000000 in
theorem sameWholes_r (b : Bool) (xs : List Int) (a1 : Option Addr) (c1 : Nat) (a2 : Option Addr) (c2 : Nat) (w : World) (hv : Row w (.slice a1 xs.length c1) xs) (hu : Row w (.slice a2 xs.length c2) xs) (hl : xs.length ≤ 1048576) :
    Calls Try.prog 8 #[.agg #[.bool b, .slice a1 xs.length c1], .agg #[.bool b, .slice a2 xs.length c2]] w fun e w' => e = .returned (.bool true) ∧ Old w w' := by
  have HA : Hid (Old w ((w.alloc (.cells #[.bool b, .slice a1 xs.length c1] 25)).alloc (.cells #[.bool b, .slice a2 xs.length c2] 25))) := ((Old.refl w).alloc _).alloc _
  have PA : Hid (Bk ((w.alloc (.cells #[.bool b, .slice a1 xs.length c1] 25)).alloc (.cells #[.bool b, .slice a2 xs.length c2] 25)) w.heap.size #[.bool b, .slice a1 xs.length c1] 25) := (Bk.new' w _ _ rfl).alloc _
  have PB : Hid (Bk ((w.alloc (.cells #[.bool b, .slice a1 xs.length c1] 25)).alloc (.cells #[.bool b, .slice a2 xs.length c2] 25)) (w.heap.size + 1) #[.bool b, .slice a2 xs.length c2] 25) := Bk.new' _ _ _ (by simp)
  have K := fun W (q : Old w W) => same_yes xs _ _ W (hv.old q) (hu.old q) hl
  have p0 := PA.out.c (i := 0) rfl
  have p1 := PA.out.c (i := 1) rfl
  have q0 := PB.out.c (i := 0) rfl
  have q1 := PB.out.c (i := 1) rfl
  have d0 : (b == b) = true := by simp
  clear hv hu
  go_enter Try.func8, Try.ntmps8
  go_wp2_with fail
  refine (K _ HA.out).mono ?_
  rintro e w1 ⟨rfl, g1⟩
  have HO := hid (Old.trans HA.out g1)
  clear g1
  go_wp2_with fail
  go_ret
  exact ⟨rfl, HO.out⟩
set_option maxRecDepth 100000 in
set_option maxHeartbeats 8000000 in
theorem law_Rounded (w : World) (code : Value) (len : Nat) (h : BysW w code len) (hl : len ≤ 9223372036854775807) :
    Calls Try.prog 3 #[code] w fun e w' => e = .returned (.bool true) ∧ Old w w' := by
  have KD : Hid (Calls Try.prog 5 #[code] w (TwoW w)) := drawRound_c w code len h hl
  obtain ⟨ca0, ccap, hcode⟩ : ∃ ca ccap, code = .slice ca len ccap := by
    rcases h with ⟨a, cap, e, e2⟩ | ⟨b, o, cap, e, _⟩
    · exact ⟨a, cap, by rw [e, e2]⟩
    · exact ⟨_, cap, e⟩
  subst hcode
  clear h
  by_cases hb : (1048576 : Int) < (len : Int)
  · have d1 : decide ((1048576 : Int) < (len : Int)) = true := decide_eq_true hb
    have d2 : decide ((len : Int) > 1048576) = true := decide_eq_true hb
    go_enter Try.func3, Try.ntmps3
    go_wp2_with fail
    go_ret
    exact ⟨rfl, Old.refl _⟩
  have d1 : decide ((1048576 : Int) < (len : Int)) = false := decide_eq_false hb
  have d2 : decide ((len : Int) > 1048576) = false := decide_eq_false hb
  clear hb
  go_enter Try.func3, Try.ntmps3
  go_wp2_with fail
  refine KD.out.mono ?_
  rintro e w1 ⟨n, a, ca, xs, m, b, cb, ys, rfl, g1, rx, ry, hx, hy⟩
  have KR := fun W (q : Old w1 W) => impl_round n m xs ys _ _ W (rx.1.old q) (ry.1.old q) (by omega) (by omega) _ rfl
  have KS := fun W (q : Old w1 W) => spec_round n m xs ys _ _ W (rx.1.old q) (ry.1.old q) (by omega) (by omega) _ rfl
  have HRX := hid rx.1
  have HRY := hid ry.1
  have lR := len_round n m xs ys
  obtain ⟨r1, r2, r3, hR⟩ : ∃ r1 r2 r3, roundW n m xs ys = (r1, r2, r3) := ⟨_, _, _, rfl⟩
  rw [hR] at KR KS lR
  obtain ⟨lx, hlx⟩ : ∃ lx, xs.length = lx := ⟨_, rfl⟩
  obtain ⟨ly, hly⟩ : ∃ ly, ys.length = ly := ⟨_, rfl⟩
  have HX : Hid (xs.length ≤ 41) := hx
  have HY : Hid (ys.length ≤ 41) := hy
  have HR : Hid (roundW n m xs ys = (r1, r2, r3)) := hR
  have HLR : Hid (r2.length ≤ 1000) := lR
  rw [hlx] at KR KS HRX
  rw [hly] at KR KS HRY
  rw [hlx, hly]
  have O1 : Hid (Old w ((w1.alloc (.cells #[.bool n, .slice a lx ca] 25)).alloc (.cells #[.bool m, .slice b ly cb] 25))) := (g1.alloc _).alloc _
  have V1 : Hid (Old w1 ((w1.alloc (.cells #[.bool n, .slice a lx ca] 25)).alloc (.cells #[.bool m, .slice b ly cb] 25))) := ((Old.refl w1).alloc _).alloc _
  have XA1 : Hid (Bk ((w1.alloc (.cells #[.bool n, .slice a lx ca] 25)).alloc (.cells #[.bool m, .slice b ly cb] 25)) w1.heap.size #[.bool n, .slice a lx ca] 25) := (Bk.new' w1 _ _ rfl).alloc _
  have XB1 : Hid (Bk ((w1.alloc (.cells #[.bool n, .slice a lx ca] 25)).alloc (.cells #[.bool m, .slice b ly cb] 25)) (w1.heap.size + 1) #[.bool m, .slice b ly cb] 25) := Bk.new' _ _ _ (by simp)
  clear hR lR hx hy hlx hly rx ry g1 KD d1 d2
  have p0 := XA1.out.c (i := 0) rfl
  have p1 := XA1.out.c (i := 1) rfl
  have p2 := XB1.out.c (i := 0) rfl
  have p3 := XB1.out.c (i := 1) rfl
  go_wp2_with fail
  refine (KR _ V1.out).mono ?_
  rintro e w2 ⟨v2, rfl, g2, o2⟩
  obtain ⟨qa, qc, rfl⟩ := (Own.row o2).sliceN
  have RQ : Hid (Row w2 (.slice qa r2.length qc) (toI r2)) := Own.row o2
  have O2 : Hid (Old w (w2.alloc (.cells #[.bool r1, .slice qa r2.length qc] 25))) := (Old.trans O1.out g2).alloc _
  have V2 : Hid (Old w1 (w2.alloc (.cells #[.bool r1, .slice qa r2.length qc] 25))) := (Old.trans V1.out g2).alloc _
  have XA2 : Hid (Bk (w2.alloc (.cells #[.bool r1, .slice qa r2.length qc] 25)) w1.heap.size #[.bool n, .slice a lx ca] 25) := (XA1.out.old g2).alloc _
  have XB2 : Hid (Bk (w2.alloc (.cells #[.bool r1, .slice qa r2.length qc] 25)) (w1.heap.size + 1) #[.bool m, .slice b ly cb] 25) := (XB1.out.old g2).alloc _
  have XQ2 : Hid (Bk (w2.alloc (.cells #[.bool r1, .slice qa r2.length qc] 25)) w2.heap.size #[.bool r1, .slice qa r2.length qc] 25) := Bk.new' w2 _ _ rfl
  have Y2 : Hid (Old w2 (w2.alloc (.cells #[.bool r1, .slice qa r2.length qc] 25))) := (Old.refl w2).alloc _
  clear g2 o2 O1 V1 XA1 XB1 KR p0 p1 p2 p3
  have p0 := XA2.out.c (i := 0) rfl
  have p1 := XA2.out.c (i := 1) rfl
  have p2 := XB2.out.c (i := 0) rfl
  have p3 := XB2.out.c (i := 1) rfl
  go_wp2_with fail
  refine (KS _ V2.out).mono ?_
  rintro e w3 ⟨v3, rfl, g3, o3⟩
  obtain ⟨ta, tc, rfl⟩ := (Own.row o3).sliceN
  have RT : Hid (Row w3 (.slice ta r2.length tc) (toI r2)) := Own.row o3
  have O3 : Hid (Old w (w3.alloc (.cells #[.bool r1, .slice ta r2.length tc] 25))) := (Old.trans O2.out g3).alloc _
  have V3 : Hid (Old w1 (w3.alloc (.cells #[.bool r1, .slice ta r2.length tc] 25))) := (Old.trans V2.out g3).alloc _
  have Y3 : Hid (Old w2 (w3.alloc (.cells #[.bool r1, .slice ta r2.length tc] 25))) := (Old.trans Y2.out g3).alloc _
  have XA3 : Hid (Bk (w3.alloc (.cells #[.bool r1, .slice ta r2.length tc] 25)) w1.heap.size #[.bool n, .slice a lx ca] 25) := (XA2.out.old g3).alloc _
  have XB3 : Hid (Bk (w3.alloc (.cells #[.bool r1, .slice ta r2.length tc] 25)) (w1.heap.size + 1) #[.bool m, .slice b ly cb] 25) := (XB2.out.old g3).alloc _
  have XQ3 : Hid (Bk (w3.alloc (.cells #[.bool r1, .slice ta r2.length tc] 25)) w2.heap.size #[.bool r1, .slice qa r2.length qc] 25) := (XQ2.out.old g3).alloc _
  have XT3 : Hid (Bk (w3.alloc (.cells #[.bool r1, .slice ta r2.length tc] 25)) w3.heap.size #[.bool r1, .slice ta r2.length tc] 25) := Bk.new' w3 _ _ rfl
  have KW : Calls Try.prog 8 #[.agg #[.bool r1, .slice qa r2.length qc], .agg #[.bool r1, .slice ta r2.length tc]] (w3.alloc (.cells #[.bool r1, .slice ta r2.length tc] 25)) fun e w' => e = .returned (.bool true) ∧ Old (w3.alloc (.cells #[.bool r1, .slice ta r2.length tc] 25)) w' := by
    have h := sameWholes_r r1 (toI r2) qa qc ta tc (w3.alloc (.cells #[.bool r1, .slice ta r2.length tc] 25)) (by rw [toI_len]; exact RQ.out.old Y3.out) (by rw [toI_len]; exact RT.out.old ((Old.refl w3).alloc _)) (by rw [toI_len]; have := HLR.out; omega)
    rw [toI_len] at h
    exact h
  clear g3 o3 O2 V2 Y2 XA2 XB2 XQ2 KS p0 p1 p2 p3
  have p0 := XQ3.out.c (i := 0) rfl
  have p1 := XQ3.out.c (i := 1) rfl
  have p2 := XT3.out.c (i := 0) rfl
  have p3 := XT3.out.c (i := 1) rfl
  have dn : (r3 != r3) = false := by simp
  go_wp2_with fail
  refine KW.mono ?_
  rintro e w4 ⟨rfl, g4⟩
  have O4 : Hid (Old w w4) := Old.trans O3.out g4
  have V4 : Hid (Old w1 w4) := Old.trans V3.out g4
  have Y4 : Hid (Old w2 w4) := Old.trans Y3.out g4
  have XA4 : Hid (Bk w4 w1.heap.size #[.bool n, .slice a lx ca] 25) := XA3.out.old g4
  have XB4 : Hid (Bk w4 (w1.heap.size + 1) #[.bool m, .slice b ly cb] 25) := XB3.out.old g4
  have XQ4 : Hid (Bk w4 w2.heap.size #[.bool r1, .slice qa r2.length qc] 25) := XQ3.out.old g4
  clear g4 O3 V3 Y3 XA3 XB3 XQ3 XT3 KW p0 p1 p2 p3 RT dn
  cases r3
  · go_wp2_with fail
    go_ret
    exact ⟨rfl, O4.out⟩
  obtain ⟨m1, m2, m3, hM⟩ : ∃ m1 m2 m3, mulW r1 m (toI r2) ys = (m1, m2, m3) := ⟨_, _, _, rfl⟩
  have lM := len_mul r1 m (toI r2) ys
  rw [hM] at lM
  have KM := fun W (q : Old w4 W) => spec_mul r1 m (toI r2) ys (.slice qa r2.length qc) (.slice b ly cb) W (RQ.out.old (Old.trans Y4.out q)) (HRY.out.old (Old.trans V4.out q)) (by rw [toI_len]; have := HLR.out; omega) (by have := HY.out; omega) _ hM
  have HM : Hid (mulW r1 m (toI r2) ys = (m1, m2, m3)) := hM
  have HLM : Hid (m2.length ≤ 1000) := lM
  have G4 : Hid (Old w4 w4) := Old.refl _
  clear hM lM
  have p0 := XQ4.out.c (i := 0) rfl
  have p1 := XQ4.out.c (i := 1) rfl
  have p2 := XB4.out.c (i := 0) rfl
  have p3 := XB4.out.c (i := 1) rfl
  go_wp2_with fail
  refine (KM _ G4.out).mono ?_
  rintro e w5 ⟨v5, rfl, g5, o5⟩
  obtain ⟨ma, mc, rfl⟩ := (Own.row o5).sliceN
  have RM : Hid (Row w5 (.slice ma m2.length mc) (toI m2)) := Own.row o5
  obtain ⟨nx, hnx⟩ : ∃ nx : Bool, nx = (!m1 && decide (0 < m2.length)) := ⟨_, rfl⟩
  have HNX : Hid (nx = (!m1 && decide (0 < m2.length))) := hnx
  have O5 : Hid (Old w (w5.alloc (.cells #[.bool nx, .slice ma m2.length mc] 25))) := (Old.trans O4.out g5).alloc _
  have V5 : Hid (Old w1 (w5.alloc (.cells #[.bool nx, .slice ma m2.length mc] 25))) := (Old.trans V4.out g5).alloc _
  have Z5 : Hid (Old w5 (w5.alloc (.cells #[.bool nx, .slice ma m2.length mc] 25))) := (Old.refl w5).alloc _
  have ne1 : w1.heap.size < w5.heap.size := Nat.lt_of_lt_of_le XA4.out.lt g5.size
  have ne2 : w1.heap.size + 1 < w5.heap.size := Nat.lt_of_lt_of_le XB4.out.lt g5.size
  have XA5 : Hid (Bk (w5.alloc (.cells #[.bool nx, .slice ma m2.length mc] 25)) w1.heap.size #[.bool n, .slice a lx ca] 25) := (XA4.out.old g5).alloc _
  have XB5 : Hid (Bk (w5.alloc (.cells #[.bool nx, .slice ma m2.length mc] 25)) (w1.heap.size + 1) #[.bool m, .slice b ly cb] 25) := (XB4.out.old g5).alloc _
  have XM0 : Hid (Bk (w5.alloc (.cells #[.bool m1, .slice ma m2.length mc] 25)) w5.heap.size #[.bool m1, .slice ma m2.length mc] 25) := Bk.new' w5 _ _ rfl
  have XM5 : Hid (Bk (w5.alloc (.cells #[.bool nx, .slice ma m2.length mc] 25)) w5.heap.size #[.bool nx, .slice ma m2.length mc] 25) := Bk.new' w5 _ _ rfl
  obtain ⟨a1, a2, a3, hA⟩ : ∃ a1 a2 a3, addW n nx xs (toI m2) = (a1, a2, a3) := ⟨_, _, _, rfl⟩
  have lA := len_add n nx xs (toI m2)
  rw [hA] at lA
  have KA := fun W (q : Old w1 W) (q5 : Old w5 W) => spec_add n nx xs (toI m2) (.slice a lx ca) (.slice ma m2.length mc) W (HRX.out.old q) (RM.out.old q5) (by have := HX.out; omega) (by rw [toI_len]; have := HLM.out; omega) _ hA
  have HAA : Hid (addW n nx xs (toI m2) = (a1, a2, a3)) := hA
  have HLA : Hid (a2.length ≤ 1000) := lA
  clear hA lA g5 o5 KM O4 V4 Y4 XA4 XB4 XQ4 p0 p1 p2 p3 RQ G4 HNX
  have s0 := XM0.out.c (i := 0) rfl
  have s1 := XM0.out.c (i := 1) rfl
  have s2 := frozen_of_row _ _ 0 _ _ XM0.out
  have HMM : Hid (∀ E1 E2, m3 = true → a3 = true → addW a1 a1 (toI a2) (toI a2) = (E1, E2, true) → cmpW false m (toI E2) ys ≤ 0) := fun E1 E2 h3 h4 h5 => rounded_ok n m xs ys r1 r2 m1 m2 a1 a2 E1 E2 HR.out (h3 ▸ HM.out) (by rw [← hnx, ← h4]; exact HAA.out) h5
  clear HR HM HAA
  cases m1
  · by_cases hm0 : 0 < m2.length
    · obtain rfl : nx = true := by rw [hnx, decide_eq_true hm0]; rfl
      have d1 : decide ((0 : Int) < (m2.length : Int)) = true := decide_eq_true (by omega)
      have d2 : decide ((m2.length : Int) > 0) = true := decide_eq_true (by omega)
      clear hnx
      have p0 := XA5.out.c (i := 0) rfl
      have p1 := XA5.out.c (i := 1) rfl
      have p2 := XM5.out.c (i := 0) rfl
      have p3 := XM5.out.c (i := 1) rfl
      go_wp2_with fail
      refine (KA _ V5.out Z5.out).mono ?_
      rintro e w6 ⟨v6, rfl, g6, o6⟩
      obtain ⟨da, dc, rfl⟩ := (Own.row o6).sliceN
      have RD : Hid (Row w6 (.slice da a2.length dc) (toI a2)) := Own.row o6
      have O6 : Hid (Old w (w6.alloc (.cells #[.bool a1, .slice da a2.length dc] 25))) := (Old.trans O5.out g6).alloc _
      have V6 : Hid (Old w1 (w6.alloc (.cells #[.bool a1, .slice da a2.length dc] 25))) := (Old.trans V5.out g6).alloc _
      have U6 : Hid (Old w6 (w6.alloc (.cells #[.bool a1, .slice da a2.length dc] 25))) := (Old.refl w6).alloc _
      have XB6 : Hid (Bk (w6.alloc (.cells #[.bool a1, .slice da a2.length dc] 25)) (w1.heap.size + 1) #[.bool m, .slice b ly cb] 25) := (XB5.out.old g6).alloc _
      have XD6 : Hid (Bk (w6.alloc (.cells #[.bool a1, .slice da a2.length dc] 25)) w6.heap.size #[.bool a1, .slice da a2.length dc] 25) := Bk.new' w6 _ _ rfl
      obtain ⟨e1, e2, e3, hE⟩ : ∃ e1 e2 e3, addW a1 a1 (toI a2) (toI a2) = (e1, e2, e3) := ⟨_, _, _, rfl⟩
      have lE := len_add a1 a1 (toI a2) (toI a2)
      rw [hE] at lE
      have KE := fun W (q : Old w6 W) => spec_add a1 a1 (toI a2) (toI a2) (.slice da a2.length dc) (.slice da a2.length dc) W (RD.out.old q) (RD.out.old q) (by rw [toI_len]; have := HLA.out; omega) (by rw [toI_len]; have := HLA.out; omega) _ hE
      have HEE : Hid (m3 = true → a3 = true → e3 = true → cmpW false m (toI e2) ys ≤ 0) := fun h1 h2 h3 => HMM.out e1 e2 h1 h2 (h3 ▸ hE)
      have HLE : Hid (e2.length ≤ 1000) := lE
      clear hE lE g6 o6 KA O5 V5 Z5 XA5 XB5 XM5 XM0 HMM p0 p1 p2 p3 s0 s1 s2 RM
      have p0 := XD6.out.c (i := 0) rfl
      have p1 := XD6.out.c (i := 1) rfl
      go_wp2_with fail
      refine (KE _ U6.out).mono ?_
      rintro e w7 ⟨v7, rfl, g7, o7⟩
      obtain ⟨ea, ec, rfl⟩ := (Own.row o7).sliceN
      have RE : Hid (Row w7 (.slice ea e2.length ec) (toI e2)) := Own.row o7
      have O7 : Hid (Old w (w7.alloc (.cells #[.bool e1, .slice ea e2.length ec] 25))) := (Old.trans O6.out g7).alloc _
      have ne7 : w1.heap.size + 1 < w7.heap.size := Nat.lt_of_lt_of_le XB6.out.lt g7.size
      have ge7 : w.heap.size ≤ w7.heap.size := (Old.trans O6.out g7).size
      have V8 : Hid (Old w1 (w7.alloc (.cells #[.bool false, .slice ea e2.length ec] 25))) := (Old.trans V6.out g7).alloc _
      have U8 : Hid (Old w7 (w7.alloc (.cells #[.bool false, .slice ea e2.length ec] 25))) := (Old.refl w7).alloc _
      have O8 : Hid (Old w (w7.alloc (.cells #[.bool false, .slice ea e2.length ec] 25))) := (Old.trans O6.out g7).alloc _
      have XE7 : Hid (Bk (w7.alloc (.cells #[.bool e1, .slice ea e2.length ec] 25)) w7.heap.size #[.bool e1, .slice ea e2.length ec] 25) := Bk.new' w7 _ _ rfl
      have XE8 : Hid (Bk (w7.alloc (.cells #[.bool false, .slice ea e2.length ec] 25)) w7.heap.size #[.bool false, .slice ea e2.length ec] 25) := Bk.new' w7 _ _ rfl
      have XB8 : Hid (Bk (w7.alloc (.cells #[.bool false, .slice ea e2.length ec] 25)) (w1.heap.size + 1) #[.bool m, .slice b ly cb] 25) := (XB6.out.old g7).alloc _
      have KC := spec_cmp false m (toI e2) ys (.slice ea e2.length ec) (.slice b ly cb) (w7.alloc (.cells #[.bool false, .slice ea e2.length ec] 25)) (RE.out.old U8.out) (HRY.out.old V8.out) (by rw [toI_len]; have := HLE.out; omega) (by have := HY.out; omega)
      clear g7 o7 KE O6 V6 U6 XB6 XD6 p0 p1 V8 U8 RE RD
      cases m3
      · go_wp2_with fail
        go_ret
        exact ⟨rfl, O7.out⟩
      cases a3
      · go_wp2_with fail
        go_ret
        exact ⟨rfl, O7.out⟩
      cases e3
      · go_wp2_with fail
        go_ret
        exact ⟨rfl, O7.out⟩
      have hC := HEE.out rfl rfl rfl
      obtain ⟨C, hCC⟩ : ∃ C, cmpW false m (toI e2) ys = C := ⟨_, rfl⟩
      rw [hCC] at KC hC
      clear hCC HEE
      have dC : decide (C ≤ 0) = true := decide_eq_true hC
      have s0 := XE7.out.c (i := 0) rfl
      have s2 := frozen_of_row _ _ 0 _ _ XE7.out
      have p0 := XE8.out.c (i := 0) rfl
      have p1 := XE8.out.c (i := 1) rfl
      have p2 := XB8.out.c (i := 0) rfl
      have p3 := XB8.out.c (i := 1) rfl
      clear hC
      go_wp2_with fail
      refine KC.mono ?_
      rintro e w8 ⟨rfl, g8⟩
      have O9 := hid (Old.trans O8.out g8)
      clear g8 KC s0 s2 p0 p1 p2 p3
      go_wp2_with fail
      go_ret
      exact ⟨rfl, O9.out⟩
    · obtain rfl : nx = false := by rw [hnx, decide_eq_false hm0]; rfl
      have d1 : decide ((0 : Int) < (m2.length : Int)) = false := decide_eq_false (by omega)
      have d2 : decide ((m2.length : Int) > 0) = false := decide_eq_false (by omega)
      have d3 : decide (0 < m2.length) = false := decide_eq_false hm0
      clear hnx hm0
      have p0 := XA5.out.c (i := 0) rfl
      have p1 := XA5.out.c (i := 1) rfl
      have p2 := XM5.out.c (i := 0) rfl
      have p3 := XM5.out.c (i := 1) rfl
      go_wp2_with fail
      refine (KA _ V5.out Z5.out).mono ?_
      rintro e w6 ⟨v6, rfl, g6, o6⟩
      obtain ⟨da, dc, rfl⟩ := (Own.row o6).sliceN
      have RD : Hid (Row w6 (.slice da a2.length dc) (toI a2)) := Own.row o6
      have O6 : Hid (Old w (w6.alloc (.cells #[.bool a1, .slice da a2.length dc] 25))) := (Old.trans O5.out g6).alloc _
      have V6 : Hid (Old w1 (w6.alloc (.cells #[.bool a1, .slice da a2.length dc] 25))) := (Old.trans V5.out g6).alloc _
      have U6 : Hid (Old w6 (w6.alloc (.cells #[.bool a1, .slice da a2.length dc] 25))) := (Old.refl w6).alloc _
      have XB6 : Hid (Bk (w6.alloc (.cells #[.bool a1, .slice da a2.length dc] 25)) (w1.heap.size + 1) #[.bool m, .slice b ly cb] 25) := (XB5.out.old g6).alloc _
      have XD6 : Hid (Bk (w6.alloc (.cells #[.bool a1, .slice da a2.length dc] 25)) w6.heap.size #[.bool a1, .slice da a2.length dc] 25) := Bk.new' w6 _ _ rfl
      obtain ⟨e1, e2, e3, hE⟩ : ∃ e1 e2 e3, addW a1 a1 (toI a2) (toI a2) = (e1, e2, e3) := ⟨_, _, _, rfl⟩
      have lE := len_add a1 a1 (toI a2) (toI a2)
      rw [hE] at lE
      have KE := fun W (q : Old w6 W) => spec_add a1 a1 (toI a2) (toI a2) (.slice da a2.length dc) (.slice da a2.length dc) W (RD.out.old q) (RD.out.old q) (by rw [toI_len]; have := HLA.out; omega) (by rw [toI_len]; have := HLA.out; omega) _ hE
      have HEE : Hid (m3 = true → a3 = true → e3 = true → cmpW false m (toI e2) ys ≤ 0) := fun h1 h2 h3 => HMM.out e1 e2 h1 h2 (h3 ▸ hE)
      have HLE : Hid (e2.length ≤ 1000) := lE
      clear hE lE g6 o6 KA O5 V5 Z5 XA5 XB5 XM5 XM0 HMM p0 p1 p2 p3 s0 s1 s2 RM
      have p0 := XD6.out.c (i := 0) rfl
      have p1 := XD6.out.c (i := 1) rfl
      go_wp2_with fail
      refine (KE _ U6.out).mono ?_
      rintro e w7 ⟨v7, rfl, g7, o7⟩
      obtain ⟨ea, ec, rfl⟩ := (Own.row o7).sliceN
      have RE : Hid (Row w7 (.slice ea e2.length ec) (toI e2)) := Own.row o7
      have O7 : Hid (Old w (w7.alloc (.cells #[.bool e1, .slice ea e2.length ec] 25))) := (Old.trans O6.out g7).alloc _
      have ne7 : w1.heap.size + 1 < w7.heap.size := Nat.lt_of_lt_of_le XB6.out.lt g7.size
      have ge7 : w.heap.size ≤ w7.heap.size := (Old.trans O6.out g7).size
      have V8 : Hid (Old w1 (w7.alloc (.cells #[.bool false, .slice ea e2.length ec] 25))) := (Old.trans V6.out g7).alloc _
      have U8 : Hid (Old w7 (w7.alloc (.cells #[.bool false, .slice ea e2.length ec] 25))) := (Old.refl w7).alloc _
      have O8 : Hid (Old w (w7.alloc (.cells #[.bool false, .slice ea e2.length ec] 25))) := (Old.trans O6.out g7).alloc _
      have XE7 : Hid (Bk (w7.alloc (.cells #[.bool e1, .slice ea e2.length ec] 25)) w7.heap.size #[.bool e1, .slice ea e2.length ec] 25) := Bk.new' w7 _ _ rfl
      have XE8 : Hid (Bk (w7.alloc (.cells #[.bool false, .slice ea e2.length ec] 25)) w7.heap.size #[.bool false, .slice ea e2.length ec] 25) := Bk.new' w7 _ _ rfl
      have XB8 : Hid (Bk (w7.alloc (.cells #[.bool false, .slice ea e2.length ec] 25)) (w1.heap.size + 1) #[.bool m, .slice b ly cb] 25) := (XB6.out.old g7).alloc _
      have KC := spec_cmp false m (toI e2) ys (.slice ea e2.length ec) (.slice b ly cb) (w7.alloc (.cells #[.bool false, .slice ea e2.length ec] 25)) (RE.out.old U8.out) (HRY.out.old V8.out) (by rw [toI_len]; have := HLE.out; omega) (by have := HY.out; omega)
      clear g7 o7 KE O6 V6 U6 XB6 XD6 p0 p1 V8 U8 RE RD
      cases m3
      · go_wp2_with fail
        go_ret
        exact ⟨rfl, O7.out⟩
      cases a3
      · go_wp2_with fail
        go_ret
        exact ⟨rfl, O7.out⟩
      cases e3
      · go_wp2_with fail
        go_ret
        exact ⟨rfl, O7.out⟩
      have hC := HEE.out rfl rfl rfl
      obtain ⟨C, hCC⟩ : ∃ C, cmpW false m (toI e2) ys = C := ⟨_, rfl⟩
      rw [hCC] at KC hC
      clear hCC HEE
      have dC : decide (C ≤ 0) = true := decide_eq_true hC
      have s0 := XE7.out.c (i := 0) rfl
      have s2 := frozen_of_row _ _ 0 _ _ XE7.out
      have p0 := XE8.out.c (i := 0) rfl
      have p1 := XE8.out.c (i := 1) rfl
      have p2 := XB8.out.c (i := 0) rfl
      have p3 := XB8.out.c (i := 1) rfl
      clear hC
      go_wp2_with fail
      refine KC.mono ?_
      rintro e w8 ⟨rfl, g8⟩
      have O9 := hid (Old.trans O8.out g8)
      clear g8 KC s0 s2 p0 p1 p2 p3
      go_wp2_with fail
      go_ret
      exact ⟨rfl, O9.out⟩
  · obtain rfl : nx = false := hnx
    have p0 := XA5.out.c (i := 0) rfl
    have p1 := XA5.out.c (i := 1) rfl
    have p2 := XM5.out.c (i := 0) rfl
    have p3 := XM5.out.c (i := 1) rfl
    go_wp2_with fail
    refine (KA _ V5.out Z5.out).mono ?_
    rintro e w6 ⟨v6, rfl, g6, o6⟩
    obtain ⟨da, dc, rfl⟩ := (Own.row o6).sliceN
    have RD : Hid (Row w6 (.slice da a2.length dc) (toI a2)) := Own.row o6
    have O6 : Hid (Old w (w6.alloc (.cells #[.bool a1, .slice da a2.length dc] 25))) := (Old.trans O5.out g6).alloc _
    have V6 : Hid (Old w1 (w6.alloc (.cells #[.bool a1, .slice da a2.length dc] 25))) := (Old.trans V5.out g6).alloc _
    have U6 : Hid (Old w6 (w6.alloc (.cells #[.bool a1, .slice da a2.length dc] 25))) := (Old.refl w6).alloc _
    have XB6 : Hid (Bk (w6.alloc (.cells #[.bool a1, .slice da a2.length dc] 25)) (w1.heap.size + 1) #[.bool m, .slice b ly cb] 25) := (XB5.out.old g6).alloc _
    have XD6 : Hid (Bk (w6.alloc (.cells #[.bool a1, .slice da a2.length dc] 25)) w6.heap.size #[.bool a1, .slice da a2.length dc] 25) := Bk.new' w6 _ _ rfl
    obtain ⟨e1, e2, e3, hE⟩ : ∃ e1 e2 e3, addW a1 a1 (toI a2) (toI a2) = (e1, e2, e3) := ⟨_, _, _, rfl⟩
    have lE := len_add a1 a1 (toI a2) (toI a2)
    rw [hE] at lE
    have KE := fun W (q : Old w6 W) => spec_add a1 a1 (toI a2) (toI a2) (.slice da a2.length dc) (.slice da a2.length dc) W (RD.out.old q) (RD.out.old q) (by rw [toI_len]; have := HLA.out; omega) (by rw [toI_len]; have := HLA.out; omega) _ hE
    have HEE : Hid (m3 = true → a3 = true → e3 = true → cmpW false m (toI e2) ys ≤ 0) := fun h1 h2 h3 => HMM.out e1 e2 h1 h2 (h3 ▸ hE)
    have HLE : Hid (e2.length ≤ 1000) := lE
    clear hE lE g6 o6 KA O5 V5 Z5 XA5 XB5 XM5 XM0 HMM p0 p1 p2 p3 s0 s1 s2 RM
    have p0 := XD6.out.c (i := 0) rfl
    have p1 := XD6.out.c (i := 1) rfl
    go_wp2_with fail
    refine (KE _ U6.out).mono ?_
    rintro e w7 ⟨v7, rfl, g7, o7⟩
    obtain ⟨ea, ec, rfl⟩ := (Own.row o7).sliceN
    have RE : Hid (Row w7 (.slice ea e2.length ec) (toI e2)) := Own.row o7
    have O7 : Hid (Old w (w7.alloc (.cells #[.bool e1, .slice ea e2.length ec] 25))) := (Old.trans O6.out g7).alloc _
    have ne7 : w1.heap.size + 1 < w7.heap.size := Nat.lt_of_lt_of_le XB6.out.lt g7.size
    have ge7 : w.heap.size ≤ w7.heap.size := (Old.trans O6.out g7).size
    have V8 : Hid (Old w1 (w7.alloc (.cells #[.bool false, .slice ea e2.length ec] 25))) := (Old.trans V6.out g7).alloc _
    have U8 : Hid (Old w7 (w7.alloc (.cells #[.bool false, .slice ea e2.length ec] 25))) := (Old.refl w7).alloc _
    have O8 : Hid (Old w (w7.alloc (.cells #[.bool false, .slice ea e2.length ec] 25))) := (Old.trans O6.out g7).alloc _
    have XE7 : Hid (Bk (w7.alloc (.cells #[.bool e1, .slice ea e2.length ec] 25)) w7.heap.size #[.bool e1, .slice ea e2.length ec] 25) := Bk.new' w7 _ _ rfl
    have XE8 : Hid (Bk (w7.alloc (.cells #[.bool false, .slice ea e2.length ec] 25)) w7.heap.size #[.bool false, .slice ea e2.length ec] 25) := Bk.new' w7 _ _ rfl
    have XB8 : Hid (Bk (w7.alloc (.cells #[.bool false, .slice ea e2.length ec] 25)) (w1.heap.size + 1) #[.bool m, .slice b ly cb] 25) := (XB6.out.old g7).alloc _
    have KC := spec_cmp false m (toI e2) ys (.slice ea e2.length ec) (.slice b ly cb) (w7.alloc (.cells #[.bool false, .slice ea e2.length ec] 25)) (RE.out.old U8.out) (HRY.out.old V8.out) (by rw [toI_len]; have := HLE.out; omega) (by have := HY.out; omega)
    clear g7 o7 KE O6 V6 U6 XB6 XD6 p0 p1 V8 U8 RE RD
    cases m3
    · go_wp2_with fail
      go_ret
      exact ⟨rfl, O7.out⟩
    cases a3
    · go_wp2_with fail
      go_ret
      exact ⟨rfl, O7.out⟩
    cases e3
    · go_wp2_with fail
      go_ret
      exact ⟨rfl, O7.out⟩
    have hC := HEE.out rfl rfl rfl
    obtain ⟨C, hCC⟩ : ∃ C, cmpW false m (toI e2) ys = C := ⟨_, rfl⟩
    rw [hCC] at KC hC
    clear hCC HEE
    have dC : decide (C ≤ 0) = true := decide_eq_true hC
    have s0 := XE7.out.c (i := 0) rfl
    have s2 := frozen_of_row _ _ 0 _ _ XE7.out
    have p0 := XE8.out.c (i := 0) rfl
    have p1 := XE8.out.c (i := 1) rfl
    have p2 := XB8.out.c (i := 0) rfl
    have p3 := XB8.out.c (i := 1) rfl
    clear hC
    go_wp2_with fail
    refine KC.mono ?_
    rintro e w8 ⟨rfl, g8⟩
    have O9 := hid (Old.trans O8.out g8)
    clear g8 KC s0 s2 p0 p1 p2 p3
    go_wp2_with fail
    go_ret
    exact ⟨rfl, O9.out⟩
end Go.Proofs.Ytimmcijoebmaiaa
