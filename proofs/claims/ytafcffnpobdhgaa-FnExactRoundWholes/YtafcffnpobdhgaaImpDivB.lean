/- Proved: DivWholes of good numbers, by what it calls: one step down. -/
import Derived.Test.YtafcffnpobdhgaaImpDivA
namespace Go.Proofs.Ytafcffnpobdhgaa
open Go.ChangeShapes Go.WideShapes Go.ChangeAt Go.RowKit
open M2
set_option linter.unusedVariables false
set_option linter.unusedSimpArgs false
set_option maxRecDepth 100000 in
set_option maxHeartbeats 8000000 in
theorem impl_div_up (bq : Bool) (xs ys zq zr : List Int) (c0 c1 : Option Addr) (cap0 cap1 : Nat) (la lb lq lr lo lS lT : List Nat) (na nb nq nr no nS nT : Nat) (w : World) (hv : Row w (.slice c0 xs.length cap0) xs) (hu : Row w (.slice c1 ys.length cap1) ys) (h0 : ys.length ≠ 0) (HLB : Hid (lb.length = 80)) (HLQ : Hid (lq.length = 80)) (HLR : Hid (lr.length = 80)) (HLS : Hid (lS.length = 80)) (HLT : Hid (lT.length = 80))
    (cga : ∀ W, Row W (.slice c0 xs.length cap0) xs → Calls Try.prog 42 #[.agg #[.bool true, .slice c0 xs.length cap0]] W fun e w' => e = .returned (.bool true) ∧ Old W w')
    (cgb : ∀ W, Row W (.slice c1 ys.length cap1) ys → Calls Try.prog 42 #[.agg #[.bool false, .slice c1 ys.length cap1]] W fun e w' => e = .returned (.bool true) ∧ Old W w')
    (csa : ∀ W, Row W (.slice c0 xs.length cap0) xs → Calls Try.prog 26 #[.agg #[.bool true, .slice c0 xs.length cap0]] W fun e w' => e = .returned (.agg (szA la na)) ∧ Old W w')
    (csb : ∀ W, Row W (.slice c1 ys.length cap1) ys → Calls Try.prog 26 #[.agg #[.bool false, .slice c1 ys.length cap1]] W fun e w' => e = .returned (.agg (szA lb nb)) ∧ Old W w')
    (cl : ∀ W, Calls Try.prog 43 #[.agg (szA la na), .agg (szA lb nb)] W fun e w' => e = .returned (.tuple #[.agg (szA lq nq), .agg (szA lr nr)]) ∧ Old W w')
    (co : ∀ W, Calls Try.prog 45 #[.int .u64 1] W fun e w' => e = .returned (.agg (szA lo no)) ∧ Old W w')
    (cd : ∀ W, Calls Try.prog 44 #[.agg (szA lq nq), .agg (szA lo no)] W fun e w' => e = .returned (.agg (szA lS nS)) ∧ Old W w')
    (ce : ∀ W, Calls Try.prog 46 #[.agg (szA lb nb), .agg (szA lr nr)] W fun e w' => e = .returned (.agg (szA lT nT)) ∧ Old W w')
    (cwq : ∀ W, Calls Try.prog 47 #[.bool true, .agg (szA lS nS)] W fun e w' => ∃ v', e = .returned (.agg #[.bool bq, v']) ∧ Old W w' ∧ Own w' W.heap.size v' zq)
    (cwr : ∀ W, Calls Try.prog 47 #[.bool false, .agg (szA lT nT)] W fun e w' => ∃ v', e = .returned (.agg #[.bool false, v']) ∧ Old W w' ∧ Own w' W.heap.size v' zr)
    (hnr : (0 : Int) < (nr : Int)) :
    Calls Try.prog 17 #[.agg #[.bool true, .slice c0 xs.length cap0], .agg #[.bool false, .slice c1 ys.length cap1]] w fun e w' => ∃ v1 v2, e = .returned (.tuple #[.agg #[.bool bq, v1], .agg #[.bool false, v2], .bool true]) ∧ Old w w' ∧ Own w' w.heap.size v1 zq ∧ Own w' w.heap.size v2 zr := by
  have HV : Hid (Row w (.slice c0 xs.length cap0) xs) := hv
  have HU : Hid (Row w (.slice c1 ys.length cap1) ys) := hu
  have HG0 : Hid (Old w ((((w.alloc (.cells #[.bool true, .slice c0 xs.length cap0] 25)).alloc (.cells #[.bool false, .slice c1 ys.length cap1] 25)).alloc (.cells #[.bool false, .slice none 0 0] 25)).alloc (.cells #[.bool false, .slice none 0 0] 25))) := ((((Old.refl w).alloc _).alloc _).alloc _).alloc _
  have SA0 : Hid (St ((((w.alloc (.cells #[.bool true, .slice c0 xs.length cap0] 25)).alloc (.cells #[.bool false, .slice c1 ys.length cap1] 25)).alloc (.cells #[.bool false, .slice none 0 0] 25)).alloc (.cells #[.bool false, .slice none 0 0] 25)) w.heap.size (.bool true) (.slice c0 xs.length cap0) 25) := (St.at1 w _ _ _ _ _ _).old (((Old.refl _).alloc _).alloc _)
  have SB0 : Hid (St ((((w.alloc (.cells #[.bool true, .slice c0 xs.length cap0] 25)).alloc (.cells #[.bool false, .slice c1 ys.length cap1] 25)).alloc (.cells #[.bool false, .slice none 0 0] 25)).alloc (.cells #[.bool false, .slice none 0 0] 25)) (w.heap.size + 1) (.bool false) (.slice c1 ys.length cap1) 25) := (St.at2 w _ _ _ _ _ _).old (((Old.refl _).alloc _).alloc _)
  have SC0 : Hid (St ((((w.alloc (.cells #[.bool true, .slice c0 xs.length cap0] 25)).alloc (.cells #[.bool false, .slice c1 ys.length cap1] 25)).alloc (.cells #[.bool false, .slice none 0 0] 25)).alloc (.cells #[.bool false, .slice none 0 0] 25)) (w.heap.size + 1 + 1) (.bool false) (.slice none 0 0) 25) := by
    have h := (St.new ((w.alloc (.cells #[.bool true, .slice c0 xs.length cap0] 25)).alloc (.cells #[.bool false, .slice c1 ys.length cap1] 25)) (.bool false) (.slice none 0 0) 25).old ((Old.refl _).alloc (.cells #[.bool false, .slice none 0 0] 25))
    rw [show ((w.alloc (.cells #[.bool true, .slice c0 xs.length cap0] 25)).alloc (.cells #[.bool false, .slice c1 ys.length cap1] 25)).heap.size = w.heap.size + 1 + 1 by simp] at h
    exact h
  have SD0 : Hid (St ((((w.alloc (.cells #[.bool true, .slice c0 xs.length cap0] 25)).alloc (.cells #[.bool false, .slice c1 ys.length cap1] 25)).alloc (.cells #[.bool false, .slice none 0 0] 25)).alloc (.cells #[.bool false, .slice none 0 0] 25)) (w.heap.size + 1 + 1 + 1) (.bool false) (.slice none 0 0) 25) := by
    have h := St.new (((w.alloc (.cells #[.bool true, .slice c0 xs.length cap0] 25)).alloc (.cells #[.bool false, .slice c1 ys.length cap1] 25)).alloc (.cells #[.bool false, .slice none 0 0] 25)) (.bool false) (.slice none 0 0) 25
    rw [show (((w.alloc (.cells #[.bool true, .slice c0 xs.length cap0] 25)).alloc (.cells #[.bool false, .slice c1 ys.length cap1] 25)).alloc (.cells #[.bool false, .slice none 0 0] 25)).heap.size = w.heap.size + 1 + 1 + 1 by simp] at h
    exact h
  have hb0 : ((ys.length : Int) = 0) = False := eq_false (by omega)
  have hb1 : ((ys.length : Int) == 0) = false := by simp; exact fun h => h0 (by simp [h])
  clear hv hu
  go_enter Try.func17, Try.ntmps17
  go_wp2_with fail
  refine (cga _ (HV.out.old HG0.out)).mono ?_
  rintro e w1 ⟨rfl, g1⟩
  have SA1 : Hid (St w1 w.heap.size (.bool true) (.slice c0 xs.length cap0) 25) := SA0.out.old g1
  have SB1 : Hid (St w1 (w.heap.size + 1) (.bool false) (.slice c1 ys.length cap1) 25) := SB0.out.old g1
  have SC1 : Hid (St w1 (w.heap.size + 1 + 1) (.bool false) (.slice none 0 0) 25) := SC0.out.old g1
  have SD1 : Hid (St w1 (w.heap.size + 1 + 1 + 1) (.bool false) (.slice none 0 0) 25) := SD0.out.old g1
  have HG1 : Hid (Old w w1) := Old.trans HG0.out g1
  have b0 := SB1.out.c0
  have b1 := SB1.out.c1
  clear g1 SA0 SB0 SC0 SD0 HG0
  go_wp2_with fail
  refine (cgb _ (HU.out.old HG1.out)).mono ?_
  rintro e w2 ⟨rfl, g2⟩
  clear b0 b1
  have SA2 : Hid (St w2 w.heap.size (.bool true) (.slice c0 xs.length cap0) 25) := SA1.out.old g2
  have SB2 : Hid (St w2 (w.heap.size + 1) (.bool false) (.slice c1 ys.length cap1) 25) := SB1.out.old g2
  have SC2 : Hid (St w2 (w.heap.size + 1 + 1) (.bool false) (.slice none 0 0) 25) := SC1.out.old g2
  have SD2 : Hid (St w2 (w.heap.size + 1 + 1 + 1) (.bool false) (.slice none 0 0) 25) := SD1.out.old g2
  have HG2 : Hid (Old w w2) := Old.trans HG1.out g2
  have b0 := SB2.out.c0
  have b1 := SB2.out.c1
  clear g2 SA1 SB1 SC1 SD1 HG1 cga cgb
  go_wp2_with fail
  refine (csb _ (HU.out.old HG2.out)).mono ?_
  rintro e w3 ⟨rfl, g3⟩
  clear b0 b1
  have SA3 : Hid (St w3 w.heap.size (.bool true) (.slice c0 xs.length cap0) 25) := SA2.out.old g3
  have SB3 : Hid (St w3 (w.heap.size + 1) (.bool false) (.slice c1 ys.length cap1) 25) := SB2.out.old g3
  have SC3 : Hid (St w3 (w.heap.size + 1 + 1) (.bool false) (.slice none 0 0) 25) := SC2.out.old g3
  have SD3 : Hid (St w3 (w.heap.size + 1 + 1 + 1) (.bool false) (.slice none 0 0) 25) := SD2.out.old g3
  have HG3 : Hid (Old w w3) := Old.trans HG2.out g3
  have hs3 : w.heap.size + 1 + 1 + 1 < w3.heap.size := SD3.out.lt
  have HZ : Hid (Sz (w3.alloc (.cells Try.zeroCells49 49)) w3.heap.size (ext []) 0) := Sz.zero _ _ rfl
  have g4 : Old w3 ((w3.alloc (.cells Try.zeroCells49 49)).setRow w3.heap.size (szA lb nb)) := ((Old.refl w3).alloc _).row (Nat.le_refl _) _
  have HB4 : Hid (Sz ((w3.alloc (.cells Try.zeroCells49 49)).setRow w3.heap.size (szA lb nb)) w3.heap.size lb nb) := HZ.out.row lb nb HLB.out
  clear g3 SA2 SB2 SC2 SD2 HG2
  have h4 : ∃ w4, w4 = ((w3.alloc (.cells Try.zeroCells49 49)).setRow w3.heap.size (szA lb nb)) := ⟨_, rfl⟩
  obtain ⟨w4, e4⟩ := h4
  rw [← e4] at g4 HB4
  have SA4 : Hid (St w4 w.heap.size (.bool true) (.slice c0 xs.length cap0) 25) := SA3.out.old g4
  have SB4 : Hid (St w4 (w.heap.size + 1) (.bool false) (.slice c1 ys.length cap1) 25) := SB3.out.old g4
  have SC4 : Hid (St w4 (w.heap.size + 1 + 1) (.bool false) (.slice none 0 0) 25) := SC3.out.old g4
  have SD4 : Hid (St w4 (w.heap.size + 1 + 1 + 1) (.bool false) (.slice none 0 0) 25) := SD3.out.old g4
  have HG4 : Hid (Old w w4) := Old.trans HG3.out g4
  clear g4 SA3 SB3 SC3 SD3
  have E4 : Hid (w4 = ((w3.alloc (.cells Try.zeroCells49 49)).setRow w3.heap.size (szA lb nb))) := e4
  clear e4
  go_wp2_with ((with_reducible refine store_sz HZ.out lb nb HLB.out ?_ ?_ ?_); exact rfl; exact rfl; simp only [Act.put])
  rw [← E4.out]
  refine reg_v4 true c0 xs.length cap0 la lb lq lr na nb nq nr w.heap.size w3.heap.size w4 SA4 HB4 HLQ HLR (fun W g => csa W (HV.out.old (Old.trans HG4.out g))) cl _ _ _ _ _ _ _ _ _ _ _ _ _ _ _ _ _ _ _ _ _ _ _ _ _ _ _ _ _ _ _ _ _ _ _ _ _ _ _ _ _ _ _ _ _ _ _ _ _ _ _ _ _ _ _ _ _ _ ?_
  intro p8 p9 w5 u32 u33 u34 u35 u36 u37 u38 TW n89
  have g5 : Old w4 w5 := TW.old
  have SA5 : Hid (St w5 w.heap.size (.bool true) (.slice c0 xs.length cap0) 25) := SA4.out.old g5
  have SB5 : Hid (St w5 (w.heap.size + 1) (.bool false) (.slice c1 ys.length cap1) 25) := SB4.out.old g5
  have SC5 : Hid (St w5 (w.heap.size + 1 + 1) (.bool false) (.slice none 0 0) 25) := SC4.out.old g5
  have SD5 : Hid (St w5 (w.heap.size + 1 + 1 + 1) (.bool false) (.slice none 0 0) 25) := SD4.out.old g5
  have HG5 : Hid (Old w w5) := Old.trans HG4.out g5
  have HQ5 : Hid (Sz w5 p8 lq nq) := TW.z9
  have HR5 : Hid (Sz w5 p9 lr nr) := TW.z10
  have hlo8 := TW.lo9
  have hlo9 := TW.lo10
  have hs4 : w.heap.size + 1 + 1 + 1 < w4.heap.size := SD4.out.lt
  have HB5 : Hid (Sz w5 w3.heap.size lb nb) := HB4.out.old g5
  have hp7 : w3.heap.size < w4.heap.size := HB4.out.lt
  clear g5 TW SA4 SB4 SC4 SD4
  have a0 := SA5.out.c0
  have r0 := HR5.out.cnt
  go_wp2_with fail
  refine reg_v6 lq lo lS nq no nS p8 w5 HQ5 HLS co cd _ _ _ _ _ _ _ _ _ _ _ _ _ _ _ _ _ _ _ _ _ _ _ _ _ _ _ _ _ _ _ _ _ _ _ _ _ _ _ _ _ _ _ _ _ _ _ _ _ _ _ _ _ _ _ _ _ _ _ ?_
  intro W1 w6 u46 u47 u48 g6 e6
  clear a0 r0
  have hs5 : w.heap.size + 1 + 1 + 1 < w5.heap.size := SD5.out.lt
  have SA6 : Hid (St w6 w.heap.size (.bool true) (.slice c0 xs.length cap0) 25) := by rw [e6]; exact (setRow_other _ _ _ _ (by omega)).trans (SA5.out.old g6)
  have SC6 : Hid (St w6 (w.heap.size + 1 + 1) (.bool false) (.slice none 0 0) 25) := by rw [e6]; exact (setRow_other _ _ _ _ (by omega)).trans (SC5.out.old g6)
  have SD6 : Hid (St w6 (w.heap.size + 1 + 1 + 1) (.bool false) (.slice none 0 0) 25) := by rw [e6]; exact (setRow_other _ _ _ _ (by omega)).trans (SD5.out.old g6)
  have HG6 : Hid (Old w w6) := by rw [e6]; exact (Old.trans HG5.out g6).row (by omega) _
  have HQ6 : Hid (Sz w6 p8 lS nS) := by rw [e6]; exact (HQ5.out.old g6).row lS nS HLS.out
  have HR6 : Hid (Sz w6 p9 lr nr) := by rw [e6]; exact (HR5.out.old g6).otherRow (fun h => n89 h.symm) _
  have HB6 : Hid (Sz w6 w3.heap.size lb nb) := by rw [e6]; exact (HB5.out.old g6).otherRow (by omega) _
  clear e6 g6 SA5 SB5 SC5 SD5 HG5 HQ5 HR5 HB5
  go_wp2_with (first | ((with_reducible refine load_sz HB6.out ?_ ?_); exact rfl; simp only [Act.put, List.setIfInBounds_toArray, List.set_cons_succ, List.set_cons_zero]) | ((with_reducible refine load_sz HR6.out ?_ ?_); exact rfl; simp only [Act.put, List.setIfInBounds_toArray, List.set_cons_succ, List.set_cons_zero]))
  refine (ce _).mono ?_
  rintro e w7 ⟨rfl, g7⟩
  have HR7 : Hid (Sz w7 p9 lr nr) := HR6.out.old g7
  have SA8 : Hid (St (w7.setRow p9 (szA lT nT)) w.heap.size (.bool true) (.slice c0 xs.length cap0) 25) := (setRow_other _ _ _ _ (by omega)).trans (SA6.out.old g7)
  have SC8 : Hid (St (w7.setRow p9 (szA lT nT)) (w.heap.size + 1 + 1) (.bool false) (.slice none 0 0) 25) := (setRow_other _ _ _ _ (by omega)).trans (SC6.out.old g7)
  have SD8 : Hid (St (w7.setRow p9 (szA lT nT)) (w.heap.size + 1 + 1 + 1) (.bool false) (.slice none 0 0) 25) := (setRow_other _ _ _ _ (by omega)).trans (SD6.out.old g7)
  have HG8 : Hid (Old w (w7.setRow p9 (szA lT nT))) := (Old.trans HG6.out g7).row (by omega) _
  have HQ8 : Hid (Sz (w7.setRow p9 (szA lT nT)) p8 lS nS) := (HQ6.out.old g7).otherRow n89 _
  have HR8 : Hid (Sz (w7.setRow p9 (szA lT nT)) p9 lT nT) := HR7.out.row lT nT HLT.out
  clear g7 SA6 SC6 SD6 HG6 HQ6 HR6 HB6
  go_wp2_with ((with_reducible refine store_sz HR7.out lT nT HLT.out ?_ ?_ ?_); exact rfl; exact rfl; simp only [Act.put])
  generalize w7.setRow p9 (szA lT nT) = w8 at *
  refine reg_v8 true bq lS lT nS nT w.heap.size (w.heap.size + 1 + 1) (w.heap.size + 1 + 1 + 1) p8 p9 zq zr _ w8 (by omega) (by omega) (by omega) (by omega) (by omega) (by omega) (by omega) SA8 SC8 SD8 HQ8 HR8 cwq cwr _ _ _ _ _ _ _ _ _ _ _ _ _ _ _ _ _ _ _ _ _ _ _ _ _ _ _ _ _ _ _ _ _ _ _ _ _ _ _ _ _ _ _ _ _ _ _ _ _ _ _ _ _ _ _ ?_
  intro W1 W x y u52 u53 u54 u55 u56 u57 g6 ox oy eW
  have hs8 : w.heap.size + 1 + 1 + 1 < w8.heap.size := SD8.out.lt
  have S4 : St W (w.heap.size + 1 + 1) (.bool bq) x 25 := by
    rw [eW]
    exact set_two _ _ (St.set2 (SC8.out.old g6) (.bool bq) x) (by omega)
  have S5 : St W (w.heap.size + 1 + 1 + 1) (.bool false) y 25 := by
    rw [eW]
    exact St.set2 (x := .bool false) (y := .slice none 0 0) (set_two _ _ (SD8.out.old g6) (by omega)) (.bool false) y
  have HO : Hid (Old w W) := by
    rw [eW]
    exact ((((Old.trans HG8.out g6).own (p := ⟨w.heap.size + 1 + 1, 0, none⟩) (by simp; omega) _).own (p := ⟨w.heap.size + 1 + 1, 1, none⟩) (by simp; omega) _).own (p := ⟨w.heap.size + 1 + 1 + 1, 0, none⟩) (by simp; omega) _).own (p := ⟨w.heap.size + 1 + 1 + 1, 1, none⟩) (by simp; omega) _
  have OX : Hid (Own W w.heap.size x zq) := by
    rw [eW]
    exact Own.low (own_set2 (own_set2 ox (by omega) _ _) (by omega) _ _) (by omega)
  have OY : Hid (Own W w.heap.size y zr) := by
    rw [eW]
    exact Own.low (own_set2 (own_set2 oy (by omega) _ _) (by omega) _ _) (by omega)
  have T4 : Hid (St W (w.heap.size + 1 + 1) (.bool bq) x 25) := S4
  have T5 : Hid (St W (w.heap.size + 1 + 1 + 1) (.bool false) y 25) := S5
  clear eW ox oy g6 S4 S5
  go_wp2_with fail
  exact bodyPost_ret (ret_three Try.results17 _ _ rfl rfl rfl T4.out T5.out) rfl ⟨x, y, rfl, HO.out, OX.out, OY.out⟩
end Go.Proofs.Ytafcffnpobdhgaa
