/- Proved: several texts in one: what each proves is said ahead of it. -/
import Derived.Test.YtjedpceiimceoaaDoorV27
import Derived.Test.YtjedpceiimceoaaDoorV09
/- Proved: DivWholes of good numbers, by what it calls: one step down. -/
namespace Go.Proofs.YtjedpceiimceoaaDoor
open Go.ChangeShapes Go.WideShapes Go.ChangeAt Go.RowKit
open M2
set_option linter.unusedVariables false
set_option linter.unusedSimpArgs false
set_option maxRecDepth 100000 in
set_option maxHeartbeats 8000000 in
theorem impl_div_up (bq : Bool) (xs ys zq zr : List Int) (c0 c1 : Option Addr) (cap0 cap1 : Nat) (la lb lq lr lo lS lT : List Nat) (na nb nq nr no nS nT : Nat) (w : World) (hv : Row w (.slice c0 xs.length cap0) xs) (hu : Row w (.slice c1 ys.length cap1) ys) (h0 : ys.length ≠ 0) (HLB : Hid (lb.length = 80)) (HLQ : Hid (lq.length = 80)) (HLR : Hid (lr.length = 80)) (HLS : Hid (lS.length = 80)) (HLT : Hid (lT.length = 80))
    (cga : ∀ W, Row W (.slice c0 xs.length cap0) xs → Calls Tryd.prog 21 #[.agg #[.bool true, .slice c0 xs.length cap0]] W fun e w' => e = .returned (.bool true) ∧ Old W w')
    (cgb : ∀ W, Row W (.slice c1 ys.length cap1) ys → Calls Tryd.prog 21 #[.agg #[.bool false, .slice c1 ys.length cap1]] W fun e w' => e = .returned (.bool true) ∧ Old W w')
    (csa : ∀ W, Row W (.slice c0 xs.length cap0) xs → Calls Tryd.prog 22 #[.agg #[.bool true, .slice c0 xs.length cap0]] W fun e w' => e = .returned (.agg (szA la na)) ∧ Old W w')
    (csb : ∀ W, Row W (.slice c1 ys.length cap1) ys → Calls Tryd.prog 22 #[.agg #[.bool false, .slice c1 ys.length cap1]] W fun e w' => e = .returned (.agg (szA lb nb)) ∧ Old W w')
    (cl : ∀ W, Calls Tryd.prog 23 #[.agg (szA la na), .agg (szA lb nb)] W fun e w' => e = .returned (.tuple #[.agg (szA lq nq), .agg (szA lr nr)]) ∧ Old W w')
    (co : ∀ W, Calls Tryd.prog 25 #[.int .u64 1] W fun e w' => e = .returned (.agg (szA lo no)) ∧ Old W w')
    (cd : ∀ W, Calls Tryd.prog 24 #[.agg (szA lq nq), .agg (szA lo no)] W fun e w' => e = .returned (.agg (szA lS nS)) ∧ Old W w')
    (ce : ∀ W, Calls Tryd.prog 26 #[.agg (szA lb nb), .agg (szA lr nr)] W fun e w' => e = .returned (.agg (szA lT nT)) ∧ Old W w')
    (cwq : ∀ W, Calls Tryd.prog 27 #[.bool true, .agg (szA lS nS)] W fun e w' => ∃ v', e = .returned (.agg #[.bool bq, v']) ∧ Old W w' ∧ Own w' W.heap.size v' zq)
    (cwr : ∀ W, Calls Tryd.prog 27 #[.bool false, .agg (szA lT nT)] W fun e w' => ∃ v', e = .returned (.agg #[.bool false, v']) ∧ Old W w' ∧ Own w' W.heap.size v' zr)
    (hnr : (0 : Int) < (nr : Int)) :
    Calls Tryd.prog 6 #[.agg #[.bool true, .slice c0 xs.length cap0], .agg #[.bool false, .slice c1 ys.length cap1]] w fun e w' => ∃ v1 v2, e = .returned (.tuple #[.agg #[.bool bq, v1], .agg #[.bool false, v2], .bool true]) ∧ Old w w' ∧ Own w' w.heap.size v1 zq ∧ Own w' w.heap.size v2 zr ∧ ∀ b, v1.ownBlock = some b → v2.ownBlock = some b → False := by
  have HV : Hid (Row w (.slice c0 xs.length cap0) xs) := hv
  have HU : Hid (Row w (.slice c1 ys.length cap1) ys) := hu
  have HG0 : Hid (Old w ((((w.alloc (.cells #[.bool true, .slice c0 xs.length cap0] 25)).alloc (.cells #[.bool false, .slice c1 ys.length cap1] 25)).alloc (.cells #[.bool false, .slice none 0 0] 25)).alloc (.cells #[.bool false, .slice none 0 0] 25))) := ((((Old.refl w).alloc _).alloc _).alloc _).alloc _
  have SA0 : Hid (StW ((((w.alloc (.cells #[.bool true, .slice c0 xs.length cap0] 25)).alloc (.cells #[.bool false, .slice c1 ys.length cap1] 25)).alloc (.cells #[.bool false, .slice none 0 0] 25)).alloc (.cells #[.bool false, .slice none 0 0] 25)) w.heap.size (.bool true) (.slice c0 xs.length cap0) 25) := (StW.at1 w _ _ _ _ _ _).old (((Old.refl _).alloc _).alloc _)
  have SB0 : Hid (StW ((((w.alloc (.cells #[.bool true, .slice c0 xs.length cap0] 25)).alloc (.cells #[.bool false, .slice c1 ys.length cap1] 25)).alloc (.cells #[.bool false, .slice none 0 0] 25)).alloc (.cells #[.bool false, .slice none 0 0] 25)) (w.heap.size + 1) (.bool false) (.slice c1 ys.length cap1) 25) := (StW.at2 w _ _ _ _ _ _).old (((Old.refl _).alloc _).alloc _)
  have SC0 : Hid (StW ((((w.alloc (.cells #[.bool true, .slice c0 xs.length cap0] 25)).alloc (.cells #[.bool false, .slice c1 ys.length cap1] 25)).alloc (.cells #[.bool false, .slice none 0 0] 25)).alloc (.cells #[.bool false, .slice none 0 0] 25)) (w.heap.size + 1 + 1) (.bool false) (.slice none 0 0) 25) := by
    have h := (StW.new ((w.alloc (.cells #[.bool true, .slice c0 xs.length cap0] 25)).alloc (.cells #[.bool false, .slice c1 ys.length cap1] 25)) (.bool false) (.slice none 0 0) 25).old ((Old.refl _).alloc (.cells #[.bool false, .slice none 0 0] 25))
    rw [show ((w.alloc (.cells #[.bool true, .slice c0 xs.length cap0] 25)).alloc (.cells #[.bool false, .slice c1 ys.length cap1] 25)).heap.size = w.heap.size + 1 + 1 by simp] at h
    exact h
  have SD0 : Hid (StW ((((w.alloc (.cells #[.bool true, .slice c0 xs.length cap0] 25)).alloc (.cells #[.bool false, .slice c1 ys.length cap1] 25)).alloc (.cells #[.bool false, .slice none 0 0] 25)).alloc (.cells #[.bool false, .slice none 0 0] 25)) (w.heap.size + 1 + 1 + 1) (.bool false) (.slice none 0 0) 25) := by
    have h := StW.new (((w.alloc (.cells #[.bool true, .slice c0 xs.length cap0] 25)).alloc (.cells #[.bool false, .slice c1 ys.length cap1] 25)).alloc (.cells #[.bool false, .slice none 0 0] 25)) (.bool false) (.slice none 0 0) 25
    rw [show (((w.alloc (.cells #[.bool true, .slice c0 xs.length cap0] 25)).alloc (.cells #[.bool false, .slice c1 ys.length cap1] 25)).alloc (.cells #[.bool false, .slice none 0 0] 25)).heap.size = w.heap.size + 1 + 1 + 1 by simp] at h
    exact h
  have hb0 : ((ys.length : Int) = 0) = False := eq_false (by omega)
  have hb1 : ((ys.length : Int) == 0) = false := by simp; exact fun h => h0 (by simp [h])
  clear hv hu
  go_enter Tryd.func6, Tryd.ntmps6
  go_wp2_with fail
  refine (cga _ (HV.out.old HG0.out)).mono ?_
  rintro e w1 ⟨rfl, g1⟩
  have SA1 : Hid (StW w1 w.heap.size (.bool true) (.slice c0 xs.length cap0) 25) := SA0.out.old g1
  have SB1 : Hid (StW w1 (w.heap.size + 1) (.bool false) (.slice c1 ys.length cap1) 25) := SB0.out.old g1
  have SC1 : Hid (StW w1 (w.heap.size + 1 + 1) (.bool false) (.slice none 0 0) 25) := SC0.out.old g1
  have SD1 : Hid (StW w1 (w.heap.size + 1 + 1 + 1) (.bool false) (.slice none 0 0) 25) := SD0.out.old g1
  have HG1 : Hid (Old w w1) := Old.trans HG0.out g1
  have b0 := SB1.out.c0
  have b1 := SB1.out.c1
  clear g1 SA0 SB0 SC0 SD0 HG0
  go_wp2_with fail
  refine (cgb _ (HU.out.old HG1.out)).mono ?_
  rintro e w2 ⟨rfl, g2⟩
  clear b0 b1
  have SA2 : Hid (StW w2 w.heap.size (.bool true) (.slice c0 xs.length cap0) 25) := SA1.out.old g2
  have SB2 : Hid (StW w2 (w.heap.size + 1) (.bool false) (.slice c1 ys.length cap1) 25) := SB1.out.old g2
  have SC2 : Hid (StW w2 (w.heap.size + 1 + 1) (.bool false) (.slice none 0 0) 25) := SC1.out.old g2
  have SD2 : Hid (StW w2 (w.heap.size + 1 + 1 + 1) (.bool false) (.slice none 0 0) 25) := SD1.out.old g2
  have HG2 : Hid (Old w w2) := Old.trans HG1.out g2
  have b0 := SB2.out.c0
  have b1 := SB2.out.c1
  clear g2 SA1 SB1 SC1 SD1 HG1 cga cgb
  go_wp2_with fail
  refine (csb _ (HU.out.old HG2.out)).mono ?_
  rintro e w3 ⟨rfl, g3⟩
  clear b0 b1
  have SA3 : Hid (StW w3 w.heap.size (.bool true) (.slice c0 xs.length cap0) 25) := SA2.out.old g3
  have SB3 : Hid (StW w3 (w.heap.size + 1) (.bool false) (.slice c1 ys.length cap1) 25) := SB2.out.old g3
  have SC3 : Hid (StW w3 (w.heap.size + 1 + 1) (.bool false) (.slice none 0 0) 25) := SC2.out.old g3
  have SD3 : Hid (StW w3 (w.heap.size + 1 + 1 + 1) (.bool false) (.slice none 0 0) 25) := SD2.out.old g3
  have HG3 : Hid (Old w w3) := Old.trans HG2.out g3
  have hs3 : w.heap.size + 1 + 1 + 1 < w3.heap.size := SD3.out.lt
  have HZ : Hid (Sz (w3.alloc (.cells Tryd.zeroCells50 50)) w3.heap.size (ext []) 0) := Sz.zero _ _ rfl
  have g4 : Old w3 ((w3.alloc (.cells Tryd.zeroCells50 50)).setRow w3.heap.size (szA lb nb)) := ((Old.refl w3).alloc _).row (Nat.le_refl _) _
  have HB4 : Hid (Sz ((w3.alloc (.cells Tryd.zeroCells50 50)).setRow w3.heap.size (szA lb nb)) w3.heap.size lb nb) := HZ.out.row lb nb HLB.out
  clear g3 SA2 SB2 SC2 SD2 HG2
  have h4 : ∃ w4, w4 = ((w3.alloc (.cells Tryd.zeroCells50 50)).setRow w3.heap.size (szA lb nb)) := ⟨_, rfl⟩
  obtain ⟨w4, e4⟩ := h4
  rw [← e4] at g4 HB4
  have SA4 : Hid (StW w4 w.heap.size (.bool true) (.slice c0 xs.length cap0) 25) := SA3.out.old g4
  have SB4 : Hid (StW w4 (w.heap.size + 1) (.bool false) (.slice c1 ys.length cap1) 25) := SB3.out.old g4
  have SC4 : Hid (StW w4 (w.heap.size + 1 + 1) (.bool false) (.slice none 0 0) 25) := SC3.out.old g4
  have SD4 : Hid (StW w4 (w.heap.size + 1 + 1 + 1) (.bool false) (.slice none 0 0) 25) := SD3.out.old g4
  have HG4 : Hid (Old w w4) := Old.trans HG3.out g4
  clear g4 SA3 SB3 SC3 SD3
  have E4 : Hid (w4 = ((w3.alloc (.cells Tryd.zeroCells50 50)).setRow w3.heap.size (szA lb nb))) := e4
  clear e4
  go_wp2_with ((with_reducible refine store_sz HZ.out lb nb HLB.out ?_ ?_ ?_); exact rfl; exact rfl; simp only [Act.put])
  rw [← E4.out]
  refine reg_v4 true c0 xs.length cap0 la lb lq lr na nb nq nr w.heap.size w3.heap.size w4 SA4 HB4 HLQ HLR (fun W g => csa W (HV.out.old (Old.trans HG4.out g))) cl _ _ _ _ _ _ _ _ _ _ _ _ _ _ _ _ _ _ _ _ _ _ _ _ _ _ _ _ _ _ _ _ _ _ _ _ _ _ _ _ _ _ _ _ _ _ _ _ _ _ _ _ _ _ _ _ _ _ ?_
  intro p8 p9 w5 u32 u33 u34 u35 u36 u37 u38 TW n89
  have g5 : Old w4 w5 := TW.old
  have SA5 : Hid (StW w5 w.heap.size (.bool true) (.slice c0 xs.length cap0) 25) := SA4.out.old g5
  have SB5 : Hid (StW w5 (w.heap.size + 1) (.bool false) (.slice c1 ys.length cap1) 25) := SB4.out.old g5
  have SC5 : Hid (StW w5 (w.heap.size + 1 + 1) (.bool false) (.slice none 0 0) 25) := SC4.out.old g5
  have SD5 : Hid (StW w5 (w.heap.size + 1 + 1 + 1) (.bool false) (.slice none 0 0) 25) := SD4.out.old g5
  have HG5 : Hid (Old w w5) := Old.trans HG4.out g5
  have HQ5 : Hid (Sz w5 p8 lq nq) := TW.z9
  have HR5 : Hid (Sz w5 p9 lr nr) := TW.z10
  have hlo8 := TW.lo9
  have hlo9 := TW.lo10
  have hs4 : w.heap.size + 1 + 1 + 1 < w4.heap.size := SD4.out.lt
  have HB5 : Hid (Sz w5 w3.heap.size lb nb) := HB4.out.old g5
  have hp7 : w3.heap.size < w4.heap.size := HB4.out.lt
  clear g5 TW SA4 SB4 SC4 SD4
  have a0 := SA5.out.c0
  have r0 := HR5.out.cnt
  go_wp2_with fail
  refine reg_v6 lq lo lS nq no nS p8 w5 HQ5 HLS co cd _ _ _ _ _ _ _ _ _ _ _ _ _ _ _ _ _ _ _ _ _ _ _ _ _ _ _ _ _ _ _ _ _ _ _ _ _ _ _ _ _ _ _ _ _ _ _ _ _ _ _ _ _ _ _ _ _ _ _ ?_
  intro W1 w6 u46 u47 u48 g6 e6
  clear a0 r0
  have hs5 : w.heap.size + 1 + 1 + 1 < w5.heap.size := SD5.out.lt
  have SA6 : Hid (StW w6 w.heap.size (.bool true) (.slice c0 xs.length cap0) 25) := by rw [e6]; exact (setRow_other _ _ _ _ (by omega)).trans (SA5.out.old g6)
  have SC6 : Hid (StW w6 (w.heap.size + 1 + 1) (.bool false) (.slice none 0 0) 25) := by rw [e6]; exact (setRow_other _ _ _ _ (by omega)).trans (SC5.out.old g6)
  have SD6 : Hid (StW w6 (w.heap.size + 1 + 1 + 1) (.bool false) (.slice none 0 0) 25) := by rw [e6]; exact (setRow_other _ _ _ _ (by omega)).trans (SD5.out.old g6)
  have HG6 : Hid (Old w w6) := by rw [e6]; exact (Old.trans HG5.out g6).row (by omega) _
  have HQ6 : Hid (Sz w6 p8 lS nS) := by rw [e6]; exact (HQ5.out.old g6).row lS nS HLS.out
  have HR6 : Hid (Sz w6 p9 lr nr) := by rw [e6]; exact (HR5.out.old g6).otherRow (fun h => n89 h.symm) _
  have HB6 : Hid (Sz w6 w3.heap.size lb nb) := by rw [e6]; exact (HB5.out.old g6).otherRow (by omega) _
  clear e6 g6 SA5 SB5 SC5 SD5 HG5 HQ5 HR5 HB5
  go_wp2_with (first | ((with_reducible refine load_sz HB6.out ?_ ?_); exact rfl; simp only [Act.put, List.setIfInBounds_toArray, List.set_cons_succ, List.set_cons_zero]) | ((with_reducible refine load_sz HR6.out ?_ ?_); exact rfl; simp only [Act.put, List.setIfInBounds_toArray, List.set_cons_succ, List.set_cons_zero]))
  refine (ce _).mono ?_
  rintro e w7 ⟨rfl, g7⟩
  have HR7 : Hid (Sz w7 p9 lr nr) := HR6.out.old g7
  have SA8 : Hid (StW (w7.setRow p9 (szA lT nT)) w.heap.size (.bool true) (.slice c0 xs.length cap0) 25) := (setRow_other _ _ _ _ (by omega)).trans (SA6.out.old g7)
  have SC8 : Hid (StW (w7.setRow p9 (szA lT nT)) (w.heap.size + 1 + 1) (.bool false) (.slice none 0 0) 25) := (setRow_other _ _ _ _ (by omega)).trans (SC6.out.old g7)
  have SD8 : Hid (StW (w7.setRow p9 (szA lT nT)) (w.heap.size + 1 + 1 + 1) (.bool false) (.slice none 0 0) 25) := (setRow_other _ _ _ _ (by omega)).trans (SD6.out.old g7)
  have HG8 : Hid (Old w (w7.setRow p9 (szA lT nT))) := (Old.trans HG6.out g7).row (by omega) _
  have HQ8 : Hid (Sz (w7.setRow p9 (szA lT nT)) p8 lS nS) := (HQ6.out.old g7).otherRow n89 _
  have HR8 : Hid (Sz (w7.setRow p9 (szA lT nT)) p9 lT nT) := HR7.out.row lT nT HLT.out
  clear g7 SA6 SC6 SD6 HG6 HQ6 HR6 HB6
  go_wp2_with ((with_reducible refine store_sz HR7.out lT nT HLT.out ?_ ?_ ?_); exact rfl; exact rfl; simp only [Act.put])
  generalize w7.setRow p9 (szA lT nT) = w8 at *
  refine reg_v8 true bq lS lT nS nT w.heap.size (w.heap.size + 1 + 1) (w.heap.size + 1 + 1 + 1) p8 p9 zq zr _ w8 (by omega) (by omega) (by omega) (by omega) (by omega) (by omega) (by omega) SA8 SC8 SD8 HQ8 HR8 cwq cwr _ _ _ _ _ _ _ _ _ _ _ _ _ _ _ _ _ _ _ _ _ _ _ _ _ _ _ _ _ _ _ _ _ _ _ _ _ _ _ _ _ _ _ _ _ _ _ _ _ _ _ _ _ _ _ ?_
  intro W1 W x y u52 u53 u54 u55 u56 u57 g6 ox oy dxy eW
  have DXY : Hid (∀ b, x.ownBlock = some b → y.ownBlock = some b → False) := dxy
  clear dxy
  have hs8 : w.heap.size + 1 + 1 + 1 < w8.heap.size := SD8.out.lt
  have S4 : StW W (w.heap.size + 1 + 1) (.bool bq) x 25 := by
    rw [eW]
    exact set_two _ _ (StW.set2 (SC8.out.old g6) (.bool bq) x) (by omega)
  have S5 : StW W (w.heap.size + 1 + 1 + 1) (.bool false) y 25 := by
    rw [eW]
    exact StW.set2 (x := .bool false) (y := .slice none 0 0) (set_two _ _ (SD8.out.old g6) (by omega)) (.bool false) y
  have HO : Hid (Old w W) := by
    rw [eW]
    exact ((((Old.trans HG8.out g6).own (p := ⟨w.heap.size + 1 + 1, 0, none⟩) (by simp; omega) _).own (p := ⟨w.heap.size + 1 + 1, 1, none⟩) (by simp; omega) _).own (p := ⟨w.heap.size + 1 + 1 + 1, 0, none⟩) (by simp; omega) _).own (p := ⟨w.heap.size + 1 + 1 + 1, 1, none⟩) (by simp; omega) _
  have OX : Hid (Own W w.heap.size x zq) := by
    rw [eW]
    exact Own.low (own_set2 (own_set2 ox (by omega) _ _) (by omega) _ _) (by omega)
  have OY : Hid (Own W w.heap.size y zr) := by
    rw [eW]
    exact Own.low (own_set2 (own_set2 oy (by omega) _ _) (by omega) _ _) (by omega)
  have T4 : Hid (StW W (w.heap.size + 1 + 1) (.bool bq) x 25) := S4
  have T5 : Hid (StW W (w.heap.size + 1 + 1 + 1) (.bool false) y 25) := S5
  clear eW ox oy g6 S4 S5
  go_wp2_with fail
  exact bodyPost_ret (ret_three Tryd.results6 _ _ rfl rfl rfl T4.out T5.out) rfl ⟨x, y, rfl, HO.out, OX.out, OY.out, DXY.out⟩
end Go.Proofs.YtjedpceiimceoaaDoor
/- Proved: DivWholes of what is not good, or by what is negative or nothing: it tells so. -/
namespace Go.Proofs.YtjedpceiimceoaaDoor
open Go.ChangeShapes Go.WideShapes Go.ChangeAt Go.RowKit
open M2
set_option linter.unusedVariables false
set_option linter.unusedSimpArgs false
theorem own_nilD (w : World) (base : Nat) : Own w base (.slice none 0 0) [] := ⟨rfl, Or.inl ⟨rfl, rfl⟩⟩
set_option maxRecDepth 100000 in
set_option maxHeartbeats 4000000 in
theorem impl_div_no1 (n m : Bool) (xs ys : List Int) (c0 c1 : Option Addr) (cap0 cap1 : Nat) (w : World) (hv : Row w (.slice c0 xs.length cap0) xs) (hu : Row w (.slice c1 ys.length cap1) ys)
    (cga : ∀ W, Row W (.slice c0 xs.length cap0) xs → Calls Tryd.prog 21 #[.agg #[.bool n, .slice c0 xs.length cap0]] W fun e w' => e = .returned (.bool false) ∧ Old W w')
    : Calls Tryd.prog 6 #[.agg #[.bool n, .slice c0 xs.length cap0], .agg #[.bool m, .slice c1 ys.length cap1]] w fun e w' => ∃ v1 v2, e = .returned (.tuple #[.agg #[.bool false, v1], .agg #[.bool false, v2], .bool false]) ∧ Old w w' ∧ Own w' w.heap.size v1 [] ∧ Own w' w.heap.size v2 [] ∧ ∀ b, v1.ownBlock = some b → v2.ownBlock = some b → False := by
  have HV : Hid (Row w (.slice c0 xs.length cap0) xs) := hv
  have HU : Hid (Row w (.slice c1 ys.length cap1) ys) := hu
  have HG0 : Hid (Old w ((((w.alloc (.cells #[.bool n, .slice c0 xs.length cap0] 25)).alloc (.cells #[.bool m, .slice c1 ys.length cap1] 25)).alloc (.cells #[.bool false, .slice none 0 0] 25)).alloc (.cells #[.bool false, .slice none 0 0] 25))) := ((((Old.refl w).alloc _).alloc _).alloc _).alloc _
  have SB0 : Hid (StW ((((w.alloc (.cells #[.bool n, .slice c0 xs.length cap0] 25)).alloc (.cells #[.bool m, .slice c1 ys.length cap1] 25)).alloc (.cells #[.bool false, .slice none 0 0] 25)).alloc (.cells #[.bool false, .slice none 0 0] 25)) (w.heap.size + 1) (.bool m) (.slice c1 ys.length cap1) 25) := (StW.at2 w _ _ _ _ _ _).old (((Old.refl _).alloc _).alloc _)
  have SC0 : Hid (StW ((((w.alloc (.cells #[.bool n, .slice c0 xs.length cap0] 25)).alloc (.cells #[.bool m, .slice c1 ys.length cap1] 25)).alloc (.cells #[.bool false, .slice none 0 0] 25)).alloc (.cells #[.bool false, .slice none 0 0] 25)) (w.heap.size + 1 + 1) (.bool false) (.slice none 0 0) 25) := by
    have h := (StW.new ((w.alloc (.cells #[.bool n, .slice c0 xs.length cap0] 25)).alloc (.cells #[.bool m, .slice c1 ys.length cap1] 25)) (.bool false) (.slice none 0 0) 25).old ((Old.refl _).alloc (.cells #[.bool false, .slice none 0 0] 25))
    rw [show ((w.alloc (.cells #[.bool n, .slice c0 xs.length cap0] 25)).alloc (.cells #[.bool m, .slice c1 ys.length cap1] 25)).heap.size = w.heap.size + 1 + 1 by simp] at h
    exact h
  have SD0 : Hid (StW ((((w.alloc (.cells #[.bool n, .slice c0 xs.length cap0] 25)).alloc (.cells #[.bool m, .slice c1 ys.length cap1] 25)).alloc (.cells #[.bool false, .slice none 0 0] 25)).alloc (.cells #[.bool false, .slice none 0 0] 25)) (w.heap.size + 1 + 1 + 1) (.bool false) (.slice none 0 0) 25) := by
    have h := StW.new (((w.alloc (.cells #[.bool n, .slice c0 xs.length cap0] 25)).alloc (.cells #[.bool m, .slice c1 ys.length cap1] 25)).alloc (.cells #[.bool false, .slice none 0 0] 25)) (.bool false) (.slice none 0 0) 25
    rw [show (((w.alloc (.cells #[.bool n, .slice c0 xs.length cap0] 25)).alloc (.cells #[.bool m, .slice c1 ys.length cap1] 25)).alloc (.cells #[.bool false, .slice none 0 0] 25)).heap.size = w.heap.size + 1 + 1 + 1 by simp] at h
    exact h
  clear hv hu
  go_enter Tryd.func6, Tryd.ntmps6
  go_wp2_with fail
  refine (cga _ (HV.out.old HG0.out)).mono ?_
  rintro e w1 ⟨rfl, g1⟩
  have SB1 : Hid (StW w1 (w.heap.size + 1) (.bool m) (.slice c1 ys.length cap1) 25) := SB0.out.old g1
  have SC1 : Hid (StW w1 (w.heap.size + 1 + 1) (.bool false) (.slice none 0 0) 25) := SC0.out.old g1
  have SD1 : Hid (StW w1 (w.heap.size + 1 + 1 + 1) (.bool false) (.slice none 0 0) 25) := SD0.out.old g1
  have HG1 : Hid (Old w w1) := Old.trans HG0.out g1
  clear g1 SB0 SC0 SD0 HG0
  have q0 := SC1.out.c0
  have q1 := SC1.out.c1
  have f0 := SC1.out.f0
  have f1 := SC1.out.f1
  have q2 := SD1.out.c0
  have q3 := SD1.out.c1
  have f2 := SD1.out.f0
  have f3 := SD1.out.f1
  have T4 : Hid (StW ((((w1.setCell ⟨w.heap.size + 1 + 1, 0, none⟩ (.bool false)).setCell ⟨w.heap.size + 1 + 1, 1, none⟩ (.slice none 0 0)).setCell ⟨w.heap.size + 1 + 1 + 1, 0, none⟩ (.bool false)).setCell ⟨w.heap.size + 1 + 1 + 1, 1, none⟩ (.slice none 0 0)) (w.heap.size + 1 + 1) (.bool false) (.slice none 0 0) 25) := set_two _ _ (StW.set2 SC1.out (.bool false) (.slice none 0 0)) (by omega)
  have T5 : Hid (StW ((((w1.setCell ⟨w.heap.size + 1 + 1, 0, none⟩ (.bool false)).setCell ⟨w.heap.size + 1 + 1, 1, none⟩ (.slice none 0 0)).setCell ⟨w.heap.size + 1 + 1 + 1, 0, none⟩ (.bool false)).setCell ⟨w.heap.size + 1 + 1 + 1, 1, none⟩ (.slice none 0 0)) (w.heap.size + 1 + 1 + 1) (.bool false) (.slice none 0 0) 25) := StW.set2 (x := .bool false) (y := .slice none 0 0) (set_two _ _ SD1.out (by omega)) (.bool false) (.slice none 0 0)
  have HO : Hid (Old w ((((w1.setCell ⟨w.heap.size + 1 + 1, 0, none⟩ (.bool false)).setCell ⟨w.heap.size + 1 + 1, 1, none⟩ (.slice none 0 0)).setCell ⟨w.heap.size + 1 + 1 + 1, 0, none⟩ (.bool false)).setCell ⟨w.heap.size + 1 + 1 + 1, 1, none⟩ (.slice none 0 0))) := (((HG1.out.own (p := ⟨w.heap.size + 1 + 1, 0, none⟩) (by simp; omega) _).own (p := ⟨w.heap.size + 1 + 1, 1, none⟩) (by simp; omega) _).own (p := ⟨w.heap.size + 1 + 1 + 1, 0, none⟩) (by simp; omega) _).own (p := ⟨w.heap.size + 1 + 1 + 1, 1, none⟩) (by simp; omega) _
  go_wp2_with fail
  exact bodyPost_ret (ret_three Tryd.results6 _ _ rfl rfl rfl T4.out T5.out) rfl ⟨_, _, rfl, HO.out, own_nilD _ _, own_nilD _ _, fun b h _ => by cases h⟩
set_option maxRecDepth 100000 in
set_option maxHeartbeats 4000000 in
theorem impl_div_no2 (n m : Bool) (xs ys : List Int) (c0 c1 : Option Addr) (cap0 cap1 : Nat) (w : World) (hv : Row w (.slice c0 xs.length cap0) xs) (hu : Row w (.slice c1 ys.length cap1) ys)
    (cga : ∀ W, Row W (.slice c0 xs.length cap0) xs → Calls Tryd.prog 21 #[.agg #[.bool n, .slice c0 xs.length cap0]] W fun e w' => e = .returned (.bool true) ∧ Old W w')
    (cgb : ∀ W, Row W (.slice c1 ys.length cap1) ys → Calls Tryd.prog 21 #[.agg #[.bool m, .slice c1 ys.length cap1]] W fun e w' => e = .returned (.bool false) ∧ Old W w')
    : Calls Tryd.prog 6 #[.agg #[.bool n, .slice c0 xs.length cap0], .agg #[.bool m, .slice c1 ys.length cap1]] w fun e w' => ∃ v1 v2, e = .returned (.tuple #[.agg #[.bool false, v1], .agg #[.bool false, v2], .bool false]) ∧ Old w w' ∧ Own w' w.heap.size v1 [] ∧ Own w' w.heap.size v2 [] ∧ ∀ b, v1.ownBlock = some b → v2.ownBlock = some b → False := by
  have HV : Hid (Row w (.slice c0 xs.length cap0) xs) := hv
  have HU : Hid (Row w (.slice c1 ys.length cap1) ys) := hu
  have HG0 : Hid (Old w ((((w.alloc (.cells #[.bool n, .slice c0 xs.length cap0] 25)).alloc (.cells #[.bool m, .slice c1 ys.length cap1] 25)).alloc (.cells #[.bool false, .slice none 0 0] 25)).alloc (.cells #[.bool false, .slice none 0 0] 25))) := ((((Old.refl w).alloc _).alloc _).alloc _).alloc _
  have SB0 : Hid (StW ((((w.alloc (.cells #[.bool n, .slice c0 xs.length cap0] 25)).alloc (.cells #[.bool m, .slice c1 ys.length cap1] 25)).alloc (.cells #[.bool false, .slice none 0 0] 25)).alloc (.cells #[.bool false, .slice none 0 0] 25)) (w.heap.size + 1) (.bool m) (.slice c1 ys.length cap1) 25) := (StW.at2 w _ _ _ _ _ _).old (((Old.refl _).alloc _).alloc _)
  have SC0 : Hid (StW ((((w.alloc (.cells #[.bool n, .slice c0 xs.length cap0] 25)).alloc (.cells #[.bool m, .slice c1 ys.length cap1] 25)).alloc (.cells #[.bool false, .slice none 0 0] 25)).alloc (.cells #[.bool false, .slice none 0 0] 25)) (w.heap.size + 1 + 1) (.bool false) (.slice none 0 0) 25) := by
    have h := (StW.new ((w.alloc (.cells #[.bool n, .slice c0 xs.length cap0] 25)).alloc (.cells #[.bool m, .slice c1 ys.length cap1] 25)) (.bool false) (.slice none 0 0) 25).old ((Old.refl _).alloc (.cells #[.bool false, .slice none 0 0] 25))
    rw [show ((w.alloc (.cells #[.bool n, .slice c0 xs.length cap0] 25)).alloc (.cells #[.bool m, .slice c1 ys.length cap1] 25)).heap.size = w.heap.size + 1 + 1 by simp] at h
    exact h
  have SD0 : Hid (StW ((((w.alloc (.cells #[.bool n, .slice c0 xs.length cap0] 25)).alloc (.cells #[.bool m, .slice c1 ys.length cap1] 25)).alloc (.cells #[.bool false, .slice none 0 0] 25)).alloc (.cells #[.bool false, .slice none 0 0] 25)) (w.heap.size + 1 + 1 + 1) (.bool false) (.slice none 0 0) 25) := by
    have h := StW.new (((w.alloc (.cells #[.bool n, .slice c0 xs.length cap0] 25)).alloc (.cells #[.bool m, .slice c1 ys.length cap1] 25)).alloc (.cells #[.bool false, .slice none 0 0] 25)) (.bool false) (.slice none 0 0) 25
    rw [show (((w.alloc (.cells #[.bool n, .slice c0 xs.length cap0] 25)).alloc (.cells #[.bool m, .slice c1 ys.length cap1] 25)).alloc (.cells #[.bool false, .slice none 0 0] 25)).heap.size = w.heap.size + 1 + 1 + 1 by simp] at h
    exact h
  clear hv hu
  go_enter Tryd.func6, Tryd.ntmps6
  go_wp2_with fail
  refine (cga _ (HV.out.old HG0.out)).mono ?_
  rintro e w1 ⟨rfl, g1⟩
  have SB1 : Hid (StW w1 (w.heap.size + 1) (.bool m) (.slice c1 ys.length cap1) 25) := SB0.out.old g1
  have SC1 : Hid (StW w1 (w.heap.size + 1 + 1) (.bool false) (.slice none 0 0) 25) := SC0.out.old g1
  have SD1 : Hid (StW w1 (w.heap.size + 1 + 1 + 1) (.bool false) (.slice none 0 0) 25) := SD0.out.old g1
  have HG1 : Hid (Old w w1) := Old.trans HG0.out g1
  clear g1 SB0 SC0 SD0 HG0
  have b0 := SB1.out.c0
  have b1 := SB1.out.c1
  go_wp2_with fail
  refine (cgb _ (HU.out.old HG1.out)).mono ?_
  rintro e w2 ⟨rfl, g2⟩
  clear b0 b1
  have SB2 : Hid (StW w2 (w.heap.size + 1) (.bool m) (.slice c1 ys.length cap1) 25) := SB1.out.old g2
  have SC2 : Hid (StW w2 (w.heap.size + 1 + 1) (.bool false) (.slice none 0 0) 25) := SC1.out.old g2
  have SD2 : Hid (StW w2 (w.heap.size + 1 + 1 + 1) (.bool false) (.slice none 0 0) 25) := SD1.out.old g2
  have HG2 : Hid (Old w w2) := Old.trans HG1.out g2
  have b0 := SB2.out.c0
  have b1 := SB2.out.c1
  clear g2 SB1 SC1 SD1 HG1 cga cgb
  have q0 := SC2.out.c0
  have q1 := SC2.out.c1
  have f0 := SC2.out.f0
  have f1 := SC2.out.f1
  have q2 := SD2.out.c0
  have q3 := SD2.out.c1
  have f2 := SD2.out.f0
  have f3 := SD2.out.f1
  have T4 : Hid (StW ((((w2.setCell ⟨w.heap.size + 1 + 1, 0, none⟩ (.bool false)).setCell ⟨w.heap.size + 1 + 1, 1, none⟩ (.slice none 0 0)).setCell ⟨w.heap.size + 1 + 1 + 1, 0, none⟩ (.bool false)).setCell ⟨w.heap.size + 1 + 1 + 1, 1, none⟩ (.slice none 0 0)) (w.heap.size + 1 + 1) (.bool false) (.slice none 0 0) 25) := set_two _ _ (StW.set2 SC2.out (.bool false) (.slice none 0 0)) (by omega)
  have T5 : Hid (StW ((((w2.setCell ⟨w.heap.size + 1 + 1, 0, none⟩ (.bool false)).setCell ⟨w.heap.size + 1 + 1, 1, none⟩ (.slice none 0 0)).setCell ⟨w.heap.size + 1 + 1 + 1, 0, none⟩ (.bool false)).setCell ⟨w.heap.size + 1 + 1 + 1, 1, none⟩ (.slice none 0 0)) (w.heap.size + 1 + 1 + 1) (.bool false) (.slice none 0 0) 25) := StW.set2 (x := .bool false) (y := .slice none 0 0) (set_two _ _ SD2.out (by omega)) (.bool false) (.slice none 0 0)
  have HO : Hid (Old w ((((w2.setCell ⟨w.heap.size + 1 + 1, 0, none⟩ (.bool false)).setCell ⟨w.heap.size + 1 + 1, 1, none⟩ (.slice none 0 0)).setCell ⟨w.heap.size + 1 + 1 + 1, 0, none⟩ (.bool false)).setCell ⟨w.heap.size + 1 + 1 + 1, 1, none⟩ (.slice none 0 0))) := (((HG2.out.own (p := ⟨w.heap.size + 1 + 1, 0, none⟩) (by simp; omega) _).own (p := ⟨w.heap.size + 1 + 1, 1, none⟩) (by simp; omega) _).own (p := ⟨w.heap.size + 1 + 1 + 1, 0, none⟩) (by simp; omega) _).own (p := ⟨w.heap.size + 1 + 1 + 1, 1, none⟩) (by simp; omega) _
  go_wp2_with fail
  exact bodyPost_ret (ret_three Tryd.results6 _ _ rfl rfl rfl T4.out T5.out) rfl ⟨_, _, rfl, HO.out, own_nilD _ _, own_nilD _ _, fun b h _ => by cases h⟩
set_option maxRecDepth 100000 in
set_option maxHeartbeats 4000000 in
theorem impl_div_neg (n : Bool) (xs ys : List Int) (c0 c1 : Option Addr) (cap0 cap1 : Nat) (w : World) (hv : Row w (.slice c0 xs.length cap0) xs) (hu : Row w (.slice c1 ys.length cap1) ys)
    (cga : ∀ W, Row W (.slice c0 xs.length cap0) xs → Calls Tryd.prog 21 #[.agg #[.bool n, .slice c0 xs.length cap0]] W fun e w' => e = .returned (.bool true) ∧ Old W w')
    (cgb : ∀ W, Row W (.slice c1 ys.length cap1) ys → Calls Tryd.prog 21 #[.agg #[.bool true, .slice c1 ys.length cap1]] W fun e w' => e = .returned (.bool true) ∧ Old W w')
    : Calls Tryd.prog 6 #[.agg #[.bool n, .slice c0 xs.length cap0], .agg #[.bool true, .slice c1 ys.length cap1]] w fun e w' => ∃ v1 v2, e = .returned (.tuple #[.agg #[.bool false, v1], .agg #[.bool false, v2], .bool false]) ∧ Old w w' ∧ Own w' w.heap.size v1 [] ∧ Own w' w.heap.size v2 [] ∧ ∀ b, v1.ownBlock = some b → v2.ownBlock = some b → False := by
  have HV : Hid (Row w (.slice c0 xs.length cap0) xs) := hv
  have HU : Hid (Row w (.slice c1 ys.length cap1) ys) := hu
  have HG0 : Hid (Old w ((((w.alloc (.cells #[.bool n, .slice c0 xs.length cap0] 25)).alloc (.cells #[.bool true, .slice c1 ys.length cap1] 25)).alloc (.cells #[.bool false, .slice none 0 0] 25)).alloc (.cells #[.bool false, .slice none 0 0] 25))) := ((((Old.refl w).alloc _).alloc _).alloc _).alloc _
  have SB0 : Hid (StW ((((w.alloc (.cells #[.bool n, .slice c0 xs.length cap0] 25)).alloc (.cells #[.bool true, .slice c1 ys.length cap1] 25)).alloc (.cells #[.bool false, .slice none 0 0] 25)).alloc (.cells #[.bool false, .slice none 0 0] 25)) (w.heap.size + 1) (.bool true) (.slice c1 ys.length cap1) 25) := (StW.at2 w _ _ _ _ _ _).old (((Old.refl _).alloc _).alloc _)
  have SC0 : Hid (StW ((((w.alloc (.cells #[.bool n, .slice c0 xs.length cap0] 25)).alloc (.cells #[.bool true, .slice c1 ys.length cap1] 25)).alloc (.cells #[.bool false, .slice none 0 0] 25)).alloc (.cells #[.bool false, .slice none 0 0] 25)) (w.heap.size + 1 + 1) (.bool false) (.slice none 0 0) 25) := by
    have h := (StW.new ((w.alloc (.cells #[.bool n, .slice c0 xs.length cap0] 25)).alloc (.cells #[.bool true, .slice c1 ys.length cap1] 25)) (.bool false) (.slice none 0 0) 25).old ((Old.refl _).alloc (.cells #[.bool false, .slice none 0 0] 25))
    rw [show ((w.alloc (.cells #[.bool n, .slice c0 xs.length cap0] 25)).alloc (.cells #[.bool true, .slice c1 ys.length cap1] 25)).heap.size = w.heap.size + 1 + 1 by simp] at h
    exact h
  have SD0 : Hid (StW ((((w.alloc (.cells #[.bool n, .slice c0 xs.length cap0] 25)).alloc (.cells #[.bool true, .slice c1 ys.length cap1] 25)).alloc (.cells #[.bool false, .slice none 0 0] 25)).alloc (.cells #[.bool false, .slice none 0 0] 25)) (w.heap.size + 1 + 1 + 1) (.bool false) (.slice none 0 0) 25) := by
    have h := StW.new (((w.alloc (.cells #[.bool n, .slice c0 xs.length cap0] 25)).alloc (.cells #[.bool true, .slice c1 ys.length cap1] 25)).alloc (.cells #[.bool false, .slice none 0 0] 25)) (.bool false) (.slice none 0 0) 25
    rw [show (((w.alloc (.cells #[.bool n, .slice c0 xs.length cap0] 25)).alloc (.cells #[.bool true, .slice c1 ys.length cap1] 25)).alloc (.cells #[.bool false, .slice none 0 0] 25)).heap.size = w.heap.size + 1 + 1 + 1 by simp] at h
    exact h
  clear hv hu
  go_enter Tryd.func6, Tryd.ntmps6
  go_wp2_with fail
  refine (cga _ (HV.out.old HG0.out)).mono ?_
  rintro e w1 ⟨rfl, g1⟩
  have SB1 : Hid (StW w1 (w.heap.size + 1) (.bool true) (.slice c1 ys.length cap1) 25) := SB0.out.old g1
  have SC1 : Hid (StW w1 (w.heap.size + 1 + 1) (.bool false) (.slice none 0 0) 25) := SC0.out.old g1
  have SD1 : Hid (StW w1 (w.heap.size + 1 + 1 + 1) (.bool false) (.slice none 0 0) 25) := SD0.out.old g1
  have HG1 : Hid (Old w w1) := Old.trans HG0.out g1
  clear g1 SB0 SC0 SD0 HG0
  have b0 := SB1.out.c0
  have b1 := SB1.out.c1
  go_wp2_with fail
  refine (cgb _ (HU.out.old HG1.out)).mono ?_
  rintro e w2 ⟨rfl, g2⟩
  clear b0 b1
  have SB2 : Hid (StW w2 (w.heap.size + 1) (.bool true) (.slice c1 ys.length cap1) 25) := SB1.out.old g2
  have SC2 : Hid (StW w2 (w.heap.size + 1 + 1) (.bool false) (.slice none 0 0) 25) := SC1.out.old g2
  have SD2 : Hid (StW w2 (w.heap.size + 1 + 1 + 1) (.bool false) (.slice none 0 0) 25) := SD1.out.old g2
  have HG2 : Hid (Old w w2) := Old.trans HG1.out g2
  have b0 := SB2.out.c0
  have b1 := SB2.out.c1
  clear g2 SB1 SC1 SD1 HG1 cga cgb
  have q0 := SC2.out.c0
  have q1 := SC2.out.c1
  have f0 := SC2.out.f0
  have f1 := SC2.out.f1
  have q2 := SD2.out.c0
  have q3 := SD2.out.c1
  have f2 := SD2.out.f0
  have f3 := SD2.out.f1
  have T4 : Hid (StW ((((w2.setCell ⟨w.heap.size + 1 + 1, 0, none⟩ (.bool false)).setCell ⟨w.heap.size + 1 + 1, 1, none⟩ (.slice none 0 0)).setCell ⟨w.heap.size + 1 + 1 + 1, 0, none⟩ (.bool false)).setCell ⟨w.heap.size + 1 + 1 + 1, 1, none⟩ (.slice none 0 0)) (w.heap.size + 1 + 1) (.bool false) (.slice none 0 0) 25) := set_two _ _ (StW.set2 SC2.out (.bool false) (.slice none 0 0)) (by omega)
  have T5 : Hid (StW ((((w2.setCell ⟨w.heap.size + 1 + 1, 0, none⟩ (.bool false)).setCell ⟨w.heap.size + 1 + 1, 1, none⟩ (.slice none 0 0)).setCell ⟨w.heap.size + 1 + 1 + 1, 0, none⟩ (.bool false)).setCell ⟨w.heap.size + 1 + 1 + 1, 1, none⟩ (.slice none 0 0)) (w.heap.size + 1 + 1 + 1) (.bool false) (.slice none 0 0) 25) := StW.set2 (x := .bool false) (y := .slice none 0 0) (set_two _ _ SD2.out (by omega)) (.bool false) (.slice none 0 0)
  have HO : Hid (Old w ((((w2.setCell ⟨w.heap.size + 1 + 1, 0, none⟩ (.bool false)).setCell ⟨w.heap.size + 1 + 1, 1, none⟩ (.slice none 0 0)).setCell ⟨w.heap.size + 1 + 1 + 1, 0, none⟩ (.bool false)).setCell ⟨w.heap.size + 1 + 1 + 1, 1, none⟩ (.slice none 0 0))) := (((HG2.out.own (p := ⟨w.heap.size + 1 + 1, 0, none⟩) (by simp; omega) _).own (p := ⟨w.heap.size + 1 + 1, 1, none⟩) (by simp; omega) _).own (p := ⟨w.heap.size + 1 + 1 + 1, 0, none⟩) (by simp; omega) _).own (p := ⟨w.heap.size + 1 + 1 + 1, 1, none⟩) (by simp; omega) _
  go_wp2_with fail
  exact bodyPost_ret (ret_three Tryd.results6 _ _ rfl rfl rfl T4.out T5.out) rfl ⟨_, _, rfl, HO.out, own_nilD _ _, own_nilD _ _, fun b h _ => by cases h⟩
set_option maxRecDepth 100000 in
set_option maxHeartbeats 4000000 in
theorem impl_div_nil (n : Bool) (xs ys : List Int) (c0 c1 : Option Addr) (cap0 cap1 : Nat) (w : World) (hv : Row w (.slice c0 xs.length cap0) xs) (hu : Row w (.slice c1 ys.length cap1) ys)
    (cga : ∀ W, Row W (.slice c0 xs.length cap0) xs → Calls Tryd.prog 21 #[.agg #[.bool n, .slice c0 xs.length cap0]] W fun e w' => e = .returned (.bool true) ∧ Old W w')
    (cgb : ∀ W, Row W (.slice c1 ys.length cap1) ys → Calls Tryd.prog 21 #[.agg #[.bool false, .slice c1 ys.length cap1]] W fun e w' => e = .returned (.bool true) ∧ Old W w')
    (h0 : ys.length = 0)
    : Calls Tryd.prog 6 #[.agg #[.bool n, .slice c0 xs.length cap0], .agg #[.bool false, .slice c1 ys.length cap1]] w fun e w' => ∃ v1 v2, e = .returned (.tuple #[.agg #[.bool false, v1], .agg #[.bool false, v2], .bool false]) ∧ Old w w' ∧ Own w' w.heap.size v1 [] ∧ Own w' w.heap.size v2 [] ∧ ∀ b, v1.ownBlock = some b → v2.ownBlock = some b → False := by
  have HV : Hid (Row w (.slice c0 xs.length cap0) xs) := hv
  have HU : Hid (Row w (.slice c1 ys.length cap1) ys) := hu
  have HG0 : Hid (Old w ((((w.alloc (.cells #[.bool n, .slice c0 xs.length cap0] 25)).alloc (.cells #[.bool false, .slice c1 ys.length cap1] 25)).alloc (.cells #[.bool false, .slice none 0 0] 25)).alloc (.cells #[.bool false, .slice none 0 0] 25))) := ((((Old.refl w).alloc _).alloc _).alloc _).alloc _
  have SB0 : Hid (StW ((((w.alloc (.cells #[.bool n, .slice c0 xs.length cap0] 25)).alloc (.cells #[.bool false, .slice c1 ys.length cap1] 25)).alloc (.cells #[.bool false, .slice none 0 0] 25)).alloc (.cells #[.bool false, .slice none 0 0] 25)) (w.heap.size + 1) (.bool false) (.slice c1 ys.length cap1) 25) := (StW.at2 w _ _ _ _ _ _).old (((Old.refl _).alloc _).alloc _)
  have SC0 : Hid (StW ((((w.alloc (.cells #[.bool n, .slice c0 xs.length cap0] 25)).alloc (.cells #[.bool false, .slice c1 ys.length cap1] 25)).alloc (.cells #[.bool false, .slice none 0 0] 25)).alloc (.cells #[.bool false, .slice none 0 0] 25)) (w.heap.size + 1 + 1) (.bool false) (.slice none 0 0) 25) := by
    have h := (StW.new ((w.alloc (.cells #[.bool n, .slice c0 xs.length cap0] 25)).alloc (.cells #[.bool false, .slice c1 ys.length cap1] 25)) (.bool false) (.slice none 0 0) 25).old ((Old.refl _).alloc (.cells #[.bool false, .slice none 0 0] 25))
    rw [show ((w.alloc (.cells #[.bool n, .slice c0 xs.length cap0] 25)).alloc (.cells #[.bool false, .slice c1 ys.length cap1] 25)).heap.size = w.heap.size + 1 + 1 by simp] at h
    exact h
  have SD0 : Hid (StW ((((w.alloc (.cells #[.bool n, .slice c0 xs.length cap0] 25)).alloc (.cells #[.bool false, .slice c1 ys.length cap1] 25)).alloc (.cells #[.bool false, .slice none 0 0] 25)).alloc (.cells #[.bool false, .slice none 0 0] 25)) (w.heap.size + 1 + 1 + 1) (.bool false) (.slice none 0 0) 25) := by
    have h := StW.new (((w.alloc (.cells #[.bool n, .slice c0 xs.length cap0] 25)).alloc (.cells #[.bool false, .slice c1 ys.length cap1] 25)).alloc (.cells #[.bool false, .slice none 0 0] 25)) (.bool false) (.slice none 0 0) 25
    rw [show (((w.alloc (.cells #[.bool n, .slice c0 xs.length cap0] 25)).alloc (.cells #[.bool false, .slice c1 ys.length cap1] 25)).alloc (.cells #[.bool false, .slice none 0 0] 25)).heap.size = w.heap.size + 1 + 1 + 1 by simp] at h
    exact h
  have HB0 : Hid ((ys.length : Int) = 0) := by show (ys.length : Int) = 0; omega
  clear h0
  clear hv hu
  go_enter Tryd.func6, Tryd.ntmps6
  go_wp2_with fail
  refine (cga _ (HV.out.old HG0.out)).mono ?_
  rintro e w1 ⟨rfl, g1⟩
  have SB1 : Hid (StW w1 (w.heap.size + 1) (.bool false) (.slice c1 ys.length cap1) 25) := SB0.out.old g1
  have SC1 : Hid (StW w1 (w.heap.size + 1 + 1) (.bool false) (.slice none 0 0) 25) := SC0.out.old g1
  have SD1 : Hid (StW w1 (w.heap.size + 1 + 1 + 1) (.bool false) (.slice none 0 0) 25) := SD0.out.old g1
  have HG1 : Hid (Old w w1) := Old.trans HG0.out g1
  clear g1 SB0 SC0 SD0 HG0
  have b0 := SB1.out.c0
  have b1 := SB1.out.c1
  go_wp2_with fail
  refine (cgb _ (HU.out.old HG1.out)).mono ?_
  rintro e w2 ⟨rfl, g2⟩
  clear b0 b1
  have SB2 : Hid (StW w2 (w.heap.size + 1) (.bool false) (.slice c1 ys.length cap1) 25) := SB1.out.old g2
  have SC2 : Hid (StW w2 (w.heap.size + 1 + 1) (.bool false) (.slice none 0 0) 25) := SC1.out.old g2
  have SD2 : Hid (StW w2 (w.heap.size + 1 + 1 + 1) (.bool false) (.slice none 0 0) 25) := SD1.out.old g2
  have HG2 : Hid (Old w w2) := Old.trans HG1.out g2
  have b0 := SB2.out.c0
  have b1 := SB2.out.c1
  clear g2 SB1 SC1 SD1 HG1 cga cgb
  have hb0 := HB0.out
  have q0 := SC2.out.c0
  have q1 := SC2.out.c1
  have f0 := SC2.out.f0
  have f1 := SC2.out.f1
  have q2 := SD2.out.c0
  have q3 := SD2.out.c1
  have f2 := SD2.out.f0
  have f3 := SD2.out.f1
  have T4 : Hid (StW ((((w2.setCell ⟨w.heap.size + 1 + 1, 0, none⟩ (.bool false)).setCell ⟨w.heap.size + 1 + 1, 1, none⟩ (.slice none 0 0)).setCell ⟨w.heap.size + 1 + 1 + 1, 0, none⟩ (.bool false)).setCell ⟨w.heap.size + 1 + 1 + 1, 1, none⟩ (.slice none 0 0)) (w.heap.size + 1 + 1) (.bool false) (.slice none 0 0) 25) := set_two _ _ (StW.set2 SC2.out (.bool false) (.slice none 0 0)) (by omega)
  have T5 : Hid (StW ((((w2.setCell ⟨w.heap.size + 1 + 1, 0, none⟩ (.bool false)).setCell ⟨w.heap.size + 1 + 1, 1, none⟩ (.slice none 0 0)).setCell ⟨w.heap.size + 1 + 1 + 1, 0, none⟩ (.bool false)).setCell ⟨w.heap.size + 1 + 1 + 1, 1, none⟩ (.slice none 0 0)) (w.heap.size + 1 + 1 + 1) (.bool false) (.slice none 0 0) 25) := StW.set2 (x := .bool false) (y := .slice none 0 0) (set_two _ _ SD2.out (by omega)) (.bool false) (.slice none 0 0)
  have HO : Hid (Old w ((((w2.setCell ⟨w.heap.size + 1 + 1, 0, none⟩ (.bool false)).setCell ⟨w.heap.size + 1 + 1, 1, none⟩ (.slice none 0 0)).setCell ⟨w.heap.size + 1 + 1 + 1, 0, none⟩ (.bool false)).setCell ⟨w.heap.size + 1 + 1 + 1, 1, none⟩ (.slice none 0 0))) := (((HG2.out.own (p := ⟨w.heap.size + 1 + 1, 0, none⟩) (by simp; omega) _).own (p := ⟨w.heap.size + 1 + 1, 1, none⟩) (by simp; omega) _).own (p := ⟨w.heap.size + 1 + 1 + 1, 0, none⟩) (by simp; omega) _).own (p := ⟨w.heap.size + 1 + 1 + 1, 1, none⟩) (by simp; omega) _
  go_wp2_with fail
  exact bodyPost_ret (ret_three Tryd.results6 _ _ rfl rfl rfl T4.out T5.out) rfl ⟨_, _, rfl, HO.out, own_nilD _ _, own_nilD _ _, fun b h _ => by cases h⟩
end Go.Proofs.YtjedpceiimceoaaDoor
/- Proved: the drawn region of divideSizes in which the quotient by a word and what is left are handed out. -/
namespace Go.Proofs.YtjedpceiimceoaaDoor
open Go.ChangeShapes Go.WideShapes Go.ChangeAt Go.RowKit
open M2
set_option linter.unusedVariables false
set_option linter.unusedSimpArgs false
set_option maxRecDepth 1000000 in
set_option maxHeartbeats 16000000 in
theorem reg_d5 (q r p6 : Nat) (w w6 : World) (hr : r < 268435456) (hp6 : w.heap.size + 1 + 1 + 1 < p6)
    (HQ6 : Hid (Sz w6 p6 (pad q) (cnt q))) (HX6 : Hid (Sz w6 (w.heap.size + 1 + 1) (ext []) 0)) (HY6 : Hid (Sz w6 (w.heap.size + 1 + 1 + 1) (ext []) 0)) (HO6 : Hid (Old w w6))
    (R : Ending → World → Prop) (J K : Act → World → Prop) (s0 s1 s8 s9 s10 s11 s12 s13 s14 s15 s16 s17 s18 s19 s20 s21 s22 s23 s24 s25 s26 s27 s28 s29 s30 s31 s32 s33 s34 s35 s36 s37 s38 s39 s40 s41 s42 s43 s44 s45 s46 s47 s48 s49 s50 s51 s52 s53 s54 s55 s56 s57 s58 s59 s60 s61 s62 s63 s64 s65 s66 s67 : Value)
    (HK : Hid (∀ (W : World) (u30 u31 u32 u33 : Value), Sz W (w.heap.size + 1 + 1) (pad q) (cnt q) → Sz W (w.heap.size + 1 + 1 + 1) (pad r) (cnt r) → Old w W → K ⟨#[s0, s1, .pointer (some ⟨w.heap.size, 0, none⟩), .pointer (some ⟨w.heap.size + 1, 0, none⟩), .pointer (some ⟨w.heap.size + 1 + 1, 0, none⟩), .pointer (some ⟨w.heap.size + 1 + 1 + 1, 0, none⟩), .pointer (some ⟨p6, 0, none⟩), .int .i64 (r : Int), s8, s9, s10, s11, s12, s13, s14, s15, s16, s17, s18, s19, s20, s21, s22, s23, s24, s25, s26, s27, s28, s29, u30, u31, u32, u33, s34, s35, s36, s37, s38, s39, s40, s41, s42, s43, s44, s45, s46, s47, s48, s49, s50, s51, s52, s53, s54, s55, s56, s57, s58, s59, s60, s61, s62, s63, s64, s65, s66, s67], []⟩ W)) :
    Code.wp Tryd.prog ((Tryd.f23.body.bind (regionAtLong 5)).getD .skip) (Exit.then K (Exit.then J (bodyPost Tryd.prog Tryd.f23 R))) ⟨#[s0, s1, .pointer (some ⟨w.heap.size, 0, none⟩), .pointer (some ⟨w.heap.size + 1, 0, none⟩), .pointer (some ⟨w.heap.size + 1 + 1, 0, none⟩), .pointer (some ⟨w.heap.size + 1 + 1 + 1, 0, none⟩), .pointer (some ⟨p6, 0, none⟩), .int .i64 (r : Int), s8, s9, s10, s11, s12, s13, s14, s15, s16, s17, s18, s19, s20, s21, s22, s23, s24, s25, s26, s27, s28, s29, s30, s31, s32, s33, s34, s35, s36, s37, s38, s39, s40, s41, s42, s43, s44, s45, s46, s47, s48, s49, s50, s51, s52, s53, s54, s55, s56, s57, s58, s59, s60, s61, s62, s63, s64, s65, s66, s67], []⟩ w6 := by
  conv => arg 2; whnf
  obtain ⟨N, hN, HN9⟩ : ∃ N, (∀ W, Sem.run Tryd.prog (Go.sizeOf 50) W = .ok N W) ∧ Hid (N = 81) := ⟨81, Tryd.sizeOf50, rfl⟩
  have HPQ : Hid ((pad q).length = 80) := HQ6.out.len
  have HPR : Hid ((pad r).length = 80) := pad_len' (n := r) (k := 3) (cnt_word (by omega)) (by omega)
  have hzq : (szA (pad q) (cnt q)).size = N := by rw [HN9.out]; exact szA_size HPQ.out _
  have hzr : (szA (pad r) (cnt r)).size = N := by rw [HN9.out]; exact szA_size HPR.out _
  have wr1 : IntKind.u64.wrap (r : Int) = (r : Int) := by rw [IntKind.wrap_u64]; omega
  have cw := fun W => ofWord_sz r W (by omega)
  unfold szV at cw
  have hR2 : ∀ W : World, W.heap[p6]? = some (.cells (szA (pad q) (cnt q)) 50 (0, 0)) → Sem.run Tryd.prog (loadCellsFrom ⟨p6, 0, none⟩ 0 N #[]) W = .ok (szA (pad q) (cnt q)) W := fun W h => by rw [HN9.out]; exact run_loadCells_sz h (szA_size HPQ.out _)
  have HAS : Hid (∀ W' : World, Old w6 W' → (W'.heap[p6]? = some (.cells (szA (pad q) (cnt q)) 50 (0, 0)))) := fun W' g => (HQ6.out.old g).blk
  have HKS : Hid (∀ (W' : World) (k : Nat) (cs : Array Value), k = w.heap.size + 1 + 1 ∨ k = w.heap.size + 1 + 1 + 1 → (W'.heap[p6]? = some (.cells (szA (pad q) (cnt q)) 50 (0, 0))) → ((fun W' : World => W'.heap[p6]? = some (.cells (szA (pad q) (cnt q)) 50 (0, 0))) (W'.setRow k cs))) := fun W' k cs hk h => (setRow_other _ _ _ _ (by omega)).trans h
  have tok3 : True := trivial
  go_region_held3 (fun W' => W'.heap[p6]? = some (.cells (szA (pad q) (cnt q)) 50 (0, 0))) (first | exact HKS.out _ _ _ (Or.inr rfl) (HKS.out _ _ _ (Or.inl rfl) (HAS.out _ G7.out)) | exact HKS.out _ _ _ (Or.inl rfl) (HAS.out _ G7.out) | exact HAS.out _ G7.out | exact HAS.out _ (Below.drew (Old.refl w6)) | exact HAS.out _ (Old.refl w6) | fail) (first
    | (go_at_call 25; refine (cw _).mono ?_; rintro e w7 ⟨rfl, g7⟩; have G7 : Hid (Old w6 w7) := Old.trans ((Old.refl _).drewN 1) g7; have HX7 : Hid (Sz w7 (w.heap.size + 1 + 1) (ext []) 0) := HX6.out.old G7.out; have HY7 : Hid (Sz w7 (w.heap.size + 1 + 1 + 1) (ext []) 0) := HY6.out.old G7.out; clear g7)
    | (have _t := tok3; refine upon_sa HX7.out (pad q) (cnt q) HPQ.out ?_; clear tok3; go_simp)
    | (refine upon_sa (HY7.out.otherRow (by omega) _) (pad r) (cnt r) HPR.out ?_; go_simp)
    | fail)
  all_goals
    go_wp2_with fail
    exact HK.out _ _ _ _ _ ((HX7.out.row (pad q) (cnt q) HPQ.out).otherRow (by omega) _) ((HY7.out.otherRow (by omega) _).row (pad r) (cnt r) HPR.out) (((Old.trans HO6.out G7.out).row (by omega) _).row (by omega) _)
end Go.Proofs.YtjedpceiimceoaaDoor
/- Proved: the drawn region of divideSizes in which nothing and the number itself are handed out. -/
namespace Go.Proofs.YtjedpceiimceoaaDoor
open Go.ChangeShapes Go.WideShapes Go.ChangeAt Go.RowKit
open M2
set_option linter.unusedVariables false
set_option linter.unusedSimpArgs false
set_option maxRecDepth 1000000 in
set_option maxHeartbeats 16000000 in
theorem reg_d2n (a : Nat) (w w6 : World)
    (HA6 : Hid (Sz w6 w.heap.size (pad a) (cnt a))) (HX6 : Hid (Sz w6 (w.heap.size + 1 + 1) (ext []) 0)) (HY6 : Hid (Sz w6 (w.heap.size + 1 + 1 + 1) (ext []) 0)) (HO6 : Hid (Old w w6))
    (R : Ending → World → Prop) (J K : Act → World → Prop) (s0 s1 s6 s7 s8 s9 s10 s11 s12 s13 s14 s15 s16 s17 s18 s19 s20 s21 s22 s23 s24 s25 s26 s27 s28 s29 s30 s31 s32 s33 s34 s35 s36 s37 s38 s39 s40 s41 s42 s43 s44 s45 s46 s47 s48 s49 s50 s51 s52 s53 s54 s55 s56 s57 s58 s59 s60 s61 s62 s63 s64 s65 s66 s67 : Value)
    (HK : Hid (∀ (W : World) (u17 u18 : Value), Sz W (w.heap.size + 1 + 1) (ext []) 0 → Sz W (w.heap.size + 1 + 1 + 1) (pad a) (cnt a) → Old w W → K ⟨#[s0, s1, .pointer (some ⟨w.heap.size, 0, none⟩), .pointer (some ⟨w.heap.size + 1, 0, none⟩), .pointer (some ⟨w.heap.size + 1 + 1, 0, none⟩), .pointer (some ⟨w.heap.size + 1 + 1 + 1, 0, none⟩), s6, s7, s8, s9, s10, s11, s12, s13, s14, s15, s16, u17, u18, s19, s20, s21, s22, s23, s24, s25, s26, s27, s28, s29, s30, s31, s32, s33, s34, s35, s36, s37, s38, s39, s40, s41, s42, s43, s44, s45, s46, s47, s48, s49, s50, s51, s52, s53, s54, s55, s56, s57, s58, s59, s60, s61, s62, s63, s64, s65, s66, s67], []⟩ W)) :
    Code.wp Tryd.prog ((Tryd.f23.body.bind (regionAtLong 2)).getD .skip) (Exit.then K (Exit.then J (bodyPost Tryd.prog Tryd.f23 R))) ⟨#[s0, s1, .pointer (some ⟨w.heap.size, 0, none⟩), .pointer (some ⟨w.heap.size + 1, 0, none⟩), .pointer (some ⟨w.heap.size + 1 + 1, 0, none⟩), .pointer (some ⟨w.heap.size + 1 + 1 + 1, 0, none⟩), s6, s7, s8, s9, s10, s11, s12, s13, s14, s15, s16, s17, s18, s19, s20, s21, s22, s23, s24, s25, s26, s27, s28, s29, s30, s31, s32, s33, s34, s35, s36, s37, s38, s39, s40, s41, s42, s43, s44, s45, s46, s47, s48, s49, s50, s51, s52, s53, s54, s55, s56, s57, s58, s59, s60, s61, s62, s63, s64, s65, s66, s67], []⟩ w6 := by
  conv => arg 2; whnf
  obtain ⟨N, hN, HN9⟩ : ∃ N, (∀ W, Sem.run Tryd.prog (Go.sizeOf 50) W = .ok N W) ∧ Hid (N = 81) := ⟨81, Tryd.sizeOf50, rfl⟩
  have HPA : Hid ((pad a).length = 80) := HA6.out.len
  have hza : (szA (pad a) (cnt a)).size = N := by rw [HN9.out]; exact szA_size HPA.out _
  have h81 : (81 = N) = True := by simp [HN9.out]
  have hR2 : ∀ W : World, W.heap[w.heap.size]? = some (.cells (szA (pad a) (cnt a)) 50 (0, 0)) → Sem.run Tryd.prog (loadCellsFrom ⟨w.heap.size, 0, none⟩ 0 N #[]) W = .ok (szA (pad a) (cnt a)) W := fun W h => by rw [HN9.out]; exact run_loadCells_sz h (szA_size HPA.out _)
  have HAS : Hid (∀ W' : World, Old w6 W' → (W'.heap[w.heap.size]? = some (.cells (szA (pad a) (cnt a)) 50 (0, 0)))) := fun W' g => (HA6.out.old g).blk
  have HKS : Hid (∀ (W' : World) (k : Nat) (cs : Array Value), k = w.heap.size + 1 + 1 ∨ k = w.heap.size + 1 + 1 + 1 → (W'.heap[w.heap.size]? = some (.cells (szA (pad a) (cnt a)) 50 (0, 0))) → ((fun W' : World => W'.heap[w.heap.size]? = some (.cells (szA (pad a) (cnt a)) 50 (0, 0))) (W'.setRow k cs))) := fun W' k cs hk h => (setRow_other _ _ _ _ (by omega)).trans h
  have HXD : Hid (Sz w6.drew (w.heap.size + 1 + 1) (ext []) 0) := HX6.out.drw
  have HYD : Hid (Sz w6.drew (w.heap.size + 1 + 1 + 1) (ext []) 0) := HY6.out.drw
  have tok3 : True := trivial
  go_region_held3 (fun W' => W'.heap[w.heap.size]? = some (.cells (szA (pad a) (cnt a)) 50 (0, 0))) (first | exact HKS.out _ _ _ (Or.inr rfl) (HKS.out _ _ _ (Or.inl rfl) (HAS.out _ (Below.drew (Old.refl w6)))) | exact HKS.out _ _ _ (Or.inl rfl) (HAS.out _ (Below.drew (Old.refl w6))) | exact HAS.out _ (Below.drew (Old.refl w6)) | exact HAS.out _ (Old.refl w6) | fail) (first
    | (have _t := tok3; refine upon_zero HXD.out ?_; clear tok3; go_simp)
    | (refine upon_sa (HYD.out.otherRow (by omega) _) (pad a) (cnt a) HPA.out ?_; go_simp)
    | fail)
  all_goals
    go_wp2_with fail
    exact HK.out _ _ _ ((HXD.out.row (ext []) 0 (ext_len (by simp))).otherRow (by omega) _) ((HYD.out.otherRow (by omega) _).row (pad a) (cnt a) HPA.out) (((Old.drw HO6.out).row (by omega) _).row (by omega) _)
end Go.Proofs.YtjedpceiimceoaaDoor
/- Proved: the contract of the program's divideSizes where the number is below its divisor, and where the divisor is a word. -/
namespace Go.Proofs.YtjedpceiimceoaaDoor
open Go.ChangeShapes Go.WideShapes Go.ChangeAt Go.RowKit
open M2
set_option linter.unusedVariables false
set_option linter.unusedSimpArgs false
set_option maxRecDepth 100000 in
set_option maxHeartbeats 8000000 in
theorem div_lt (a b : Nat) (w : World) (ha : cnt a ≤ 40) (hb : cnt b ≤ 40) (hlt : a < b) :
    Calls Tryd.prog 23 #[.agg (szV a), .agg (szV b)] w fun e w' => e = .returned (.tuple #[.agg (szV (a / b)), .agg (szV (a % b))]) ∧ Old w w' := by
  rw [Nat.div_eq_of_lt hlt, Nat.mod_eq_of_lt hlt]
  have HPA : Hid ((pad a).length = 80) := pad_len' ha (by omega)
  have HPB : Hid ((pad b).length = 80) := pad_len' hb (by omega)
  have HA0 : Hid (Sz ((((w.alloc (.cells (szA (pad a) (cnt a)) 50)).alloc (.cells (szA (pad b) (cnt b)) 50)).alloc (.cells Tryd.zeroCells50 50)).alloc (.cells Tryd.zeroCells50 50)) w.heap.size (pad a) (cnt a)) := (((Sz.new w _ _ HPA.out).alloc _).alloc _).alloc _
  have HB0 : Hid (Sz ((((w.alloc (.cells (szA (pad a) (cnt a)) 50)).alloc (.cells (szA (pad b) (cnt b)) 50)).alloc (.cells Tryd.zeroCells50 50)).alloc (.cells Tryd.zeroCells50 50)) (w.heap.size + 1) (pad b) (cnt b)) := ((Sz.new' _ _ _ _ HPB.out (by simp)).alloc _).alloc _
  have HX0 : Hid (Sz ((((w.alloc (.cells (szA (pad a) (cnt a)) 50)).alloc (.cells (szA (pad b) (cnt b)) 50)).alloc (.cells Tryd.zeroCells50 50)).alloc (.cells Tryd.zeroCells50 50)) (w.heap.size + 1 + 1) (ext []) 0) := (Sz.zero _ _ (by simp)).alloc _
  have HY0 : Hid (Sz ((((w.alloc (.cells (szA (pad a) (cnt a)) 50)).alloc (.cells (szA (pad b) (cnt b)) 50)).alloc (.cells Tryd.zeroCells50 50)).alloc (.cells Tryd.zeroCells50 50)) (w.heap.size + 1 + 1 + 1) (ext []) 0) := Sz.zero _ _ (by simp)
  have HO0 : Hid (Old w ((((w.alloc (.cells (szA (pad a) (cnt a)) 50)).alloc (.cells (szA (pad b) (cnt b)) 50)).alloc (.cells Tryd.zeroCells50 50)).alloc (.cells Tryd.zeroCells50 50))) := ((((Old.refl w).alloc _).alloc _).alloc _).alloc _
  have cc := fun W => cmp_sz a b W (by omega) (by omega)
  have hz : cmpN a b = -1 := by unfold cmpN; rw [if_pos hlt]
  rw [hz] at cc
  have HE0 : Hid (szV 0 = szA (ext []) 0) := by
    show _ = _
    unfold szV pad
    rw [dig_zero, cnt_zero]
  rw [HE0.out]
  clear hz hlt
  unfold szV at *
  go_enter Tryd.func23, Tryd.ntmps23
  go_wp2_with (first | ((with_reducible refine load_sz HA0.out ?_ ?_); exact rfl; simp only [Act.put, List.setIfInBounds_toArray, List.set_cons_succ, List.set_cons_zero]) | ((with_reducible refine load_sz HB0.out ?_ ?_); exact rfl; simp only [Act.put, List.setIfInBounds_toArray, List.set_cons_succ, List.set_cons_zero]))
  refine (cc _).mono ?_
  rintro e w2 ⟨rfl, g2⟩
  have HA2 : Hid (Sz w2 w.heap.size (pad a) (cnt a)) := HA0.out.old g2
  have HB2 : Hid (Sz w2 (w.heap.size + 1) (pad b) (cnt b)) := HB0.out.old g2
  have HX2 : Hid (Sz w2 (w.heap.size + 1 + 1) (ext []) 0) := HX0.out.old g2
  have HY2 : Hid (Sz w2 (w.heap.size + 1 + 1 + 1) (ext []) 0) := HY0.out.old g2
  have HO2 : Hid (Old w w2) := Old.trans HO0.out g2
  have hs2 : w.heap.size + 1 + 1 + 1 < w2.heap.size := HY2.out.lt
  clear g2 HA0 HB0 HX0 HY0 HO0 cc
  go_wp2_with fail
  refine reg_d2n a w w2 HA2 HX2 HY2 HO2 _ _ _ _ _ _ _ _ _ _ _ _ _ _ _ _ _ _ _ _ _ _ _ _ _ _ _ _ _ _ _ _ _ _ _ _ _ _ _ _ _ _ _ _ _ _ _ _ _ _ _ _ _ _ _ _ _ _ _ _ _ _ _ _ _ _ _ ?_
  intro W u17 u18 hz1 hz2 ho
  go_wp2_with fail
  exact bodyPost_ret (ret_sz2 Tryd.results23 _ _ rfl rfl hz1 hz2) rfl ⟨rfl, ho⟩
theorem pad_low {b : Nat} (h : cnt b = 1) : (pad b).getD 0 0 = b ∧ 0 < b ∧ b < 268435456 := by
  have h1 := cnt_lt b
  rw [h, Nat.pow_one] at h1
  have h2 : b ≠ 0 := fun e => by rw [e, cnt_zero] at h; omega
  refine ⟨?_, by omega, h1⟩
  rw [pad_at, Nat.pow_zero, Nat.div_one, Nat.mod_eq_of_lt h1]
set_option maxRecDepth 100000 in
set_option maxHeartbeats 8000000 in
theorem div_one (a b : Nat) (w : World) (ha : cnt a ≤ 40) (hb1 : cnt b = 1) (hge : b ≤ a) :
    Calls Tryd.prog 23 #[.agg (szV a), .agg (szV b)] w fun e w' => e = .returned (.tuple #[.agg (szV (a / b)), .agg (szV (a % b))]) ∧ Old w w' := by
  have hb : cnt b ≤ 40 := by omega
  have HPA : Hid ((pad a).length = 80) := pad_len' ha (by omega)
  have HPB : Hid ((pad b).length = 80) := pad_len' hb (by omega)
  have HA0 : Hid (Sz ((((w.alloc (.cells (szA (pad a) (cnt a)) 50)).alloc (.cells (szA (pad b) (cnt b)) 50)).alloc (.cells Tryd.zeroCells50 50)).alloc (.cells Tryd.zeroCells50 50)) w.heap.size (pad a) (cnt a)) := (((Sz.new w _ _ HPA.out).alloc _).alloc _).alloc _
  have HB0 : Hid (Sz ((((w.alloc (.cells (szA (pad a) (cnt a)) 50)).alloc (.cells (szA (pad b) (cnt b)) 50)).alloc (.cells Tryd.zeroCells50 50)).alloc (.cells Tryd.zeroCells50 50)) (w.heap.size + 1) (pad b) (cnt b)) := ((Sz.new' _ _ _ _ HPB.out (by simp)).alloc _).alloc _
  have HX0 : Hid (Sz ((((w.alloc (.cells (szA (pad a) (cnt a)) 50)).alloc (.cells (szA (pad b) (cnt b)) 50)).alloc (.cells Tryd.zeroCells50 50)).alloc (.cells Tryd.zeroCells50 50)) (w.heap.size + 1 + 1) (ext []) 0) := (Sz.zero _ _ (by simp)).alloc _
  have HY0 : Hid (Sz ((((w.alloc (.cells (szA (pad a) (cnt a)) 50)).alloc (.cells (szA (pad b) (cnt b)) 50)).alloc (.cells Tryd.zeroCells50 50)).alloc (.cells Tryd.zeroCells50 50)) (w.heap.size + 1 + 1 + 1) (ext []) 0) := Sz.zero _ _ (by simp)
  have HO0 : Hid (Old w ((((w.alloc (.cells (szA (pad a) (cnt a)) 50)).alloc (.cells (szA (pad b) (cnt b)) 50)).alloc (.cells Tryd.zeroCells50 50)).alloc (.cells Tryd.zeroCells50 50))) := ((((Old.refl w).alloc _).alloc _).alloc _).alloc _
  have cc := fun W => cmp_sz a b W (by omega) (by omega)
  have hz : ¬ cmpN a b < 0 := by unfold cmpN; rw [if_neg (by omega)]; split <;> omega
  obtain ⟨b1, b2, b3⟩ := pad_low hb1
  obtain ⟨z, hze⟩ : ∃ z, cmpN a b = z := ⟨_, rfl⟩
  rw [hze] at cc hz
  have dz : decide (z < 0) = false := decide_eq_false hz
  have cw := fun W => word_sz a b W (by omega) b2 (by omega)
  have hrl : a % b < 268435456 := Nat.lt_trans (Nat.mod_lt _ b2) b3
  have HPQ : Hid ((pad (a / b)).length = 80) := pad_len' (Nat.le_trans (cnt_mono (Nat.div_le_self _ _)) ha) (by omega)
  have HB1 : Hid ((pad b).getD 0 0 = b) := b1
  have HCB : Hid (cnt b = 1) := hb1
  generalize a % b = r at *
  generalize a / b = q at *
  clear hz hze b1 hge hb1
  unfold szV at *
  go_enter Tryd.func23, Tryd.ntmps23
  go_wp2_with (first | ((with_reducible refine load_sz HA0.out ?_ ?_); exact rfl; simp only [Act.put, List.setIfInBounds_toArray, List.set_cons_succ, List.set_cons_zero]) | ((with_reducible refine load_sz HB0.out ?_ ?_); exact rfl; simp only [Act.put, List.setIfInBounds_toArray, List.set_cons_succ, List.set_cons_zero]))
  refine (cc _).mono ?_
  rintro e w2 ⟨rfl, g2⟩
  have HA2 : Hid (Sz w2 w.heap.size (pad a) (cnt a)) := HA0.out.old g2
  have HB2 : Hid (Sz w2 (w.heap.size + 1) (pad b) (cnt b)) := HB0.out.old g2
  have HX2 : Hid (Sz w2 (w.heap.size + 1 + 1) (ext []) 0) := HX0.out.old g2
  have HY2 : Hid (Sz w2 (w.heap.size + 1 + 1 + 1) (ext []) 0) := HY0.out.old g2
  have HO2 : Hid (Old w w2) := Old.trans HO0.out g2
  have hs2 : w.heap.size + 1 + 1 + 1 < w2.heap.size := HY2.out.lt
  clear g2 HA0 HB0 HX0 HY0 HO0 cc
  have c1 : w2.cell? ⟨w.heap.size + 1, 80, none⟩ = some (.int .i64 1) := by rw [HB2.out.cnt, HCB.out]; rfl
  have c2 : w2.cell? ⟨w.heap.size + 1, 0, none⟩ = some (.int .i64 (b : Int)) := by rw [HB2.out.at (j := 0) (by omega), HB1.out]
  go_wp2_with (first | ((with_reducible refine load_sz HA2.out ?_ ?_); exact rfl; simp only [Act.put, List.setIfInBounds_toArray, List.set_cons_succ, List.set_cons_zero]) | (go_at_call 50; refine (cw _).mono ?_; rintro e w3 ⟨rfl, g3⟩; have HX3 : Hid (Sz (w3.alloc (.cells Tryd.zeroCells50 50)) (w.heap.size + 1 + 1) (ext []) 0) := (HX2.out.old g3).alloc _; have HY3 : Hid (Sz (w3.alloc (.cells Tryd.zeroCells50 50)) (w.heap.size + 1 + 1 + 1) (ext []) 0) := (HY2.out.old g3).alloc _; have HO3 : Hid (Old w (w3.alloc (.cells Tryd.zeroCells50 50))) := (Old.trans HO2.out g3).alloc _; have HZ3 : Hid (Sz (w3.alloc (.cells Tryd.zeroCells50 50)) w3.heap.size (ext []) 0) := Sz.zero w3 _ rfl; have hs3 : w.heap.size + 1 + 1 + 1 < w3.heap.size := (by have := g3.size; omega); clear g3) | ((with_reducible refine store_sz HZ3.out (pad q) (cnt q) HPQ.out ?_ ?_ ?_); exact rfl; exact rfl; simp only [Act.put]))
  have HQ4 : Hid (Sz ((w3.alloc (.cells Tryd.zeroCells50 50)).setRow w3.heap.size (szA (pad q) (cnt q))) w3.heap.size (pad q) (cnt q)) := HZ3.out.row (pad q) (cnt q) HPQ.out
  refine reg_d5 q r w3.heap.size w _ hrl hs3 HQ4 (HX3.out.otherRow (by omega) _) (HY3.out.otherRow (by omega) _) (HO3.out.row (by omega) _) _ _ _ _ _ _ _ _ _ _ _ _ _ _ _ _ _ _ _ _ _ _ _ _ _ _ _ _ _ _ _ _ _ _ _ _ _ _ _ _ _ _ _ _ _ _ _ _ _ _ _ _ _ _ _ _ _ _ _ _ _ _ _ _ _ ?_
  intro W u30 u31 u32 u33 hz1 hz2 ho
  go_wp2_with fail
  exact bodyPost_ret (ret_sz2 Tryd.results23 _ _ rfl rfl hz1 hz2) rfl ⟨rfl, ho⟩
end Go.Proofs.YtjedpceiimceoaaDoor
