/- Proved: RoundWholes of the program, by what it calls. -/
import Derived.Test.YtafcffnpobdhgaaImpDivA
namespace Go.Proofs.Ytafcffnpobdhgaa
open Go.ChangeShapes Go.WideShapes Go.ChangeAt Go.RowKit
open M2
set_option linter.unusedVariables false
set_option linter.unusedSimpArgs false
theorem cell_otherR (W : World) (p : Addr) (v : Value) (q : Addr) (h : q.block ≠ p.block) : (W.setCell p v).cell? q = W.cell? q := World.cell?_of_block (heap_setCell_other W p q.block v h)
set_option maxRecDepth 100000 in
set_option maxHeartbeats 8000000 in
theorem impl_round_near (n m bq : Bool) (xs ys zq zr : List Int) (c0 c1 : Option Addr) (cap0 cap1 : Nat) (la lb lc : List Nat) (na nb nc : Nat) (w : World) (hv : Row w (.slice c0 xs.length cap0) xs) (hu : Row w (.slice c1 ys.length cap1) ys) (cd : ∀ W, Row W (.slice c0 xs.length cap0) xs → Row W (.slice c1 ys.length cap1) ys → Calls Try.prog 17 #[.agg #[.bool n, .slice c0 xs.length cap0], .agg #[.bool m, .slice c1 ys.length cap1]] W fun e w' => ∃ v1 v2, e = .returned (.tuple #[.agg #[.bool bq, v1], .agg #[.bool false, v2], .bool true]) ∧ Old W w' ∧ Own w' W.heap.size v1 zq ∧ Own w' W.heap.size v2 zr)
    (HLB : Hid (lb.length = 80))
    (csr : ∀ a k W, Row W (.slice a zr.length k) zr → Calls Try.prog 26 #[.agg #[.bool false, .slice a zr.length k]] W fun e w' => e = .returned (.agg (szA la na)) ∧ Old W w')
    (csc : ∀ W, Calls Try.prog 25 #[.agg (szA la na), .int .i64 2, .int .i64 0] W fun e w' => e = .returned (.agg (szA lb nb)) ∧ Old W w')
    (csy : ∀ W, Row W (.slice c1 ys.length cap1) ys → Calls Try.prog 26 #[.agg #[.bool m, .slice c1 ys.length cap1]] W fun e w' => e = .returned (.agg (szA lc nc)) ∧ Old W w')
    (z : Int) (ccm : ∀ W, Calls Try.prog 27 #[.agg (szA lb nb), .agg (szA lc nc)] W fun e w' => e = .returned (.int .i64 z) ∧ Old W w') (hz : z < 0)
    : Calls Try.prog 8 #[.agg #[.bool n, .slice c0 xs.length cap0], .agg #[.bool m, .slice c1 ys.length cap1]] w fun e w' => ∃ v', e = .returned (.tuple #[.agg #[.bool bq, v'], .bool true]) ∧ Old w w' ∧ Own w' w.heap.size v' zq := by
  have HV : Hid (Row w (.slice c0 xs.length cap0) xs) := hv
  have HU : Hid (Row w (.slice c1 ys.length cap1) ys) := hu
  have HG0 : Hid (Old w (((w.alloc (.cells #[.bool n, .slice c0 xs.length cap0] 25)).alloc (.cells #[.bool m, .slice c1 ys.length cap1] 25)).alloc (.cells #[.bool false, .slice none 0 0] 25))) := (((Old.refl w).alloc _).alloc _).alloc _
  have SB0 : Hid (St (((w.alloc (.cells #[.bool n, .slice c0 xs.length cap0] 25)).alloc (.cells #[.bool m, .slice c1 ys.length cap1] 25)).alloc (.cells #[.bool false, .slice none 0 0] 25)) (w.heap.size + 1) (.bool m) (.slice c1 ys.length cap1) 25) := (St.at2 w _ _ _ _ _ _).old ((Old.refl _).alloc _)
  have SC0 : Hid (St (((w.alloc (.cells #[.bool n, .slice c0 xs.length cap0] 25)).alloc (.cells #[.bool m, .slice c1 ys.length cap1] 25)).alloc (.cells #[.bool false, .slice none 0 0] 25)) (w.heap.size + 1 + 1) (.bool false) (.slice none 0 0) 25) := by
    have h := St.new ((w.alloc (.cells #[.bool n, .slice c0 xs.length cap0] 25)).alloc (.cells #[.bool m, .slice c1 ys.length cap1] 25)) (.bool false) (.slice none 0 0) 25
    rw [show ((w.alloc (.cells #[.bool n, .slice c0 xs.length cap0] 25)).alloc (.cells #[.bool m, .slice c1 ys.length cap1] 25)).heap.size = w.heap.size + 1 + 1 by simp] at h
    exact h
  clear hv hu
  go_enter Try.func8, Try.ntmps8
  go_wp2_with fail
  refine (cd _ (HV.out.old HG0.out) (HU.out.old HG0.out)).mono ?_
  rintro e w1 ⟨v1, v2, rfl, g1, o1, o2⟩
  obtain ⟨a1, k1, rfl⟩ := (Own.row o1).slice
  obtain ⟨a2, k2, rfl⟩ := (Own.row o2).slice
  have SB1 : Hid (St w1 (w.heap.size + 1) (.bool m) (.slice c1 ys.length cap1) 25) := SB0.out.old g1
  have SC1 : Hid (St w1 (w.heap.size + 1 + 1) (.bool false) (.slice none 0 0) 25) := SC0.out.old g1
  have HG1 : Hid (Old w w1) := Old.trans HG0.out g1
  have hs1 : w.heap.size + 1 + 1 < w1.heap.size := SC1.out.lt
  have O1 : Hid (Own w1 (w.heap.size + 1 + 1 + 1) (.slice a1 zq.length k1) zq) := by
    have h := o1
    simp only [World.alloc, Array.size_push] at h
    exact h
  have R2 : Hid (Row w1 (.slice a2 zr.length k2) zr) := Own.row o2
  clear g1 o1 o2 SB0 SC0 HG0 cd
  have X2 : Hid (Old w1 ((w1.alloc (.cells #[.bool bq, .slice a1 zq.length k1] 25)).alloc (.cells #[.bool false, .slice a2 zr.length k2] 25))) := ((Old.refl w1).alloc _).alloc _
  have SQ2 : Hid (St ((w1.alloc (.cells #[.bool bq, .slice a1 zq.length k1] 25)).alloc (.cells #[.bool false, .slice a2 zr.length k2] 25)) w1.heap.size (.bool bq) (.slice a1 zq.length k1) 25) := St.at1 w1 _ _ _ _ _ _
  go_wp2_with fail
  refine (csr a2 k2 _ (R2.out.old X2.out)).mono ?_
  rintro e w2 ⟨rfl, g2⟩
  have G2 : Hid (Old w1 w2) := Old.trans X2.out g2
  have SQ3 : Hid (St w2 w1.heap.size (.bool bq) (.slice a1 zq.length k1) 25) := SQ2.out.old g2
  clear g2 X2 SQ2
  go_wp2_with fail
  refine (csc _).mono ?_
  rintro e w3 ⟨rfl, g3⟩
  have G3 : Hid (Old w1 w3) := Old.trans G2.out g3
  have SQ4 : Hid (St w3 w1.heap.size (.bool bq) (.slice a1 zq.length k1) 25) := SQ3.out.old g3
  clear g3 G2 SQ3
  have HZ : Hid (Sz (w3.alloc (.cells Try.zeroCells49 49)) w3.heap.size (ext []) 0) := Sz.zero _ _ rfl
  have g4 : Old w3 ((w3.alloc (.cells Try.zeroCells49 49)).setRow w3.heap.size (szA lb nb)) := ((Old.refl w3).alloc _).row (Nat.le_refl _) _
  have HB4 : Hid (Sz ((w3.alloc (.cells Try.zeroCells49 49)).setRow w3.heap.size (szA lb nb)) w3.heap.size lb nb) := HZ.out.row lb nb HLB.out
  have h4 : ∃ w4, w4 = ((w3.alloc (.cells Try.zeroCells49 49)).setRow w3.heap.size (szA lb nb)) := ⟨_, rfl⟩
  obtain ⟨w4, e4⟩ := h4
  rw [← e4] at g4 HB4
  have E4 : Hid (w4 = ((w3.alloc (.cells Try.zeroCells49 49)).setRow w3.heap.size (szA lb nb))) := e4
  have G4 : Hid (Old w1 w4) := Old.trans G3.out g4
  have SQ5 : Hid (St w4 w1.heap.size (.bool bq) (.slice a1 zq.length k1) 25) := SQ4.out.old g4
  clear e4 g4 SQ4
  go_wp2_with ((with_reducible refine store_sz HZ.out lb nb HLB.out ?_ ?_ ?_); exact rfl; exact rfl; simp only [Act.put])
  rw [← E4.out]
  clear E4 HZ G3
  have SB4 : Hid (St w4 (w.heap.size + 1) (.bool m) (.slice c1 ys.length cap1) 25) := SB1.out.old G4.out
  have HAS : Hid (∀ W' : World, Old w4 W' → (W'.heap[w3.heap.size]? = some (.cells (szA lb nb) 49 (0, 0)) ∧ W'.cell? ⟨w.heap.size + 1, 0, none⟩ = some (.bool m) ∧ W'.cell? ⟨w.heap.size + 1, 1, none⟩ = some (.slice c1 ys.length cap1))) := fun W' g => ⟨(HB4.out.old g).blk, (SB4.out.old g).c0, (SB4.out.old g).c1⟩
  obtain ⟨N, hN, HN⟩ : ∃ N, (∀ W, Sem.run Try.prog (Go.sizeOf 49) W = .ok N W) ∧ Hid (N = 81) := ⟨81, Try.sizeOf49, rfl⟩
  have hR1 : ∀ W : World, W.heap[w3.heap.size]? = some (.cells (szA lb nb) 49 (0, 0)) → Sem.run Try.prog (loadCellsFrom ⟨w3.heap.size, 0, none⟩ 0 N #[]) W = .ok (szA lb nb) W := fun W h => by rw [HN.out]; exact run_loadCells_sz h (szA_size HLB.out _)
  have hzl : decide (z < 0) = true := decide_eq_true hz
  go_region_held3 (fun W' => W'.heap[w3.heap.size]? = some (.cells (szA lb nb) 49 (0, 0)) ∧ W'.cell? ⟨w.heap.size + 1, 0, none⟩ = some (.bool m) ∧ W'.cell? ⟨w.heap.size + 1, 1, none⟩ = some (.slice c1 ys.length cap1)) (first | with_reducible exact HAS.out _ G6.out | with_reducible exact HAS.out _ G5.out | with_reducible exact HAS.out _ (Below.drew (Old.refl w4)) | with_reducible exact HAS.out _ (Old.refl w4)) (first
    | (go_at_call 26; refine (csy _ (HU.out.old (Old.trans HG1.out (Old.trans G4.out (Below.drew (Old.refl w4)))))).mono ?_; rintro e w5 ⟨rfl, g5⟩; have G5 : Hid (Old w4 w5) := Old.trans (Below.drew (Old.refl w4)) g5; clear g5)
    | (go_at_call 27; refine (ccm _).mono ?_; rintro e w6 ⟨rfl, g6⟩; have G6 : Hid (Old w4 w6) := Old.trans G5.out g6; clear g6)
    | fail)
  have HG6 : Hid (Old w w6) := Old.trans HG1.out (Old.trans G4.out G6.out)
  have SQ6 : Hid (St w6 w1.heap.size (.bool bq) (.slice a1 zq.length k1) 25) := SQ5.out.old G6.out
  have SC6 : Hid (St w6 (w.heap.size + 1 + 1) (.bool false) (.slice none 0 0) 25) := SC1.out.old (Old.trans G4.out G6.out)
  have O6 : Hid (Own w6 (w.heap.size + 1 + 1 + 1) (.slice a1 zq.length k1) zq) := O1.out.old (Old.trans G4.out G6.out)
  clear hR1 hN HN HAS SB4 G4 SQ5 G5 G6 HB4
  have q0 := SQ6.out.c0
  have q1 := SQ6.out.c1
  have t0 := SC6.out.c0
  have t1 := SC6.out.c1
  have f0 := SC6.out.f0
  have f1 := SC6.out.f1
  go_wp2_with fail
  refine bodyPost_ret (v := .tuple #[.agg #[.bool bq, .slice a1 zq.length k1], .bool true]) (by simp [results, Try.results8, go_sem, t0, t1]) rfl ⟨_, rfl, ?_, ?_⟩
  · exact (HG6.out.own (p := ⟨w.heap.size + 1 + 1, 0, none⟩) (by simp; omega) _).own (p := ⟨w.heap.size + 1 + 1, 1, none⟩) (by simp; omega) _
  · exact Own.low (own_set2 O6.out (by omega) _ _) (by omega)
set_option maxRecDepth 100000 in
set_option maxHeartbeats 8000000 in
theorem impl_round_up (n m bq : Bool) (xs ys zq zr : List Int) (c0 c1 : Option Addr) (cap0 cap1 : Nat) (la lb lc : List Nat) (na nb nc : Nat) (w : World) (hv : Row w (.slice c0 xs.length cap0) xs) (hu : Row w (.slice c1 ys.length cap1) ys) (cd : ∀ W, Row W (.slice c0 xs.length cap0) xs → Row W (.slice c1 ys.length cap1) ys → Calls Try.prog 17 #[.agg #[.bool n, .slice c0 xs.length cap0], .agg #[.bool m, .slice c1 ys.length cap1]] W fun e w' => ∃ v1 v2, e = .returned (.tuple #[.agg #[.bool bq, v1], .agg #[.bool false, v2], .bool true]) ∧ Old W w' ∧ Own w' W.heap.size v1 zq ∧ Own w' W.heap.size v2 zr)
    (HLB : Hid (lb.length = 80))
    (csr : ∀ a k W, Row W (.slice a zr.length k) zr → Calls Try.prog 26 #[.agg #[.bool false, .slice a zr.length k]] W fun e w' => e = .returned (.agg (szA la na)) ∧ Old W w')
    (csc : ∀ W, Calls Try.prog 25 #[.agg (szA la na), .int .i64 2, .int .i64 0] W fun e w' => e = .returned (.agg (szA lb nb)) ∧ Old W w')
    (csy : ∀ W, Row W (.slice c1 ys.length cap1) ys → Calls Try.prog 26 #[.agg #[.bool m, .slice c1 ys.length cap1]] W fun e w' => e = .returned (.agg (szA lc nc)) ∧ Old W w')
    (z : Int) (ccm : ∀ W, Calls Try.prog 27 #[.agg (szA lb nb), .agg (szA lc nc)] W fun e w' => e = .returned (.int .i64 z) ∧ Old W w')
    (hz : ¬ z < 0) (zo zs : List Int) (rb ro : Bool) (cwo : ∀ W, Calls Try.prog 29 #[.int .i64 1] W fun e w' => ∃ v, e = .returned (.agg #[.bool false, v]) ∧ Old W w' ∧ Own w' W.heap.size v zo)
    (cad : ∀ v u W, Row W v zq → Row W u zo → Calls Try.prog 28 #[.agg #[.bool bq, v], .agg #[.bool false, u]] W fun e w' => ∃ v', e = .returned (.tuple #[.agg #[.bool rb, v'], .bool ro]) ∧ Old W w' ∧ Own w' W.heap.size v' zs)
    : Calls Try.prog 8 #[.agg #[.bool n, .slice c0 xs.length cap0], .agg #[.bool m, .slice c1 ys.length cap1]] w fun e w' => ∃ v', e = .returned (.tuple #[.agg #[.bool rb, v'], .bool ro]) ∧ Old w w' ∧ Own w' w.heap.size v' zs := by
  have HV : Hid (Row w (.slice c0 xs.length cap0) xs) := hv
  have HU : Hid (Row w (.slice c1 ys.length cap1) ys) := hu
  have HG0 : Hid (Old w (((w.alloc (.cells #[.bool n, .slice c0 xs.length cap0] 25)).alloc (.cells #[.bool m, .slice c1 ys.length cap1] 25)).alloc (.cells #[.bool false, .slice none 0 0] 25))) := (((Old.refl w).alloc _).alloc _).alloc _
  have SB0 : Hid (St (((w.alloc (.cells #[.bool n, .slice c0 xs.length cap0] 25)).alloc (.cells #[.bool m, .slice c1 ys.length cap1] 25)).alloc (.cells #[.bool false, .slice none 0 0] 25)) (w.heap.size + 1) (.bool m) (.slice c1 ys.length cap1) 25) := (St.at2 w _ _ _ _ _ _).old ((Old.refl _).alloc _)
  have SC0 : Hid (St (((w.alloc (.cells #[.bool n, .slice c0 xs.length cap0] 25)).alloc (.cells #[.bool m, .slice c1 ys.length cap1] 25)).alloc (.cells #[.bool false, .slice none 0 0] 25)) (w.heap.size + 1 + 1) (.bool false) (.slice none 0 0) 25) := by
    have h := St.new ((w.alloc (.cells #[.bool n, .slice c0 xs.length cap0] 25)).alloc (.cells #[.bool m, .slice c1 ys.length cap1] 25)) (.bool false) (.slice none 0 0) 25
    rw [show ((w.alloc (.cells #[.bool n, .slice c0 xs.length cap0] 25)).alloc (.cells #[.bool m, .slice c1 ys.length cap1] 25)).heap.size = w.heap.size + 1 + 1 by simp] at h
    exact h
  clear hv hu
  go_enter Try.func8, Try.ntmps8
  go_wp2_with fail
  refine (cd _ (HV.out.old HG0.out) (HU.out.old HG0.out)).mono ?_
  rintro e w1 ⟨v1, v2, rfl, g1, o1, o2⟩
  obtain ⟨a1, k1, rfl⟩ := (Own.row o1).slice
  obtain ⟨a2, k2, rfl⟩ := (Own.row o2).slice
  have SB1 : Hid (St w1 (w.heap.size + 1) (.bool m) (.slice c1 ys.length cap1) 25) := SB0.out.old g1
  have SC1 : Hid (St w1 (w.heap.size + 1 + 1) (.bool false) (.slice none 0 0) 25) := SC0.out.old g1
  have HG1 : Hid (Old w w1) := Old.trans HG0.out g1
  have hs1 : w.heap.size + 1 + 1 < w1.heap.size := SC1.out.lt
  have O1 : Hid (Own w1 (w.heap.size + 1 + 1 + 1) (.slice a1 zq.length k1) zq) := by
    have h := o1
    simp only [World.alloc, Array.size_push] at h
    exact h
  have R2 : Hid (Row w1 (.slice a2 zr.length k2) zr) := Own.row o2
  clear g1 o1 o2 SB0 SC0 HG0 cd
  have X2 : Hid (Old w1 ((w1.alloc (.cells #[.bool bq, .slice a1 zq.length k1] 25)).alloc (.cells #[.bool false, .slice a2 zr.length k2] 25))) := ((Old.refl w1).alloc _).alloc _
  have SQ2 : Hid (St ((w1.alloc (.cells #[.bool bq, .slice a1 zq.length k1] 25)).alloc (.cells #[.bool false, .slice a2 zr.length k2] 25)) w1.heap.size (.bool bq) (.slice a1 zq.length k1) 25) := St.at1 w1 _ _ _ _ _ _
  go_wp2_with fail
  refine (csr a2 k2 _ (R2.out.old X2.out)).mono ?_
  rintro e w2 ⟨rfl, g2⟩
  have G2 : Hid (Old w1 w2) := Old.trans X2.out g2
  have SQ3 : Hid (St w2 w1.heap.size (.bool bq) (.slice a1 zq.length k1) 25) := SQ2.out.old g2
  clear g2 X2 SQ2
  go_wp2_with fail
  refine (csc _).mono ?_
  rintro e w3 ⟨rfl, g3⟩
  have G3 : Hid (Old w1 w3) := Old.trans G2.out g3
  have SQ4 : Hid (St w3 w1.heap.size (.bool bq) (.slice a1 zq.length k1) 25) := SQ3.out.old g3
  clear g3 G2 SQ3
  have HZ : Hid (Sz (w3.alloc (.cells Try.zeroCells49 49)) w3.heap.size (ext []) 0) := Sz.zero _ _ rfl
  have g4 : Old w3 ((w3.alloc (.cells Try.zeroCells49 49)).setRow w3.heap.size (szA lb nb)) := ((Old.refl w3).alloc _).row (Nat.le_refl _) _
  have HB4 : Hid (Sz ((w3.alloc (.cells Try.zeroCells49 49)).setRow w3.heap.size (szA lb nb)) w3.heap.size lb nb) := HZ.out.row lb nb HLB.out
  have h4 : ∃ w4, w4 = ((w3.alloc (.cells Try.zeroCells49 49)).setRow w3.heap.size (szA lb nb)) := ⟨_, rfl⟩
  obtain ⟨w4, e4⟩ := h4
  rw [← e4] at g4 HB4
  have E4 : Hid (w4 = ((w3.alloc (.cells Try.zeroCells49 49)).setRow w3.heap.size (szA lb nb))) := e4
  have G4 : Hid (Old w1 w4) := Old.trans G3.out g4
  have SQ5 : Hid (St w4 w1.heap.size (.bool bq) (.slice a1 zq.length k1) 25) := SQ4.out.old g4
  clear e4 g4 SQ4
  go_wp2_with ((with_reducible refine store_sz HZ.out lb nb HLB.out ?_ ?_ ?_); exact rfl; exact rfl; simp only [Act.put])
  rw [← E4.out]
  clear E4 HZ G3
  have SB4 : Hid (St w4 (w.heap.size + 1) (.bool m) (.slice c1 ys.length cap1) 25) := SB1.out.old G4.out
  have HAS : Hid (∀ W' : World, Old w4 W' → (W'.heap[w3.heap.size]? = some (.cells (szA lb nb) 49 (0, 0)) ∧ W'.cell? ⟨w.heap.size + 1, 0, none⟩ = some (.bool m) ∧ W'.cell? ⟨w.heap.size + 1, 1, none⟩ = some (.slice c1 ys.length cap1))) := fun W' g => ⟨(HB4.out.old g).blk, (SB4.out.old g).c0, (SB4.out.old g).c1⟩
  obtain ⟨N, hN, HN⟩ : ∃ N, (∀ W, Sem.run Try.prog (Go.sizeOf 49) W = .ok N W) ∧ Hid (N = 81) := ⟨81, Try.sizeOf49, rfl⟩
  have hR1 : ∀ W : World, W.heap[w3.heap.size]? = some (.cells (szA lb nb) 49 (0, 0)) → Sem.run Try.prog (loadCellsFrom ⟨w3.heap.size, 0, none⟩ 0 N #[]) W = .ok (szA lb nb) W := fun W h => by rw [HN.out]; exact run_loadCells_sz h (szA_size HLB.out _)
  have hzl : decide (z < 0) = false := decide_eq_false (by omega)
  go_region_held3 (fun W' => W'.heap[w3.heap.size]? = some (.cells (szA lb nb) 49 (0, 0)) ∧ W'.cell? ⟨w.heap.size + 1, 0, none⟩ = some (.bool m) ∧ W'.cell? ⟨w.heap.size + 1, 1, none⟩ = some (.slice c1 ys.length cap1)) (first | with_reducible exact HAS.out _ G6.out | with_reducible exact HAS.out _ G5.out | with_reducible exact HAS.out _ (Below.drew (Old.refl w4)) | with_reducible exact HAS.out _ (Old.refl w4)) (first
    | (go_at_call 26; refine (csy _ (HU.out.old (Old.trans HG1.out (Old.trans G4.out (Below.drew (Old.refl w4)))))).mono ?_; rintro e w5 ⟨rfl, g5⟩; have G5 : Hid (Old w4 w5) := Old.trans (Below.drew (Old.refl w4)) g5; clear g5)
    | (go_at_call 27; refine (ccm _).mono ?_; rintro e w6 ⟨rfl, g6⟩; have G6 : Hid (Old w4 w6) := Old.trans G5.out g6; clear g6)
    | fail)
  have HG6 : Hid (Old w w6) := Old.trans HG1.out (Old.trans G4.out G6.out)
  have SQ6 : Hid (St w6 w1.heap.size (.bool bq) (.slice a1 zq.length k1) 25) := SQ5.out.old G6.out
  have SC6 : Hid (St w6 (w.heap.size + 1 + 1) (.bool false) (.slice none 0 0) 25) := SC1.out.old (Old.trans G4.out G6.out)
  have O6 : Hid (Own w6 (w.heap.size + 1 + 1 + 1) (.slice a1 zq.length k1) zq) := O1.out.old (Old.trans G4.out G6.out)
  clear hR1 hN HN HAS SB4 G4 SQ5 G5 G6 HB4
  have HAS : Hid (∀ W' : World, Old w6 W' → (W'.cell? ⟨w1.heap.size, 0, none⟩ = some (.bool bq) ∧ W'.cell? ⟨w1.heap.size, 1, none⟩ = some (.slice a1 zq.length k1))) := fun W' g => ⟨(SQ6.out.old g).c0, (SQ6.out.old g).c1⟩
  have HKS : Hid (∀ (W' : World) (v0 v1 : Value), (W'.cell? ⟨w1.heap.size, 0, none⟩ = some (.bool bq) ∧ W'.cell? ⟨w1.heap.size, 1, none⟩ = some (.slice a1 zq.length k1)) → ((fun W' : World => W'.cell? ⟨w1.heap.size, 0, none⟩ = some (.bool bq) ∧ W'.cell? ⟨w1.heap.size, 1, none⟩ = some (.slice a1 zq.length k1)) ((W'.setCell ⟨w.heap.size + 1 + 1, 0, none⟩ v0).setCell ⟨w.heap.size + 1 + 1, 1, none⟩ v1))) := fun W' v0 v1 h => by
    exact ⟨(cell_otherR _ _ _ _ (by simp; omega)).trans ((cell_otherR _ _ _ _ (by simp; omega)).trans h.1), (cell_otherR _ _ _ _ (by simp; omega)).trans ((cell_otherR _ _ _ _ (by simp; omega)).trans h.2)⟩
  go_wp2_with fail
  go_region_held3 (fun W' => W'.cell? ⟨w1.heap.size, 0, none⟩ = some (.bool bq) ∧ W'.cell? ⟨w1.heap.size, 1, none⟩ = some (.slice a1 zq.length k1)) (first | with_reducible exact HKS.out _ _ _ (HAS.out _ G8.out) | with_reducible exact HAS.out _ G8.out | with_reducible exact HAS.out _ G7.out | with_reducible exact HAS.out _ (Below.drew (Old.refl w6)) | with_reducible exact HAS.out _ (Old.refl w6)) (first
    | (go_at_call 29; refine (cwo _).mono ?_; rintro e w7 ⟨v7, rfl, g7, o7⟩; obtain ⟨a7, k7, rfl⟩ := (Own.row o7).slice; have G7 : Hid (Old w6 w7) := Old.trans (Below.drew (Old.refl w6)) g7; have R7 : Hid (Row w7 (.slice a7 zo.length k7) zo) := Own.row o7; clear g7 o7)
    | (go_at_call 28; refine (cad _ _ _ ((Own.row O6.out).old G7.out) R7.out).mono ?_; rintro e w8 ⟨v8, rfl, g8, o8⟩; obtain ⟨a8, k8, rfl⟩ := (Own.row o8).slice; have G8 : Hid (Old w6 w8) := Old.trans G7.out g8; have O8 : Hid (Own w8 (w.heap.size + 1 + 1 + 1) (.slice a8 zs.length k8) zs) := Own.low o8 (by have := (SC6.out.old G7.out).lt; omega); have SC8 : Hid (St w8 (w.heap.size + 1 + 1) (.bool false) (.slice none 0 0) 25) := SC6.out.old G8.out; have t0 := SC8.out.c0; have t1 := SC8.out.c1; have f0 := SC8.out.f0; have f1 := SC8.out.f1; clear g8 o8)
    | fail)
  all_goals
    go_wp2_with fail
    refine bodyPost_ret (v := .tuple #[.agg #[.bool rb, .slice a8 zs.length k8], .bool ro]) (by simp [results, Try.results8, go_sem, t0, t1]) rfl ⟨_, rfl, ?_, ?_⟩
    · exact ((Old.trans HG6.out G8.out).own (p := ⟨w.heap.size + 1 + 1, 0, none⟩) (by simp; omega) _).own (p := ⟨w.heap.size + 1 + 1, 1, none⟩) (by simp; omega) _
    · exact Own.low (own_set2 O8.out (by omega) _ _) (by omega)
set_option maxRecDepth 100000 in
set_option maxHeartbeats 8000000 in
theorem impl_round_no (n m bq : Bool) (xs ys zq zr : List Int) (c0 c1 : Option Addr) (cap0 cap1 : Nat) (la lb lc : List Nat) (na nb nc : Nat) (w : World) (hv : Row w (.slice c0 xs.length cap0) xs) (hu : Row w (.slice c1 ys.length cap1) ys) (cd : ∀ W, Row W (.slice c0 xs.length cap0) xs → Row W (.slice c1 ys.length cap1) ys → Calls Try.prog 17 #[.agg #[.bool n, .slice c0 xs.length cap0], .agg #[.bool m, .slice c1 ys.length cap1]] W fun e w' => ∃ v1 v2, e = .returned (.tuple #[.agg #[.bool bq, v1], .agg #[.bool false, v2], .bool false]) ∧ Old W w' ∧ Own w' W.heap.size v1 zq ∧ Own w' W.heap.size v2 zr)
    : Calls Try.prog 8 #[.agg #[.bool n, .slice c0 xs.length cap0], .agg #[.bool m, .slice c1 ys.length cap1]] w fun e w' => ∃ v', e = .returned (.tuple #[.agg #[.bool false, v'], .bool false]) ∧ Old w w' ∧ Own w' w.heap.size v' [] := by
  have HV : Hid (Row w (.slice c0 xs.length cap0) xs) := hv
  have HU : Hid (Row w (.slice c1 ys.length cap1) ys) := hu
  have HG0 : Hid (Old w (((w.alloc (.cells #[.bool n, .slice c0 xs.length cap0] 25)).alloc (.cells #[.bool m, .slice c1 ys.length cap1] 25)).alloc (.cells #[.bool false, .slice none 0 0] 25))) := (((Old.refl w).alloc _).alloc _).alloc _
  have SB0 : Hid (St (((w.alloc (.cells #[.bool n, .slice c0 xs.length cap0] 25)).alloc (.cells #[.bool m, .slice c1 ys.length cap1] 25)).alloc (.cells #[.bool false, .slice none 0 0] 25)) (w.heap.size + 1) (.bool m) (.slice c1 ys.length cap1) 25) := (St.at2 w _ _ _ _ _ _).old ((Old.refl _).alloc _)
  have SC0 : Hid (St (((w.alloc (.cells #[.bool n, .slice c0 xs.length cap0] 25)).alloc (.cells #[.bool m, .slice c1 ys.length cap1] 25)).alloc (.cells #[.bool false, .slice none 0 0] 25)) (w.heap.size + 1 + 1) (.bool false) (.slice none 0 0) 25) := by
    have h := St.new ((w.alloc (.cells #[.bool n, .slice c0 xs.length cap0] 25)).alloc (.cells #[.bool m, .slice c1 ys.length cap1] 25)) (.bool false) (.slice none 0 0) 25
    rw [show ((w.alloc (.cells #[.bool n, .slice c0 xs.length cap0] 25)).alloc (.cells #[.bool m, .slice c1 ys.length cap1] 25)).heap.size = w.heap.size + 1 + 1 by simp] at h
    exact h
  clear hv hu
  go_enter Try.func8, Try.ntmps8
  go_wp2_with fail
  refine (cd _ (HV.out.old HG0.out) (HU.out.old HG0.out)).mono ?_
  rintro e w1 ⟨v1, v2, rfl, g1, o1, o2⟩
  obtain ⟨a1, k1, rfl⟩ := (Own.row o1).slice
  obtain ⟨a2, k2, rfl⟩ := (Own.row o2).slice
  have SB1 : Hid (St w1 (w.heap.size + 1) (.bool m) (.slice c1 ys.length cap1) 25) := SB0.out.old g1
  have SC1 : Hid (St w1 (w.heap.size + 1 + 1) (.bool false) (.slice none 0 0) 25) := SC0.out.old g1
  have HG1 : Hid (Old w w1) := Old.trans HG0.out g1
  have hs1 : w.heap.size + 1 + 1 < w1.heap.size := SC1.out.lt
  have O1 : Hid (Own w1 (w.heap.size + 1 + 1 + 1) (.slice a1 zq.length k1) zq) := by
    have h := o1
    simp only [World.alloc, Array.size_push] at h
    exact h
  have R2 : Hid (Row w1 (.slice a2 zr.length k2) zr) := Own.row o2
  clear g1 o1 o2 SB0 SC0 HG0 cd
  have X2 : Hid (Old w1 ((w1.alloc (.cells #[.bool bq, .slice a1 zq.length k1] 25)).alloc (.cells #[.bool false, .slice a2 zr.length k2] 25))) := ((Old.refl w1).alloc _).alloc _
  have SC2 : Hid (St ((w1.alloc (.cells #[.bool bq, .slice a1 zq.length k1] 25)).alloc (.cells #[.bool false, .slice a2 zr.length k2] 25)) (w.heap.size + 1 + 1) (.bool false) (.slice none 0 0) 25) := SC1.out.old X2.out
  have t0 := SC2.out.c0
  have t1 := SC2.out.c1
  have f0 := SC2.out.f0
  have f1 := SC2.out.f1
  go_wp2_with fail
  refine bodyPost_ret (v := .tuple #[.agg #[.bool false, .slice none 0 0], .bool false]) (by simp [results, Try.results8, go_sem, t0, t1]) rfl ⟨_, rfl, ?_, rfl, Or.inl ⟨rfl, rfl⟩⟩
  exact ((Old.trans HG1.out X2.out).own (p := ⟨w.heap.size + 1 + 1, 0, none⟩) (by simp; omega) _).own (p := ⟨w.heap.size + 1 + 1, 1, none⟩) (by simp; omega) _
end Go.Proofs.Ytafcffnpobdhgaa
