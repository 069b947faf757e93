/- Proved: several texts in one: what each proves is said ahead of it. -/
import Derived.Test.YtpcpahgflkjnaaaGreatDoorB52
import Derived.Test.YtpcpahgflkjnaaaGreatDoorLawNoiseLimit
/- Proved: the model's NoiseLimit, FreshBound, AddPlainBound, MulPlainBound, SwitchBound and MulBound. -/
namespace Go.Proofs.YtpcpahgflkjnaaaGreatDoor
open Go.ChangeShapes Go.WideShapes Go.ChangeAt Go.RowKit
open M2
set_option linter.unusedVariables false
set_option linter.unusedSimpArgs false
set_option maxRecDepth 100000 in
set_option maxHeartbeats 4000000 in
theorem spec_NoiseLimit_no (N T E : Int) (a0 : Option Addr) (l0 c0 : Nat) (w : World) (KB : ∀ W, Old w W → Calls Tryz.prog 77 #[.agg #[.int .i64 N, .int .i64 T, .int .i64 E, .slice a0 l0 c0]] W fun e w' => e = .returned (.bool false) ∧ Old W w') :
    Calls Tryz.prog 29 #[.agg #[.int .i64 N, .int .i64 T, .int .i64 E, .slice a0 l0 c0]] w (WhA [] false w) := by
  have HA : Hid (Old w ((w.alloc (.cells #[.int .i64 N, .int .i64 T, .int .i64 E, .slice a0 l0 c0] 34)).alloc (.cells #[.bool false, .slice none 0 0] 31))) := ((Old.refl w).alloc _).alloc _
  have BP : Hid (Bk ((w.alloc (.cells #[.int .i64 N, .int .i64 T, .int .i64 E, .slice a0 l0 c0] 34)).alloc (.cells #[.bool false, .slice none 0 0] 31)) w.heap.size #[.int .i64 N, .int .i64 T, .int .i64 E, .slice a0 l0 c0] 34) := (Bk.new' w _ _ rfl).alloc _
  have BR : Hid (Bk ((w.alloc (.cells #[.int .i64 N, .int .i64 T, .int .i64 E, .slice a0 l0 c0] 34)).alloc (.cells #[.bool false, .slice none 0 0] 31)) (w.heap.size + 1) #[.bool false, .slice none 0 0] 31) := Bk.new' _ _ _ (by simp)
  generalize hwA : ((w.alloc (.cells #[.int .i64 N, .int .i64 T, .int .i64 E, .slice a0 l0 c0] 34)).alloc (.cells #[.bool false, .slice none 0 0] 31)) = wA at HA BP BR
  have p0 := BP.out.c (i := 0) rfl
  have p1 := BP.out.c (i := 1) rfl
  have p2 := BP.out.c (i := 2) rfl
  have p3 := BP.out.c (i := 3) rfl
  go_enter Tryz.func29, Tryz.ntmps29
  go_wp2_with fail
  refine (KB _ HA.out).mono ?_
  rintro e w1 ⟨rfl, g1⟩
  have HO1 : Hid (Old w w1) := Old.trans HA.out g1
  have R1 : Hid (Bk w1 (w.heap.size + 1) #[.bool false, .slice none 0 0] 31) := BR.out.old g1
  clear g1 p0 p1 p2 p3
  have y0 := R1.out.c (i := 0) rfl
  have y1 := R1.out.c (i := 1) rfl
  have f0 := frozen_of_row _ _ 0 _ _ R1.out
  have f1 := frozen_of_row _ _ 1 _ _ R1.out
  go_wp2_with fail
  have HF := bk_putW R1.out (.bool false) (.slice none 0 0)
  have q0 := HF.c (i := 0) rfl
  have q1 := HF.c (i := 1) rfl
  refine bodyPost_ret (v := .tuple #[.agg #[.bool false, .slice none 0 0], .bool false]) (by simp [results, Tryz.results29, go_sem, q0, q1]) rfl ?_
  exact ⟨_, rfl, (HO1.out.own (p := ⟨w.heap.size + 1, 0, none⟩) (by simp; try omega) _).own (p := ⟨w.heap.size + 1, 1, none⟩) (by simp; try omega) _, nil_own _ _⟩
set_option maxRecDepth 100000 in
set_option maxHeartbeats 4000000 in
theorem spec_NoiseLimit_yes (Nn Tn En : Nat) (P : List Nat) (a0 : Option Addr) (l0 c0 : Nat) (w : World) (hv : Row w (.slice a0 l0 c0) (toZ P)) (hb : Bas P) (hN : 2 ≤ Nn ∧ Nn ≤ 16) (hT : 2 ≤ Tn ∧ Tn ≤ 65536) (hE : 1 ≤ En ∧ En ≤ 16) (KB : ∀ W, Old w W → Calls Tryz.prog 77 #[.agg #[.int .i64 (Nn : Int), .int .i64 (Tn : Int), .int .i64 (En : Int), .slice a0 l0 c0]] W fun e w' => e = .returned (.bool true) ∧ Old W w') :
    Calls Tryz.prog 29 #[.agg #[.int .i64 (Nn : Int), .int .i64 (Tn : Int), .int .i64 (En : Int), .slice a0 l0 c0]] w (WhA (dig (limN (prodN P) Tn)) true w) := by
  have HV : Hid (Row w (.slice a0 l0 c0) (toZ P)) := hv
  have hcq := hb.cnt
  clear hv
  have hcl : cnt (limN (prodN P) Tn) ≤ 7 := by
    unfold limN
    split
    · decide
    · exact Nat.le_trans (cnt_mono (Nat.le_trans (Nat.div_le_self _ _) (Nat.sub_le _ _))) hcq
  have CL := fun W (g : Old w W) => l11Limit_n Nn Tn En P a0 l0 c0 W (HV.out.old g) hb hT
  have KO : ∀ W v, RwD (limN (prodN P) Tn) W v → Calls Tryz.prog 61 #[.agg #[.bool false, v]] W fun e w' => ∃ x, e = .returned x ∧ Old W w' ∧ WhT W.heap.size (limN (prodN P) Tn) w' x := fun W v h => (out_any false (dig (limN (prodN P) Tn)) v W h.row (by unfold cnt at hcl; omega)).mono fun e w' h => by
    obtain ⟨v', e1, g, o⟩ := h
    obtain ⟨x, y, e2⟩ := (Own.row o).slice
    rw [toI_len] at e2
    subst e2
    exact ⟨_, e1, g, x, y, rfl, o⟩
  generalize limN (prodN P) Tn = CU at *
  have HA : Hid (Old w ((w.alloc (.cells #[.int .i64 (Nn : Int), .int .i64 (Tn : Int), .int .i64 (En : Int), .slice a0 l0 c0] 34)).alloc (.cells #[.bool false, .slice none 0 0] 31))) := ((Old.refl w).alloc _).alloc _
  have BP : Hid (Bk ((w.alloc (.cells #[.int .i64 (Nn : Int), .int .i64 (Tn : Int), .int .i64 (En : Int), .slice a0 l0 c0] 34)).alloc (.cells #[.bool false, .slice none 0 0] 31)) w.heap.size #[.int .i64 (Nn : Int), .int .i64 (Tn : Int), .int .i64 (En : Int), .slice a0 l0 c0] 34) := (Bk.new' w _ _ rfl).alloc _
  have BR : Hid (Bk ((w.alloc (.cells #[.int .i64 (Nn : Int), .int .i64 (Tn : Int), .int .i64 (En : Int), .slice a0 l0 c0] 34)).alloc (.cells #[.bool false, .slice none 0 0] 31)) (w.heap.size + 1) #[.bool false, .slice none 0 0] 31) := Bk.new' _ _ _ (by simp)
  generalize hwA : ((w.alloc (.cells #[.int .i64 (Nn : Int), .int .i64 (Tn : Int), .int .i64 (En : Int), .slice a0 l0 c0] 34)).alloc (.cells #[.bool false, .slice none 0 0] 31)) = wA at HA BP BR
  have p0 := BP.out.c (i := 0) rfl
  have p1 := BP.out.c (i := 1) rfl
  have p2 := BP.out.c (i := 2) rfl
  have p3 := BP.out.c (i := 3) rfl
  go_enter Tryz.func29, Tryz.ntmps29
  go_wp2_with fail
  refine (KB _ HA.out).mono ?_
  rintro e wB ⟨rfl, g1⟩
  replace HA : Hid (Old w wB) := Old.trans HA.out g1
  replace BP : Hid (Bk wB w.heap.size #[.int .i64 (Nn : Int), .int .i64 (Tn : Int), .int .i64 (En : Int), .slice a0 l0 c0] 34) := BP.out.old g1
  replace BR : Hid (Bk wB (w.heap.size + 1) #[.bool false, .slice none 0 0] 31) := BR.out.old g1
  clear g1 p0 p1 p2 p3 hwA
  have p0 := BP.out.c (i := 0) rfl
  have p1 := BP.out.c (i := 1) rfl
  have p2 := BP.out.c (i := 2) rfl
  have p3 := BP.out.c (i := 3) rfl
  go_wp2_with fail
  refine (CL _ HA.out).mono ?_
  rintro e w3 ⟨v3, rfl, g3, xa, xc, rfl, r3⟩
  have HO3 : Hid (Old w w3) := Old.trans HA.out g3
  have BR3 : Hid (Bk w3 (w.heap.size + 1) #[.bool false, .slice none 0 0] 31) := BR.out.old g3
  have HX3 : Hid (RwD CU w3 (.slice xa (dig CU).length xc)) := ⟨xa, xc, rfl, r3⟩
  clear g3 r3 p0 p1 p2 p3 CL
  go_wp2_with fail
  refine (KO _ _ HX3.out).mono ?_
  rintro e w4 ⟨x4, rfl, g4, oa, oc, rfl, o4⟩
  have R5 : Hid (Bk w4 (w.heap.size + 1) #[.bool false, .slice none 0 0] 31) := BR3.out.old g4
  have HO4 : Hid (Old w w4) := Old.trans HO3.out g4
  have hz4 : w.heap.size + 1 < w3.heap.size := BR3.out.lt
  have y0 := R5.out.c (i := 0) rfl
  have y1 := R5.out.c (i := 1) rfl
  have f0 := frozen_of_row _ _ 0 _ _ R5.out
  have f1 := frozen_of_row _ _ 1 _ _ R5.out
  have O4 : Hid (Own w4 w3.heap.size (.slice oa (dig CU).length oc) (toI (dig CU))) := o4
  clear g4 o4 KO
  go_wp2_with fail
  have HF := bk_putW R5.out (.bool false) (.slice oa (dig CU).length oc)
  have q0 := HF.c (i := 0) rfl
  have q1 := HF.c (i := 1) rfl
  refine bodyPost_ret (v := .tuple #[.agg #[.bool false, .slice oa (dig CU).length oc], .bool true]) (by simp [results, Tryz.results29, go_sem, q0, q1]) rfl ?_
  refine ⟨_, rfl, (HO4.out.own (p := ⟨w.heap.size + 1, 0, none⟩) (by simp) _).own (p := ⟨w.heap.size + 1, 1, none⟩) (by simp) _, ?_⟩
  refine own_farB (Own.low O4.out (by omega)) (fun b hb => ?_)
  have hlt := (O4.out.lt b hb).1
  exact (heap_setCell_other _ ⟨w.heap.size + 1, 1, none⟩ b _ (by show b ≠ w.heap.size + 1; omega)).trans (heap_setCell_other _ ⟨w.heap.size + 1, 0, none⟩ b _ (by show b ≠ w.heap.size + 1; omega))
end Go.Proofs.YtpcpahgflkjnaaaGreatDoor
/- Proved: the program's AddPlainBound, MulPlainBound, SwitchBound, NoiseLimit and FreshBound. -/
namespace Go.Proofs.YtpcpahgflkjnaaaGreatDoor
open Go.ChangeShapes Go.WideShapes Go.ChangeAt Go.RowKit
open M2
set_option linter.unusedVariables false
set_option linter.unusedSimpArgs false
set_option maxRecDepth 100000 in
set_option maxHeartbeats 4000000 in
theorem impl_NoiseLimit (N T E : Int) (ps : List Int) (v : Value) (V : Nat) (w : World) (hP : PrsW w) (hT : TabW w) (hv : Row w v ps) (hf : Fit v) (hlp : ps.length ≤ 9223372036854775807) (hV : prB N T E ps = true → cnt V ≤ 7)
    (KC : prB N T E ps = true → ∀ W g a l c, Old w W → Row W (.slice a l c) (toI (dig (prodN (ps.map Int.toNat)))) → Calls Tryz.prog 80 #[.agg #[.int .i64 N, .int .i64 T, .int .i64 E, v, .slice (some ⟨g, 0, none⟩) ps.length ps.length, .bool false, .slice a l c]] W fun e w' => e = .returned (.agg (szV V)) ∧ Old W w')
    (D : List Nat) (ok : Bool) (hy : prB N T E ps = true → D = dig V ∧ ok = true) (hn : prB N T E ps = false → D = [] ∧ ok = false) :
    Calls Tryz.prog 30 #[.agg #[.int .i64 N, .int .i64 T, .int .i64 E, v]] w (WhA D ok w) := by
  have HY : Hid (prB N T E ps = true → D = dig V ∧ ok = true) := hy
  have HNN : Hid (prB N T E ps = false → D = [] ∧ ok = false) := hn
  clear hy hn
  obtain ⟨Rf, hRf⟩ := Rings_roots N ps
  have K1 := fun W (g : Old w W) => impl_reckonerOf N T E ps Rf v W (hP.old g) (hT.old g) (hv.old g) hf hlp hRf
  obtain ⟨a0, c0, ev⟩ := hv.slice
  subst ev
  have HA : Hid (Old w ((w.alloc (.cells #[.int .i64 N, .int .i64 T, .int .i64 E, .slice a0 ps.length c0] 34)).alloc (.cells #[.bool false, .slice none 0 0] 31))) := ((Old.refl w).alloc _).alloc _
  have BR : Hid (Bk ((w.alloc (.cells #[.int .i64 N, .int .i64 T, .int .i64 E, .slice a0 ps.length c0] 34)).alloc (.cells #[.bool false, .slice none 0 0] 31)) (w.heap.size + 1) #[.bool false, .slice none 0 0] 31) := Bk.new' _ _ _ (by simp)
  have HKC : Hid (prB N T E ps = true → ∀ W g a l c, Old w W → Row W (.slice a l c) (toI (dig (prodN (ps.map Int.toNat)))) → Calls Tryz.prog 80 #[.agg #[.int .i64 N, .int .i64 T, .int .i64 E, .slice a0 ps.length c0, .slice (some ⟨g, 0, none⟩) ps.length ps.length, .bool false, .slice a l c]] W fun e w' => e = .returned (.agg (szV V)) ∧ Old W w') := KC
  have HV : Hid (prB N T E ps = true → cnt V ≤ 7) := hV
  clear hv hf hP hT hRf KC hV
  go_enter Tryz.func30, Tryz.ntmps30
  go_wp2_with fail
  refine (K1 _ HA.out).mono ?_
  rintro e w1 ⟨g1, h⟩
  have HG1 : Hid (Old w w1) := Old.trans HA.out g1
  have R1 : Hid (Bk w1 (w.heap.size + 1) #[.bool false, .slice none 0 0] 31) := BR.out.old g1
  clear g1 K1 BR HA
  rcases h with ⟨hB, rfl⟩ | ⟨hB, g, a, l, c, hg, rfl, hrg, P, hPz, hbas, hl, ho⟩
  · have HB : Hid (D = [] ∧ ok = false) := HNN.out hB
    have R2 : Hid (Bk (w1.alloc (.cells rk0 87)) (w.heap.size + 1) #[.bool false, .slice none 0 0] 31) := R1.out.alloc _
    have HG2 : Hid (Old w (w1.alloc (.cells rk0 87))) := HG1.out.alloc _
    have y0 := R2.out.c (i := 0) rfl
    have y1 := R2.out.c (i := 1) rfl
    have f0 := frozen_of_row _ _ 0 _ _ R2.out
    have f1 := frozen_of_row _ _ 1 _ _ R2.out
    clear hB HKC
    go_wp2_with fail
    have HF := bk_putW R2.out (.bool false) (.slice none 0 0)
    have q0 := HF.c (i := 0) rfl
    have q1 := HF.c (i := 1) rfl
    refine bodyPost_ret (v := .tuple #[.agg #[.bool false, .slice none 0 0], .bool false]) (by simp [results, Tryz.results30, go_sem, q0, q1]) rfl ?_
    rw [HB.out.1, HB.out.2]
    exact ⟨_, rfl, (HG2.out.own (p := ⟨w.heap.size + 1, 0, none⟩) (by simp) _).own (p := ⟨w.heap.size + 1, 1, none⟩) (by simp) _, nil_own _ _⟩
  · have hPn : ps.map Int.toNat = P := by rw [hPz]; exact toZ_bk11 P
    have HQR : Hid (Row w1 (.slice a l c) (toI (dig (prodN (ps.map Int.toNat))))) := by rw [hPn]; exact Own.row ho
    have HB : Hid (D = dig V ∧ ok = true) := HY.out hB
    have CW := fun W => wholeF_any2 V W (Nat.le_trans (HV.out hB) (by omega))
    have CH : ∀ W, Old w1 W → Calls Tryz.prog 80 #[.agg #[.int .i64 N, .int .i64 T, .int .i64 E, .slice a0 ps.length c0, .slice (some ⟨g, 0, none⟩) ps.length ps.length, .bool false, .slice a l c]] W fun e w' => e = .returned (.agg (szV V)) ∧ Old W w' := fun W q => HKC.out hB W g a l c (Old.trans HG1.out q) (HQR.out.old q)
    have R2 : Hid (Bk (w1.alloc (.cells #[.int .i64 N, .int .i64 T, .int .i64 E, .slice a0 ps.length c0, .slice (some ⟨g, 0, none⟩) ps.length ps.length, .bool false, .slice a l c] 87)) (w.heap.size + 1) #[.bool false, .slice none 0 0] 31) := R1.out.alloc _
    have HG2 : Hid (Old w (w1.alloc (.cells #[.int .i64 N, .int .i64 T, .int .i64 E, .slice a0 ps.length c0, .slice (some ⟨g, 0, none⟩) ps.length ps.length, .bool false, .slice a l c] 87))) := HG1.out.alloc _
    have HO1 : Hid (Old w1 (w1.alloc (.cells #[.int .i64 N, .int .i64 T, .int .i64 E, .slice a0 ps.length c0, .slice (some ⟨g, 0, none⟩) ps.length ps.length, .bool false, .slice a l c] 87))) := (Old.refl w1).alloc _
    have BX : Hid (Bk (w1.alloc (.cells #[.int .i64 N, .int .i64 T, .int .i64 E, .slice a0 ps.length c0, .slice (some ⟨g, 0, none⟩) ps.length ps.length, .bool false, .slice a l c] 87)) w1.heap.size #[.int .i64 N, .int .i64 T, .int .i64 E, .slice a0 ps.length c0, .slice (some ⟨g, 0, none⟩) ps.length ps.length, .bool false, .slice a l c] 87) := Bk.new' w1 _ _ rfl
    have z0 := BX.out.c (i := 0) rfl
    have z1 := BX.out.c (i := 1) rfl
    have z2 := BX.out.c (i := 2) rfl
    have z3 := BX.out.c (i := 3) rfl
    have z4 := BX.out.c (i := 4) rfl
    have z5 := BX.out.c (i := 5) rfl
    have z6 := BX.out.c (i := 6) rfl
    clear hB HKC hPn hPz hbas ho hrg hg hl HQR
    generalize szV V = SV at *
    generalize dig V = DV at *
    go_wp2_with fail
    refine (CH _ HO1.out).mono ?_
    rintro e w3 ⟨rfl, g3⟩
    have R4 : Hid (Bk w3 (w.heap.size + 1) #[.bool false, .slice none 0 0] 31) := R2.out.old g3
    have HO3 : Hid (Old w w3) := Old.trans HG2.out g3
    clear g3 z0 z1 z2 z3 z4 z5 z6
    go_wp2_with fail
    refine (CW _).mono ?_
    rintro e w4 ⟨v4, rfl, g4, o4⟩
    have R5 : Hid (Bk w4 (w.heap.size + 1) #[.bool false, .slice none 0 0] 31) := R4.out.old g4
    have HO4 : Hid (Old w w4) := Old.trans HO3.out g4
    have hz4 : w.heap.size + 1 < w3.heap.size := R4.out.lt
    have y0 := R5.out.c (i := 0) rfl
    have y1 := R5.out.c (i := 1) rfl
    have f0 := frozen_of_row _ _ 0 _ _ R5.out
    have f1 := frozen_of_row _ _ 1 _ _ R5.out
    have O4 : Hid (Own w4 w3.heap.size v4 (toI DV)) := o4
    obtain ⟨x4, m4, rfl⟩ := (Own.row o4).slice
    clear g4 o4
    go_wp2_with fail
    have HF := bk_putW R5.out (.bool false) (.slice x4 (toI DV).length m4)
    have q0 := HF.c (i := 0) rfl
    have q1 := HF.c (i := 1) rfl
    refine bodyPost_ret (v := .tuple #[.agg #[.bool false, .slice x4 (toI DV).length m4], .bool true]) (by simp [results, Tryz.results30, go_sem, q0, q1]) rfl ?_
    rw [HB.out.1, HB.out.2]
    refine ⟨_, rfl, (HO4.out.own (p := ⟨w.heap.size + 1, 0, none⟩) (by simp) _).own (p := ⟨w.heap.size + 1, 1, none⟩) (by simp) _, ?_⟩
    refine own_farB (Own.low O4.out (by omega)) (fun b hb => ?_)
    have hlt := (O4.out.lt b hb).1
    exact (heap_setCell_other _ ⟨w.heap.size + 1, 1, none⟩ b _ (by show b ≠ w.heap.size + 1; omega)).trans (heap_setCell_other _ ⟨w.heap.size + 1, 0, none⟩ b _ (by show b ≠ w.heap.size + 1; omega))
end Go.Proofs.YtpcpahgflkjnaaaGreatDoor
/- Proved: the statement on NoiseLimit at every argument, in a world in which the two tables are laid. -/
namespace Go.Proofs.YtpcpahgflkjnaaaGreatDoor
open Go.ChangeShapes Go.WideShapes Go.ChangeAt Go.RowKit
open M2
set_option linter.unusedVariables false
set_option linter.unusedSimpArgs false
theorem NoiseLimit_any (N T E : Int) (xs : List Int) (v : Value) (w : World) (hv : Row w v xs) (hl : xs.length ≤ 9223372036854775807) (hx : ∀ x ∈ xs, -9223372036854775808 ≤ x ∧ x ≤ 9223372036854775807) (hP : PrsW w) (hT : TabW w) :
    Calls Tryz.prog 4 #[.agg #[.int .i64 N, .int .i64 T, .int .i64 E, v]] w fun e w' => e = .returned (.bool true) ∧ Old w w' := by
  obtain ⟨a0, c0, rfl⟩ := hv.slice
  have bnd : ∀ {A : Prop}, ¬ leftN 1048576 xs.length < 0 → (xs.length ≤ 1048576 → A) → A := fun h1 k => by
    obtain ⟨q1, q2, q3⟩ := leftN_ok h1 (by omega)
    exact k (by omega)
  obtain ⟨V, hV⟩ : ∃ V : Nat, V = limN (prodN (xs.map Int.toNat)) T.toNat := ⟨_, rfl⟩
  have hVb : prB N T E xs = true → cnt V ≤ 7 := fun hB => by
    obtain ⟨Nn, Tn, En, P, _, _, _, _, hb, _, _, _, hPn, _⟩ := prB_nat hB
    rw [hV, hPn]
    unfold limN
    split
    · decide
    · exact Nat.le_trans (cnt_mono (Nat.le_trans (Nat.div_le_self _ _) (Nat.sub_le _ _))) hb.cnt
  obtain ⟨D, ok, hy, hn, hD⟩ : ∃ (D : List Nat) (ok : Bool), (prB N T E xs = true → D = dig V ∧ ok = true) ∧ (prB N T E xs = false → D = [] ∧ ok = false) ∧ D.length ≤ 40 := by
    cases h : prB N T E xs
    · exact ⟨[], false, (fun h => by cases h), (fun _ => ⟨rfl, rfl⟩), by simp⟩
    · refine ⟨dig V, true, (fun _ => ⟨rfl, rfl⟩), (fun h => by cases h), ?_⟩
      have h1 := hVb h
      unfold cnt at h1
      omega
  have eD : (toI D).length = D.length := toI_len D
  refine law9_NoiseLimit w N T E xs.length a0 c0 false (toI D).length ok (leftN 1048576 xs.length)
    (fun W g => kp_sz N T E a0 xs.length c0 1048576 W hl (by omega) (by omega))
    (XP N T E xs) (far_XP N T E xs) shape_XP (fun h0 W g => bnd h0 fun h3 => kp_to N T E xs _ W (hv.old g) h3) (fun h0 W lo hi g lo' hi' g' k k' => bnd h0 fun h3 => kp_eq N T E xs W lo hi g lo' hi' g' k k' (by omega))
    (1 + xs.length) (by omega) (fun h0 W lo hi g k => bnd h0 fun h3 => kp_mark N T E xs 1 W lo hi g k h3 (by omega) (by omega))
    (XW false (toI D)) (far_XW _ _) shape_XW (XW false (toI D)) (far_XW _ _) shape_XW (XWm false (toI D).length) (far_XWm _ _) shape_XWm
    (fun h0 W lo hi g k q => ?_) (fun h0 W lo hi g k q => ?_)
    (fun h0 W lo hi p lo' hi' p' k k' => kw_eq false (toI D) W lo hi p lo' hi' p' k k' (by omega))
    (1 + (toI D).length) (by omega) (fun h0 W lo hi p k => kw_mark2 false (toI D) W lo hi p k (by omega))
    (fun h0 W lo hi p k => kw_held false (toI D).length W lo hi p k (by omega))
  · obtain ⟨a, c, rfl, o, f⟩ := k
    refine Calls.mono ?_ (fun e w' h => WhA.res h)
    have KB := fun W' (q' : Old W W') => spec_goodParams N T E xs _ W' (o.row.old q') f hl hx
    cases hB : prB N T E xs
    · obtain ⟨rfl, rfl⟩ := hn hB
      rw [hB] at KB
      exact spec_NoiseLimit_no N T E a xs.length c W KB
    · obtain ⟨rfl, rfl⟩ := hy hB
      rw [hB] at KB
      obtain ⟨Nn, Tn, En, P, rfl, rfl, rfl, hz, hb, hN, hTn, hE, hPn, h0', hlx, hpx⟩ := prB_nat hB
      rw [hV, hPn]
      rw [show ((Tn : Int).toNat) = Tn by omega]
      exact spec_NoiseLimit_yes Nn Tn En P a xs.length c W (by rw [← hz]; exact o.row) hb hN hTn hE KB
  · obtain ⟨a, c, rfl, o, f⟩ := k
    refine Calls.mono ?_ (fun e w' h => WhA.res h)
    refine impl_NoiseLimit N T E xs _ V W (hP.old q) (hT.old q) o.row f hl hVb (fun hB W2 g al l cc q2 hr => ?_) D ok hy hn
    obtain ⟨Nn, Tn, En, P, rfl, rfl, rfl, hz, hb, hN, hTn, hE, hPn, h0', hlx, hpx⟩ := prB_nat hB
    rw [hPn] at hr
    rw [hV, hPn]
    rw [show ((Tn : Int).toNat) = Tn by omega]
    exact limit_n Nn Tn En a xs.length c _ _ _ al l cc (prodN P) W2 hb.cnt hr hTn
end Go.Proofs.YtpcpahgflkjnaaaGreatDoor
