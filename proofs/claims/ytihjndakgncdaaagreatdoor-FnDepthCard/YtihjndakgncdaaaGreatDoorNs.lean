/- Proved: the program's MulBound. -/
import Derived.Test.YtihjndakgncdaaaGreatDoorFd22
namespace Go.Proofs.YtihjndakgncdaaaGreatDoor
open Go.ChangeShapes Go.WideShapes Go.ChangeAt Go.RowKit
open M2
set_option linter.unusedVariables false
set_option linter.unusedSimpArgs false
set_option maxRecDepth 100000 in
set_option maxHeartbeats 4000000 in
theorem impl_MulBound (N T E : Int) (ps : List Int) (v : Value) (na : Bool) (xs : List Int) (u : Value) (nb : Bool) (ys : List Int) (x : Value) (V : Nat → Nat → Nat) (w : World) (hP : PrsW w) (hT : TabW w) (hv : Row w v ps) (hf : Fit v) (hlp : ps.length ≤ 9223372036854775807) (hu : Row w u xs) (hlx : xs.length ≤ 1048576) (hx : Row w x ys) (hly : ys.length ≤ 1048576) (hV : prB N T E ps = true → ∀ n m, cnt (V n m) ≤ 7)
    (KC : prB N T E ps = true → ∀ W g a l c n m, Old w W → Row W (.slice a l c) (toI (dig (prodN (ps.map Int.toNat)))) → cnt n ≤ 14 → cnt m ≤ 14 → Calls Tryz.prog 31 #[.agg #[.int .i64 N, .int .i64 T, .int .i64 E, v, .slice (some ⟨g, 0, none⟩) ps.length ps.length, .bool false, .slice a l c], .agg (szV n), .agg (szV m)] W fun e w' => e = .returned (.agg (szV (V n m))) ∧ Old W w')
    (D : List Nat) (ok : Bool) (hy : ((prB N T E ps && bdB (prodN (ps.map Int.toNat)) na xs) && bdB (prodN (ps.map Int.toNat)) nb ys) = true → D = dig (V (val (nat xs)) (val (nat ys))) ∧ ok = true) (hn : ((prB N T E ps && bdB (prodN (ps.map Int.toNat)) na xs) && bdB (prodN (ps.map Int.toNat)) nb ys) = false → D = [] ∧ ok = false) :
    Calls Tryz.prog 10 #[.agg #[.int .i64 N, .int .i64 T, .int .i64 E, v], .agg #[.bool na, u], .agg #[.bool nb, x]] w (WhA D ok w) := by
  have HY : Hid (((prB N T E ps && bdB (prodN (ps.map Int.toNat)) na xs) && bdB (prodN (ps.map Int.toNat)) nb ys) = true → D = dig (V (val (nat xs)) (val (nat ys))) ∧ ok = true) := hy
  have HNN : Hid (((prB N T E ps && bdB (prodN (ps.map Int.toNat)) na xs) && bdB (prodN (ps.map Int.toNat)) nb ys) = false → D = [] ∧ ok = false) := hn
  clear hy hn
  obtain ⟨Rf, hRf⟩ := Rings_roots N ps
  have K1 := fun W (g : Old w W) => impl_reckonerOf N T E ps Rf v W (hP.old g) (hT.old g) (hv.old g) hf hlp hRf
  obtain ⟨a0, c0, ev⟩ := hv.slice
  obtain ⟨a1, c1, eu⟩ := hu.slice
  obtain ⟨a2, c2, ex⟩ := hx.slice
  subst ev eu ex
  have HA : Hid (Old w ((((w.alloc (.cells #[.int .i64 N, .int .i64 T, .int .i64 E, .slice a0 ps.length c0] 25)).alloc (.cells #[.bool na, .slice a1 xs.length c1] 30)).alloc (.cells #[.bool nb, .slice a2 ys.length c2] 30)).alloc (.cells #[.bool false, .slice none 0 0] 30))) := ((((Old.refl w).alloc _).alloc _).alloc _).alloc _
  have BA : Hid (Bk ((((w.alloc (.cells #[.int .i64 N, .int .i64 T, .int .i64 E, .slice a0 ps.length c0] 25)).alloc (.cells #[.bool na, .slice a1 xs.length c1] 30)).alloc (.cells #[.bool nb, .slice a2 ys.length c2] 30)).alloc (.cells #[.bool false, .slice none 0 0] 30)) (w.heap.size + 1) #[.bool na, .slice a1 xs.length c1] 30) := ((Bk.new' _ _ _ (by simp)).alloc _).alloc _
  have BB : Hid (Bk ((((w.alloc (.cells #[.int .i64 N, .int .i64 T, .int .i64 E, .slice a0 ps.length c0] 25)).alloc (.cells #[.bool na, .slice a1 xs.length c1] 30)).alloc (.cells #[.bool nb, .slice a2 ys.length c2] 30)).alloc (.cells #[.bool false, .slice none 0 0] 30)) (w.heap.size + 1 + 1) #[.bool nb, .slice a2 ys.length c2] 30) := (Bk.new' _ _ _ (by simp)).alloc _
  have BR : Hid (Bk ((((w.alloc (.cells #[.int .i64 N, .int .i64 T, .int .i64 E, .slice a0 ps.length c0] 25)).alloc (.cells #[.bool na, .slice a1 xs.length c1] 30)).alloc (.cells #[.bool nb, .slice a2 ys.length c2] 30)).alloc (.cells #[.bool false, .slice none 0 0] 30)) (w.heap.size + 1 + 1 + 1) #[.bool false, .slice none 0 0] 30) := Bk.new' _ _ _ (by simp)
  have HU : Hid (Row w (.slice a1 xs.length c1) xs) := hu
  have HX : Hid (Row w (.slice a2 ys.length c2) ys) := hx
  have HKC : Hid (prB N T E ps = true → ∀ W g a l c n m, Old w W → Row W (.slice a l c) (toI (dig (prodN (ps.map Int.toNat)))) → cnt n ≤ 14 → cnt m ≤ 14 → Calls Tryz.prog 31 #[.agg #[.int .i64 N, .int .i64 T, .int .i64 E, .slice a0 ps.length c0, .slice (some ⟨g, 0, none⟩) ps.length ps.length, .bool false, .slice a l c], .agg (szV n), .agg (szV m)] W fun e w' => e = .returned (.agg (szV (V n m))) ∧ Old W w') := KC
  have HV : Hid (prB N T E ps = true → ∀ n m, cnt (V n m) ≤ 7) := hV
  clear hv hf hu hx hP hT hRf KC hV
  go_enter Tryz.func10, Tryz.ntmps10
  go_wp2_with fail
  refine (K1 _ HA.out).mono ?_
  rintro e w1 ⟨g1, h⟩
  have HG1 : Hid (Old w w1) := Old.trans HA.out g1
  have A1 : Hid (Bk w1 (w.heap.size + 1) #[.bool na, .slice a1 xs.length c1] 30) := BA.out.old g1
  have B1 : Hid (Bk w1 (w.heap.size + 1 + 1) #[.bool nb, .slice a2 ys.length c2] 30) := BB.out.old g1
  have R1 : Hid (Bk w1 (w.heap.size + 1 + 1 + 1) #[.bool false, .slice none 0 0] 30) := BR.out.old g1
  clear g1 K1 BA BB BR HA
  rcases h with ⟨hB, rfl⟩ | ⟨hB, g, a, l, c, hg, rfl, hrg, P, hPz, hbas, hl, ho⟩
  · have HB : Hid (D = [] ∧ ok = false) := HNN.out (by rw [hB]; rfl)
    obtain ⟨SA, hSA', _, RA'⟩ := readB_n 0 0 0 none 0 0 none 0 0 none 0 0 0 na xs a1 c1 (by decide) hlx
    obtain ⟨SB, hSB', _, RB'⟩ := readB_n 0 0 0 none 0 0 none 0 0 none 0 0 0 nb ys a2 c2 (by decide) hly
    have hSA : Hid (Sq SA) := hSA'
    have hSB : Hid (Sq SB) := hSB'
    have HO : Hid (Old w (w1.alloc (.cells rk0 48))) := HG1.out.alloc _
    have RA := fun W (q : Old (w1.alloc (.cells rk0 48)) W) => RA' W (by rw [dig_zero]; exact .inl ⟨_, _, rfl, rfl⟩) (HU.out.old (Old.trans HO.out q))
    have RB := fun W (q : Old (w1.alloc (.cells rk0 48)) W) => RB' W (by rw [dig_zero]; exact .inl ⟨_, _, rfl, rfl⟩) (HX.out.old (Old.trans HO.out q))
    generalize bdB 0 na xs = bA at *
    generalize bdB 0 nb ys = bB at *
    clear hB hSA' RA' hSB' RB' HKC HV HY HNN
    have HG2 : Hid (Old w (w1.alloc (.cells rk0 48))) := HG1.out.alloc _
    have R2 : Hid (Bk (w1.alloc (.cells rk0 48)) (w.heap.size + 1 + 1 + 1) #[.bool false, .slice none 0 0] 30) := R1.out.alloc _
    have BX : Hid (Bk (w1.alloc (.cells rk0 48)) w1.heap.size rk0 48) := Bk.new' w1 _ _ rfl
    have BA2 : Hid (Bk (w1.alloc (.cells rk0 48)) (w.heap.size + 1) #[.bool na, .slice a1 xs.length c1] 30) := A1.out.alloc _
    have BB2 : Hid (Bk (w1.alloc (.cells rk0 48)) (w.heap.size + 1 + 1) #[.bool nb, .slice a2 ys.length c2] 30) := B1.out.alloc _
    have HGR : Hid (Old (w1.alloc (.cells rk0 48)) (w1.alloc (.cells rk0 48))) := Old.refl _
    have z0 := BX.out.c (i := 0) rfl
    have z1 := BX.out.c (i := 1) rfl
    have z2 := BX.out.c (i := 2) rfl
    have z3 := BX.out.c (i := 3) rfl
    have z4 := BX.out.c (i := 4) rfl
    have z5 := BX.out.c (i := 5) rfl
    have z6 := BX.out.c (i := 6) rfl
    have u0 := BA2.out.c (i := 0) rfl
    have u1 := BA2.out.c (i := 1) rfl
    go_wp2_with fail
    refine (RA _ HGR.out).mono ?_
    rintro e w2 ⟨rfl, g2⟩
    have hz2 : w.heap.size + 1 + 1 + 1 < w2.heap.size := Nat.lt_of_lt_of_le R2.out.lt g2.size
    have hy2 : w1.heap.size < w2.heap.size := Nat.lt_of_lt_of_le BX.out.lt g2.size
    have HN : Hid (Sg (w2.alloc (.cells Tryz.zeroCells53 53)) w2.heap.size Tryz.zeroCells53) := Sg.zero _ _ rfl
    have HN2 : Hid (Sg ((w2.alloc (.cells Tryz.zeroCells53 53)).setRow w2.heap.size SA) w2.heap.size SA) := HN.out.row SA hSA.out
    have R3 : Hid (Bk ((w2.alloc (.cells Tryz.zeroCells53 53)).setRow w2.heap.size SA) (w.heap.size + 1 + 1 + 1) #[.bool false, .slice none 0 0] 30) := ((R2.out.old g2).alloc _).otherRow (by omega) _
    have X3 : Hid (Bk ((w2.alloc (.cells Tryz.zeroCells53 53)).setRow w2.heap.size SA) w1.heap.size rk0 48) := ((BX.out.old g2).alloc _).otherRow (by omega) _
    have BB3 : Hid (Bk ((w2.alloc (.cells Tryz.zeroCells53 53)).setRow w2.heap.size SA) (w.heap.size + 1 + 1) #[.bool nb, .slice a2 ys.length c2] 30) := ((BB2.out.old g2).alloc _).otherRow (by omega) _
    have HO2 : Hid (Old w ((w2.alloc (.cells Tryz.zeroCells53 53)).setRow w2.heap.size SA)) := Old.row ((Old.trans HG2.out g2).alloc _) (by omega) _
    have HP2 : Hid (Old (w1.alloc (.cells rk0 48)) ((w2.alloc (.cells Tryz.zeroCells53 53)).setRow w2.heap.size SA)) := Old.row (g2.alloc _) (by simp; omega) _
    clear g2 z0 z1 z2 z3 z4 z5 z6 u0 u1
    have z0 := X3.out.c (i := 0) rfl
    have z1 := X3.out.c (i := 1) rfl
    have z2 := X3.out.c (i := 2) rfl
    have z3 := X3.out.c (i := 3) rfl
    have z4 := X3.out.c (i := 4) rfl
    have z5 := X3.out.c (i := 5) rfl
    have z6 := X3.out.c (i := 6) rfl
    have u0 := BB3.out.c (i := 0) rfl
    have u1 := BB3.out.c (i := 1) rfl
    go_wp2_with (first | ((with_reducible refine store_sg HN.out (SA) hSA.out ?_ ?_ ?_); exact rfl; exact rfl; simp only [Act.put]))
    refine (RB _ HP2.out).mono ?_
    rintro e w3 ⟨rfl, g3⟩
    have hz3 : w.heap.size + 1 + 1 + 1 < w3.heap.size := Nat.lt_of_lt_of_le R3.out.lt g3.size
    have hy3 : w1.heap.size < w3.heap.size := Nat.lt_of_lt_of_le X3.out.lt g3.size
    have hx3 : w2.heap.size < w3.heap.size := Nat.lt_of_lt_of_le HN2.out.lt g3.size
    have HM : Hid (Sg (w3.alloc (.cells Tryz.zeroCells53 53)) w3.heap.size Tryz.zeroCells53) := Sg.zero _ _ rfl
    have HM2 : Hid (Sg ((w3.alloc (.cells Tryz.zeroCells53 53)).setRow w3.heap.size SB) w3.heap.size SB) := HM.out.row SB hSB.out
    have HN3 : Hid (Sg ((w3.alloc (.cells Tryz.zeroCells53 53)).setRow w3.heap.size SB) w2.heap.size SA) := ((HN2.out.old g3).alloc _).otherRow (by omega) _
    have R4 : Hid (Bk ((w3.alloc (.cells Tryz.zeroCells53 53)).setRow w3.heap.size SB) (w.heap.size + 1 + 1 + 1) #[.bool false, .slice none 0 0] 30) := ((R3.out.old g3).alloc _).otherRow (by omega) _
    have X4 : Hid (Bk ((w3.alloc (.cells Tryz.zeroCells53 53)).setRow w3.heap.size SB) w1.heap.size rk0 48) := ((X3.out.old g3).alloc _).otherRow (by omega) _
    have HO3 : Hid (Old w ((w3.alloc (.cells Tryz.zeroCells53 53)).setRow w3.heap.size SB)) := Old.row ((Old.trans HO2.out g3).alloc _) (by omega) _
    have HP3 : Hid (Old (w1.alloc (.cells rk0 48)) ((w3.alloc (.cells Tryz.zeroCells53 53)).setRow w3.heap.size SB)) := Old.row ((Old.trans HP2.out g3).alloc _) (by simp; omega) _
    clear g3 z0 z1 z2 z3 z4 z5 z6 u0 u1
    have y0 := R4.out.c (i := 0) rfl
    have y1 := R4.out.c (i := 1) rfl
    have f0 := frozen_of_row _ _ 0 _ _ R4.out
    have f1 := frozen_of_row _ _ 1 _ _ R4.out
    go_wp2_with (first | ((with_reducible refine store_sg HM.out (SB) hSB.out ?_ ?_ ?_); exact rfl; exact rfl; simp only [Act.put]))
    have HF := bk_putW R4.out (.bool false) (.slice none 0 0)
    have q0 := HF.c (i := 0) rfl
    have q1 := HF.c (i := 1) rfl
    refine bodyPost_ret (v := .tuple #[.agg #[.bool false, .slice none 0 0], .bool false]) (by simp [results, Tryz.results10, go_sem, q0, q1]) rfl ?_
    rw [HB.out.1, HB.out.2]
    exact ⟨_, rfl, (HO3.out.own (p := ⟨w.heap.size + 1 + 1 + 1, 0, none⟩) (by simp; omega) _).own (p := ⟨w.heap.size + 1 + 1 + 1, 1, none⟩) (by simp; omega) _, nil_own _ _⟩
  · have hPn : ps.map Int.toNat = P := by rw [hPz]; exact toZ_bk11 P
    have hcq : cnt (prodN (ps.map Int.toNat)) ≤ 7 := by rw [hPn]; exact hbas.cnt
    have HQR : Hid (Row w1 (.slice a l c) (toI (dig (prodN (ps.map Int.toNat))))) := by rw [hPn]; exact Own.row ho
    obtain ⟨SA, hSA', hVA, RA'⟩ := readB_n N T E a0 ps.length c0 (some ⟨g, 0, none⟩) ps.length ps.length a l c (prodN (ps.map Int.toNat)) na xs a1 c1 hcq hlx
    obtain ⟨SB, hSB', hVB, RB'⟩ := readB_n N T E a0 ps.length c0 (some ⟨g, 0, none⟩) ps.length ps.length a l c (prodN (ps.map Int.toNat)) nb ys a2 c2 hcq hly
    have hSA : Hid (Sq SA) := hSA'
    have hSB : Hid (Sq SB) := hSB'
    have RA : ∀ W, Old (w1.alloc (.cells #[.int .i64 N, .int .i64 T, .int .i64 E, .slice a0 ps.length c0, .slice (some ⟨g, 0, none⟩) ps.length ps.length, .bool false, .slice a l c] 48)) W → Calls Tryz.prog 29 #[.agg #[.int .i64 N, .int .i64 T, .int .i64 E, .slice a0 ps.length c0, .slice (some ⟨g, 0, none⟩) ps.length ps.length, .bool false, .slice a l c], .agg #[.bool na, .slice a1 xs.length c1]] W fun e w' => e = .returned (.tuple #[.agg SA, .bool (bdB (prodN (ps.map Int.toNat)) na xs)]) ∧ Old W w' := fun W q => RA' W (HQR.out.old (Old.trans ((Old.refl w1).alloc _) q)) (HU.out.old (Old.trans (HG1.out.alloc _) q))
    have RB : ∀ W, Old (w1.alloc (.cells #[.int .i64 N, .int .i64 T, .int .i64 E, .slice a0 ps.length c0, .slice (some ⟨g, 0, none⟩) ps.length ps.length, .bool false, .slice a l c] 48)) W → Calls Tryz.prog 29 #[.agg #[.int .i64 N, .int .i64 T, .int .i64 E, .slice a0 ps.length c0, .slice (some ⟨g, 0, none⟩) ps.length ps.length, .bool false, .slice a l c], .agg #[.bool nb, .slice a2 ys.length c2]] W fun e w' => e = .returned (.tuple #[.agg SB, .bool (bdB (prodN (ps.map Int.toNat)) nb ys)]) ∧ Old W w' := fun W q => RB' W (HQR.out.old (Old.trans ((Old.refl w1).alloc _) q)) (HX.out.old (Old.trans (HG1.out.alloc _) q))
    clear hSA' hSB' RA' RB'
    cases hbA : bdB (prodN (ps.map Int.toNat)) na xs
    · have HB : Hid (D = [] ∧ ok = false) := HNN.out (by rw [hB, hbA]; rfl)
      rw [hbA] at RA
      generalize bdB (prodN (ps.map Int.toNat)) nb ys = bB at *
      clear hB hPn hcq hPz hbas ho hrg hg hl HKC HV hVA hVB hbA HY HNN HQR
      have HG2 : Hid (Old w (w1.alloc (.cells #[.int .i64 N, .int .i64 T, .int .i64 E, .slice a0 ps.length c0, .slice (some ⟨g, 0, none⟩) ps.length ps.length, .bool false, .slice a l c] 48))) := HG1.out.alloc _
      have R2 : Hid (Bk (w1.alloc (.cells #[.int .i64 N, .int .i64 T, .int .i64 E, .slice a0 ps.length c0, .slice (some ⟨g, 0, none⟩) ps.length ps.length, .bool false, .slice a l c] 48)) (w.heap.size + 1 + 1 + 1) #[.bool false, .slice none 0 0] 30) := R1.out.alloc _
      have BX : Hid (Bk (w1.alloc (.cells #[.int .i64 N, .int .i64 T, .int .i64 E, .slice a0 ps.length c0, .slice (some ⟨g, 0, none⟩) ps.length ps.length, .bool false, .slice a l c] 48)) w1.heap.size #[.int .i64 N, .int .i64 T, .int .i64 E, .slice a0 ps.length c0, .slice (some ⟨g, 0, none⟩) ps.length ps.length, .bool false, .slice a l c] 48) := Bk.new' w1 _ _ rfl
      have BA2 : Hid (Bk (w1.alloc (.cells #[.int .i64 N, .int .i64 T, .int .i64 E, .slice a0 ps.length c0, .slice (some ⟨g, 0, none⟩) ps.length ps.length, .bool false, .slice a l c] 48)) (w.heap.size + 1) #[.bool na, .slice a1 xs.length c1] 30) := A1.out.alloc _
      have BB2 : Hid (Bk (w1.alloc (.cells #[.int .i64 N, .int .i64 T, .int .i64 E, .slice a0 ps.length c0, .slice (some ⟨g, 0, none⟩) ps.length ps.length, .bool false, .slice a l c] 48)) (w.heap.size + 1 + 1) #[.bool nb, .slice a2 ys.length c2] 30) := B1.out.alloc _
      have HGR : Hid (Old (w1.alloc (.cells #[.int .i64 N, .int .i64 T, .int .i64 E, .slice a0 ps.length c0, .slice (some ⟨g, 0, none⟩) ps.length ps.length, .bool false, .slice a l c] 48)) (w1.alloc (.cells #[.int .i64 N, .int .i64 T, .int .i64 E, .slice a0 ps.length c0, .slice (some ⟨g, 0, none⟩) ps.length ps.length, .bool false, .slice a l c] 48))) := Old.refl _
      have z0 := BX.out.c (i := 0) rfl
      have z1 := BX.out.c (i := 1) rfl
      have z2 := BX.out.c (i := 2) rfl
      have z3 := BX.out.c (i := 3) rfl
      have z4 := BX.out.c (i := 4) rfl
      have z5 := BX.out.c (i := 5) rfl
      have z6 := BX.out.c (i := 6) rfl
      have u0 := BA2.out.c (i := 0) rfl
      have u1 := BA2.out.c (i := 1) rfl
      go_wp2_with fail
      refine (RA _ HGR.out).mono ?_
      rintro e w2 ⟨rfl, g2⟩
      have hz2 : w.heap.size + 1 + 1 + 1 < w2.heap.size := Nat.lt_of_lt_of_le R2.out.lt g2.size
      have hy2 : w1.heap.size < w2.heap.size := Nat.lt_of_lt_of_le BX.out.lt g2.size
      have HN : Hid (Sg (w2.alloc (.cells Tryz.zeroCells53 53)) w2.heap.size Tryz.zeroCells53) := Sg.zero _ _ rfl
      have HN2 : Hid (Sg ((w2.alloc (.cells Tryz.zeroCells53 53)).setRow w2.heap.size SA) w2.heap.size SA) := HN.out.row SA hSA.out
      have R3 : Hid (Bk ((w2.alloc (.cells Tryz.zeroCells53 53)).setRow w2.heap.size SA) (w.heap.size + 1 + 1 + 1) #[.bool false, .slice none 0 0] 30) := ((R2.out.old g2).alloc _).otherRow (by omega) _
      have X3 : Hid (Bk ((w2.alloc (.cells Tryz.zeroCells53 53)).setRow w2.heap.size SA) w1.heap.size #[.int .i64 N, .int .i64 T, .int .i64 E, .slice a0 ps.length c0, .slice (some ⟨g, 0, none⟩) ps.length ps.length, .bool false, .slice a l c] 48) := ((BX.out.old g2).alloc _).otherRow (by omega) _
      have BB3 : Hid (Bk ((w2.alloc (.cells Tryz.zeroCells53 53)).setRow w2.heap.size SA) (w.heap.size + 1 + 1) #[.bool nb, .slice a2 ys.length c2] 30) := ((BB2.out.old g2).alloc _).otherRow (by omega) _
      have HO2 : Hid (Old w ((w2.alloc (.cells Tryz.zeroCells53 53)).setRow w2.heap.size SA)) := Old.row ((Old.trans HG2.out g2).alloc _) (by omega) _
      have HP2 : Hid (Old (w1.alloc (.cells #[.int .i64 N, .int .i64 T, .int .i64 E, .slice a0 ps.length c0, .slice (some ⟨g, 0, none⟩) ps.length ps.length, .bool false, .slice a l c] 48)) ((w2.alloc (.cells Tryz.zeroCells53 53)).setRow w2.heap.size SA)) := Old.row (g2.alloc _) (by simp; omega) _
      clear g2 z0 z1 z2 z3 z4 z5 z6 u0 u1
      have z0 := X3.out.c (i := 0) rfl
      have z1 := X3.out.c (i := 1) rfl
      have z2 := X3.out.c (i := 2) rfl
      have z3 := X3.out.c (i := 3) rfl
      have z4 := X3.out.c (i := 4) rfl
      have z5 := X3.out.c (i := 5) rfl
      have z6 := X3.out.c (i := 6) rfl
      have u0 := BB3.out.c (i := 0) rfl
      have u1 := BB3.out.c (i := 1) rfl
      go_wp2_with (first | ((with_reducible refine store_sg HN.out (SA) hSA.out ?_ ?_ ?_); exact rfl; exact rfl; simp only [Act.put]))
      refine (RB _ HP2.out).mono ?_
      rintro e w3 ⟨rfl, g3⟩
      have hz3 : w.heap.size + 1 + 1 + 1 < w3.heap.size := Nat.lt_of_lt_of_le R3.out.lt g3.size
      have hy3 : w1.heap.size < w3.heap.size := Nat.lt_of_lt_of_le X3.out.lt g3.size
      have hx3 : w2.heap.size < w3.heap.size := Nat.lt_of_lt_of_le HN2.out.lt g3.size
      have HM : Hid (Sg (w3.alloc (.cells Tryz.zeroCells53 53)) w3.heap.size Tryz.zeroCells53) := Sg.zero _ _ rfl
      have HM2 : Hid (Sg ((w3.alloc (.cells Tryz.zeroCells53 53)).setRow w3.heap.size SB) w3.heap.size SB) := HM.out.row SB hSB.out
      have HN3 : Hid (Sg ((w3.alloc (.cells Tryz.zeroCells53 53)).setRow w3.heap.size SB) w2.heap.size SA) := ((HN2.out.old g3).alloc _).otherRow (by omega) _
      have R4 : Hid (Bk ((w3.alloc (.cells Tryz.zeroCells53 53)).setRow w3.heap.size SB) (w.heap.size + 1 + 1 + 1) #[.bool false, .slice none 0 0] 30) := ((R3.out.old g3).alloc _).otherRow (by omega) _
      have X4 : Hid (Bk ((w3.alloc (.cells Tryz.zeroCells53 53)).setRow w3.heap.size SB) w1.heap.size #[.int .i64 N, .int .i64 T, .int .i64 E, .slice a0 ps.length c0, .slice (some ⟨g, 0, none⟩) ps.length ps.length, .bool false, .slice a l c] 48) := ((X3.out.old g3).alloc _).otherRow (by omega) _
      have HO3 : Hid (Old w ((w3.alloc (.cells Tryz.zeroCells53 53)).setRow w3.heap.size SB)) := Old.row ((Old.trans HO2.out g3).alloc _) (by omega) _
      have HP3 : Hid (Old (w1.alloc (.cells #[.int .i64 N, .int .i64 T, .int .i64 E, .slice a0 ps.length c0, .slice (some ⟨g, 0, none⟩) ps.length ps.length, .bool false, .slice a l c] 48)) ((w3.alloc (.cells Tryz.zeroCells53 53)).setRow w3.heap.size SB)) := Old.row ((Old.trans HP2.out g3).alloc _) (by simp; omega) _
      clear g3 z0 z1 z2 z3 z4 z5 z6 u0 u1
      have y0 := R4.out.c (i := 0) rfl
      have y1 := R4.out.c (i := 1) rfl
      have f0 := frozen_of_row _ _ 0 _ _ R4.out
      have f1 := frozen_of_row _ _ 1 _ _ R4.out
      go_wp2_with (first | ((with_reducible refine store_sg HM.out (SB) hSB.out ?_ ?_ ?_); exact rfl; exact rfl; simp only [Act.put]))
      have HF := bk_putW R4.out (.bool false) (.slice none 0 0)
      have q0 := HF.c (i := 0) rfl
      have q1 := HF.c (i := 1) rfl
      refine bodyPost_ret (v := .tuple #[.agg #[.bool false, .slice none 0 0], .bool false]) (by simp [results, Tryz.results10, go_sem, q0, q1]) rfl ?_
      rw [HB.out.1, HB.out.2]
      exact ⟨_, rfl, (HO3.out.own (p := ⟨w.heap.size + 1 + 1 + 1, 0, none⟩) (by simp; omega) _).own (p := ⟨w.heap.size + 1 + 1 + 1, 1, none⟩) (by simp; omega) _, nil_own _ _⟩
    cases hbB : bdB (prodN (ps.map Int.toNat)) nb ys
    · have HB : Hid (D = [] ∧ ok = false) := HNN.out (by rw [hB, hbA, hbB]; rfl)
      rw [hbA] at RA
      rw [hbB] at RB
      clear hB hPn hcq hPz hbas ho hrg hg hl HKC HV hVA hVB hbA hbB HY HNN HQR
      have HG2 : Hid (Old w (w1.alloc (.cells #[.int .i64 N, .int .i64 T, .int .i64 E, .slice a0 ps.length c0, .slice (some ⟨g, 0, none⟩) ps.length ps.length, .bool false, .slice a l c] 48))) := HG1.out.alloc _
      have R2 : Hid (Bk (w1.alloc (.cells #[.int .i64 N, .int .i64 T, .int .i64 E, .slice a0 ps.length c0, .slice (some ⟨g, 0, none⟩) ps.length ps.length, .bool false, .slice a l c] 48)) (w.heap.size + 1 + 1 + 1) #[.bool false, .slice none 0 0] 30) := R1.out.alloc _
      have BX : Hid (Bk (w1.alloc (.cells #[.int .i64 N, .int .i64 T, .int .i64 E, .slice a0 ps.length c0, .slice (some ⟨g, 0, none⟩) ps.length ps.length, .bool false, .slice a l c] 48)) w1.heap.size #[.int .i64 N, .int .i64 T, .int .i64 E, .slice a0 ps.length c0, .slice (some ⟨g, 0, none⟩) ps.length ps.length, .bool false, .slice a l c] 48) := Bk.new' w1 _ _ rfl
      have BA2 : Hid (Bk (w1.alloc (.cells #[.int .i64 N, .int .i64 T, .int .i64 E, .slice a0 ps.length c0, .slice (some ⟨g, 0, none⟩) ps.length ps.length, .bool false, .slice a l c] 48)) (w.heap.size + 1) #[.bool na, .slice a1 xs.length c1] 30) := A1.out.alloc _
      have BB2 : Hid (Bk (w1.alloc (.cells #[.int .i64 N, .int .i64 T, .int .i64 E, .slice a0 ps.length c0, .slice (some ⟨g, 0, none⟩) ps.length ps.length, .bool false, .slice a l c] 48)) (w.heap.size + 1 + 1) #[.bool nb, .slice a2 ys.length c2] 30) := B1.out.alloc _
      have HGR : Hid (Old (w1.alloc (.cells #[.int .i64 N, .int .i64 T, .int .i64 E, .slice a0 ps.length c0, .slice (some ⟨g, 0, none⟩) ps.length ps.length, .bool false, .slice a l c] 48)) (w1.alloc (.cells #[.int .i64 N, .int .i64 T, .int .i64 E, .slice a0 ps.length c0, .slice (some ⟨g, 0, none⟩) ps.length ps.length, .bool false, .slice a l c] 48))) := Old.refl _
      have z0 := BX.out.c (i := 0) rfl
      have z1 := BX.out.c (i := 1) rfl
      have z2 := BX.out.c (i := 2) rfl
      have z3 := BX.out.c (i := 3) rfl
      have z4 := BX.out.c (i := 4) rfl
      have z5 := BX.out.c (i := 5) rfl
      have z6 := BX.out.c (i := 6) rfl
      have u0 := BA2.out.c (i := 0) rfl
      have u1 := BA2.out.c (i := 1) rfl
      go_wp2_with fail
      refine (RA _ HGR.out).mono ?_
      rintro e w2 ⟨rfl, g2⟩
      have hz2 : w.heap.size + 1 + 1 + 1 < w2.heap.size := Nat.lt_of_lt_of_le R2.out.lt g2.size
      have hy2 : w1.heap.size < w2.heap.size := Nat.lt_of_lt_of_le BX.out.lt g2.size
      have HN : Hid (Sg (w2.alloc (.cells Tryz.zeroCells53 53)) w2.heap.size Tryz.zeroCells53) := Sg.zero _ _ rfl
      have HN2 : Hid (Sg ((w2.alloc (.cells Tryz.zeroCells53 53)).setRow w2.heap.size SA) w2.heap.size SA) := HN.out.row SA hSA.out
      have R3 : Hid (Bk ((w2.alloc (.cells Tryz.zeroCells53 53)).setRow w2.heap.size SA) (w.heap.size + 1 + 1 + 1) #[.bool false, .slice none 0 0] 30) := ((R2.out.old g2).alloc _).otherRow (by omega) _
      have X3 : Hid (Bk ((w2.alloc (.cells Tryz.zeroCells53 53)).setRow w2.heap.size SA) w1.heap.size #[.int .i64 N, .int .i64 T, .int .i64 E, .slice a0 ps.length c0, .slice (some ⟨g, 0, none⟩) ps.length ps.length, .bool false, .slice a l c] 48) := ((BX.out.old g2).alloc _).otherRow (by omega) _
      have BB3 : Hid (Bk ((w2.alloc (.cells Tryz.zeroCells53 53)).setRow w2.heap.size SA) (w.heap.size + 1 + 1) #[.bool nb, .slice a2 ys.length c2] 30) := ((BB2.out.old g2).alloc _).otherRow (by omega) _
      have HO2 : Hid (Old w ((w2.alloc (.cells Tryz.zeroCells53 53)).setRow w2.heap.size SA)) := Old.row ((Old.trans HG2.out g2).alloc _) (by omega) _
      have HP2 : Hid (Old (w1.alloc (.cells #[.int .i64 N, .int .i64 T, .int .i64 E, .slice a0 ps.length c0, .slice (some ⟨g, 0, none⟩) ps.length ps.length, .bool false, .slice a l c] 48)) ((w2.alloc (.cells Tryz.zeroCells53 53)).setRow w2.heap.size SA)) := Old.row (g2.alloc _) (by simp; omega) _
      clear g2 z0 z1 z2 z3 z4 z5 z6 u0 u1
      have z0 := X3.out.c (i := 0) rfl
      have z1 := X3.out.c (i := 1) rfl
      have z2 := X3.out.c (i := 2) rfl
      have z3 := X3.out.c (i := 3) rfl
      have z4 := X3.out.c (i := 4) rfl
      have z5 := X3.out.c (i := 5) rfl
      have z6 := X3.out.c (i := 6) rfl
      have u0 := BB3.out.c (i := 0) rfl
      have u1 := BB3.out.c (i := 1) rfl
      go_wp2_with (first | ((with_reducible refine store_sg HN.out (SA) hSA.out ?_ ?_ ?_); exact rfl; exact rfl; simp only [Act.put]))
      refine (RB _ HP2.out).mono ?_
      rintro e w3 ⟨rfl, g3⟩
      have hz3 : w.heap.size + 1 + 1 + 1 < w3.heap.size := Nat.lt_of_lt_of_le R3.out.lt g3.size
      have hy3 : w1.heap.size < w3.heap.size := Nat.lt_of_lt_of_le X3.out.lt g3.size
      have hx3 : w2.heap.size < w3.heap.size := Nat.lt_of_lt_of_le HN2.out.lt g3.size
      have HM : Hid (Sg (w3.alloc (.cells Tryz.zeroCells53 53)) w3.heap.size Tryz.zeroCells53) := Sg.zero _ _ rfl
      have HM2 : Hid (Sg ((w3.alloc (.cells Tryz.zeroCells53 53)).setRow w3.heap.size SB) w3.heap.size SB) := HM.out.row SB hSB.out
      have HN3 : Hid (Sg ((w3.alloc (.cells Tryz.zeroCells53 53)).setRow w3.heap.size SB) w2.heap.size SA) := ((HN2.out.old g3).alloc _).otherRow (by omega) _
      have R4 : Hid (Bk ((w3.alloc (.cells Tryz.zeroCells53 53)).setRow w3.heap.size SB) (w.heap.size + 1 + 1 + 1) #[.bool false, .slice none 0 0] 30) := ((R3.out.old g3).alloc _).otherRow (by omega) _
      have X4 : Hid (Bk ((w3.alloc (.cells Tryz.zeroCells53 53)).setRow w3.heap.size SB) w1.heap.size #[.int .i64 N, .int .i64 T, .int .i64 E, .slice a0 ps.length c0, .slice (some ⟨g, 0, none⟩) ps.length ps.length, .bool false, .slice a l c] 48) := ((X3.out.old g3).alloc _).otherRow (by omega) _
      have HO3 : Hid (Old w ((w3.alloc (.cells Tryz.zeroCells53 53)).setRow w3.heap.size SB)) := Old.row ((Old.trans HO2.out g3).alloc _) (by omega) _
      have HP3 : Hid (Old (w1.alloc (.cells #[.int .i64 N, .int .i64 T, .int .i64 E, .slice a0 ps.length c0, .slice (some ⟨g, 0, none⟩) ps.length ps.length, .bool false, .slice a l c] 48)) ((w3.alloc (.cells Tryz.zeroCells53 53)).setRow w3.heap.size SB)) := Old.row ((Old.trans HP2.out g3).alloc _) (by simp; omega) _
      clear g3 z0 z1 z2 z3 z4 z5 z6 u0 u1
      have y0 := R4.out.c (i := 0) rfl
      have y1 := R4.out.c (i := 1) rfl
      have f0 := frozen_of_row _ _ 0 _ _ R4.out
      have f1 := frozen_of_row _ _ 1 _ _ R4.out
      go_wp2_with (first | ((with_reducible refine store_sg HM.out (SB) hSB.out ?_ ?_ ?_); exact rfl; exact rfl; simp only [Act.put]))
      have HF := bk_putW R4.out (.bool false) (.slice none 0 0)
      have q0 := HF.c (i := 0) rfl
      have q1 := HF.c (i := 1) rfl
      refine bodyPost_ret (v := .tuple #[.agg #[.bool false, .slice none 0 0], .bool false]) (by simp [results, Tryz.results10, go_sem, q0, q1]) rfl ?_
      rw [HB.out.1, HB.out.2]
      exact ⟨_, rfl, (HO3.out.own (p := ⟨w.heap.size + 1 + 1 + 1, 0, none⟩) (by simp; omega) _).own (p := ⟨w.heap.size + 1 + 1 + 1, 1, none⟩) (by simp; omega) _, nil_own _ _⟩
    obtain ⟨k1, k2, k3⟩ := bdB_yes hbA
    obtain ⟨j1, j2, j3⟩ := bdB_yes hbB
    have hcn : cnt (val (nat xs)) ≤ 14 := Nat.le_trans (cnt_mono k3) (Nat.le_trans (cnt_mul _ _) (by omega))
    have hcm : cnt (val (nat ys)) ≤ 14 := Nat.le_trans (cnt_mono j3) (Nat.le_trans (cnt_mul _ _) (by omega))
    have HB : Hid (D = dig (V (val (nat xs)) (val (nat ys))) ∧ ok = true) := HY.out (by rw [hB, hbA, hbB]; rfl)
    have eA := hVA (by rw [k2, decide_eq_true (k2 ▸ k1)]; rfl)
    have eB := hVB (by rw [j2, decide_eq_true (j2 ▸ j1)]; rfl)
    rw [hbA] at RA
    rw [hbB] at RB
    have CH : ∀ W, Old (w1.alloc (.cells #[.int .i64 N, .int .i64 T, .int .i64 E, .slice a0 ps.length c0, .slice (some ⟨g, 0, none⟩) ps.length ps.length, .bool false, .slice a l c] 48)) W → Calls Tryz.prog 31 #[.agg #[.int .i64 N, .int .i64 T, .int .i64 E, .slice a0 ps.length c0, .slice (some ⟨g, 0, none⟩) ps.length ps.length, .bool false, .slice a l c], .agg SA, .agg SB] W fun e w' => e = .returned (.agg (szV (V (val (nat xs)) (val (nat ys))))) ∧ Old W w' := fun W q => by
      rw [eA, eB]
      exact HKC.out hB W g a l c _ _ (Old.trans (HG1.out.alloc _) q) (HQR.out.old (Old.trans ((Old.refl w1).alloc _) q)) hcn hcm
    have CW := fun W => wholeF_any2 (V (val (nat xs)) (val (nat ys))) W (Nat.le_trans (HV.out hB _ _) (by omega))
    clear hB hPn hcq hPz hbas ho hrg hg hl HKC HV hVA hVB hbA hbB HY HNN HQR k1 k2 k3 j1 j2 j3 hcn hcm eA eB
    generalize szV (V (val (nat xs)) (val (nat ys))) = SV at *
    generalize dig (V (val (nat xs)) (val (nat ys))) = DV at *
    have HG2 : Hid (Old w (w1.alloc (.cells #[.int .i64 N, .int .i64 T, .int .i64 E, .slice a0 ps.length c0, .slice (some ⟨g, 0, none⟩) ps.length ps.length, .bool false, .slice a l c] 48))) := HG1.out.alloc _
    have R2 : Hid (Bk (w1.alloc (.cells #[.int .i64 N, .int .i64 T, .int .i64 E, .slice a0 ps.length c0, .slice (some ⟨g, 0, none⟩) ps.length ps.length, .bool false, .slice a l c] 48)) (w.heap.size + 1 + 1 + 1) #[.bool false, .slice none 0 0] 30) := R1.out.alloc _
    have BX : Hid (Bk (w1.alloc (.cells #[.int .i64 N, .int .i64 T, .int .i64 E, .slice a0 ps.length c0, .slice (some ⟨g, 0, none⟩) ps.length ps.length, .bool false, .slice a l c] 48)) w1.heap.size #[.int .i64 N, .int .i64 T, .int .i64 E, .slice a0 ps.length c0, .slice (some ⟨g, 0, none⟩) ps.length ps.length, .bool false, .slice a l c] 48) := Bk.new' w1 _ _ rfl
    have BA2 : Hid (Bk (w1.alloc (.cells #[.int .i64 N, .int .i64 T, .int .i64 E, .slice a0 ps.length c0, .slice (some ⟨g, 0, none⟩) ps.length ps.length, .bool false, .slice a l c] 48)) (w.heap.size + 1) #[.bool na, .slice a1 xs.length c1] 30) := A1.out.alloc _
    have BB2 : Hid (Bk (w1.alloc (.cells #[.int .i64 N, .int .i64 T, .int .i64 E, .slice a0 ps.length c0, .slice (some ⟨g, 0, none⟩) ps.length ps.length, .bool false, .slice a l c] 48)) (w.heap.size + 1 + 1) #[.bool nb, .slice a2 ys.length c2] 30) := B1.out.alloc _
    have HGR : Hid (Old (w1.alloc (.cells #[.int .i64 N, .int .i64 T, .int .i64 E, .slice a0 ps.length c0, .slice (some ⟨g, 0, none⟩) ps.length ps.length, .bool false, .slice a l c] 48)) (w1.alloc (.cells #[.int .i64 N, .int .i64 T, .int .i64 E, .slice a0 ps.length c0, .slice (some ⟨g, 0, none⟩) ps.length ps.length, .bool false, .slice a l c] 48))) := Old.refl _
    have z0 := BX.out.c (i := 0) rfl
    have z1 := BX.out.c (i := 1) rfl
    have z2 := BX.out.c (i := 2) rfl
    have z3 := BX.out.c (i := 3) rfl
    have z4 := BX.out.c (i := 4) rfl
    have z5 := BX.out.c (i := 5) rfl
    have z6 := BX.out.c (i := 6) rfl
    have u0 := BA2.out.c (i := 0) rfl
    have u1 := BA2.out.c (i := 1) rfl
    go_wp2_with fail
    refine (RA _ HGR.out).mono ?_
    rintro e w2 ⟨rfl, g2⟩
    have hz2 : w.heap.size + 1 + 1 + 1 < w2.heap.size := Nat.lt_of_lt_of_le R2.out.lt g2.size
    have hy2 : w1.heap.size < w2.heap.size := Nat.lt_of_lt_of_le BX.out.lt g2.size
    have HN : Hid (Sg (w2.alloc (.cells Tryz.zeroCells53 53)) w2.heap.size Tryz.zeroCells53) := Sg.zero _ _ rfl
    have HN2 : Hid (Sg ((w2.alloc (.cells Tryz.zeroCells53 53)).setRow w2.heap.size SA) w2.heap.size SA) := HN.out.row SA hSA.out
    have R3 : Hid (Bk ((w2.alloc (.cells Tryz.zeroCells53 53)).setRow w2.heap.size SA) (w.heap.size + 1 + 1 + 1) #[.bool false, .slice none 0 0] 30) := ((R2.out.old g2).alloc _).otherRow (by omega) _
    have X3 : Hid (Bk ((w2.alloc (.cells Tryz.zeroCells53 53)).setRow w2.heap.size SA) w1.heap.size #[.int .i64 N, .int .i64 T, .int .i64 E, .slice a0 ps.length c0, .slice (some ⟨g, 0, none⟩) ps.length ps.length, .bool false, .slice a l c] 48) := ((BX.out.old g2).alloc _).otherRow (by omega) _
    have BB3 : Hid (Bk ((w2.alloc (.cells Tryz.zeroCells53 53)).setRow w2.heap.size SA) (w.heap.size + 1 + 1) #[.bool nb, .slice a2 ys.length c2] 30) := ((BB2.out.old g2).alloc _).otherRow (by omega) _
    have HO2 : Hid (Old w ((w2.alloc (.cells Tryz.zeroCells53 53)).setRow w2.heap.size SA)) := Old.row ((Old.trans HG2.out g2).alloc _) (by omega) _
    have HP2 : Hid (Old (w1.alloc (.cells #[.int .i64 N, .int .i64 T, .int .i64 E, .slice a0 ps.length c0, .slice (some ⟨g, 0, none⟩) ps.length ps.length, .bool false, .slice a l c] 48)) ((w2.alloc (.cells Tryz.zeroCells53 53)).setRow w2.heap.size SA)) := Old.row (g2.alloc _) (by simp; omega) _
    clear g2 z0 z1 z2 z3 z4 z5 z6 u0 u1
    have z0 := X3.out.c (i := 0) rfl
    have z1 := X3.out.c (i := 1) rfl
    have z2 := X3.out.c (i := 2) rfl
    have z3 := X3.out.c (i := 3) rfl
    have z4 := X3.out.c (i := 4) rfl
    have z5 := X3.out.c (i := 5) rfl
    have z6 := X3.out.c (i := 6) rfl
    have u0 := BB3.out.c (i := 0) rfl
    have u1 := BB3.out.c (i := 1) rfl
    go_wp2_with (first | ((with_reducible refine store_sg HN.out (SA) hSA.out ?_ ?_ ?_); exact rfl; exact rfl; simp only [Act.put]))
    refine (RB _ HP2.out).mono ?_
    rintro e w3 ⟨rfl, g3⟩
    have hz3 : w.heap.size + 1 + 1 + 1 < w3.heap.size := Nat.lt_of_lt_of_le R3.out.lt g3.size
    have hy3 : w1.heap.size < w3.heap.size := Nat.lt_of_lt_of_le X3.out.lt g3.size
    have hx3 : w2.heap.size < w3.heap.size := Nat.lt_of_lt_of_le HN2.out.lt g3.size
    have HM : Hid (Sg (w3.alloc (.cells Tryz.zeroCells53 53)) w3.heap.size Tryz.zeroCells53) := Sg.zero _ _ rfl
    have HM2 : Hid (Sg ((w3.alloc (.cells Tryz.zeroCells53 53)).setRow w3.heap.size SB) w3.heap.size SB) := HM.out.row SB hSB.out
    have HN3 : Hid (Sg ((w3.alloc (.cells Tryz.zeroCells53 53)).setRow w3.heap.size SB) w2.heap.size SA) := ((HN2.out.old g3).alloc _).otherRow (by omega) _
    have R4 : Hid (Bk ((w3.alloc (.cells Tryz.zeroCells53 53)).setRow w3.heap.size SB) (w.heap.size + 1 + 1 + 1) #[.bool false, .slice none 0 0] 30) := ((R3.out.old g3).alloc _).otherRow (by omega) _
    have X4 : Hid (Bk ((w3.alloc (.cells Tryz.zeroCells53 53)).setRow w3.heap.size SB) w1.heap.size #[.int .i64 N, .int .i64 T, .int .i64 E, .slice a0 ps.length c0, .slice (some ⟨g, 0, none⟩) ps.length ps.length, .bool false, .slice a l c] 48) := ((X3.out.old g3).alloc _).otherRow (by omega) _
    have HO3 : Hid (Old w ((w3.alloc (.cells Tryz.zeroCells53 53)).setRow w3.heap.size SB)) := Old.row ((Old.trans HO2.out g3).alloc _) (by omega) _
    have HP3 : Hid (Old (w1.alloc (.cells #[.int .i64 N, .int .i64 T, .int .i64 E, .slice a0 ps.length c0, .slice (some ⟨g, 0, none⟩) ps.length ps.length, .bool false, .slice a l c] 48)) ((w3.alloc (.cells Tryz.zeroCells53 53)).setRow w3.heap.size SB)) := Old.row ((Old.trans HP2.out g3).alloc _) (by simp; omega) _
    clear g3 z0 z1 z2 z3 z4 z5 z6 u0 u1
    have x0 := X4.out.c (i := 0) rfl
    have x1 := X4.out.c (i := 1) rfl
    have x2 := X4.out.c (i := 2) rfl
    have x3 := X4.out.c (i := 3) rfl
    have x4 := X4.out.c (i := 4) rfl
    have x5 := X4.out.c (i := 5) rfl
    have x6 := X4.out.c (i := 6) rfl
    go_wp2_with (first | ((with_reducible refine store_sg HM.out (SB) hSB.out ?_ ?_ ?_); exact rfl; exact rfl; simp only [Act.put]) | ((with_reducible refine load_sg HN3.out ?_ ?_); exact rfl; simp only [Act.put, List.setIfInBounds_toArray, List.set_cons_succ, List.set_cons_zero]) | ((with_reducible refine load_sg HM2.out ?_ ?_); exact rfl; simp only [Act.put, List.setIfInBounds_toArray, List.set_cons_succ, List.set_cons_zero]))
    refine (CH _ HP3.out).mono ?_
    rintro e w5 ⟨rfl, g5⟩
    have R5 : Hid (Bk w5 (w.heap.size + 1 + 1 + 1) #[.bool false, .slice none 0 0] 30) := R4.out.old g5
    have HO5 : Hid (Old w w5) := Old.trans HO3.out g5
    clear g5 x0 x1 x2 x3 x4 x5 x6
    go_wp2_with fail
    refine (CW _).mono ?_
    rintro e w6 ⟨v6, rfl, g6, o6⟩
    have R6 : Hid (Bk w6 (w.heap.size + 1 + 1 + 1) #[.bool false, .slice none 0 0] 30) := R5.out.old g6
    have HO6 : Hid (Old w w6) := Old.trans HO5.out g6
    have hz6 : w.heap.size + 1 + 1 + 1 < w5.heap.size := R5.out.lt
    have y0 := R6.out.c (i := 0) rfl
    have y1 := R6.out.c (i := 1) rfl
    have f0 := frozen_of_row _ _ 0 _ _ R6.out
    have f1 := frozen_of_row _ _ 1 _ _ R6.out
    have O6 : Hid (Own w6 w5.heap.size v6 (toI DV)) := o6
    obtain ⟨x4, m4, rfl⟩ := (Own.row o6).slice
    clear g6 o6
    go_wp2_with fail
    have HF := bk_putW R6.out (.bool false) (.slice x4 (toI DV).length m4)
    have q0 := HF.c (i := 0) rfl
    have q1 := HF.c (i := 1) rfl
    refine bodyPost_ret (v := .tuple #[.agg #[.bool false, .slice x4 (toI DV).length m4], .bool true]) (by simp [results, Tryz.results10, go_sem, q0, q1]) rfl ?_
    rw [HB.out.1, HB.out.2]
    refine ⟨_, rfl, (HO6.out.own (p := ⟨w.heap.size + 1 + 1 + 1, 0, none⟩) (by simp; omega) _).own (p := ⟨w.heap.size + 1 + 1 + 1, 1, none⟩) (by simp; omega) _, ?_⟩
    refine own_farB (Own.low O6.out (by omega)) (fun b hb => ?_)
    have hlt := (O6.out.lt b hb).1
    exact (heap_setCell_other _ ⟨w.heap.size + 1 + 1 + 1, 1, none⟩ b _ (by show b ≠ w.heap.size + 1 + 1 + 1; omega)).trans (heap_setCell_other _ ⟨w.heap.size + 1 + 1 + 1, 0, none⟩ b _ (by show b ≠ w.heap.size + 1 + 1 + 1; omega))
end Go.Proofs.YtihjndakgncdaaaGreatDoor
