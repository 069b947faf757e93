/- Proved: several texts in one: what each proves is said ahead of it. -/
import Derived.Test.YtpcpahgflkjnaaaGreatDoorNi
import Derived.Test.YtpcpahgflkjnaaaGreatDoorRkb
import Derived.Test.YtpcpahgflkjnaaaGreatDoorB52
import Derived.Test.YtpcpahgflkjnaaaGreatDoorB15
import Derived.Test.YtpcpahgflkjnaaaGreatDoorNfq2
import Derived.Test.YtpcpahgflkjnaaaGreatDoorNiq2
import Derived.Test.YtpcpahgflkjnaaaGreatDoorLawAddPlainBound
/- Proved: the program's readBound by numbers; boundBy. -/
namespace Go.Proofs.YtpcpahgflkjnaaaGreatDoor
open Go.ChangeShapes Go.WideShapes Go.ChangeAt Go.RowKit
open M2
set_option linter.unusedVariables false
set_option linter.unusedSimpArgs false
set_option maxRecDepth 100000 in
set_option maxHeartbeats 4000000 in
theorem boundBy_plus (N T E : Int) (ps : List Int) (v : Value) (nb : Bool) (ys : List Int) (u : Value) (V : Nat → Nat) (w : World) (hP : PrsW w) (hT : TabW w) (hv : Row w v ps) (hf : Fit v) (hlp : ps.length ≤ 9223372036854775807) (hu : Row w u ys) (hly : ys.length ≤ 1048576) (hV : prB N T E ps = true → ∀ n, cnt (V n) ≤ 7)
    (KC : prB N T E ps = true → ∀ W g a l c n, Old w W → Row W (.slice a l c) (toI (dig (prodN (ps.map Int.toNat)))) → cnt n ≤ 14 → Calls Tryz.prog 89 #[.agg #[.int .i64 N, .int .i64 T, .int .i64 E, v, .slice (some ⟨g, 0, none⟩) ps.length ps.length, .bool false, .slice a l c], .agg (szV n)] W fun e w' => e = .returned (.agg (szV (V n))) ∧ Old W w')
    (D : List Nat) (ok : Bool) (hy : (prB N T E ps && bdB (prodN (ps.map Int.toNat)) nb ys) = true → D = dig (V (val (nat ys))) ∧ ok = true) (hn : (prB N T E ps && bdB (prodN (ps.map Int.toNat)) nb ys) = false → D = [] ∧ ok = false) :
    Calls Tryz.prog 88 #[.agg #[.int .i64 N, .int .i64 T, .int .i64 E, v], .agg #[.bool nb, u], .func (.func 89) #[] #[]] w (WhA D ok w) := by
  have HY : Hid ((prB N T E ps && bdB (prodN (ps.map Int.toNat)) nb ys) = true → D = dig (V (val (nat ys))) ∧ ok = true) := hy
  have HNN : Hid ((prB N T E ps && bdB (prodN (ps.map Int.toNat)) nb ys) = false → D = [] ∧ ok = false) := hn
  clear hy hn
  obtain ⟨Rf, hRf⟩ := Rings_roots N ps
  have K1 := fun W (g : Old w W) => impl_reckonerOf N T E ps Rf v W (hP.old g) (hT.old g) (hv.old g) hf hlp hRf
  obtain ⟨a0, c0, ev⟩ := hv.slice
  obtain ⟨a1, c1, eu⟩ := hu.slice
  subst ev eu
  have HA : Hid (Old w (((w.alloc (.cells #[.int .i64 N, .int .i64 T, .int .i64 E, .slice a0 ps.length c0] 34)).alloc (.cells #[.bool nb, .slice a1 ys.length c1] 31)).alloc (.cells #[.bool false, .slice none 0 0] 31))) := (((Old.refl w).alloc _).alloc _).alloc _
  have BW : Hid (Bk (((w.alloc (.cells #[.int .i64 N, .int .i64 T, .int .i64 E, .slice a0 ps.length c0] 34)).alloc (.cells #[.bool nb, .slice a1 ys.length c1] 31)).alloc (.cells #[.bool false, .slice none 0 0] 31)) (w.heap.size + 1) #[.bool nb, .slice a1 ys.length c1] 31) := (Bk.new' _ _ _ (by simp)).alloc _
  have BR : Hid (Bk (((w.alloc (.cells #[.int .i64 N, .int .i64 T, .int .i64 E, .slice a0 ps.length c0] 34)).alloc (.cells #[.bool nb, .slice a1 ys.length c1] 31)).alloc (.cells #[.bool false, .slice none 0 0] 31)) (w.heap.size + 1 + 1) #[.bool false, .slice none 0 0] 31) := Bk.new' _ _ _ (by simp)
  have HU : Hid (Row w (.slice a1 ys.length c1) ys) := hu
  have HKC : Hid (prB N T E ps = true → ∀ W g a l c n, Old w W → Row W (.slice a l c) (toI (dig (prodN (ps.map Int.toNat)))) → cnt n ≤ 14 → Calls Tryz.prog 89 #[.agg #[.int .i64 N, .int .i64 T, .int .i64 E, .slice a0 ps.length c0, .slice (some ⟨g, 0, none⟩) ps.length ps.length, .bool false, .slice a l c], .agg (szV n)] W fun e w' => e = .returned (.agg (szV (V n))) ∧ Old W w') := KC
  have HV : Hid (prB N T E ps = true → ∀ n, cnt (V n) ≤ 7) := hV
  clear hv hf hu hP hT hRf KC hV
  go_enter Tryz.func88, Tryz.ntmps88
  go_wp2_with fail
  refine (K1 _ HA.out).mono ?_
  rintro e w1 ⟨g1, h⟩
  have HG1 : Hid (Old w w1) := Old.trans HA.out g1
  have B1 : Hid (Bk w1 (w.heap.size + 1) #[.bool nb, .slice a1 ys.length c1] 31) := BW.out.old g1
  have R1 : Hid (Bk w1 (w.heap.size + 1 + 1) #[.bool false, .slice none 0 0] 31) := BR.out.old g1
  clear g1 K1 BW BR HA
  rcases h with ⟨hB, rfl⟩ | ⟨hB, g, a, l, c, hg, rfl, hrg, P, hPz, hbas, hl, ho⟩
  · have HB : Hid (D = [] ∧ ok = false) := HNN.out (by rw [hB]; rfl)
    obtain ⟨SA, hSA', _, RB'⟩ := readB_n 0 0 0 none 0 0 none 0 0 none 0 0 0 nb ys a1 c1 (by decide) hly
    have hSA : Hid (Sq SA) := hSA'
    have RB := fun W (q : Old w W) => RB' W (by rw [dig_zero]; exact .inl ⟨_, _, rfl, rfl⟩) (HU.out.old q)
    clear hB hSA' RB' HKC
    have HG2 : Hid (Old w (w1.alloc (.cells rk0 87))) := HG1.out.alloc _
    have R2 : Hid (Bk (w1.alloc (.cells rk0 87)) (w.heap.size + 1 + 1) #[.bool false, .slice none 0 0] 31) := R1.out.alloc _
    have BX : Hid (Bk (w1.alloc (.cells rk0 87)) w1.heap.size rk0 87) := Bk.new' w1 _ _ rfl
    have BW2 : Hid (Bk (w1.alloc (.cells rk0 87)) (w.heap.size + 1) #[.bool nb, .slice a1 ys.length c1] 31) := B1.out.alloc _
    have z0 := BX.out.c (i := 0) rfl
    have z1 := BX.out.c (i := 1) rfl
    have z2 := BX.out.c (i := 2) rfl
    have z3 := BX.out.c (i := 3) rfl
    have z4 := BX.out.c (i := 4) rfl
    have z5 := BX.out.c (i := 5) rfl
    have z6 := BX.out.c (i := 6) rfl
    have u0 := BW2.out.c (i := 0) rfl
    have u1 := BW2.out.c (i := 1) rfl
    go_wp2_with (first | (go_at_call 93; refine (RB _ HG2.out).mono ?_; rintro e w2 ⟨rfl, g2⟩; have hz2 : w.heap.size + 1 + 1 < w2.heap.size := Nat.lt_of_lt_of_le R2.out.lt g2.size; have HN : Hid (Sg (w2.alloc (.cells Tryz.zeroCells113 113)) w2.heap.size Tryz.zeroCells113) := Sg.zero _ _ rfl; have HN2 : Hid (Sg ((w2.alloc (.cells Tryz.zeroCells113 113)).setRow w2.heap.size SA) w2.heap.size SA) := HN.out.row SA hSA.out; have R3 : Hid (Bk ((w2.alloc (.cells Tryz.zeroCells113 113)).setRow w2.heap.size SA) (w.heap.size + 1 + 1) #[.bool false, .slice none 0 0] 31) := ((R2.out.old g2).alloc _).otherRow (by omega) _; have HO2 : Hid (Old w ((w2.alloc (.cells Tryz.zeroCells113 113)).setRow w2.heap.size SA)) := Old.row ((Old.trans HG2.out g2).alloc _) (by omega) _; have y0 := R3.out.c (i := 0) rfl; have y1 := R3.out.c (i := 1) rfl; have f0 := frozen_of_row _ _ 0 _ _ R3.out; have f1 := frozen_of_row _ _ 1 _ _ R3.out; clear g2) | ((with_reducible refine store_sg HN.out (SA) hSA.out ?_ ?_ ?_); exact rfl; exact rfl; simp only [Act.put]))
    have HF := bk_putW R3.out (.bool false) (.slice none 0 0)
    have q0 := HF.c (i := 0) rfl
    have q1 := HF.c (i := 1) rfl
    refine bodyPost_ret (v := .tuple #[.agg #[.bool false, .slice none 0 0], .bool false]) (by simp [results, Tryz.results88, go_sem, q0, q1]) rfl ?_
    rw [HB.out.1, HB.out.2]
    exact ⟨_, rfl, (HO2.out.own (p := ⟨w.heap.size + 1 + 1, 0, none⟩) (by simp; omega) _).own (p := ⟨w.heap.size + 1 + 1, 1, none⟩) (by simp; omega) _, nil_own _ _⟩
  · have hPn : ps.map Int.toNat = P := by rw [hPz]; exact toZ_bk11 P
    have hcq : cnt (prodN (ps.map Int.toNat)) ≤ 7 := by rw [hPn]; exact hbas.cnt
    have HQR : Hid (Row w1 (.slice a l c) (toI (dig (prodN (ps.map Int.toNat))))) := by rw [hPn]; exact Own.row ho
    obtain ⟨SA, hSA', hSV, RB'⟩ := readB_n N T E a0 ps.length c0 (some ⟨g, 0, none⟩) ps.length ps.length a l c (prodN (ps.map Int.toNat)) nb ys a1 c1 hcq hly
    have hSA : Hid (Sq SA) := hSA'
    have RB : ∀ W, Old (w1.alloc (.cells #[.int .i64 N, .int .i64 T, .int .i64 E, .slice a0 ps.length c0, .slice (some ⟨g, 0, none⟩) ps.length ps.length, .bool false, .slice a l c] 87)) W → Calls Tryz.prog 93 #[.agg #[.int .i64 N, .int .i64 T, .int .i64 E, .slice a0 ps.length c0, .slice (some ⟨g, 0, none⟩) ps.length ps.length, .bool false, .slice a l c], .agg #[.bool nb, .slice a1 ys.length c1]] W fun e w' => e = .returned (.tuple #[.agg SA, .bool (bdB (prodN (ps.map Int.toNat)) nb ys)]) ∧ Old W w' := fun W q => RB' W (HQR.out.old (Old.trans ((Old.refl w1).alloc _) q)) (HU.out.old (Old.trans (HG1.out.alloc _) q))
    have HGR : Hid (Old (w1.alloc (.cells #[.int .i64 N, .int .i64 T, .int .i64 E, .slice a0 ps.length c0, .slice (some ⟨g, 0, none⟩) ps.length ps.length, .bool false, .slice a l c] 87)) (w1.alloc (.cells #[.int .i64 N, .int .i64 T, .int .i64 E, .slice a0 ps.length c0, .slice (some ⟨g, 0, none⟩) ps.length ps.length, .bool false, .slice a l c] 87))) := Old.refl _
    cases hb : bdB (prodN (ps.map Int.toNat)) nb ys
    · have HB : Hid (D = [] ∧ ok = false) := HNN.out (by rw [hB, hb]; rfl)
      rw [hb] at RB
      clear hB hSA' RB' HKC hSV hb hPn hcq hPz hbas ho hrg hg hl
      have HG2 : Hid (Old w (w1.alloc (.cells #[.int .i64 N, .int .i64 T, .int .i64 E, .slice a0 ps.length c0, .slice (some ⟨g, 0, none⟩) ps.length ps.length, .bool false, .slice a l c] 87))) := HG1.out.alloc _
      have R2 : Hid (Bk (w1.alloc (.cells #[.int .i64 N, .int .i64 T, .int .i64 E, .slice a0 ps.length c0, .slice (some ⟨g, 0, none⟩) ps.length ps.length, .bool false, .slice a l c] 87)) (w.heap.size + 1 + 1) #[.bool false, .slice none 0 0] 31) := R1.out.alloc _
      have BX : Hid (Bk (w1.alloc (.cells #[.int .i64 N, .int .i64 T, .int .i64 E, .slice a0 ps.length c0, .slice (some ⟨g, 0, none⟩) ps.length ps.length, .bool false, .slice a l c] 87)) w1.heap.size #[.int .i64 N, .int .i64 T, .int .i64 E, .slice a0 ps.length c0, .slice (some ⟨g, 0, none⟩) ps.length ps.length, .bool false, .slice a l c] 87) := Bk.new' w1 _ _ rfl
      have BW2 : Hid (Bk (w1.alloc (.cells #[.int .i64 N, .int .i64 T, .int .i64 E, .slice a0 ps.length c0, .slice (some ⟨g, 0, none⟩) ps.length ps.length, .bool false, .slice a l c] 87)) (w.heap.size + 1) #[.bool nb, .slice a1 ys.length c1] 31) := B1.out.alloc _
      have z0 := BX.out.c (i := 0) rfl
      have z1 := BX.out.c (i := 1) rfl
      have z2 := BX.out.c (i := 2) rfl
      have z3 := BX.out.c (i := 3) rfl
      have z4 := BX.out.c (i := 4) rfl
      have z5 := BX.out.c (i := 5) rfl
      have z6 := BX.out.c (i := 6) rfl
      have u0 := BW2.out.c (i := 0) rfl
      have u1 := BW2.out.c (i := 1) rfl
      go_wp2_with (first | (go_at_call 93; refine (RB _ HGR.out).mono ?_; rintro e w2 ⟨rfl, g2⟩; have hz2 : w.heap.size + 1 + 1 < w2.heap.size := Nat.lt_of_lt_of_le R2.out.lt g2.size; have HN : Hid (Sg (w2.alloc (.cells Tryz.zeroCells113 113)) w2.heap.size Tryz.zeroCells113) := Sg.zero _ _ rfl; have HN2 : Hid (Sg ((w2.alloc (.cells Tryz.zeroCells113 113)).setRow w2.heap.size SA) w2.heap.size SA) := HN.out.row SA hSA.out; have R3 : Hid (Bk ((w2.alloc (.cells Tryz.zeroCells113 113)).setRow w2.heap.size SA) (w.heap.size + 1 + 1) #[.bool false, .slice none 0 0] 31) := ((R2.out.old g2).alloc _).otherRow (by omega) _; have HO2 : Hid (Old w ((w2.alloc (.cells Tryz.zeroCells113 113)).setRow w2.heap.size SA)) := Old.row ((Old.trans HG2.out g2).alloc _) (by omega) _; have y0 := R3.out.c (i := 0) rfl; have y1 := R3.out.c (i := 1) rfl; have f0 := frozen_of_row _ _ 0 _ _ R3.out; have f1 := frozen_of_row _ _ 1 _ _ R3.out; clear g2) | ((with_reducible refine store_sg HN.out (SA) hSA.out ?_ ?_ ?_); exact rfl; exact rfl; simp only [Act.put]))
      have HF := bk_putW R3.out (.bool false) (.slice none 0 0)
      have q0 := HF.c (i := 0) rfl
      have q1 := HF.c (i := 1) rfl
      refine bodyPost_ret (v := .tuple #[.agg #[.bool false, .slice none 0 0], .bool false]) (by simp [results, Tryz.results88, go_sem, q0, q1]) rfl ?_
      rw [HB.out.1, HB.out.2]
      exact ⟨_, rfl, (HO2.out.own (p := ⟨w.heap.size + 1 + 1, 0, none⟩) (by simp; omega) _).own (p := ⟨w.heap.size + 1 + 1, 1, none⟩) (by simp; omega) _, nil_own _ _⟩
    · obtain ⟨k1, k2, k3⟩ := bdB_yes hb
      have hcn : cnt (val (nat ys)) ≤ 14 := Nat.le_trans (cnt_mono k3) (Nat.le_trans (cnt_mul _ _) (by omega))
      have HB : Hid (D = dig (V (val (nat ys))) ∧ ok = true) := HY.out (by rw [hB, hb]; rfl)
      have eS := hSV (by rw [k2, decide_eq_true (k2 ▸ k1)]; rfl)
      rw [hb] at RB
      have CH : ∀ W, Old w1 W → Calls Tryz.prog 89 #[.agg #[.int .i64 N, .int .i64 T, .int .i64 E, .slice a0 ps.length c0, .slice (some ⟨g, 0, none⟩) ps.length ps.length, .bool false, .slice a l c], .agg SA] W fun e w' => e = .returned (.agg (szV (V (val (nat ys))))) ∧ Old W w' := fun W q => by
        rw [eS]
        exact HKC.out hB W g a l c _ (Old.trans HG1.out q) (HQR.out.old q) hcn
      have CW := fun W => wholeF_any2 (V (val (nat ys))) W (Nat.le_trans (HV.out hB _) (by omega))
      clear hB hSA' RB' HKC hSV hb hPn hcq hPz hbas ho hrg hg hl k1 k2 k3 hcn eS HQR
      generalize szV (V (val (nat ys))) = SV at *
      generalize dig (V (val (nat ys))) = DV at *
      have HG2 : Hid (Old w (w1.alloc (.cells #[.int .i64 N, .int .i64 T, .int .i64 E, .slice a0 ps.length c0, .slice (some ⟨g, 0, none⟩) ps.length ps.length, .bool false, .slice a l c] 87))) := HG1.out.alloc _
      have R2 : Hid (Bk (w1.alloc (.cells #[.int .i64 N, .int .i64 T, .int .i64 E, .slice a0 ps.length c0, .slice (some ⟨g, 0, none⟩) ps.length ps.length, .bool false, .slice a l c] 87)) (w.heap.size + 1 + 1) #[.bool false, .slice none 0 0] 31) := R1.out.alloc _
      have BX : Hid (Bk (w1.alloc (.cells #[.int .i64 N, .int .i64 T, .int .i64 E, .slice a0 ps.length c0, .slice (some ⟨g, 0, none⟩) ps.length ps.length, .bool false, .slice a l c] 87)) w1.heap.size #[.int .i64 N, .int .i64 T, .int .i64 E, .slice a0 ps.length c0, .slice (some ⟨g, 0, none⟩) ps.length ps.length, .bool false, .slice a l c] 87) := Bk.new' w1 _ _ rfl
      have BW2 : Hid (Bk (w1.alloc (.cells #[.int .i64 N, .int .i64 T, .int .i64 E, .slice a0 ps.length c0, .slice (some ⟨g, 0, none⟩) ps.length ps.length, .bool false, .slice a l c] 87)) (w.heap.size + 1) #[.bool nb, .slice a1 ys.length c1] 31) := B1.out.alloc _
      have z0 := BX.out.c (i := 0) rfl
      have z1 := BX.out.c (i := 1) rfl
      have z2 := BX.out.c (i := 2) rfl
      have z3 := BX.out.c (i := 3) rfl
      have z4 := BX.out.c (i := 4) rfl
      have z5 := BX.out.c (i := 5) rfl
      have z6 := BX.out.c (i := 6) rfl
      have u0 := BW2.out.c (i := 0) rfl
      have u1 := BW2.out.c (i := 1) rfl
      have HO1 : Hid (Old w1 (w1.alloc (.cells #[.int .i64 N, .int .i64 T, .int .i64 E, .slice a0 ps.length c0, .slice (some ⟨g, 0, none⟩) ps.length ps.length, .bool false, .slice a l c] 87))) := (Old.refl w1).alloc _
      go_wp2_with (first | (go_at_call 93; refine (RB _ HGR.out).mono ?_; rintro e w2 ⟨rfl, g2⟩; have hz2 : w.heap.size + 1 + 1 < w2.heap.size := Nat.lt_of_lt_of_le R2.out.lt g2.size; have HN : Hid (Sg (w2.alloc (.cells Tryz.zeroCells113 113)) w2.heap.size Tryz.zeroCells113) := Sg.zero _ _ rfl; have HN2 : Hid (Sg ((w2.alloc (.cells Tryz.zeroCells113 113)).setRow w2.heap.size SA) w2.heap.size SA) := HN.out.row SA hSA.out; have R3 : Hid (Bk ((w2.alloc (.cells Tryz.zeroCells113 113)).setRow w2.heap.size SA) (w.heap.size + 1 + 1) #[.bool false, .slice none 0 0] 31) := ((R2.out.old g2).alloc _).otherRow (by omega) _; have HO2 : Hid (Old w ((w2.alloc (.cells Tryz.zeroCells113 113)).setRow w2.heap.size SA)) := Old.row ((Old.trans HG2.out g2).alloc _) (by omega) _; have hz3 : w1.heap.size < w2.heap.size := Nat.lt_of_lt_of_le BX.out.lt g2.size; have X3 : Hid (Bk ((w2.alloc (.cells Tryz.zeroCells113 113)).setRow w2.heap.size SA) w1.heap.size #[.int .i64 N, .int .i64 T, .int .i64 E, .slice a0 ps.length c0, .slice (some ⟨g, 0, none⟩) ps.length ps.length, .bool false, .slice a l c] 87) := ((BX.out.old g2).alloc _).otherRow (by omega) _; have x0 := X3.out.c (i := 0) rfl; have x1 := X3.out.c (i := 1) rfl; have x2 := X3.out.c (i := 2) rfl; have x3 := X3.out.c (i := 3) rfl; have x4 := X3.out.c (i := 4) rfl; have x5 := X3.out.c (i := 5) rfl; have x6 := X3.out.c (i := 6) rfl; have HP2 : Hid (Old w1 ((w2.alloc (.cells Tryz.zeroCells113 113)).setRow w2.heap.size SA)) := Old.row ((Old.trans HO1.out g2).alloc _) (Nat.le_of_lt hz3) _; clear g2) | ((with_reducible refine store_sg HN.out (SA) hSA.out ?_ ?_ ?_); exact rfl; exact rfl; simp only [Act.put]) | ((with_reducible refine load_sg HN2.out ?_ ?_); exact rfl; simp only [Act.put, List.setIfInBounds_toArray, List.set_cons_succ, List.set_cons_zero]) | (go_at_call 89; refine (CH _ HP2.out).mono ?_; rintro e w3 ⟨rfl, g3⟩; have R4 : Hid (Bk w3 (w.heap.size + 1 + 1) #[.bool false, .slice none 0 0] 31) := R3.out.old g3; have HO3 : Hid (Old w w3) := Old.trans HO2.out g3; clear g3) | (go_at_call 79; refine (CW _).mono ?_; rintro e w4 ⟨v4, rfl, g4, o4⟩; have R5 : Hid (Bk w4 (w.heap.size + 1 + 1) #[.bool false, .slice none 0 0] 31) := R4.out.old g4; have HO4 : Hid (Old w w4) := Old.trans HO3.out g4; have hz4 : w.heap.size + 1 + 1 < w3.heap.size := R4.out.lt; have y0 := R5.out.c (i := 0) rfl; have y1 := R5.out.c (i := 1) rfl; have f0 := frozen_of_row _ _ 0 _ _ R5.out; have f1 := frozen_of_row _ _ 1 _ _ R5.out; have O4 : Hid (Own w4 w3.heap.size v4 (toI DV)) := o4; obtain ⟨x4, m4, rfl⟩ := (Own.row o4).slice; clear g4 o4))
      have HF := bk_putW R5.out (.bool false) (.slice x4 (toI DV).length m4)
      have q0 := HF.c (i := 0) rfl
      have q1 := HF.c (i := 1) rfl
      refine bodyPost_ret (v := .tuple #[.agg #[.bool false, .slice x4 (toI DV).length m4], .bool true]) (by simp [results, Tryz.results88, go_sem, q0, q1]) rfl ?_
      rw [HB.out.1, HB.out.2]
      refine ⟨_, rfl, (HO4.out.own (p := ⟨w.heap.size + 1 + 1, 0, none⟩) (by simp; omega) _).own (p := ⟨w.heap.size + 1 + 1, 1, none⟩) (by simp; omega) _, ?_⟩
      refine own_farB (Own.low O4.out (by omega)) (fun b hb => ?_)
      have hlt := (O4.out.lt b hb).1
      exact (heap_setCell_other _ ⟨w.heap.size + 1 + 1, 1, none⟩ b _ (by show b ≠ w.heap.size + 1 + 1; omega)).trans (heap_setCell_other _ ⟨w.heap.size + 1 + 1, 0, none⟩ b _ (by show b ≠ w.heap.size + 1 + 1; omega))
end Go.Proofs.YtpcpahgflkjnaaaGreatDoor
/- Proved: the model's NoiseLimit, FreshBound, AddPlainBound, MulPlainBound, SwitchBound and MulBound. -/
namespace Go.Proofs.YtpcpahgflkjnaaaGreatDoor
open Go.ChangeShapes Go.WideShapes Go.ChangeAt Go.RowKit
open M2
set_option linter.unusedVariables false
set_option linter.unusedSimpArgs false
set_option maxRecDepth 100000 in
set_option maxHeartbeats 4000000 in
theorem spec_AddPlainBound_no (N T E : Int) (a0 : Option Addr) (l0 c0 : Nat) (nb : Bool) (a1 : Option Addr) (l1 c1 : Nat) (w : World) (KB : ∀ W, Old w W → Calls Tryz.prog 84 #[.agg #[.int .i64 N, .int .i64 T, .int .i64 E, .slice a0 l0 c0], .agg #[.bool nb, .slice a1 l1 c1]] W fun e w' => e = .returned (.bool false) ∧ Old W w') :
    Calls Tryz.prog 34 #[.agg #[.int .i64 N, .int .i64 T, .int .i64 E, .slice a0 l0 c0], .agg #[.bool nb, .slice a1 l1 c1]] w (WhA [] false w) := by
  have HA : Hid (Old w (((w.alloc (.cells #[.int .i64 N, .int .i64 T, .int .i64 E, .slice a0 l0 c0] 34)).alloc (.cells #[.bool nb, .slice a1 l1 c1] 31)).alloc (.cells #[.bool false, .slice none 0 0] 31))) := (((Old.refl w).alloc _).alloc _).alloc _
  have BP : Hid (Bk (((w.alloc (.cells #[.int .i64 N, .int .i64 T, .int .i64 E, .slice a0 l0 c0] 34)).alloc (.cells #[.bool nb, .slice a1 l1 c1] 31)).alloc (.cells #[.bool false, .slice none 0 0] 31)) w.heap.size #[.int .i64 N, .int .i64 T, .int .i64 E, .slice a0 l0 c0] 34) := ((Bk.new' w _ _ rfl).alloc _).alloc _
  have BW : Hid (Bk (((w.alloc (.cells #[.int .i64 N, .int .i64 T, .int .i64 E, .slice a0 l0 c0] 34)).alloc (.cells #[.bool nb, .slice a1 l1 c1] 31)).alloc (.cells #[.bool false, .slice none 0 0] 31)) (w.heap.size + 1) #[.bool nb, .slice a1 l1 c1] 31) := (Bk.new' _ _ _ (by simp)).alloc _
  have BR : Hid (Bk (((w.alloc (.cells #[.int .i64 N, .int .i64 T, .int .i64 E, .slice a0 l0 c0] 34)).alloc (.cells #[.bool nb, .slice a1 l1 c1] 31)).alloc (.cells #[.bool false, .slice none 0 0] 31)) (w.heap.size + 1 + 1) #[.bool false, .slice none 0 0] 31) := Bk.new' _ _ _ (by simp)
  generalize hwA : (((w.alloc (.cells #[.int .i64 N, .int .i64 T, .int .i64 E, .slice a0 l0 c0] 34)).alloc (.cells #[.bool nb, .slice a1 l1 c1] 31)).alloc (.cells #[.bool false, .slice none 0 0] 31)) = wA at HA BP BW BR
  have p0 := BP.out.c (i := 0) rfl
  have p1 := BP.out.c (i := 1) rfl
  have p2 := BP.out.c (i := 2) rfl
  have p3 := BP.out.c (i := 3) rfl
  have u0 := BW.out.c (i := 0) rfl
  have u1 := BW.out.c (i := 1) rfl
  go_enter Tryz.func34, Tryz.ntmps34
  go_wp2_with fail
  refine (KB _ HA.out).mono ?_
  rintro e w1 ⟨rfl, g1⟩
  have HO1 : Hid (Old w w1) := Old.trans HA.out g1
  have R1 : Hid (Bk w1 (w.heap.size + 1 + 1) #[.bool false, .slice none 0 0] 31) := BR.out.old g1
  clear g1 p0 p1 p2 p3 u0 u1
  have y0 := R1.out.c (i := 0) rfl
  have y1 := R1.out.c (i := 1) rfl
  have f0 := frozen_of_row _ _ 0 _ _ R1.out
  have f1 := frozen_of_row _ _ 1 _ _ R1.out
  go_wp2_with fail
  have HF := bk_putW R1.out (.bool false) (.slice none 0 0)
  have q0 := HF.c (i := 0) rfl
  have q1 := HF.c (i := 1) rfl
  refine bodyPost_ret (v := .tuple #[.agg #[.bool false, .slice none 0 0], .bool false]) (by simp [results, Tryz.results34, go_sem, q0, q1]) rfl ?_
  exact ⟨_, rfl, (HO1.out.own (p := ⟨w.heap.size + 1 + 1, 0, none⟩) (by simp; try omega) _).own (p := ⟨w.heap.size + 1 + 1, 1, none⟩) (by simp; try omega) _, nil_own _ _⟩
set_option maxRecDepth 100000 in
set_option maxHeartbeats 4000000 in
theorem spec_AddPlainBound_yes (Nn Tn En : Nat) (P : List Nat) (a0 : Option Addr) (l0 c0 : Nat) (nb : Bool) (a1 : Option Addr) (l1 c1 : Nat) (n : Nat) (w : World) (hv : Row w (.slice a0 l0 c0) (toZ P)) (hb : Bas P) (hN : 2 ≤ Nn ∧ Nn ≤ 16) (hT : 2 ≤ Tn ∧ Tn ≤ 65536) (hE : 1 ≤ En ∧ En ≤ 16) (hn : RwD n w (.slice a1 l1 c1)) (hcn : cnt n ≤ 40) (KB : ∀ W, Old w W → Calls Tryz.prog 84 #[.agg #[.int .i64 (Nn : Int), .int .i64 (Tn : Int), .int .i64 (En : Int), .slice a0 l0 c0], .agg #[.bool nb, .slice a1 l1 c1]] W fun e w' => e = .returned (.bool true) ∧ Old W w') :
    Calls Tryz.prog 34 #[.agg #[.int .i64 (Nn : Int), .int .i64 (Tn : Int), .int .i64 (En : Int), .slice a0 l0 c0], .agg #[.bool nb, .slice a1 l1 c1]] w (WhA (dig (cutN (prodN P) (n + plN (prodN P) Tn))) true w) := by
  have HV : Hid (Row w (.slice a0 l0 c0) (toZ P)) := hv
  have HRN : Hid (RwD n w (.slice a1 l1 c1)) := hn
  have hp := plN_bd (q := prodN P) hT
  have e3 := plN_int (q := prodN P) hT.1
  clear hn hv
  have HA : Hid (Old w (((w.alloc (.cells #[.int .i64 (Nn : Int), .int .i64 (Tn : Int), .int .i64 (En : Int), .slice a0 l0 c0] 34)).alloc (.cells #[.bool nb, .slice a1 l1 c1] 31)).alloc (.cells #[.bool false, .slice none 0 0] 31))) := (((Old.refl w).alloc _).alloc _).alloc _
  have BP : Hid (Bk (((w.alloc (.cells #[.int .i64 (Nn : Int), .int .i64 (Tn : Int), .int .i64 (En : Int), .slice a0 l0 c0] 34)).alloc (.cells #[.bool nb, .slice a1 l1 c1] 31)).alloc (.cells #[.bool false, .slice none 0 0] 31)) w.heap.size #[.int .i64 (Nn : Int), .int .i64 (Tn : Int), .int .i64 (En : Int), .slice a0 l0 c0] 34) := ((Bk.new' w _ _ rfl).alloc _).alloc _
  have BW : Hid (Bk (((w.alloc (.cells #[.int .i64 (Nn : Int), .int .i64 (Tn : Int), .int .i64 (En : Int), .slice a0 l0 c0] 34)).alloc (.cells #[.bool nb, .slice a1 l1 c1] 31)).alloc (.cells #[.bool false, .slice none 0 0] 31)) (w.heap.size + 1) #[.bool nb, .slice a1 l1 c1] 31) := (Bk.new' _ _ _ (by simp)).alloc _
  have BR : Hid (Bk (((w.alloc (.cells #[.int .i64 (Nn : Int), .int .i64 (Tn : Int), .int .i64 (En : Int), .slice a0 l0 c0] 34)).alloc (.cells #[.bool nb, .slice a1 l1 c1] 31)).alloc (.cells #[.bool false, .slice none 0 0] 31)) (w.heap.size + 1 + 1) #[.bool false, .slice none 0 0] 31) := Bk.new' _ _ _ (by simp)
  generalize hwA : (((w.alloc (.cells #[.int .i64 (Nn : Int), .int .i64 (Tn : Int), .int .i64 (En : Int), .slice a0 l0 c0] 34)).alloc (.cells #[.bool nb, .slice a1 l1 c1] 31)).alloc (.cells #[.bool false, .slice none 0 0] 31)) = wA at HA BP BW BR
  have p0 := BP.out.c (i := 0) rfl
  have p1 := BP.out.c (i := 1) rfl
  have p2 := BP.out.c (i := 2) rfl
  have p3 := BP.out.c (i := 3) rfl
  have u0 := BW.out.c (i := 0) rfl
  have u1 := BW.out.c (i := 1) rfl
  go_enter Tryz.func34, Tryz.ntmps34
  go_wp2_with fail
  refine (KB _ HA.out).mono ?_
  rintro e wB ⟨rfl, g1⟩
  replace HA : Hid (Old w wB) := Old.trans HA.out g1
  replace BP : Hid (Bk wB w.heap.size #[.int .i64 (Nn : Int), .int .i64 (Tn : Int), .int .i64 (En : Int), .slice a0 l0 c0] 34) := BP.out.old g1
  replace BW : Hid (Bk wB (w.heap.size + 1) #[.bool nb, .slice a1 l1 c1] 31) := BW.out.old g1
  replace BR : Hid (Bk wB (w.heap.size + 1 + 1) #[.bool false, .slice none 0 0] 31) := BR.out.old g1
  clear g1 p0 p1 p2 p3 u0 u1 hwA
  go_wp2_with fail
  refine reg_Mf wB Nn Tn En a0 l0 c0 w.heap.size (w.heap.size + 1) nb a1 l1 c1 (w.heap.size + 1 + 1) ((prodN P % Tn : Nat) : Int) (RwD (plN (prodN P) Tn)) (RwD (n + plN (prodN P) Tn)) (WhT wB.heap.size (cutN (prodN P) (n + plN (prodN P) Tn))) (WhP wB.heap.size (cutN (prodN P) (n + plN (prodN P) Tn))) (fun W W' v h q => h.old q) (fun W W' v h q => h.old q) (fun W W' v h q => h.old q) (fun W W' v h q => h.old q) (fun W x h => h.tup) (fun W x h => h.agg) BP.out BR.out BW.out (by omega) (by rw [e3]; omega) (fun W g => l11R_n Nn Tn En P a0 l0 c0 W (HV.out.old (Old.trans HA.out g)) hb hT) (fun W g => by rw [e3]; exact of_n _ W (by omega)) (fun W g u1 h1 => add_n n _ _ u1 W (HRN.out.old (Old.trans HA.out g)) h1 (by omega) (Nat.le_trans (cnt_w (by omega)) (by omega))) (fun W g u1 h1 => (l11Out_n Nn Tn En P a0 l0 c0 _ u1 W (HV.out.old (Old.trans HA.out g)) hb h1 (Nat.le_trans (cnt_addL (k := 40) (by omega) (Nat.le_trans (cnt_w (by omega)) (by omega))) (by omega))).mono fun e w' h => by obtain ⟨x, e1, g1, h1⟩ := h; exact ⟨x, e1, g1, h1.low g.size⟩) _ _ ?_ ?_ ?_ ?_ ?_
  iterate 4 (· exact rfl)
  intro us W cs q hpc
  obtain ⟨oa, oc, ecs, o4⟩ := hpc
  obtain rfl : cs = #[.bool false, .slice oa (dig (cutN (prodN P) (n + plN (prodN P) Tn))).length oc] := by simpa using ecs
  have HO4 : Hid (Old w W) := Old.trans HA.out q
  have hz : W.heap[w.heap.size + 1 + 1]? = some (.cells #[.bool false, .slice none 0 0] 31 (0, 0)) := BR.out.old q
  have HF : Bk (W.setRow (w.heap.size + 1 + 1) #[.bool false, .slice oa (dig (cutN (prodN P) (n + plN (prodN P) Tn))).length oc]) (w.heap.size + 1 + 1) #[.bool false, .slice oa (dig (cutN (prodN P) (n + plN (prodN P) Tn))).length oc] 31 := heap_setRow_same hz
  have hz4 : w.heap.size + 1 + 1 < wB.heap.size := BR.out.lt
  have O4 : Hid (Own W wB.heap.size (.slice oa (dig (cutN (prodN P) (n + plN (prodN P) Tn))).length oc) (toI (dig (cutN (prodN P) (n + plN (prodN P) Tn))))) := o4
  simp only [putAll, Act.put, slotMf, List.range, List.range.loop, List.map_cons, List.map_nil, List.getD_cons_zero, List.getD_cons_succ, List.setIfInBounds_toArray, List.set_cons_succ, List.set_cons_zero]
  clear q ecs o4
  go_wp2_with fail
  have q0 := HF.c (i := 0) rfl
  have q1 := HF.c (i := 1) rfl
  refine bodyPost_ret (v := .tuple #[.agg #[.bool false, .slice oa (dig (cutN (prodN P) (n + plN (prodN P) Tn))).length oc], .bool true]) (by simp [results, Tryz.results34, go_sem, q0, q1]) rfl ?_
  refine ⟨_, rfl, old_setRow HO4.out (by omega) _, ?_⟩
  refine own_farB (Own.low O4.out (by omega)) (fun b hb => ?_)
  have hlt := (O4.out.lt b hb).1
  exact heap_setRow_other _ _ _ _ (by omega)
end Go.Proofs.YtpcpahgflkjnaaaGreatDoor
/- Proved: the program's AddPlainBound, MulPlainBound, SwitchBound, NoiseLimit and FreshBound. -/
namespace Go.Proofs.YtpcpahgflkjnaaaGreatDoor
open Go.ChangeShapes Go.WideShapes Go.ChangeAt Go.RowKit
open M2
set_option linter.unusedVariables false
set_option linter.unusedSimpArgs false
set_option maxRecDepth 100000 in
set_option maxHeartbeats 4000000 in
theorem impl_AddPlainBound_of (N T E : Int) (ps : List Int) (a0 : Option Addr) (c0 : Nat) (nb : Bool) (a1 : Option Addr) (l1 c1 : Nat) (D : List Nat) (ok : Bool) (w : World) (KB : ∀ W, Old w W → Calls Tryz.prog 88 #[.agg #[.int .i64 N, .int .i64 T, .int .i64 E, .slice a0 ps.length c0], .agg #[.bool nb, .slice a1 l1 c1], .func (.func 89) #[] #[]] W (WhA D ok W)) :
    Calls Tryz.prog 36 #[.agg #[.int .i64 N, .int .i64 T, .int .i64 E, .slice a0 ps.length c0], .agg #[.bool nb, .slice a1 l1 c1]] w (WhA D ok w) := by
  have HA : Hid (Old w (((w.alloc (.cells #[.int .i64 N, .int .i64 T, .int .i64 E, .slice a0 ps.length c0] 34)).alloc (.cells #[.bool nb, .slice a1 l1 c1] 31)).alloc (.cells #[.bool false, .slice none 0 0] 31))) := (((Old.refl w).alloc _).alloc _).alloc _
  have BP : Hid (Bk (((w.alloc (.cells #[.int .i64 N, .int .i64 T, .int .i64 E, .slice a0 ps.length c0] 34)).alloc (.cells #[.bool nb, .slice a1 l1 c1] 31)).alloc (.cells #[.bool false, .slice none 0 0] 31)) w.heap.size #[.int .i64 N, .int .i64 T, .int .i64 E, .slice a0 ps.length c0] 34) := ((Bk.new' w _ _ rfl).alloc _).alloc _
  have BW : Hid (Bk (((w.alloc (.cells #[.int .i64 N, .int .i64 T, .int .i64 E, .slice a0 ps.length c0] 34)).alloc (.cells #[.bool nb, .slice a1 l1 c1] 31)).alloc (.cells #[.bool false, .slice none 0 0] 31)) (w.heap.size + 1) #[.bool nb, .slice a1 l1 c1] 31) := (Bk.new' _ _ _ (by simp)).alloc _
  have BR : Hid (Bk (((w.alloc (.cells #[.int .i64 N, .int .i64 T, .int .i64 E, .slice a0 ps.length c0] 34)).alloc (.cells #[.bool nb, .slice a1 l1 c1] 31)).alloc (.cells #[.bool false, .slice none 0 0] 31)) (w.heap.size + 1 + 1) #[.bool false, .slice none 0 0] 31) := Bk.new' _ _ _ (by simp)
  generalize hwA : (((w.alloc (.cells #[.int .i64 N, .int .i64 T, .int .i64 E, .slice a0 ps.length c0] 34)).alloc (.cells #[.bool nb, .slice a1 l1 c1] 31)).alloc (.cells #[.bool false, .slice none 0 0] 31)) = wA at HA BP BW BR
  have p0 := BP.out.c (i := 0) rfl
  have p1 := BP.out.c (i := 1) rfl
  have p2 := BP.out.c (i := 2) rfl
  have p3 := BP.out.c (i := 3) rfl
  have u0 := BW.out.c (i := 0) rfl
  have u1 := BW.out.c (i := 1) rfl
  go_enter Tryz.func36, Tryz.ntmps36
  go_wp2_with fail
  refine (KB _ HA.out).mono ?_
  rintro e w4 ⟨v4, rfl, g4, o4⟩
  have R5 : Hid (Bk w4 (w.heap.size + 1 + 1) #[.bool false, .slice none 0 0] 31) := BR.out.old g4
  have HO4 : Hid (Old w w4) := Old.trans HA.out g4
  have hz4 : w.heap.size + 1 + 1 < wA.heap.size := BR.out.lt
  have y0 := R5.out.c (i := 0) rfl
  have y1 := R5.out.c (i := 1) rfl
  have f0 := frozen_of_row _ _ 0 _ _ R5.out
  have f1 := frozen_of_row _ _ 1 _ _ R5.out
  have O4 : Hid (Own w4 wA.heap.size v4 (toI D)) := o4
  obtain ⟨x4, m4, rfl⟩ := (Own.row o4).slice
  clear g4 o4 KB p0 p1 p2 p3 u0 u1
  go_wp2_with fail
  have HF := bk_putW R5.out (.bool false) (.slice x4 (toI D).length m4)
  have q0 := HF.c (i := 0) rfl
  have q1 := HF.c (i := 1) rfl
  refine bodyPost_ret (v := .tuple #[.agg #[.bool false, .slice x4 (toI D).length m4], .bool ok]) (by simp [results, Tryz.results36, go_sem, q0, q1]) rfl ?_
  refine ⟨_, rfl, (HO4.out.own (p := ⟨w.heap.size + 1 + 1, 0, none⟩) (by simp; omega) _).own (p := ⟨w.heap.size + 1 + 1, 1, none⟩) (by simp; omega) _, ?_⟩
  refine own_farB (Own.low O4.out (by omega)) (fun b hb => ?_)
  have hlt := (O4.out.lt b hb).1
  exact (heap_setCell_other _ ⟨w.heap.size + 1 + 1, 1, none⟩ b _ (by show b ≠ w.heap.size + 1 + 1; omega)).trans (heap_setCell_other _ ⟨w.heap.size + 1 + 1, 0, none⟩ b _ (by show b ≠ w.heap.size + 1 + 1; omega))
end Go.Proofs.YtpcpahgflkjnaaaGreatDoor
/- Proved: the statement on AddPlainBound at every argument, in a world in which the two tables are laid. -/
namespace Go.Proofs.YtpcpahgflkjnaaaGreatDoor
open Go.ChangeShapes Go.WideShapes Go.ChangeAt Go.RowKit
open M2
set_option linter.unusedVariables false
set_option linter.unusedSimpArgs false
theorem AddPlainBound_any (N T E : Int) (xs : List Int) (nb : Bool) (ys : List Int) (v u : Value) (w : World) (hv : Row w v xs) (hl : xs.length ≤ 9223372036854775807) (hx : ∀ x ∈ xs, -9223372036854775808 ≤ x ∧ x ≤ 9223372036854775807) (hu : Row w u ys) (hlu : ys.length ≤ 9223372036854775807) (hP : PrsW w) (hT : TabW w) :
    Calls Tryz.prog 6 #[.agg #[.int .i64 N, .int .i64 T, .int .i64 E, v], .agg #[.bool nb, u]] w fun e w' => e = .returned (.bool true) ∧ Old w w' := by
  obtain ⟨a0, c0, rfl⟩ := hv.slice
  obtain ⟨a1, c1, rfl⟩ := hu.slice
  have bnd : ∀ {A : Prop}, ¬ leftN 1048576 xs.length < 0 → ¬ leftN (leftN 1048576 xs.length) ys.length < 0 → (xs.length ≤ 1048576 → ys.length ≤ 1048576 → A) → A := fun h1 h2 k => by
    obtain ⟨q1, q2, q3⟩ := leftN_ok h1 (by omega)
    obtain ⟨q4, q5, q6⟩ := leftN_ok h2 q3
    exact k (by omega) (by omega)
  obtain ⟨V, hV⟩ : ∃ V : Nat → Nat, ∀ n, V n = cutN (prodN (xs.map Int.toNat)) (n + plN (prodN (xs.map Int.toNat)) T.toNat) := ⟨_, fun _ => rfl⟩
  obtain ⟨D, ok, hy, hn, hD⟩ : ∃ (D : List Nat) (ok : Bool), ((prB N T E xs && bdB (prodN (xs.map Int.toNat)) nb ys) = true → D = dig (V (val (nat ys))) ∧ ok = true) ∧ ((prB N T E xs && bdB (prodN (xs.map Int.toNat)) nb ys) = false → D = [] ∧ ok = false) ∧ D.length ≤ 40 := by
    cases h : (prB N T E xs && bdB (prodN (xs.map Int.toNat)) nb ys)
    · exact ⟨[], false, (fun h => by cases h), (fun _ => ⟨rfl, rfl⟩), by simp⟩
    · rw [Bool.and_eq_true] at h
      obtain ⟨Nn, Tn, En, P, _, _, _, _, hb, _, _, _, hPn, _⟩ := prB_nat h.1
      refine ⟨dig (V (val (nat ys))), true, (fun _ => ⟨rfl, rfl⟩), (fun h => by cases h), ?_⟩
      have h1 : cnt (V (val (nat ys))) ≤ 7 := by
        rw [hV, hPn]
        exact Nat.le_trans (cnt_mono cutN_le) hb.cnt
      unfold cnt at h1
      omega
  have eD : (toI D).length = D.length := toI_len D
  refine law9_AddPlainBound w N T E xs.length a0 c0 nb ys.length a1 c1 false (toI D).length ok (leftN 1048576 xs.length) (leftN (leftN 1048576 xs.length) ys.length)
    (fun W g => kp_sz N T E a0 xs.length c0 1048576 W hl (by omega) (by omega))
    (fun h W g => by
      obtain ⟨q1, q2, q3⟩ := leftN_ok h (by omega)
      exact kw_sz nb a1 ys.length c1 _ W hlu q3 (by omega))
    (XP N T E xs) (far_XP N T E xs) shape_XP (fun h0 h1 W g => bnd h0 h1 fun h3 _ => kp_to N T E xs _ W (hv.old g) h3) (fun h0 h1 W lo hi g lo' hi' g' k k' => bnd h0 h1 fun h3 _ => kp_eq N T E xs W lo hi g lo' hi' g' k k' (by omega))
    (1 + xs.length) (by omega) (fun h0 h1 W lo hi g k => bnd h0 h1 fun h3 _ => kp_mark N T E xs 1 W lo hi g k h3 (by omega) (by omega))
    (XW nb ys) (far_XW nb ys) shape_XW (fun h1 h2 W g => bnd h1 h2 fun h3 h4 => kw_to nb ys _ W (hu.old g) h4) (fun h1 h2 W lo hi g lo' hi' g' k k' => bnd h1 h2 fun h3 h4 => kw_eq nb ys W lo hi g lo' hi' g' k k' (by omega))
    (1 + xs.length + ys.length) (by omega) (fun h1 h2 W lo hi g k => bnd h1 h2 fun h3 h4 => kw_mark nb ys _ W lo hi g k h4 (by omega) (by omega))
    (XW false (toI D)) (far_XW _ _) shape_XW (XW false (toI D)) (far_XW _ _) shape_XW (XWm false (toI D).length) (far_XWm _ _) shape_XWm
    (fun h0 h1 W lo hi g lo1 hi1 g1 k k1 q => bnd h0 h1 fun _ h4 => ?_) (fun h0 h1 W lo hi g lo1 hi1 g1 k k1 q => bnd h0 h1 fun _ h4 => ?_)
    (fun h0 h1 W lo hi p lo' hi' p' k k' => kw_eq false (toI D) W lo hi p lo' hi' p' k k' (by omega))
    (1 + (toI D).length) (by omega) (fun h0 h1 W lo hi p k => kw_mark2 false (toI D) W lo hi p k (by omega))
    (fun h0 h1 W lo hi p k => kw_held false (toI D).length W lo hi p k (by omega))
  · obtain ⟨a, c, rfl, o, f⟩ := k
    obtain ⟨a', c', rfl, o'⟩ := k1
    refine Calls.mono ?_ (fun e w' h => WhA.res h)
    have KB := fun W' (q' : Old W W') => l11Bound_n N T E xs a c nb ys a' c' W' (o.row.old q') f hl hx (o'.row.old q') h4
    cases hB : (prB N T E xs && bdB (prodN (xs.map Int.toNat)) nb ys)
    · obtain ⟨rfl, rfl⟩ := hn hB
      rw [hB] at KB
      exact spec_AddPlainBound_no N T E a xs.length c nb a' ys.length c' W KB
    · obtain ⟨rfl, rfl⟩ := hy hB
      rw [hB] at KB
      rw [Bool.and_eq_true] at hB
      obtain ⟨hg, rfl, hle⟩ := bdB_yes hB.2
      obtain ⟨Nn, Tn, En, P, rfl, rfl, rfl, hz, hb, hN, hTn, hE, hPn, h0', hlx, hpx⟩ := prB_nat hB.1
      obtain ⟨hr, hcy⟩ := rwd_good hg o'.row
      rw [hV, hPn]
      rw [show ((Tn : Int).toNat) = Tn by omega]
      exact spec_AddPlainBound_yes Nn Tn En P a xs.length c false a' ys.length c' _ W (by rw [← hz]; exact o.row) hb hN hTn hE hr hcy KB
  · obtain ⟨a, c, rfl, o, f⟩ := k
    obtain ⟨a', c', rfl, o'⟩ := k1
    refine Calls.mono ?_ (fun e w' h => WhA.res h)
    refine impl_AddPlainBound_of N T E xs a c nb a' ys.length c' D ok W (fun W' q' => ?_)
    refine boundBy_plus N T E xs _ nb ys _ V W' (hP.old (Old.trans q q')) (hT.old (Old.trans q q')) (o.row.old q') f hl (o'.row.old q') h4 (fun hB n => ?_) (fun hB W2 g al l cc n q2 hr hcn => ?_) D ok hy hn
    · obtain ⟨Nn, Tn, En, P, _, _, _, _, hb, _, _, _, hPn, _⟩ := prB_nat hB
      rw [hV, hPn]
      exact Nat.le_trans (cnt_mono cutN_le) hb.cnt
    · obtain ⟨Nn, Tn, En, P, rfl, rfl, rfl, hz, hb, hN, hTn, hE, hPn, h0', hlx, hpx⟩ := prB_nat hB
      rw [hPn] at hr
      rw [hV, hPn]
      rw [show ((Tn : Int).toNat) = Tn by omega]
      exact plus_n Nn Tn En a xs.length c _ _ _ al l cc (prodN P) n W2 hb.cnt hr hTn (by omega)
end Go.Proofs.YtpcpahgflkjnaaaGreatDoor
