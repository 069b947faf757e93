/- Proved: several texts in one: what each proves is said ahead of it. -/
import Derived.Test.YtpcpahgflkjnaaaGreatDoorB52
import Derived.Test.YtpcpahgflkjnaaaGreatDoorB05
import Derived.Test.YtpcpahgflkjnaaaGreatDoorMlr
import Derived.Test.YtpcpahgflkjnaaaGreatDoorB07
import Derived.KernelRfl
import Derived.Test.YtpcpahgflkjnaaaGreatDoorB30
import Derived.Test.YtpcpahgflkjnaaaGreatDoorNtq6
import Derived.Test.YtpcpahgflkjnaaaGreatDoorImpBits
import Derived.Test.YtpcpahgflkjnaaaGreatDoorLawBudgetOf
/- Proved: the model's MulBound and BudgetOf. -/
namespace Go.Proofs.YtpcpahgflkjnaaaGreatDoor
open Go.ChangeShapes Go.WideShapes Go.ChangeAt Go.RowKit
open M2
set_option linter.unusedVariables false
set_option linter.unusedSimpArgs false
set_option maxRecDepth 100000 in
set_option maxHeartbeats 4000000 in
theorem spec_BudgetOf_no (N T E : Int) (a0 : Option Addr) (l0 c0 : Nat) (na : Bool) (a1 : Option Addr) (l1 c1 : Nat) (w : World) (KA : ∀ W, Old w W → Calls Tryz.prog 84 #[.agg #[.int .i64 N, .int .i64 T, .int .i64 E, .slice a0 l0 c0], .agg #[.bool na, .slice a1 l1 c1]] W fun e w' => e = .returned (.bool false) ∧ Old W w') :
    Calls Tryz.prog 43 #[.agg #[.int .i64 N, .int .i64 T, .int .i64 E, .slice a0 l0 c0], .agg #[.bool na, .slice a1 l1 c1]] w fun e w' => e = .returned (.tuple #[.int .i64 0, .bool false]) ∧ Old w w' := by
  have HA : Hid (Old w ((w.alloc (.cells #[.int .i64 N, .int .i64 T, .int .i64 E, .slice a0 l0 c0] 34)).alloc (.cells #[.bool na, .slice a1 l1 c1] 31))) := ((Old.refl w).alloc _).alloc _
  have BP : Hid (Bk ((w.alloc (.cells #[.int .i64 N, .int .i64 T, .int .i64 E, .slice a0 l0 c0] 34)).alloc (.cells #[.bool na, .slice a1 l1 c1] 31)) w.heap.size #[.int .i64 N, .int .i64 T, .int .i64 E, .slice a0 l0 c0] 34) := (Bk.new' w _ _ rfl).alloc _
  have BA : Hid (Bk ((w.alloc (.cells #[.int .i64 N, .int .i64 T, .int .i64 E, .slice a0 l0 c0] 34)).alloc (.cells #[.bool na, .slice a1 l1 c1] 31)) (w.heap.size + 1) #[.bool na, .slice a1 l1 c1] 31) := Bk.new' _ _ _ (by simp)
  generalize hwA : ((w.alloc (.cells #[.int .i64 N, .int .i64 T, .int .i64 E, .slice a0 l0 c0] 34)).alloc (.cells #[.bool na, .slice a1 l1 c1] 31)) = wA at HA BP BA
  have p0 := BP.out.c (i := 0) rfl
  have p1 := BP.out.c (i := 1) rfl
  have p2 := BP.out.c (i := 2) rfl
  have p3 := BP.out.c (i := 3) rfl
  have u0 := BA.out.c (i := 0) rfl
  have u1 := BA.out.c (i := 1) rfl
  go_enter Tryz.func43, Tryz.ntmps43
  go_wp2_with fail
  refine (KA _ HA.out).mono ?_
  rintro e w1 ⟨rfl, g1⟩
  have HO1 : Hid (Old w w1) := Old.trans HA.out g1
  clear g1 p0 p1 p2 p3 u0 u1
  go_wp2_with fail
  refine bodyPost_ret (v := .tuple #[.int .i64 0, .bool false]) (by simp [results, Tryz.results43, go_sem]) rfl ?_
  exact ⟨rfl, HO1.out⟩
theorem lenB_bd {xs : List Nat} (hx : Lim xs) (h : xs.length ≤ 40) : lenB xs ≤ 1048576 := by
  unfold lenB
  split
  · omega
  · have := (bitLen_p (xs.getD (xs.length - 1) 0) (hx.getD _)).1
    omega
theorem budW (x y : Int) : (if x - y < 0 then 0 else x - y) = (if 0 < x - y then x - y else 0) := by
  split <;> split <;> omega
set_option maxRecDepth 100000 in
set_option maxHeartbeats 4000000 in
theorem spec_BudgetOf_yes (Nn Tn En : Nat) (P : List Nat) (a0 : Option Addr) (l0 c0 : Nat) (na : Bool) (a1 : Option Addr) (l1 c1 : Nat) (n : Nat) (w : World) (hv : Row w (.slice a0 l0 c0) (toZ P)) (hb : Bas P) (hN : 2 ≤ Nn ∧ Nn ≤ 16) (hT : 2 ≤ Tn ∧ Tn ≤ 65536) (hE : 1 ≤ En ∧ En ≤ 16) (hn : RwD n w (.slice a1 l1 c1)) (hcn : cnt n ≤ 40) (KA : ∀ W, Old w W → Calls Tryz.prog 84 #[.agg #[.int .i64 (Nn : Int), .int .i64 (Tn : Int), .int .i64 (En : Int), .slice a0 l0 c0], .agg #[.bool na, .slice a1 l1 c1]] W fun e w' => e = .returned (.bool true) ∧ Old W w') :
    Calls Tryz.prog 43 #[.agg #[.int .i64 (Nn : Int), .int .i64 (Tn : Int), .int .i64 (En : Int), .slice a0 l0 c0], .agg #[.bool na, .slice a1 l1 c1]] w fun e w' => e = .returned (.tuple #[.int .i64 (if 0 < ((lenB (dig (limN (prodN P) Tn)) : Nat) : Int) - ((lenB (dig n) : Nat) : Int) then ((lenB (dig (limN (prodN P) Tn)) : Nat) : Int) - ((lenB (dig n) : Nat) : Int) else 0), .bool true]) ∧ Old w w' := by
  have HV : Hid (Row w (.slice a0 l0 c0) (toZ P)) := hv
  have HRN : Hid (RwD n w (.slice a1 l1 c1)) := hn
  have hcq := hb.cnt
  have hcl : cnt (limN (prodN P) Tn) ≤ 7 := by
    unfold limN
    split
    · decide
    · exact Nat.le_trans (cnt_mono (Nat.le_trans (Nat.div_le_self _ _) (Nat.sub_le _ _))) hcq
  have CL := fun W (g : Old w W) => l11Limit_n Nn Tn En P a0 l0 c0 W (HV.out.old g) hb hT
  have CX : ∀ W v, RwD (limN (prodN P) Tn) W v → Calls Tryz.prog 97 #[v] W fun e w' => e = .returned (.int .i64 ((lenB (dig (limN (prodN P) Tn)) : Nat) : Int)) ∧ Old W w' := fun W v h => (length_any _ v W h.row (dig_lim _) (by unfold cnt at hcl; omega)).mono fun e w' h => ⟨h.1, h.2 ▸ Old.refl _⟩
  have CY : ∀ W v, RwD n W v → Calls Tryz.prog 97 #[v] W fun e w' => e = .returned (.int .i64 ((lenB (dig n) : Nat) : Int)) ∧ Old W w' := fun W v h => (length_any _ v W h.row (dig_lim _) (by unfold cnt at hcn; omega)).mono fun e w' h => ⟨h.1, h.2 ▸ Old.refl _⟩
  have bX : lenB (dig (limN (prodN P) Tn)) ≤ 1048576 := lenB_bd (dig_lim _) (by unfold cnt at hcl; omega)
  have bY : lenB (dig n) ≤ 1048576 := lenB_bd (dig_lim _) (by unfold cnt at hcn; omega)
  obtain ⟨x, hx⟩ : ∃ x : Int, x = ((lenB (dig (limN (prodN P) Tn)) : Nat) : Int) := ⟨_, rfl⟩
  obtain ⟨y, hy⟩ : ∃ y : Int, y = ((lenB (dig n) : Nat) : Int) := ⟨_, rfl⟩
  rw [← hx] at CX
  rw [← hy] at CY
  rw [← hx, ← hy]
  obtain ⟨R, hR⟩ : ∃ R : Int, R = (if 0 < x - y then x - y else 0) := ⟨_, rfl⟩
  rw [← hR]
  rw [← budW] at hR
  have HR1 : Hid (x - y < 0 → R = 0) := fun h => by rw [hR, if_pos h]
  have HR2 : Hid (¬ x - y < 0 → R = x - y) := fun h => by rw [hR, if_neg h]
  clear hR
  have BX : Hid (0 ≤ x ∧ x ≤ 1048576) := by show _ ∧ _; omega
  have BY : Hid (0 ≤ y ∧ y ≤ 1048576) := by show _ ∧ _; omega
  clear hn hv bX bY hx hy
  have HA : Hid (Old w ((w.alloc (.cells #[.int .i64 (Nn : Int), .int .i64 (Tn : Int), .int .i64 (En : Int), .slice a0 l0 c0] 34)).alloc (.cells #[.bool na, .slice a1 l1 c1] 31))) := ((Old.refl w).alloc _).alloc _
  have BP : Hid (Bk ((w.alloc (.cells #[.int .i64 (Nn : Int), .int .i64 (Tn : Int), .int .i64 (En : Int), .slice a0 l0 c0] 34)).alloc (.cells #[.bool na, .slice a1 l1 c1] 31)) w.heap.size #[.int .i64 (Nn : Int), .int .i64 (Tn : Int), .int .i64 (En : Int), .slice a0 l0 c0] 34) := (Bk.new' w _ _ rfl).alloc _
  have BA : Hid (Bk ((w.alloc (.cells #[.int .i64 (Nn : Int), .int .i64 (Tn : Int), .int .i64 (En : Int), .slice a0 l0 c0] 34)).alloc (.cells #[.bool na, .slice a1 l1 c1] 31)) (w.heap.size + 1) #[.bool na, .slice a1 l1 c1] 31) := Bk.new' _ _ _ (by simp)
  generalize hwA : ((w.alloc (.cells #[.int .i64 (Nn : Int), .int .i64 (Tn : Int), .int .i64 (En : Int), .slice a0 l0 c0] 34)).alloc (.cells #[.bool na, .slice a1 l1 c1] 31)) = wA at HA BP BA
  have p0 := BP.out.c (i := 0) rfl
  have p1 := BP.out.c (i := 1) rfl
  have p2 := BP.out.c (i := 2) rfl
  have p3 := BP.out.c (i := 3) rfl
  have u0 := BA.out.c (i := 0) rfl
  have u1 := BA.out.c (i := 1) rfl
  go_enter Tryz.func43, Tryz.ntmps43
  go_wp2_with fail
  refine (KA _ HA.out).mono ?_
  rintro e wB ⟨rfl, g1⟩
  replace HA : Hid (Old w wB) := Old.trans HA.out g1
  replace BP : Hid (Bk wB w.heap.size #[.int .i64 (Nn : Int), .int .i64 (Tn : Int), .int .i64 (En : Int), .slice a0 l0 c0] 34) := BP.out.old g1
  replace BA : Hid (Bk wB (w.heap.size + 1) #[.bool na, .slice a1 l1 c1] 31) := BA.out.old g1
  clear g1 p0 p1 p2 p3 u0 u1 hwA
  go_wp2_with fail
  refine reg_Mk wB Nn Tn En a0 l0 c0 w.heap.size (w.heap.size + 1) na a1 l1 c1 x y (RwD (limN (prodN P) Tn)) (fun W W' v h q => h.old q) BP.out BA.out BX.out BY.out (fun W g => CL W (Old.trans HA.out g)) (fun W g u h => CX W u h) (fun W g => CY W _ (HRN.out.old (Old.trans HA.out g))) _ _ ?_ ?_ ?_ ?_
  iterate 3 (· exact rfl)
  intro us W q e7
  have HO : Hid (Old w W) := Old.trans HA.out q
  simp only [putAll, Act.put, slotMk, List.range, List.range.loop, List.map_cons, List.map_nil, List.getD_cons_zero, List.getD_cons_succ, List.setIfInBounds_toArray, List.set_cons_succ, List.set_cons_zero]
  obtain ⟨z, hz⟩ : ∃ z : Int, x - y = z := ⟨_, rfl⟩
  simp only [e7, hz]
  rw [hz] at HR1 HR2
  clear q e7 CX CY CL hz
  by_cases hlt : z < 0
  · have d1 : decide (z < 0) = true := decide_eq_true hlt
    have HR : Hid (R = 0) := HR1.out hlt
    clear hlt
    go_wp2_with fail
    refine bodyPost_ret (v := .tuple #[.int .i64 0, .bool true]) (by simp [results, Tryz.results43, go_sem]) rfl ?_
    exact ⟨by rw [HR.out], HO.out⟩
  · have d1 : decide (z < 0) = false := decide_eq_false hlt
    have HR : Hid (R = z) := HR2.out (by omega)
    clear hlt
    go_wp2_with fail
    refine bodyPost_ret (v := .tuple #[.int .i64 z, .bool true]) (by simp [results, Tryz.results43, go_sem]) rfl ?_
    exact ⟨by rw [HR.out], HO.out⟩
end Go.Proofs.YtpcpahgflkjnaaaGreatDoor
/- Proved: the program's BudgetOf. -/
namespace Go.Proofs.YtpcpahgflkjnaaaGreatDoor
open Go.ChangeShapes Go.WideShapes Go.ChangeAt Go.RowKit
open M2
set_option linter.unusedVariables false
set_option linter.unusedSimpArgs false
set_option maxRecDepth 100000 in
set_option maxHeartbeats 4000000 in
theorem impl_BudgetOf (N T E : Int) (ps : List Int) (v : Value) (nb : Bool) (ys : List Int) (u : Value) (L : Nat) (w : World) (hP : PrsW w) (hT : TabW w) (hv : Row w v ps) (hf : Fit v) (hlp : ps.length ≤ 9223372036854775807) (hu : Row w u ys) (hly : ys.length ≤ 1048576) (hV : prB N T E ps = true → cnt L ≤ 7)
    (KC : prB N T E ps = true → ∀ W g a l c, Old w W → Row W (.slice a l c) (toI (dig (prodN (ps.map Int.toNat)))) → Calls Tryz.prog 80 #[.agg #[.int .i64 N, .int .i64 T, .int .i64 E, v, .slice (some ⟨g, 0, none⟩) ps.length ps.length, .bool false, .slice a l c]] W fun e w' => e = .returned (.agg (szV L)) ∧ Old W w')
    (R : Int) (ok : Bool) (hy : (prB N T E ps && bdB (prodN (ps.map Int.toNat)) nb ys) = true → R = (if 0 < ((lenB (dig L) : Nat) : Int) - ((lenB (nat ys) : Nat) : Int) then ((lenB (dig L) : Nat) : Int) - ((lenB (nat ys) : Nat) : Int) else 0) ∧ ok = true) (hn : (prB N T E ps && bdB (prodN (ps.map Int.toNat)) nb ys) = false → R = 0 ∧ ok = false) :
    Calls Tryz.prog 44 #[.agg #[.int .i64 N, .int .i64 T, .int .i64 E, v], .agg #[.bool nb, u]] w fun e w' => e = .returned (.tuple #[.int .i64 R, .bool ok]) ∧ Old w w' := by
  have HY : Hid ((prB N T E ps && bdB (prodN (ps.map Int.toNat)) nb ys) = true → R = (if 0 < ((lenB (dig L) : Nat) : Int) - ((lenB (nat ys) : Nat) : Int) then ((lenB (dig L) : Nat) : Int) - ((lenB (nat ys) : Nat) : Int) else 0) ∧ ok = true) := hy
  have HNN : Hid ((prB N T E ps && bdB (prodN (ps.map Int.toNat)) nb ys) = false → R = 0 ∧ ok = false) := hn
  clear hy hn
  obtain ⟨Rf, hRf⟩ := Rings_roots N ps
  have K1 := fun W (g : Old w W) => impl_reckonerOf N T E ps Rf v W (hP.old g) (hT.old g) (hv.old g) hf hlp hRf
  obtain ⟨a0, c0, ev⟩ := hv.slice
  obtain ⟨a1, c1, eu⟩ := hu.slice
  subst ev eu
  have HA : Hid (Old w ((w.alloc (.cells #[.int .i64 N, .int .i64 T, .int .i64 E, .slice a0 ps.length c0] 34)).alloc (.cells #[.bool nb, .slice a1 ys.length c1] 31))) := ((Old.refl w).alloc _).alloc _
  have BA : Hid (Bk ((w.alloc (.cells #[.int .i64 N, .int .i64 T, .int .i64 E, .slice a0 ps.length c0] 34)).alloc (.cells #[.bool nb, .slice a1 ys.length c1] 31)) (w.heap.size + 1) #[.bool nb, .slice a1 ys.length c1] 31) := Bk.new' _ _ _ (by simp)
  have HU : Hid (Row w (.slice a1 ys.length c1) ys) := hu
  have HKC : Hid (prB N T E ps = true → ∀ W g a l c, Old w W → Row W (.slice a l c) (toI (dig (prodN (ps.map Int.toNat)))) → Calls Tryz.prog 80 #[.agg #[.int .i64 N, .int .i64 T, .int .i64 E, .slice a0 ps.length c0, .slice (some ⟨g, 0, none⟩) ps.length ps.length, .bool false, .slice a l c]] W fun e w' => e = .returned (.agg (szV L)) ∧ Old W w') := KC
  have HV : Hid (prB N T E ps = true → cnt L ≤ 7) := hV
  clear hv hf hu hP hT hRf KC hV
  go_enter Tryz.func44, Tryz.ntmps44
  go_wp2_with fail
  refine (K1 _ HA.out).mono ?_
  rintro e w1 ⟨g1, h⟩
  have HG1 : Hid (Old w w1) := Old.trans HA.out g1
  have A1 : Hid (Bk w1 (w.heap.size + 1) #[.bool nb, .slice a1 ys.length c1] 31) := BA.out.old g1
  clear g1 K1 BA HA
  rcases h with ⟨hB, rfl⟩ | ⟨hB, g, a, l, c, hg, rfl, hrg, P, hPz, hbas, hl, ho⟩
  · have HB : Hid (R = 0 ∧ ok = false) := HNN.out (by rw [hB]; rfl)
    obtain ⟨SA, hSA', _, RA'⟩ := readB_n 0 0 0 none 0 0 none 0 0 none 0 0 0 nb ys a1 c1 (by decide) hly
    have hSA : Hid (Sq SA) := hSA'
    have HO : Hid (Old w (w1.alloc (.cells rk0 87))) := HG1.out.alloc _
    have RA := fun W (q : Old (w1.alloc (.cells rk0 87)) W) => RA' W (by rw [dig_zero]; exact .inl ⟨_, _, rfl, rfl⟩) (HU.out.old (Old.trans HO.out q))
    generalize bdB 0 nb ys = bA at *
    clear hB hSA' RA' HKC HV HY HNN
    have HG2 : Hid (Old w (w1.alloc (.cells rk0 87))) := HG1.out.alloc _
    have BX : Hid (Bk (w1.alloc (.cells rk0 87)) w1.heap.size rk0 87) := Bk.new' w1 _ _ rfl
    have BA2 : Hid (Bk (w1.alloc (.cells rk0 87)) (w.heap.size + 1) #[.bool nb, .slice a1 ys.length c1] 31) := A1.out.alloc _
    have HGR : Hid (Old (w1.alloc (.cells rk0 87)) (w1.alloc (.cells rk0 87))) := Old.refl _
    have z0 := BX.out.c (i := 0) rfl
    have z1 := BX.out.c (i := 1) rfl
    have z2 := BX.out.c (i := 2) rfl
    have z3 := BX.out.c (i := 3) rfl
    have z4 := BX.out.c (i := 4) rfl
    have z5 := BX.out.c (i := 5) rfl
    have z6 := BX.out.c (i := 6) rfl
    have u0 := BA2.out.c (i := 0) rfl
    have u1 := BA2.out.c (i := 1) rfl
    go_wp2_with fail
    refine (RA _ HGR.out).mono ?_
    rintro e w2 ⟨rfl, g2⟩
    have hz2 : w.heap.size + 1 < w2.heap.size := Nat.lt_of_lt_of_le BA2.out.lt g2.size
    have hy2 : w1.heap.size < w2.heap.size := Nat.lt_of_lt_of_le BX.out.lt g2.size
    have HN : Hid (Sg (w2.alloc (.cells Tryz.zeroCells113 113)) w2.heap.size Tryz.zeroCells113) := Sg.zero _ _ rfl
    have X3 : Hid (Bk ((w2.alloc (.cells Tryz.zeroCells113 113)).setRow w2.heap.size SA) w1.heap.size rk0 87) := ((BX.out.old g2).alloc _).otherRow (by omega) _
    have BA3 : Hid (Bk ((w2.alloc (.cells Tryz.zeroCells113 113)).setRow w2.heap.size SA) (w.heap.size + 1) #[.bool nb, .slice a1 ys.length c1] 31) := ((BA2.out.old g2).alloc _).otherRow (by omega) _
    have HO2 : Hid (Old w ((w2.alloc (.cells Tryz.zeroCells113 113)).setRow w2.heap.size SA)) := Old.row ((Old.trans HG2.out g2).alloc _) (by omega) _
    have HP2 : Hid (Old (w1.alloc (.cells rk0 87)) ((w2.alloc (.cells Tryz.zeroCells113 113)).setRow w2.heap.size SA)) := Old.row (g2.alloc _) (by simp; omega) _
    clear g2 z0 z1 z2 z3 z4 z5 z6 u0 u1
    go_wp2_with (first | ((with_reducible refine store_sg HN.out (SA) hSA.out ?_ ?_ ?_); exact rfl; exact rfl; simp only [Act.put]))
    refine bodyPost_ret (v := .tuple #[.int .i64 0, .bool false]) (by simp [results, Tryz.results44, go_sem]) rfl ?_
    exact ⟨by rw [HB.out.1, HB.out.2], HO2.out⟩
  · have hPn : ps.map Int.toNat = P := by rw [hPz]; exact toZ_bk11 P
    have hcq : cnt (prodN (ps.map Int.toNat)) ≤ 7 := by rw [hPn]; exact hbas.cnt
    have HQR : Hid (Row w1 (.slice a l c) (toI (dig (prodN (ps.map Int.toNat))))) := by rw [hPn]; exact Own.row ho
    obtain ⟨SA, hSA', hVA, RA'⟩ := readB_n N T E a0 ps.length c0 (some ⟨g, 0, none⟩) ps.length ps.length a l c (prodN (ps.map Int.toNat)) nb ys a1 c1 hcq hly
    have hSA : Hid (Sq SA) := hSA'
    have RA : ∀ W, Old (w1.alloc (.cells #[.int .i64 N, .int .i64 T, .int .i64 E, .slice a0 ps.length c0, .slice (some ⟨g, 0, none⟩) ps.length ps.length, .bool false, .slice a l c] 87)) W → Calls Tryz.prog 93 #[.agg #[.int .i64 N, .int .i64 T, .int .i64 E, .slice a0 ps.length c0, .slice (some ⟨g, 0, none⟩) ps.length ps.length, .bool false, .slice a l c], .agg #[.bool nb, .slice a1 ys.length c1]] W fun e w' => e = .returned (.tuple #[.agg SA, .bool (bdB (prodN (ps.map Int.toNat)) nb ys)]) ∧ Old W w' := fun W q => RA' W (HQR.out.old (Old.trans ((Old.refl w1).alloc _) q)) (HU.out.old (Old.trans (HG1.out.alloc _) q))
    clear hSA' RA'
    cases hbA : bdB (prodN (ps.map Int.toNat)) nb ys
    · have HB : Hid (R = 0 ∧ ok = false) := HNN.out (by rw [hB, hbA]; rfl)
      rw [hbA] at RA
      clear hB hPn hcq hPz hbas ho hrg hg hl HKC HV hVA hbA HY HNN HQR
      have HG2 : Hid (Old w (w1.alloc (.cells #[.int .i64 N, .int .i64 T, .int .i64 E, .slice a0 ps.length c0, .slice (some ⟨g, 0, none⟩) ps.length ps.length, .bool false, .slice a l c] 87))) := HG1.out.alloc _
      have BX : Hid (Bk (w1.alloc (.cells #[.int .i64 N, .int .i64 T, .int .i64 E, .slice a0 ps.length c0, .slice (some ⟨g, 0, none⟩) ps.length ps.length, .bool false, .slice a l c] 87)) w1.heap.size #[.int .i64 N, .int .i64 T, .int .i64 E, .slice a0 ps.length c0, .slice (some ⟨g, 0, none⟩) ps.length ps.length, .bool false, .slice a l c] 87) := Bk.new' w1 _ _ rfl
      have BA2 : Hid (Bk (w1.alloc (.cells #[.int .i64 N, .int .i64 T, .int .i64 E, .slice a0 ps.length c0, .slice (some ⟨g, 0, none⟩) ps.length ps.length, .bool false, .slice a l c] 87)) (w.heap.size + 1) #[.bool nb, .slice a1 ys.length c1] 31) := A1.out.alloc _
      have HGR : Hid (Old (w1.alloc (.cells #[.int .i64 N, .int .i64 T, .int .i64 E, .slice a0 ps.length c0, .slice (some ⟨g, 0, none⟩) ps.length ps.length, .bool false, .slice a l c] 87)) (w1.alloc (.cells #[.int .i64 N, .int .i64 T, .int .i64 E, .slice a0 ps.length c0, .slice (some ⟨g, 0, none⟩) ps.length ps.length, .bool false, .slice a l c] 87))) := Old.refl _
      have z0 := BX.out.c (i := 0) rfl
      have z1 := BX.out.c (i := 1) rfl
      have z2 := BX.out.c (i := 2) rfl
      have z3 := BX.out.c (i := 3) rfl
      have z4 := BX.out.c (i := 4) rfl
      have z5 := BX.out.c (i := 5) rfl
      have z6 := BX.out.c (i := 6) rfl
      have u0 := BA2.out.c (i := 0) rfl
      have u1 := BA2.out.c (i := 1) rfl
      go_wp2_with fail
      refine (RA _ HGR.out).mono ?_
      rintro e w2 ⟨rfl, g2⟩
      have hz2 : w.heap.size + 1 < w2.heap.size := Nat.lt_of_lt_of_le BA2.out.lt g2.size
      have hy2 : w1.heap.size < w2.heap.size := Nat.lt_of_lt_of_le BX.out.lt g2.size
      have HN : Hid (Sg (w2.alloc (.cells Tryz.zeroCells113 113)) w2.heap.size Tryz.zeroCells113) := Sg.zero _ _ rfl
      have X3 : Hid (Bk ((w2.alloc (.cells Tryz.zeroCells113 113)).setRow w2.heap.size SA) w1.heap.size #[.int .i64 N, .int .i64 T, .int .i64 E, .slice a0 ps.length c0, .slice (some ⟨g, 0, none⟩) ps.length ps.length, .bool false, .slice a l c] 87) := ((BX.out.old g2).alloc _).otherRow (by omega) _
      have BA3 : Hid (Bk ((w2.alloc (.cells Tryz.zeroCells113 113)).setRow w2.heap.size SA) (w.heap.size + 1) #[.bool nb, .slice a1 ys.length c1] 31) := ((BA2.out.old g2).alloc _).otherRow (by omega) _
      have HO2 : Hid (Old w ((w2.alloc (.cells Tryz.zeroCells113 113)).setRow w2.heap.size SA)) := Old.row ((Old.trans HG2.out g2).alloc _) (by omega) _
      have HP2 : Hid (Old (w1.alloc (.cells #[.int .i64 N, .int .i64 T, .int .i64 E, .slice a0 ps.length c0, .slice (some ⟨g, 0, none⟩) ps.length ps.length, .bool false, .slice a l c] 87)) ((w2.alloc (.cells Tryz.zeroCells113 113)).setRow w2.heap.size SA)) := Old.row (g2.alloc _) (by simp; omega) _
      clear g2 z0 z1 z2 z3 z4 z5 z6 u0 u1
      go_wp2_with (first | ((with_reducible refine store_sg HN.out (SA) hSA.out ?_ ?_ ?_); exact rfl; exact rfl; simp only [Act.put]))
      refine bodyPost_ret (v := .tuple #[.int .i64 0, .bool false]) (by simp [results, Tryz.results44, go_sem]) rfl ?_
      exact ⟨by rw [HB.out.1, HB.out.2], HO2.out⟩
    obtain ⟨k1, k2, k3⟩ := bdB_yes hbA
    obtain ⟨e1, e2, e3⟩ := good_gw k1
    have hcl := HV.out hB
    have HB : Hid (R = (if 0 < ((lenB (dig L) : Nat) : Int) - ((lenB (nat ys) : Nat) : Int) then ((lenB (dig L) : Nat) : Int) - ((lenB (nat ys) : Nat) : Int) else 0) ∧ ok = true) := HY.out (by rw [hB, hbA]; rfl)
    rw [hbA] at RA
    have eX : bitsW false (toI (dig L)) = ((lenB (dig L) : Nat) : Int) := by
      unfold bitsW
      rw [if_pos (dig_good11 (by omega)), nat_toI11]
    have eY : bitsW nb ys = ((lenB (nat ys) : Nat) : Int) := by
      unfold bitsW
      rw [if_pos k1]
    have CH : ∀ W, Old (w1.alloc (.cells #[.int .i64 N, .int .i64 T, .int .i64 E, .slice a0 ps.length c0, .slice (some ⟨g, 0, none⟩) ps.length ps.length, .bool false, .slice a l c] 87)) W → Calls Tryz.prog 80 #[.agg #[.int .i64 N, .int .i64 T, .int .i64 E, .slice a0 ps.length c0, .slice (some ⟨g, 0, none⟩) ps.length ps.length, .bool false, .slice a l c]] W fun e w' => e = .returned (.agg (szV L)) ∧ Old W w' := fun W q => HKC.out hB W g a l c (Old.trans (HG1.out.alloc _) q) (HQR.out.old (Old.trans ((Old.refl w1).alloc _) q))
    have CW : ∀ W, Calls Tryz.prog 79 #[.bool false, .agg (szV L)] W fun e w' => ∃ v, e = .returned v ∧ Old W w' ∧ WhP W.heap.size L w' v := fun W => (wholeF_any2 L W (by omega)).mono fun e w' h => by
      obtain ⟨v, e1, g, o⟩ := h
      obtain ⟨x, y, e2⟩ := (Own.row o).slice
      rw [toI_len] at e2
      subst e2
      exact ⟨_, e1, g, x, y, rfl, o⟩
    have CX : ∀ W u, WhP 0 L W u → Calls Tryz.prog 98 #[u] W fun e w' => e = .returned (.int .i64 (((lenB (dig L) : Nat) : Int))) ∧ Old W w' := fun W u h => by
      obtain ⟨x, y, rfl, o⟩ := h
      rw [← eX]
      exact impl_bitsOf false (toI (dig L)) _ W (Own.row o) (by rw [toI_len]; unfold cnt at hcl; omega)
    have CY : ∀ W, Old (w1.alloc (.cells #[.int .i64 N, .int .i64 T, .int .i64 E, .slice a0 ps.length c0, .slice (some ⟨g, 0, none⟩) ps.length ps.length, .bool false, .slice a l c] 87)) W → Calls Tryz.prog 98 #[.agg #[.bool nb, .slice a1 ys.length c1]] W fun e w' => e = .returned (.int .i64 (((lenB (nat ys) : Nat) : Int))) ∧ Old W w' := fun W q => by
      rw [← eY]
      exact impl_bitsOf nb ys _ W (HU.out.old (Old.trans (HG1.out.alloc _) q)) hly
    have bX : lenB (dig L) ≤ 1048576 := lenB_bd (dig_lim _) (by unfold cnt at hcl; omega)
    have bY : lenB (nat ys) ≤ 1048576 := lenB_bd e2.1.1 e3
    obtain ⟨x, hx⟩ : ∃ x : Int, x = ((lenB (dig L) : Nat) : Int) := ⟨_, rfl⟩
    obtain ⟨y, hy⟩ : ∃ y : Int, y = ((lenB (nat ys) : Nat) : Int) := ⟨_, rfl⟩
    rw [← hx, ← hy] at HB
    rw [← hx] at CX
    rw [← hy] at CY
    have VX : Hid (0 ≤ x ∧ x ≤ 1048576) := by show _ ∧ _; omega
    have VY : Hid (0 ≤ y ∧ y ≤ 1048576) := by show _ ∧ _; omega
    clear hB hPn hcq hPz hbas ho hrg hg hl HKC HV hVA hbA HY HNN HQR k1 k2 k3 e1 e2 e3 hcl eX eY bX bY hx hy
    generalize szV L = SL at *
    have HG2 : Hid (Old w (w1.alloc (.cells #[.int .i64 N, .int .i64 T, .int .i64 E, .slice a0 ps.length c0, .slice (some ⟨g, 0, none⟩) ps.length ps.length, .bool false, .slice a l c] 87))) := HG1.out.alloc _
    have BX : Hid (Bk (w1.alloc (.cells #[.int .i64 N, .int .i64 T, .int .i64 E, .slice a0 ps.length c0, .slice (some ⟨g, 0, none⟩) ps.length ps.length, .bool false, .slice a l c] 87)) w1.heap.size #[.int .i64 N, .int .i64 T, .int .i64 E, .slice a0 ps.length c0, .slice (some ⟨g, 0, none⟩) ps.length ps.length, .bool false, .slice a l c] 87) := Bk.new' w1 _ _ rfl
    have BA2 : Hid (Bk (w1.alloc (.cells #[.int .i64 N, .int .i64 T, .int .i64 E, .slice a0 ps.length c0, .slice (some ⟨g, 0, none⟩) ps.length ps.length, .bool false, .slice a l c] 87)) (w.heap.size + 1) #[.bool nb, .slice a1 ys.length c1] 31) := A1.out.alloc _
    have HGR : Hid (Old (w1.alloc (.cells #[.int .i64 N, .int .i64 T, .int .i64 E, .slice a0 ps.length c0, .slice (some ⟨g, 0, none⟩) ps.length ps.length, .bool false, .slice a l c] 87)) (w1.alloc (.cells #[.int .i64 N, .int .i64 T, .int .i64 E, .slice a0 ps.length c0, .slice (some ⟨g, 0, none⟩) ps.length ps.length, .bool false, .slice a l c] 87))) := Old.refl _
    have z0 := BX.out.c (i := 0) rfl
    have z1 := BX.out.c (i := 1) rfl
    have z2 := BX.out.c (i := 2) rfl
    have z3 := BX.out.c (i := 3) rfl
    have z4 := BX.out.c (i := 4) rfl
    have z5 := BX.out.c (i := 5) rfl
    have z6 := BX.out.c (i := 6) rfl
    have u0 := BA2.out.c (i := 0) rfl
    have u1 := BA2.out.c (i := 1) rfl
    go_wp2_with fail
    refine (RA _ HGR.out).mono ?_
    rintro e w2 ⟨rfl, g2⟩
    have hz2 : w.heap.size + 1 < w2.heap.size := Nat.lt_of_lt_of_le BA2.out.lt g2.size
    have hy2 : w1.heap.size < w2.heap.size := Nat.lt_of_lt_of_le BX.out.lt g2.size
    have HN : Hid (Sg (w2.alloc (.cells Tryz.zeroCells113 113)) w2.heap.size Tryz.zeroCells113) := Sg.zero _ _ rfl
    have X3 : Hid (Bk ((w2.alloc (.cells Tryz.zeroCells113 113)).setRow w2.heap.size SA) w1.heap.size #[.int .i64 N, .int .i64 T, .int .i64 E, .slice a0 ps.length c0, .slice (some ⟨g, 0, none⟩) ps.length ps.length, .bool false, .slice a l c] 87) := ((BX.out.old g2).alloc _).otherRow (by omega) _
    have BA3 : Hid (Bk ((w2.alloc (.cells Tryz.zeroCells113 113)).setRow w2.heap.size SA) (w.heap.size + 1) #[.bool nb, .slice a1 ys.length c1] 31) := ((BA2.out.old g2).alloc _).otherRow (by omega) _
    have HO2 : Hid (Old w ((w2.alloc (.cells Tryz.zeroCells113 113)).setRow w2.heap.size SA)) := Old.row ((Old.trans HG2.out g2).alloc _) (by omega) _
    have HP2 : Hid (Old (w1.alloc (.cells #[.int .i64 N, .int .i64 T, .int .i64 E, .slice a0 ps.length c0, .slice (some ⟨g, 0, none⟩) ps.length ps.length, .bool false, .slice a l c] 87)) ((w2.alloc (.cells Tryz.zeroCells113 113)).setRow w2.heap.size SA)) := Old.row (g2.alloc _) (by simp; omega) _
    clear g2 z0 z1 z2 z3 z4 z5 z6 u0 u1
    go_wp2_with (first | ((with_reducible refine store_sg HN.out (SA) hSA.out ?_ ?_ ?_); exact rfl; exact rfl; simp only [Act.put]))
    refine reg_Bo ((w2.alloc (.cells Tryz.zeroCells113 113)).setRow w2.heap.size SA) N T E a0 ps.length c0 (some ⟨g, 0, none⟩) ps.length ps.length a l c w1.heap.size (w.heap.size + 1) nb a1 ys.length c1 SL x y (WhP 0 L) (fun W W' v h q => h.old q) X3.out BA3.out VX.out VY.out (fun W g => CH W (Old.trans HP2.out g)) (fun W g => (CW W).mono fun e w' h => by obtain ⟨v, e1, g1, a, c, e2, o⟩ := h; exact ⟨v, e1, g1, a, c, e2, Own.low o (Nat.zero_le _)⟩) (fun W g u h => CX W u h) (fun W g => CY W (Old.trans HP2.out g)) _ _ ?_ ?_ ?_ ?_
    iterate 3 (· exact rfl)
    intro us W q e8 e9
    have HO : Hid (Old w W) := Old.trans HO2.out q
    simp only [putAll, Act.put, slotBo, List.range, List.range.loop, List.map_cons, List.map_nil, List.getD_cons_zero, List.getD_cons_succ, List.setIfInBounds_toArray, List.set_cons_succ, List.set_cons_zero]
    rw [← HB.out.1] at e8
    rw [← HB.out.2] at e9
    simp only [e8, e9]
    clear q e8 e9 CX CY CH CW
    go_wp2_with fail
    refine bodyPost_ret (v := .tuple #[.int .i64 R, .bool ok]) (by simp [results, Tryz.results44, go_sem]) rfl ?_
    exact ⟨rfl, HO.out⟩
end Go.Proofs.YtpcpahgflkjnaaaGreatDoor
/- Proved: the statement on BudgetOf at every argument, in a world in which the two tables are laid. -/
namespace Go.Proofs.YtpcpahgflkjnaaaGreatDoor
open Go.ChangeShapes Go.WideShapes Go.ChangeAt Go.RowKit
open M2
set_option linter.unusedVariables false
set_option linter.unusedSimpArgs false
theorem limN_cnt {P : List Nat} {T : Nat} (hb : Bas P) : cnt (limN (prodN P) T) ≤ 7 := by
  unfold limN
  split
  · decide
  · exact Nat.le_trans (cnt_mono (Nat.le_trans (Nat.div_le_self _ _) (Nat.sub_le _ _))) hb.cnt
theorem BudgetOf_any (N T E : Int) (xs : List Int) (nb : Bool) (ys : List Int) (v u : Value) (w : World) (hv : Row w v xs) (hl : xs.length ≤ 9223372036854775807) (hx : ∀ x ∈ xs, -9223372036854775808 ≤ x ∧ x ≤ 9223372036854775807) (hu : Row w u ys) (hlu : ys.length ≤ 9223372036854775807) (hP : PrsW w) (hT : TabW w) :
    Calls Tryz.prog 10 #[.agg #[.int .i64 N, .int .i64 T, .int .i64 E, v], .agg #[.bool nb, u]] w fun e w' => e = .returned (.bool true) ∧ Old w w' := by
  obtain ⟨a0, c0, rfl⟩ := hv.slice
  obtain ⟨a1, c1, rfl⟩ := hu.slice
  have bnd : ∀ {A : Prop}, ¬ leftN 1048576 xs.length < 0 → ¬ leftN (leftN 1048576 xs.length) ys.length < 0 → (xs.length ≤ 1048576 → ys.length ≤ 1048576 → A) → A := fun h1 h2 k => by
    obtain ⟨q1, q2, q3⟩ := leftN_ok h1 (by omega)
    obtain ⟨q4, q5, q6⟩ := leftN_ok h2 q3
    exact k (by omega) (by omega)
  obtain ⟨R, ok, hy, hn⟩ : ∃ (R : Int) (ok : Bool), ((prB N T E xs && bdB (prodN (xs.map Int.toNat)) nb ys) = true → R = (if 0 < ((lenB (dig (limN (prodN (xs.map Int.toNat)) T.toNat)) : Nat) : Int) - ((lenB (nat ys) : Nat) : Int) then ((lenB (dig (limN (prodN (xs.map Int.toNat)) T.toNat)) : Nat) : Int) - ((lenB (nat ys) : Nat) : Int) else 0) ∧ ok = true) ∧ ((prB N T E xs && bdB (prodN (xs.map Int.toNat)) nb ys) = false → R = 0 ∧ ok = false) := by
    cases h : (prB N T E xs && bdB (prodN (xs.map Int.toNat)) nb ys)
    · exact ⟨0, false, (fun h => by cases h), (fun _ => ⟨rfl, rfl⟩)⟩
    · exact ⟨_, true, (fun _ => ⟨rfl, rfl⟩), (fun h => by cases h)⟩
  refine law9_BudgetOf w N T E xs.length a0 c0 nb ys.length a1 c1 R ok (leftN 1048576 xs.length) (leftN (leftN 1048576 xs.length) ys.length)
    (fun W g => kp_sz N T E a0 xs.length c0 1048576 W hl (by omega) (by omega))
    (fun h W g => by
      obtain ⟨q1, q2, q3⟩ := leftN_ok h (by omega)
      exact kw_sz nb a1 ys.length c1 _ W hlu q3 (by omega))
    (XP N T E xs) (far_XP N T E xs) shape_XP (fun h0 h1 W g => bnd h0 h1 fun h3 _ => kp_to N T E xs _ W (hv.old g) h3) (fun h0 h1 W lo hi g lo' hi' g' k k' => bnd h0 h1 fun h3 _ => kp_eq N T E xs W lo hi g lo' hi' g' k k' (by omega))
    (XW nb ys) (far_XW nb ys) shape_XW (fun h1 h2 W g => bnd h1 h2 fun h3 h4 => kw_to nb ys _ W (hu.old g) h4) (fun h1 h2 W lo hi g lo' hi' g' k k' => bnd h1 h2 fun h3 h4 => kw_eq nb ys W lo hi g lo' hi' g' k k' (by omega))
    (fun h0 h1 W lo hi g lo1 hi1 g1 k k1 q => bnd h0 h1 fun _ h4 => ?_) (fun h0 h1 W lo hi g lo1 hi1 g1 k k1 q => bnd h0 h1 fun _ h4 => ?_)
  · obtain ⟨a, c, rfl, o, f⟩ := k
    obtain ⟨a', c', rfl, o'⟩ := k1
    have KB := fun W' (q' : Old W W') => l11Bound_n N T E xs a c nb ys a' c' W' (o.row.old q') f hl hx (o'.row.old q') h4
    cases hB : (prB N T E xs && bdB (prodN (xs.map Int.toNat)) nb ys)
    · obtain ⟨rfl, rfl⟩ := hn hB
      rw [hB] at KB
      exact spec_BudgetOf_no N T E a xs.length c nb a' ys.length c' W KB
    · obtain ⟨rfl, rfl⟩ := hy hB
      rw [hB] at KB
      rw [Bool.and_eq_true] at hB
      obtain ⟨hg, rfl, hle⟩ := bdB_yes hB.2
      obtain ⟨Nn, Tn, En, P, rfl, rfl, rfl, hz, hb, hN, hTn, hE, hPn, h0', hlx, hpx⟩ := prB_nat hB.1
      obtain ⟨hr, hcy⟩ := rwd_good hg o'.row
      obtain ⟨e1, e2, e3⟩ := good_gw hg
      have hz1 := spec_BudgetOf_yes Nn Tn En P a xs.length c false a' ys.length c' _ W (by rw [← hz]; exact o.row) hb hN hTn hE hr hcy KB
      rw [dig_val e2.1] at hz1
      rw [hPn, show ((Tn : Int).toNat) = Tn by omega]
      exact hz1
  · obtain ⟨a, c, rfl, o, f⟩ := k
    obtain ⟨a', c', rfl, o'⟩ := k1
    refine impl_BudgetOf N T E xs _ nb ys _ (limN (prodN (xs.map Int.toNat)) T.toNat) W (hP.old q) (hT.old q) o.row f hl o'.row h4 (fun hB => ?_) (fun hB W2 g al l cc q2 hr => ?_) R ok hy hn
    · obtain ⟨Nn, Tn, En, P, _, _, _, _, hb, _, _, _, hPn, _⟩ := prB_nat hB
      rw [hPn]
      exact limN_cnt hb
    · obtain ⟨Nn, Tn, En, P, rfl, rfl, rfl, hz, hb, hN, hTn, hE, hPn, h0', hlx, hpx⟩ := prB_nat hB
      rw [hPn] at hr
      rw [hPn, show ((Tn : Int).toNat) = Tn by omega]
      exact limit_n Nn Tn En a xs.length c _ _ _ al l cc (prodN P) W2 hb.cnt hr hTn
end Go.Proofs.YtpcpahgflkjnaaaGreatDoor
