/- Proved: several texts in one: what each proves is said ahead of it. -/
import Derived.Test.YtihjndakgncdaaaGreatDoorFd04
import Derived.Test.YtihjndakgncdaaaGreatDoorFd06
import Derived.Test.YtihjndakgncdaaaGreatDoorFd08
/- Proved: the program's spare, isFromNought, cut, plainNoise and raised, under what they call. -/
namespace Go.Proofs.YtihjndakgncdaaaGreatDoor
open Go.ChangeShapes Go.WideShapes Go.ChangeAt Go.RowKit
open M2
set_option linter.unusedVariables false
set_option linter.unusedSimpArgs false
set_option maxRecDepth 100000 in
set_option maxHeartbeats 4000000 in
theorem spare_of (N T E : Int) (a3 : Option Addr) (l3 c3 : Nat) (a4 : Option Addr) (l4 c4 : Nat) (a6 : Option Addr) (l6 c6 : Nat) (r : Int) (w : World) (KM : ∀ W, Old w W → Calls Tryz.prog 71 #[.agg #[.bool false, .slice a6 l6 c6], .int .i64 T] W fun e w' => e = .returned (.int .i64 r) ∧ Old W w') :
    Calls Tryz.prog 40 #[.agg #[.int .i64 N, .int .i64 T, .int .i64 E, .slice a3 l3 c3, .slice a4 l4 c4, .bool false, .slice a6 l6 c6]] w fun e w' => e = .returned (.int .i64 r) ∧ Old w w' := by
  have HA : Hid (Old w (w.alloc (.cells #[.int .i64 N, .int .i64 T, .int .i64 E, .slice a3 l3 c3, .slice a4 l4 c4, .bool false, .slice a6 l6 c6] 48))) := (Old.refl w).alloc _
  have BX : Hid (Bk (w.alloc (.cells #[.int .i64 N, .int .i64 T, .int .i64 E, .slice a3 l3 c3, .slice a4 l4 c4, .bool false, .slice a6 l6 c6] 48)) w.heap.size #[.int .i64 N, .int .i64 T, .int .i64 E, .slice a3 l3 c3, .slice a4 l4 c4, .bool false, .slice a6 l6 c6] 48) := Bk.new' w _ _ rfl
  have y1 := BX.out.c (i := 1) rfl
  have y5 := BX.out.c (i := 5) rfl
  have y6 := BX.out.c (i := 6) rfl
  go_enter Tryz.func40, Tryz.ntmps40
  go_wp2_with fail
  refine (KM _ HA.out).mono ?_
  rintro e w1 ⟨rfl, g1⟩
  have HG : Hid (Old w w1) := Old.trans HA.out g1
  clear g1 y1 y5 y6
  go_wp2_with fail
  go_ret
  exact ⟨rfl, HG.out⟩
set_option maxRecDepth 100000 in
set_option maxHeartbeats 4000000 in
theorem isFrom_of (n G : Bool) (a : Option Addr) (l c : Nat) (w : World) (KG : ∀ W, Old w W → Calls Tryz.prog 34 #[.agg #[.bool n, .slice a l c]] W fun e w' => e = .returned (.bool G) ∧ Old W w') :
    Calls Tryz.prog 58 #[.agg #[.bool n, .slice a l c]] w fun e w' => e = .returned (.bool (G && !n)) ∧ Old w w' := by
  have HA : Hid (Old w (w.alloc (.cells #[.bool n, .slice a l c] 30))) := (Old.refl w).alloc _
  have BX : Hid (Bk (w.alloc (.cells #[.bool n, .slice a l c] 30)) w.heap.size #[.bool n, .slice a l c] 30) := Bk.new' w _ _ rfl
  have y0 := BX.out.c (i := 0) rfl
  have y1 := BX.out.c (i := 1) rfl
  cases G
  all_goals
    go_enter Tryz.func58, Tryz.ntmps58
    go_wp2_with fail
    refine (KG _ HA.out).mono ?_
    rintro e w1 ⟨rfl, g1⟩
    have HG : Hid (Old w w1) := Old.trans HA.out g1
    have B1 : Hid (Bk w1 w.heap.size #[.bool n, .slice a l c] 30) := BX.out.old g1
    have z0 := B1.out.c (i := 0) rfl
    clear g1 y0 y1
    go_wp2_with fail
    go_ret
    exact ⟨by cases n <;> rfl, HG.out⟩
set_option maxRecDepth 100000 in
set_option maxHeartbeats 4000000 in
theorem cut_of (N T E : Int) (a3 : Option Addr) (l3 c3 : Nat) (a4 : Option Addr) (l4 c4 : Nat) (a6 : Option Addr) (l6 c6 : Nat) (S SQ R : Array Value) (c : Int) (w : World) (hS : Sq S) (hQ' : Sq SQ) (KZ : ∀ W, Old w W → Calls Tryz.prog 35 #[.agg #[.bool false, .slice a6 l6 c6]] W fun e w' => e = .returned (.agg SQ) ∧ Old W w')
    (KC : ∀ W, Calls Tryz.prog 20 #[.agg S, .agg SQ] W fun e w' => e = .returned (.int .i64 c) ∧ Old W w') (h1 : 0 < c → R = SQ) (h2 : ¬ 0 < c → R = S) :
    Calls Tryz.prog 80 #[.agg #[.int .i64 N, .int .i64 T, .int .i64 E, .slice a3 l3 c3, .slice a4 l4 c4, .bool false, .slice a6 l6 c6], .agg S] w fun e w' => e = .returned (.agg R) ∧ Old w w' := by
  have HA : Hid (Old w (((w.alloc (.cells #[.int .i64 N, .int .i64 T, .int .i64 E, .slice a3 l3 c3, .slice a4 l4 c4, .bool false, .slice a6 l6 c6] 48)).alloc (.cells S 53)).alloc (.cells Tryz.zeroCells53 53))) := (((Old.refl w).alloc _).alloc _).alloc _
  have BX : Hid (Bk (((w.alloc (.cells #[.int .i64 N, .int .i64 T, .int .i64 E, .slice a3 l3 c3, .slice a4 l4 c4, .bool false, .slice a6 l6 c6] 48)).alloc (.cells S 53)).alloc (.cells Tryz.zeroCells53 53)) w.heap.size #[.int .i64 N, .int .i64 T, .int .i64 E, .slice a3 l3 c3, .slice a4 l4 c4, .bool false, .slice a6 l6 c6] 48) := ((Bk.new' w _ _ rfl).alloc _).alloc _
  have HS : Hid (Sg (((w.alloc (.cells #[.int .i64 N, .int .i64 T, .int .i64 E, .slice a3 l3 c3, .slice a4 l4 c4, .bool false, .slice a6 l6 c6] 48)).alloc (.cells S 53)).alloc (.cells Tryz.zeroCells53 53)) (w.heap.size + 1) S) := (Sg.new _ S _ hS (by simp)).alloc _
  have HR : Hid (Sg (((w.alloc (.cells #[.int .i64 N, .int .i64 T, .int .i64 E, .slice a3 l3 c3, .slice a4 l4 c4, .bool false, .slice a6 l6 c6] 48)).alloc (.cells S 53)).alloc (.cells Tryz.zeroCells53 53)) (w.heap.size + 1 + 1) Tryz.zeroCells53) := Sg.zero _ _ (by simp)
  have hQ : Hid (Sq SQ) := hQ'
  have y5 := BX.out.c (i := 5) rfl
  have y6 := BX.out.c (i := 6) rfl
  by_cases hc : 0 < c
  · obtain rfl := h1 hc
    have d1 : decide (c > 0) = true := decide_eq_true hc
    have d2 : decide (0 < c) = true := decide_eq_true hc
    have hR : Hid (Sq R) := hQ'
    clear h1 h2 hc
    go_enter Tryz.func80, Tryz.ntmps80
    go_wp2_with (first | (go_at_call 35; refine (KZ _ HA.out).mono ?_; rintro e w1 ⟨rfl, g1⟩; have hz1 : w.heap.size + 1 + 1 < w1.heap.size := Nat.lt_of_lt_of_le HR.out.lt g1.size; have HN : Hid (Sg (w1.alloc (.cells Tryz.zeroCells53 53)) w1.heap.size Tryz.zeroCells53) := Sg.zero w1 _ rfl; have HN2 : Hid (Sg ((w1.alloc (.cells Tryz.zeroCells53 53)).setRow w1.heap.size R) w1.heap.size R) := HN.out.row R hQ.out; have HS2 : Hid (Sg ((w1.alloc (.cells Tryz.zeroCells53 53)).setRow w1.heap.size R) (w.heap.size + 1) S) := ((HS.out.old g1).alloc _).otherRow (by omega) _; have HR2 : Hid (Sg ((w1.alloc (.cells Tryz.zeroCells53 53)).setRow w1.heap.size R) (w.heap.size + 1 + 1) Tryz.zeroCells53) := ((HR.out.old g1).alloc _).otherRow (by omega) _; have HO2 : Hid (Old w ((w1.alloc (.cells Tryz.zeroCells53 53)).setRow w1.heap.size R)) := Old.row ((Old.trans HA.out g1).alloc _) (by omega) _; clear g1) | ((with_reducible refine store_sg HN.out (R) hQ.out ?_ ?_ ?_); exact rfl; exact rfl; simp only [Act.put]) | ((with_reducible refine load_sg HS2.out ?_ ?_); exact rfl; simp only [Act.put, List.setIfInBounds_toArray, List.set_cons_succ, List.set_cons_zero]) | ((with_reducible refine load_sg HN2.out ?_ ?_); exact rfl; simp only [Act.put, List.setIfInBounds_toArray, List.set_cons_succ, List.set_cons_zero]) | (go_at_call 20; refine (KC _).mono ?_; rintro e w3 ⟨rfl, g3⟩; have HS3 : Hid (Sg w3 (w.heap.size + 1) S) := HS2.out.old g3; have HN3 : Hid (Sg w3 w1.heap.size R) := HN2.out.old g3; have HR3 : Hid (Sg w3 (w.heap.size + 1 + 1) Tryz.zeroCells53) := HR2.out.old g3; have HO3 : Hid (Old w w3) := Old.trans HO2.out g3; clear g3) | ((with_reducible refine load_sg HN3.out ?_ ?_); exact rfl; simp only [Act.put, List.setIfInBounds_toArray, List.set_cons_succ, List.set_cons_zero]) | ((with_reducible refine store_sg HR3.out (R) hR.out ?_ ?_ ?_); exact rfl; exact rfl; simp only [Act.put]) | ((with_reducible refine bodyPost_ret (ret_sg Tryz.results80 _ _ ?_ (HR3.out.row R hR.out)) ?_ ?_); exact rfl; exact rfl; exact ⟨rfl, HO3.out.row (by omega) _⟩))
  · obtain rfl := h2 hc
    have d1 : decide (c > 0) = false := decide_eq_false hc
    have d2 : decide (0 < c) = false := decide_eq_false hc
    have hR : Hid (Sq R) := hS
    clear h1 h2 hc
    go_enter Tryz.func80, Tryz.ntmps80
    go_wp2_with (first | (go_at_call 35; refine (KZ _ HA.out).mono ?_; rintro e w1 ⟨rfl, g1⟩; have hz1 : w.heap.size + 1 + 1 < w1.heap.size := Nat.lt_of_lt_of_le HR.out.lt g1.size; have HN : Hid (Sg (w1.alloc (.cells Tryz.zeroCells53 53)) w1.heap.size Tryz.zeroCells53) := Sg.zero w1 _ rfl; have HN2 : Hid (Sg ((w1.alloc (.cells Tryz.zeroCells53 53)).setRow w1.heap.size SQ) w1.heap.size SQ) := HN.out.row SQ hQ.out; have HS2 : Hid (Sg ((w1.alloc (.cells Tryz.zeroCells53 53)).setRow w1.heap.size SQ) (w.heap.size + 1) R) := ((HS.out.old g1).alloc _).otherRow (by omega) _; have HR2 : Hid (Sg ((w1.alloc (.cells Tryz.zeroCells53 53)).setRow w1.heap.size SQ) (w.heap.size + 1 + 1) Tryz.zeroCells53) := ((HR.out.old g1).alloc _).otherRow (by omega) _; have HO2 : Hid (Old w ((w1.alloc (.cells Tryz.zeroCells53 53)).setRow w1.heap.size SQ)) := Old.row ((Old.trans HA.out g1).alloc _) (by omega) _; clear g1) | ((with_reducible refine store_sg HN.out (SQ) hQ.out ?_ ?_ ?_); exact rfl; exact rfl; simp only [Act.put]) | ((with_reducible refine load_sg HS2.out ?_ ?_); exact rfl; simp only [Act.put, List.setIfInBounds_toArray, List.set_cons_succ, List.set_cons_zero]) | ((with_reducible refine load_sg HN2.out ?_ ?_); exact rfl; simp only [Act.put, List.setIfInBounds_toArray, List.set_cons_succ, List.set_cons_zero]) | (go_at_call 20; refine (KC _).mono ?_; rintro e w3 ⟨rfl, g3⟩; have HS3 : Hid (Sg w3 (w.heap.size + 1) R) := HS2.out.old g3; have HN3 : Hid (Sg w3 w1.heap.size SQ) := HN2.out.old g3; have HR3 : Hid (Sg w3 (w.heap.size + 1 + 1) Tryz.zeroCells53) := HR2.out.old g3; have HO3 : Hid (Old w w3) := Old.trans HO2.out g3; clear g3) | ((with_reducible refine load_sg HS3.out ?_ ?_); exact rfl; simp only [Act.put, List.setIfInBounds_toArray, List.set_cons_succ, List.set_cons_zero]) | ((with_reducible refine store_sg HR3.out (R) hR.out ?_ ?_ ?_); exact rfl; exact rfl; simp only [Act.put]) | ((with_reducible refine bodyPost_ret (ret_sg Tryz.results80 _ _ ?_ (HR3.out.row R hR.out)) ?_ ?_); exact rfl; exact rfl; exact ⟨rfl, HO3.out.row (by omega) _⟩))
set_option maxRecDepth 100000 in
set_option maxHeartbeats 4000000 in
theorem plainNoise_of (N T E : Int) (a3 : Option Addr) (l3 c3 : Nat) (a4 : Option Addr) (l4 c4 : Nat) (a6 : Option Addr) (l6 c6 : Nat) (r : Int) (w : World) (hr : 0 ≤ r ∧ r ≤ 65536) (hT : 2 ≤ T ∧ T ≤ 65536) (hm : 0 ≤ r * (T - 1) ∧ r * (T - 1) ≤ 4611686018427387904) (KS : ∀ W, Old w W → Calls Tryz.prog 40 #[.agg #[.int .i64 N, .int .i64 T, .int .i64 E, .slice a3 l3 c3, .slice a4 l4 c4, .bool false, .slice a6 l6 c6]] W fun e w' => e = .returned (.int .i64 r) ∧ Old W w') :
    Calls Tryz.prog 57 #[.agg #[.int .i64 N, .int .i64 T, .int .i64 E, .slice a3 l3 c3, .slice a4 l4 c4, .bool false, .slice a6 l6 c6]] w fun e w' => e = .returned (.int .i64 (r * (T - 1))) ∧ Old w w' := by
  have HA : Hid (Old w (w.alloc (.cells #[.int .i64 N, .int .i64 T, .int .i64 E, .slice a3 l3 c3, .slice a4 l4 c4, .bool false, .slice a6 l6 c6] 48))) := (Old.refl w).alloc _
  have BX : Hid (Bk (w.alloc (.cells #[.int .i64 N, .int .i64 T, .int .i64 E, .slice a3 l3 c3, .slice a4 l4 c4, .bool false, .slice a6 l6 c6] 48)) w.heap.size #[.int .i64 N, .int .i64 T, .int .i64 E, .slice a3 l3 c3, .slice a4 l4 c4, .bool false, .slice a6 l6 c6] 48) := Bk.new' w _ _ rfl
  generalize hw : (w.alloc (.cells #[.int .i64 N, .int .i64 T, .int .i64 E, .slice a3 l3 c3, .slice a4 l4 c4, .bool false, .slice a6 l6 c6] 48)) = wA at HA BX
  go_enter Tryz.func57, Tryz.ntmps57
  go_wp2_with fail
  refine reg_Pn wA N T E a3 l3 c3 a4 l4 c4 a6 l6 c6 w.heap.size r BX.out hr hT hm (fun W q => KS W (Old.trans HA.out q)) _ _ ?_ ?_ ?_
  iterate 2 (· exact rfl)
  intro us W q h7
  have HQ : Hid (Old w W) := Old.trans HA.out q
  simp only [putAll, Act.put, slotPn, List.range, List.range.loop, List.map_cons, List.map_nil, List.getD_cons_zero, List.getD_cons_succ, List.setIfInBounds_toArray, List.set_cons_succ, List.set_cons_zero]
  simp only [h7]
  clear q h7
  go_wp2_with fail
  go_ret
  exact ⟨rfl, HQ.out⟩
end Go.Proofs.YtihjndakgncdaaaGreatDoor
/- Proved: the program's raised, freshBound, plusPlainBound and timesPlainBound, under what they call. -/
namespace Go.Proofs.YtihjndakgncdaaaGreatDoor
open Go.ChangeShapes Go.WideShapes Go.ChangeAt Go.RowKit
open M2
set_option linter.unusedVariables false
set_option linter.unusedSimpArgs false
set_option maxRecDepth 100000 in
set_option maxHeartbeats 4000000 in
theorem raised_of (N T E : Int) (a3 : Option Addr) (l3 c3 : Nat) (a4 : Option Addr) (l4 c4 : Nat) (a6 : Option Addr) (l6 c6 : Nat) (S0 S1 S2 SR : Array Value) (k : Int) (w : World) (hk : 0 ≤ k ∧ k ≤ 4611686018427387904) (h0 : Sq S0) (hR : Sq SR)
    (KO : ∀ W, Old w W → Calls Tryz.prog 39 #[.int .u64 k] W fun e w' => e = .returned (.agg S1) ∧ Old W w')
    (KA : ∀ W, Old w W → Calls Tryz.prog 62 #[.agg S0, .agg S1] W fun e w' => e = .returned (.agg S2) ∧ Old W w')
    (KC : ∀ W, Old w W → Calls Tryz.prog 80 #[.agg #[.int .i64 N, .int .i64 T, .int .i64 E, .slice a3 l3 c3, .slice a4 l4 c4, .bool false, .slice a6 l6 c6], .agg S2] W fun e w' => e = .returned (.agg SR) ∧ Old W w') :
    Calls Tryz.prog 56 #[.agg #[.int .i64 N, .int .i64 T, .int .i64 E, .slice a3 l3 c3, .slice a4 l4 c4, .bool false, .slice a6 l6 c6], .agg S0, .int .i64 k] w fun e w' => e = .returned (.agg SR) ∧ Old w w' := by
  have HA : Hid (Old w (((w.alloc (.cells #[.int .i64 N, .int .i64 T, .int .i64 E, .slice a3 l3 c3, .slice a4 l4 c4, .bool false, .slice a6 l6 c6] 48)).alloc (.cells S0 53)).alloc (.cells Tryz.zeroCells53 53))) := (((Old.refl w).alloc _).alloc _).alloc _
  have BX : Hid (Bk (((w.alloc (.cells #[.int .i64 N, .int .i64 T, .int .i64 E, .slice a3 l3 c3, .slice a4 l4 c4, .bool false, .slice a6 l6 c6] 48)).alloc (.cells S0 53)).alloc (.cells Tryz.zeroCells53 53)) (w.heap.size) #[.int .i64 N, .int .i64 T, .int .i64 E, .slice a3 l3 c3, .slice a4 l4 c4, .bool false, .slice a6 l6 c6] 48) := ((Bk.new' w _ _ rfl).alloc _).alloc _
  have HS : Hid (Sg (((w.alloc (.cells #[.int .i64 N, .int .i64 T, .int .i64 E, .slice a3 l3 c3, .slice a4 l4 c4, .bool false, .slice a6 l6 c6] 48)).alloc (.cells S0 53)).alloc (.cells Tryz.zeroCells53 53)) (w.heap.size + 1) (S0)) := (Sg.new _ _ _ h0 (by simp)).alloc _
  have HR : Hid (Sg (((w.alloc (.cells #[.int .i64 N, .int .i64 T, .int .i64 E, .slice a3 l3 c3, .slice a4 l4 c4, .bool false, .slice a6 l6 c6] 48)).alloc (.cells S0 53)).alloc (.cells Tryz.zeroCells53 53)) (w.heap.size + 1 + 1) (Tryz.zeroCells53)) := Sg.zero _ _ (by simp)
  generalize hwA : (((w.alloc (.cells #[.int .i64 N, .int .i64 T, .int .i64 E, .slice a3 l3 c3, .slice a4 l4 c4, .bool false, .slice a6 l6 c6] 48)).alloc (.cells S0 53)).alloc (.cells Tryz.zeroCells53 53)) = wA at HA BX HS HR
  go_enter Tryz.func56, Tryz.ntmps56
  go_wp2_with fail
  refine reg_Ra wA N T E a3 l3 c3 a4 l4 c4 a6 l6 c6 w.heap.size (w.heap.size + 1 + 1) (w.heap.size + 1) S0 S1 S2 SR Tryz.zeroCells53 k BX.out HR.out.blk sq_zero.1 HS.out.blk h0.1 hR hk (fun W q => KO W (Old.trans HA.out q)) (fun W q => KA W (Old.trans HA.out q)) (fun W q => KC W (Old.trans HA.out q)) _ _ ?_ ?_ ?_ ?_ ?_ ?_
  iterate 5 (· exact rfl)
  intro us W q
  have HQ : Hid (Old w W) := Old.trans HA.out q
  have HR2 : Hid (Sg W (w.heap.size + 1 + 1) Tryz.zeroCells53) := HR.out.old q
  simp only [putAll, Act.put, slotRa, List.range, List.range.loop, List.map_cons, List.map_nil, List.getD_cons_zero, List.getD_cons_succ, List.setIfInBounds_toArray, List.set_cons_succ, List.set_cons_zero]
  clear q
  go_wp2_with (first | ((with_reducible refine bodyPost_ret (ret_sg Tryz.results56 _ _ ?_ (HR2.out.row SR hR)) ?_ ?_); exact rfl; exact rfl; exact ⟨rfl, HQ.out.row (by omega) _⟩))
set_option maxRecDepth 100000 in
set_option maxHeartbeats 4000000 in
theorem fresh_of (N T E : Int) (a3 : Option Addr) (l3 c3 : Nat) (a4 : Option Addr) (l4 c4 : Nat) (a6 : Option Addr) (l6 c6 : Nat) (S1 SR : Array Value) (m : Int) (w : World) (hN : 2 ≤ N ∧ N ≤ 16) (hm : 0 ≤ m ∧ m ≤ 4611686018427387904) (hTE : 0 ≤ T * E ∧ T * E ≤ 1048576) (hX : 0 ≤ T * E * (2 * N + 1) ∧ T * E * (2 * N + 1) ≤ 34603008) (hR : Sq SR)
    (KP : ∀ W, Old w W → Calls Tryz.prog 57 #[.agg #[.int .i64 N, .int .i64 T, .int .i64 E, .slice a3 l3 c3, .slice a4 l4 c4, .bool false, .slice a6 l6 c6]] W fun e w' => e = .returned (.int .i64 m) ∧ Old W w')
    (KO : ∀ W, Old w W → Calls Tryz.prog 39 #[.int .u64 m] W fun e w' => e = .returned (.agg S1) ∧ Old W w')
    (KR : ∀ W, Old w W → Calls Tryz.prog 56 #[.agg #[.int .i64 N, .int .i64 T, .int .i64 E, .slice a3 l3 c3, .slice a4 l4 c4, .bool false, .slice a6 l6 c6], .agg S1, .int .i64 (T * E * (2 * N + 1))] W fun e w' => e = .returned (.agg SR) ∧ Old W w') :
    Calls Tryz.prog 28 #[.agg #[.int .i64 N, .int .i64 T, .int .i64 E, .slice a3 l3 c3, .slice a4 l4 c4, .bool false, .slice a6 l6 c6]] w fun e w' => e = .returned (.agg SR) ∧ Old w w' := by
  have HA : Hid (Old w ((w.alloc (.cells #[.int .i64 N, .int .i64 T, .int .i64 E, .slice a3 l3 c3, .slice a4 l4 c4, .bool false, .slice a6 l6 c6] 48)).alloc (.cells Tryz.zeroCells53 53))) := ((Old.refl w).alloc _).alloc _
  have BX : Hid (Bk ((w.alloc (.cells #[.int .i64 N, .int .i64 T, .int .i64 E, .slice a3 l3 c3, .slice a4 l4 c4, .bool false, .slice a6 l6 c6] 48)).alloc (.cells Tryz.zeroCells53 53)) (w.heap.size) #[.int .i64 N, .int .i64 T, .int .i64 E, .slice a3 l3 c3, .slice a4 l4 c4, .bool false, .slice a6 l6 c6] 48) := (Bk.new' w _ _ rfl).alloc _
  have HR : Hid (Sg ((w.alloc (.cells #[.int .i64 N, .int .i64 T, .int .i64 E, .slice a3 l3 c3, .slice a4 l4 c4, .bool false, .slice a6 l6 c6] 48)).alloc (.cells Tryz.zeroCells53 53)) (w.heap.size + 1) (Tryz.zeroCells53)) := Sg.zero _ _ (by simp)
  generalize hwA : ((w.alloc (.cells #[.int .i64 N, .int .i64 T, .int .i64 E, .slice a3 l3 c3, .slice a4 l4 c4, .bool false, .slice a6 l6 c6] 48)).alloc (.cells Tryz.zeroCells53 53)) = wA at HA BX HR
  go_enter Tryz.func28, Tryz.ntmps28
  go_wp2_with fail
  refine reg_Fr wA N T E a3 l3 c3 a4 l4 c4 a6 l6 c6 w.heap.size (w.heap.size + 1) S1 SR Tryz.zeroCells53 m BX.out HR.out.blk sq_zero.1 hR hN hm hTE hX (fun W q => KP W (Old.trans HA.out q)) (fun W q => KO W (Old.trans HA.out q)) (fun W q => KR W (Old.trans HA.out q)) _ _ ?_ ?_ ?_ ?_
  iterate 3 (· exact rfl)
  intro us W q
  have HQ : Hid (Old w W) := Old.trans HA.out q
  have HR2 : Hid (Sg W (w.heap.size + 1) Tryz.zeroCells53) := HR.out.old q
  simp only [putAll, Act.put, slotFr, List.range, List.range.loop, List.map_cons, List.map_nil, List.getD_cons_zero, List.getD_cons_succ, List.setIfInBounds_toArray, List.set_cons_succ, List.set_cons_zero]
  clear q
  go_wp2_with (first | ((with_reducible refine bodyPost_ret (ret_sg Tryz.results28 _ _ ?_ (HR2.out.row SR hR)) ?_ ?_); exact rfl; exact rfl; exact ⟨rfl, HQ.out.row (by omega) _⟩))
end Go.Proofs.YtihjndakgncdaaaGreatDoor
/- Proved: the program's limit and readBound, under what they call. -/
namespace Go.Proofs.YtihjndakgncdaaaGreatDoor
open Go.ChangeShapes Go.WideShapes Go.ChangeAt Go.RowKit
open M2
set_option linter.unusedVariables false
set_option linter.unusedSimpArgs false
set_option maxRecDepth 100000 in
set_option maxHeartbeats 4000000 in
theorem limit_of (N T E : Int) (a3 : Option Addr) (l3 c3 : Nat) (a4 : Option Addr) (l4 c4 : Nat) (a6 : Option Addr) (l6 c6 : Nat) (SQ SL SD SH SR : Array Value) (r c y : Int) (w : World) (hX : 0 ≤ T * r ∧ T * r ≤ 4611686018427387904) (hQ' : Sq SQ) (hL' : Sq SL) (hH' : Sq SH)
    (KZ : ∀ W, Old w W → Calls Tryz.prog 35 #[.agg #[.bool false, .slice a6 l6 c6]] W fun e w' => e = .returned (.agg SQ) ∧ Old W w')
    (KS : ∀ W, Old w W → Calls Tryz.prog 40 #[.agg #[.int .i64 N, .int .i64 T, .int .i64 E, .slice a3 l3 c3, .slice a4 l4 c4, .bool false, .slice a6 l6 c6]] W fun e w' => e = .returned (.int .i64 r) ∧ Old W w')
    (KO : ∀ W, Old w W → Calls Tryz.prog 39 #[.int .u64 (T * r)] W fun e w' => e = .returned (.agg SL) ∧ Old W w')
    (KC : ∀ W, Calls Tryz.prog 20 #[.agg SL, .agg SQ] W fun e w' => e = .returned (.int .i64 c) ∧ Old W w')
    (KL : ¬ 0 < c → ∀ W, Calls Tryz.prog 42 #[.agg SQ, .agg SL] W fun e w' => e = .returned (.agg SD) ∧ Old W w')
    (KD : ¬ 0 < c → ∀ W, Calls Tryz.prog 41 #[.agg SD, .int .i64 2] W fun e w' => e = .returned (.tuple #[.agg SH, .int .i64 y]) ∧ Old W w')
    (h1 : 0 < c → SR = Tryz.zeroCells53) (h2 : ¬ 0 < c → SR = SH) :
    Calls Tryz.prog 18 #[.agg #[.int .i64 N, .int .i64 T, .int .i64 E, .slice a3 l3 c3, .slice a4 l4 c4, .bool false, .slice a6 l6 c6]] w fun e w' => e = .returned (.agg SR) ∧ Old w w' := by
  have hQ : Hid (Sq SQ) := hQ'
  have hL : Hid (Sq SL) := hL'
  have hH : Hid (Sq SH) := hH'
  have HA : Hid (Old w ((w.alloc (.cells #[.int .i64 N, .int .i64 T, .int .i64 E, .slice a3 l3 c3, .slice a4 l4 c4, .bool false, .slice a6 l6 c6] 48)).alloc (.cells Tryz.zeroCells53 53))) := ((Old.refl w).alloc _).alloc _
  have BX : Hid (Bk ((w.alloc (.cells #[.int .i64 N, .int .i64 T, .int .i64 E, .slice a3 l3 c3, .slice a4 l4 c4, .bool false, .slice a6 l6 c6] 48)).alloc (.cells Tryz.zeroCells53 53)) w.heap.size #[.int .i64 N, .int .i64 T, .int .i64 E, .slice a3 l3 c3, .slice a4 l4 c4, .bool false, .slice a6 l6 c6] 48) := (Bk.new' w _ _ rfl).alloc _
  have HR : Hid (Sg ((w.alloc (.cells #[.int .i64 N, .int .i64 T, .int .i64 E, .slice a3 l3 c3, .slice a4 l4 c4, .bool false, .slice a6 l6 c6] 48)).alloc (.cells Tryz.zeroCells53 53)) (w.heap.size + 1) Tryz.zeroCells53) := Sg.zero _ _ (by simp)
  generalize hwA : ((w.alloc (.cells #[.int .i64 N, .int .i64 T, .int .i64 E, .slice a3 l3 c3, .slice a4 l4 c4, .bool false, .slice a6 l6 c6] 48)).alloc (.cells Tryz.zeroCells53 53)) = wA at HA BX HR
  go_enter Tryz.func18, Tryz.ntmps18
  go_wp2_with fail
  refine reg_Li wA N T E a3 l3 c3 a4 l4 c4 a6 l6 c6 w.heap.size SQ SL r BX.out hL.out hQ.out hX (fun W q => KZ W (Old.trans HA.out q)) (fun W q => KS W (Old.trans HA.out q)) (fun W q => KO W (Old.trans HA.out q)) _ _ ?_ ?_ ?_
  iterate 2 (· exact rfl)
  intro us W g1 g2 q e1 b1 e2 b2 z1 z2
  have HQ : Hid (Old w W) := Old.trans HA.out q
  have hs := HA.out.size
  have hrl := HR.out.lt
  have hb1 : w.heap.size + 1 < g1 := by omega
  have hb2 : w.heap.size + 1 < g2 := by omega
  have HR1 : Hid (Sg W (w.heap.size + 1) Tryz.zeroCells53) := HR.out.old q
  have H1 : Hid (Sg W g1 SQ) := ⟨z1, hQ.out⟩
  have H2 : Hid (Sg W g2 SL) := ⟨z2, hL.out⟩
  simp only [putAll, Act.put, slotLi, List.range, List.range.loop, List.map_cons, List.map_nil, List.getD_cons_zero, List.getD_cons_succ, List.setIfInBounds_toArray, List.set_cons_succ, List.set_cons_zero]
  simp only [e1, e2]
  clear q e1 e2 b1 b2 z1 z2 KZ KS KO hs hrl BX HR HA hwA hX
  by_cases hc : 0 < c
  · obtain rfl := h1 hc
    have d1 : decide (c > 0) = true := decide_eq_true hc
    have d2 : decide (0 < c) = true := decide_eq_true hc
    clear h1 h2 hc KL KD
    have HZ : Hid (Sq Tryz.zeroCells53) := sq_zero
    go_wp2_with (first | ((with_reducible refine load_sg H2.out ?_ ?_); exact rfl; simp only [Act.put, List.setIfInBounds_toArray, List.set_cons_succ, List.set_cons_zero]) | ((with_reducible refine load_sg H1.out ?_ ?_); exact rfl; simp only [Act.put, List.setIfInBounds_toArray, List.set_cons_succ, List.set_cons_zero]) | (go_at_call 20; refine (KC _).mono ?_; rintro e w3 ⟨rfl, g3⟩; have HR3 : Hid (Sg w3 (w.heap.size + 1) Tryz.zeroCells53) := HR1.out.old g3; have HO3 : Hid (Old w w3) := Old.trans HQ.out g3; clear g3) | ((with_reducible refine store_sg HR3.out (Tryz.zeroCells53) HZ.out ?_ ?_ ?_); exact rfl; exact rfl; simp only [Act.put]) | ((with_reducible refine bodyPost_ret (ret_sg Tryz.results18 _ _ ?_ (HR3.out.row Tryz.zeroCells53 HZ.out)) ?_ ?_); exact rfl; exact rfl; exact ⟨rfl, HO3.out.row (by omega) _⟩))
  · obtain rfl := h2 (by omega)
    have d1 : decide (c > 0) = false := decide_eq_false hc
    have d2 : decide (0 < c) = false := decide_eq_false hc
    replace KL := KL (by omega)
    replace KD := KD (by omega)
    clear h1 h2 hc
    go_wp2_with (first | ((with_reducible refine load_sg H2.out ?_ ?_); exact rfl; simp only [Act.put, List.setIfInBounds_toArray, List.set_cons_succ, List.set_cons_zero]) | ((with_reducible refine load_sg H1.out ?_ ?_); exact rfl; simp only [Act.put, List.setIfInBounds_toArray, List.set_cons_succ, List.set_cons_zero]) | (go_at_call 20; refine (KC _).mono ?_; rintro e w3 ⟨rfl, g3⟩; have HR3 : Hid (Sg w3 (w.heap.size + 1) Tryz.zeroCells53) := HR1.out.old g3; have HO3 : Hid (Old w w3) := Old.trans HQ.out g3; have H13 : Hid (Sg w3 g1 SQ) := H1.out.old g3; have H23 : Hid (Sg w3 g2 SL) := H2.out.old g3; clear g3) | ((with_reducible refine load_sg H13.out ?_ ?_); exact rfl; simp only [Act.put, List.setIfInBounds_toArray, List.set_cons_succ, List.set_cons_zero]) | ((with_reducible refine load_sg H23.out ?_ ?_); exact rfl; simp only [Act.put, List.setIfInBounds_toArray, List.set_cons_succ, List.set_cons_zero]) | (go_at_call 42; refine (KL _).mono ?_; rintro e w4 ⟨rfl, g4⟩; have HR4 : Hid (Sg w4 (w.heap.size + 1) Tryz.zeroCells53) := HR3.out.old g4; have HO4 : Hid (Old w w4) := Old.trans HO3.out g4; clear g4) | (go_at_call 41; refine (KD _).mono ?_; rintro e w5 ⟨rfl, g5⟩; have hr5 : w.heap.size + 1 < w5.heap.size := Nat.lt_of_lt_of_le HR4.out.lt g5.size; have HN5 : Hid (Sg (w5.alloc (.cells Tryz.zeroCells53 53)) w5.heap.size Tryz.zeroCells53) := Sg.zero _ _ rfl; have HN6 : Hid (Sg ((w5.alloc (.cells Tryz.zeroCells53 53)).setRow w5.heap.size SR) w5.heap.size SR) := HN5.out.row SR hH.out; have HR6 : Hid (Sg ((w5.alloc (.cells Tryz.zeroCells53 53)).setRow w5.heap.size SR) (w.heap.size + 1) Tryz.zeroCells53) := ((HR4.out.old g5).alloc _).otherRow (by omega) _; have HO6 : Hid (Old w ((w5.alloc (.cells Tryz.zeroCells53 53)).setRow w5.heap.size SR)) := Old.row ((Old.trans HO4.out g5).alloc _) (by omega) _; clear g5) | ((with_reducible refine store_sg HN5.out (SR) hH.out ?_ ?_ ?_); exact rfl; exact rfl; simp only [Act.put]) | ((with_reducible refine load_sg HN6.out ?_ ?_); exact rfl; simp only [Act.put, List.setIfInBounds_toArray, List.set_cons_succ, List.set_cons_zero]) | ((with_reducible refine store_sg HR6.out (SR) hH.out ?_ ?_ ?_); exact rfl; exact rfl; simp only [Act.put]) | ((with_reducible refine bodyPost_ret (ret_sg Tryz.results18 _ _ ?_ (HR6.out.row SR hH.out)) ?_ ?_); exact rfl; exact rfl; exact ⟨rfl, HO6.out.row (by omega) _⟩))
set_option maxRecDepth 100000 in
set_option maxHeartbeats 4000000 in
theorem readBound_of (N T E : Int) (a3 : Option Addr) (l3 c3 : Nat) (a4 : Option Addr) (l4 c4 : Nat) (a6 : Option Addr) (l6 c6 : Nat) (nb : Bool) (a1 : Option Addr) (l1 c1 : Nat) (SA SQ SM : Array Value) (G : Bool) (c : Int) (B : Bool) (w : World) (hA' : Sq SA) (hQ' : Sq SQ)
    (KA : ∀ W, Old w W → Calls Tryz.prog 35 #[.agg #[.bool nb, .slice a1 l1 c1]] W fun e w' => e = .returned (.agg SA) ∧ Old W w')
    (KQ : ∀ W, Old w W → Calls Tryz.prog 35 #[.agg #[.bool false, .slice a6 l6 c6]] W fun e w' => e = .returned (.agg SQ) ∧ Old W w')
    (KF : ∀ W, Old w W → Calls Tryz.prog 58 #[.agg #[.bool nb, .slice a1 l1 c1]] W fun e w' => e = .returned (.bool G) ∧ Old W w')
    (KM : G = true → ∀ W, Calls Tryz.prog 59 #[.agg SQ, .agg SQ] W fun e w' => e = .returned (.agg SM) ∧ Old W w')
    (KC : G = true → ∀ W, Calls Tryz.prog 20 #[.agg SA, .agg SM] W fun e w' => e = .returned (.int .i64 c) ∧ Old W w')
    (hB : B = (G && decide (c ≤ 0))) :
    Calls Tryz.prog 29 #[.agg #[.int .i64 N, .int .i64 T, .int .i64 E, .slice a3 l3 c3, .slice a4 l4 c4, .bool false, .slice a6 l6 c6], .agg #[.bool nb, .slice a1 l1 c1]] w fun e w' => e = .returned (.tuple #[.agg SA, .bool B]) ∧ Old w w' := by
  have hA : Hid (Sq SA) := hA'
  have hQ : Hid (Sq SQ) := hQ'
  have HA : Hid (Old w (((w.alloc (.cells #[.int .i64 N, .int .i64 T, .int .i64 E, .slice a3 l3 c3, .slice a4 l4 c4, .bool false, .slice a6 l6 c6] 48)).alloc (.cells #[.bool nb, .slice a1 l1 c1] 30)).alloc (.cells Tryz.zeroCells53 53))) := (((Old.refl w).alloc _).alloc _).alloc _
  have BX : Hid (Bk (((w.alloc (.cells #[.int .i64 N, .int .i64 T, .int .i64 E, .slice a3 l3 c3, .slice a4 l4 c4, .bool false, .slice a6 l6 c6] 48)).alloc (.cells #[.bool nb, .slice a1 l1 c1] 30)).alloc (.cells Tryz.zeroCells53 53)) w.heap.size #[.int .i64 N, .int .i64 T, .int .i64 E, .slice a3 l3 c3, .slice a4 l4 c4, .bool false, .slice a6 l6 c6] 48) := ((Bk.new' w _ _ rfl).alloc _).alloc _
  have BW : Hid (Bk (((w.alloc (.cells #[.int .i64 N, .int .i64 T, .int .i64 E, .slice a3 l3 c3, .slice a4 l4 c4, .bool false, .slice a6 l6 c6] 48)).alloc (.cells #[.bool nb, .slice a1 l1 c1] 30)).alloc (.cells Tryz.zeroCells53 53)) (w.heap.size + 1) #[.bool nb, .slice a1 l1 c1] 30) := (Bk.new' _ _ _ (by simp)).alloc _
  have HR : Hid (Sg (((w.alloc (.cells #[.int .i64 N, .int .i64 T, .int .i64 E, .slice a3 l3 c3, .slice a4 l4 c4, .bool false, .slice a6 l6 c6] 48)).alloc (.cells #[.bool nb, .slice a1 l1 c1] 30)).alloc (.cells Tryz.zeroCells53 53)) (w.heap.size + 1 + 1) Tryz.zeroCells53) := Sg.zero _ _ (by simp)
  generalize hwA : (((w.alloc (.cells #[.int .i64 N, .int .i64 T, .int .i64 E, .slice a3 l3 c3, .slice a4 l4 c4, .bool false, .slice a6 l6 c6] 48)).alloc (.cells #[.bool nb, .slice a1 l1 c1] 30)).alloc (.cells Tryz.zeroCells53 53)) = wA at HA BX BW HR
  go_enter Tryz.func29, Tryz.ntmps29
  go_wp2_with fail
  refine reg_Rb wA N T E a3 l3 c3 a4 l4 c4 a6 l6 c6 w.heap.size (w.heap.size + 1) nb a1 l1 c1 SA SQ BX.out BW.out hA.out hQ.out (fun W q => KA W (Old.trans HA.out q)) (fun W q => KQ W (Old.trans HA.out q)) _ _ ?_ ?_ ?_ ?_
  iterate 3 (· exact rfl)
  intro us W g1 g2 q e1 b1 e2 b2 z1 z2
  have HQ : Hid (Old w W) := Old.trans HA.out q
  have hs := HA.out.size
  have hrl := HR.out.lt
  have hb1 : w.heap.size + 1 + 1 < g1 := by omega
  have hb2 : w.heap.size + 1 + 1 < g2 := by omega
  have HR1 : Hid (Sg W (w.heap.size + 1 + 1) Tryz.zeroCells53) := HR.out.old q
  have BW1 : Hid (Bk W (w.heap.size + 1) #[.bool nb, .slice a1 l1 c1] 30) := BW.out.old q
  have H1 : Hid (Sg W g1 SA) := ⟨z1, hA.out⟩
  have H2 : Hid (Sg W g2 SQ) := ⟨z2, hQ.out⟩
  simp only [putAll, Act.put, slotRb, List.range, List.range.loop, List.map_cons, List.map_nil, List.getD_cons_zero, List.getD_cons_succ, List.setIfInBounds_toArray, List.set_cons_succ, List.set_cons_zero]
  simp only [e1, e2]
  clear q e1 e2 b1 b2 z1 z2 KA KQ hs hrl BX HR HA hwA BW
  cases G
  · subst hB
    go_wp2_with fail
    refine reg_Rf W g1 g2 (w.heap.size + 1 + 1) (w.heap.size + 1) nb a1 l1 c1 SA SQ SM Tryz.zeroCells53 c H1.out.blk hA.out.1 HR1.out.blk sq_zero.1 BW1.out hA.out (fun W' q => KF W' (Old.trans HQ.out q)) _ _ ?_ ?_ ?_ ?_ ?_
    iterate 4 (· exact rfl)
    intro us2 W2 q2
    have HQ2 : Hid (Old w W2) := Old.trans HQ.out q2
    have HR2 : Hid (Sg W2 (w.heap.size + 1 + 1) Tryz.zeroCells53) := HR1.out.old q2
    simp only [putAll, Act.put, slotRf, List.range, List.range.loop, List.map_cons, List.map_nil, List.getD_cons_zero, List.getD_cons_succ, List.setIfInBounds_toArray, List.set_cons_succ, List.set_cons_zero]
    clear q2
    go_wp2_with fail
    refine bodyPost_ret (ret_sgi Tryz.results29 _ _ (by exact rfl) (by exact rfl) (HR2.out.row SA hA.out)) (by exact rfl) ⟨by exact rfl, HQ2.out.row (by omega) _⟩
  · replace KM := KM rfl
    replace KC := KC rfl
    rw [Bool.true_and] at hB
    subst hB
    go_wp2_with fail
    refine reg_Rt W g1 g2 (w.heap.size + 1 + 1) (w.heap.size + 1) nb a1 l1 c1 SA SQ SM Tryz.zeroCells53 c H1.out.blk hA.out.1 H2.out.blk hQ.out.1 HR1.out.blk sq_zero.1 BW1.out hA.out (fun W' q => KF W' (Old.trans HQ.out q)) (fun W' q => KM W') (fun W' q => KC W') _ _ ?_ ?_ ?_ ?_ ?_ ?_
    iterate 5 (· exact rfl)
    intro us2 W2 q2
    have HQ2 : Hid (Old w W2) := Old.trans HQ.out q2
    have HR2 : Hid (Sg W2 (w.heap.size + 1 + 1) Tryz.zeroCells53) := HR1.out.old q2
    simp only [putAll, Act.put, slotRt, List.range, List.range.loop, List.map_cons, List.map_nil, List.getD_cons_zero, List.getD_cons_succ, List.setIfInBounds_toArray, List.set_cons_succ, List.set_cons_zero]
    clear q2
    go_wp2_with fail
    refine bodyPost_ret (ret_sgi Tryz.results29 _ _ (by exact rfl) (by exact rfl) (HR2.out.row SA hA.out)) (by exact rfl) ⟨by exact rfl, HQ2.out.row (by omega) _⟩
end Go.Proofs.YtihjndakgncdaaaGreatDoor
/- Proved: the program's productBound and switchedBound, under what they call. -/
namespace Go.Proofs.YtihjndakgncdaaaGreatDoor
open Go.ChangeShapes Go.WideShapes Go.ChangeAt Go.RowKit
open M2
set_option linter.unusedVariables false
set_option linter.unusedSimpArgs false
set_option maxRecDepth 100000 in
set_option maxHeartbeats 4000000 in
theorem product_of (N T E : Int) (a3 : Option Addr) (l3 c3 : Nat) (a4 : Option Addr) (l4 c4 : Nat) (a6 : Option Addr) (l6 c6 : Nat) (SA SB SS SE SM SN SQ SD SZ SU SR : Array Value) (o X1 X2 X3 X4 X5 X6 q : Int) (w : World) (hA' : Sq SA) (hB' : Sq SB) (hE' : Sq SE) (hD' : Sq SD) (hZ' : Sq SZ) (hR' : Sq SR)
    (h1 : IntKind.i64.wrap (1 + N) = 1 + N) (h2 : IntKind.i64.wrap (T * (1 + N)) = X1) (h3 : X1.tdiv 2 = X2) (h3' : IntKind.i64.wrap X2 = X2) (h4 : IntKind.i64.wrap (X2 + 1) = o)
    (h5 : IntKind.i64.wrap (N * N) = X3) (h6 : IntKind.i64.wrap (1 + N + X3) = X4) (h7 : IntKind.i64.wrap (T * X4) = X5) (h8 : X5.tdiv 2 = X6) (h8' : IntKind.i64.wrap X6 = X6) (h9 : IntKind.i64.wrap (X6 + 1) = q)
    (hX : 0 ≤ N * o ∧ N * o ≤ 4611686018427387904) (hq : 0 ≤ q ∧ q ≤ 4611686018427387904)
    (KA : ∀ W, Old w W → Calls Tryz.prog 62 #[.agg SA, .agg SB] W fun e w' => e = .returned (.agg SS) ∧ Old W w')
    (KX : ∀ W, Old w W → Calls Tryz.prog 61 #[.agg SS, .int .i64 (N * o), .int .i64 0] W fun e w' => e = .returned (.agg SE) ∧ Old W w')
    (KM : ∀ W, Old w W → Calls Tryz.prog 59 #[.agg SA, .agg SB] W fun e w' => e = .returned (.agg SM) ∧ Old W w')
    (KY : ∀ W, Old w W → Calls Tryz.prog 61 #[.agg SM, .int .i64 N, .int .i64 0] W fun e w' => e = .returned (.agg SN) ∧ Old W w')
    (KZ : ∀ W, Old w W → Calls Tryz.prog 35 #[.agg #[.bool false, .slice a6 l6 c6]] W fun e w' => e = .returned (.agg SQ) ∧ Old W w')
    (KD : ∀ W, Old w W → Calls Tryz.prog 63 #[.agg SN, .agg SQ] W fun e w' => e = .returned (.tuple #[.agg SD, .agg SZ]) ∧ Old W w')
    (KU : ∀ W, Old w W → Calls Tryz.prog 62 #[.agg SE, .agg SD] W fun e w' => e = .returned (.agg SU) ∧ Old W w')
    (KR : ∀ W, Old w W → Calls Tryz.prog 56 #[.agg #[.int .i64 N, .int .i64 T, .int .i64 E, .slice a3 l3 c3, .slice a4 l4 c4, .bool false, .slice a6 l6 c6], .agg SU, .int .i64 (1 + q)] W fun e w' => e = .returned (.agg SR) ∧ Old W w') :
    Calls Tryz.prog 31 #[.agg #[.int .i64 N, .int .i64 T, .int .i64 E, .slice a3 l3 c3, .slice a4 l4 c4, .bool false, .slice a6 l6 c6], .agg SA, .agg SB] w fun e w' => e = .returned (.agg SR) ∧ Old w w' := by
  have hA : Hid (Sq SA) := hA'
  have hB : Hid (Sq SB) := hB'
  have hE : Hid (Sq SE) := hE'
  have hD : Hid (Sq SD) := hD'
  have hZ : Hid (Sq SZ) := hZ'
  have hR : Hid (Sq SR) := hR'
  have HX : Hid (0 ≤ N * o ∧ N * o ≤ 4611686018427387904) := hX
  have Hq : Hid (0 ≤ q ∧ q ≤ 4611686018427387904) := hq
  have HQ : Hid (Old w ((((w.alloc (.cells #[.int .i64 N, .int .i64 T, .int .i64 E, .slice a3 l3 c3, .slice a4 l4 c4, .bool false, .slice a6 l6 c6] 48)).alloc (.cells SA 53)).alloc (.cells SB 53)).alloc (.cells Tryz.zeroCells53 53))) := ((((Old.refl w).alloc _).alloc _).alloc _).alloc _
  have BX : Hid (Bk ((((w.alloc (.cells #[.int .i64 N, .int .i64 T, .int .i64 E, .slice a3 l3 c3, .slice a4 l4 c4, .bool false, .slice a6 l6 c6] 48)).alloc (.cells SA 53)).alloc (.cells SB 53)).alloc (.cells Tryz.zeroCells53 53)) w.heap.size #[.int .i64 N, .int .i64 T, .int .i64 E, .slice a3 l3 c3, .slice a4 l4 c4, .bool false, .slice a6 l6 c6] 48) := (((Bk.new' w _ _ rfl).alloc _).alloc _).alloc _
  have HSA : Hid (Sg ((((w.alloc (.cells #[.int .i64 N, .int .i64 T, .int .i64 E, .slice a3 l3 c3, .slice a4 l4 c4, .bool false, .slice a6 l6 c6] 48)).alloc (.cells SA 53)).alloc (.cells SB 53)).alloc (.cells Tryz.zeroCells53 53)) (w.heap.size + 1) SA) := ((Sg.new _ _ _ hA.out (by simp)).alloc _).alloc _
  have HSB : Hid (Sg ((((w.alloc (.cells #[.int .i64 N, .int .i64 T, .int .i64 E, .slice a3 l3 c3, .slice a4 l4 c4, .bool false, .slice a6 l6 c6] 48)).alloc (.cells SA 53)).alloc (.cells SB 53)).alloc (.cells Tryz.zeroCells53 53)) (w.heap.size + 1 + 1) SB) := (Sg.new _ _ _ hB.out (by simp)).alloc _
  have HR : Hid (Sg ((((w.alloc (.cells #[.int .i64 N, .int .i64 T, .int .i64 E, .slice a3 l3 c3, .slice a4 l4 c4, .bool false, .slice a6 l6 c6] 48)).alloc (.cells SA 53)).alloc (.cells SB 53)).alloc (.cells Tryz.zeroCells53 53)) (w.heap.size + 1 + 1 + 1) Tryz.zeroCells53) := Sg.zero _ _ (by simp)
  generalize hwA : ((((w.alloc (.cells #[.int .i64 N, .int .i64 T, .int .i64 E, .slice a3 l3 c3, .slice a4 l4 c4, .bool false, .slice a6 l6 c6] 48)).alloc (.cells SA 53)).alloc (.cells SB 53)).alloc (.cells Tryz.zeroCells53 53)) = wA at HQ BX HSA HSB HR
  have y0 := BX.out.c (i := 0) rfl
  have y1 := BX.out.c (i := 1) rfl
  have H1 : Hid (IntKind.i64.wrap (1 + N) = 1 + N) := h1
  clear hX hq hA' hB' hE' hD' hZ' hR'
  go_enter Tryz.func31, Tryz.ntmps31
  go_wp2_with fail
  refine reg_P2 wA N T E a3 l3 c3 a4 l4 c4 a6 l6 c6 w.heap.size (w.heap.size + 1) (w.heap.size + 1 + 1) SA SB SS SE o HSA.out.blk hA.out.1 HSB.out.blk hB.out.1 BX.out hE.out HX.out (fun W' q => KA W' (Old.trans HQ.out q)) (fun W' q => KX W' (Old.trans HQ.out q)) _ _ ?_ ?_ ?_ ?_ ?_ ?_
  iterate 5 (· exact rfl)
  intro us W1 g9 q1 e9 b9 z9
  have hs1 : w.heap.size + 1 + 1 + 1 < g9 := Nat.lt_of_lt_of_le HR.out.lt b9
  have HQ1 : Hid (Old w W1) := Old.trans HQ.out q1
  have BX1 : Hid (Bk W1 w.heap.size #[.int .i64 N, .int .i64 T, .int .i64 E, .slice a3 l3 c3, .slice a4 l4 c4, .bool false, .slice a6 l6 c6] 48) := BX.out.old q1
  have HSA1 : Hid (Sg W1 (w.heap.size + 1) SA) := HSA.out.old q1
  have HSB1 : Hid (Sg W1 (w.heap.size + 1 + 1) SB) := HSB.out.old q1
  have HR1 : Hid (Sg W1 (w.heap.size + 1 + 1 + 1) Tryz.zeroCells53) := HR.out.old q1
  have HE1 : Hid (Sg W1 g9 SE) := ⟨z9, hE.out⟩
  simp only [putAll, Act.put, slotP2, List.range, List.range.loop, List.map_cons, List.map_nil, List.getD_cons_zero, List.getD_cons_succ, List.setIfInBounds_toArray, List.set_cons_succ, List.set_cons_zero]
  simp only [e9]
  clear q1 e9 b9 z9 HQ BX HSA HSB HR hwA y0 y1 KA KX h1 h2 h3 h3' h4
  go_wp2_with fail
  refine reg_P3 W1 N T E a3 l3 c3 a4 l4 c4 a6 l6 c6 w.heap.size (w.heap.size + 1) (w.heap.size + 1 + 1) SA SB SM SN SQ SD SZ HSA1.out.blk hA.out.1 HSB1.out.blk hB.out.1 BX1.out hD.out hZ.out (fun W' q => KM W' (Old.trans HQ1.out q)) (fun W' q => KY W' (Old.trans HQ1.out q)) (fun W' q => KZ W' (Old.trans HQ1.out q)) (fun W' q => KD W' (Old.trans HQ1.out q)) _ _ ?_ ?_ ?_ ?_ ?_
  iterate 4 (· exact rfl)
  intro us2 W2 g14 g15 q2 e14 b14 e15 b15 z14 z15
  have HQ2 : Hid (Old w W2) := Old.trans HQ1.out q2
  have BX2 : Hid (Bk W2 w.heap.size #[.int .i64 N, .int .i64 T, .int .i64 E, .slice a3 l3 c3, .slice a4 l4 c4, .bool false, .slice a6 l6 c6] 48) := BX1.out.old q2
  have HR2 : Hid (Sg W2 (w.heap.size + 1 + 1 + 1) Tryz.zeroCells53) := HR1.out.old q2
  have HE2 : Hid (Sg W2 g9 SE) := HE1.out.old q2
  have HD2 : Hid (Sg W2 g14 SD) := ⟨z14, hD.out⟩
  simp only [putAll, Act.put, slotP3, List.range, List.range.loop, List.map_cons, List.map_nil, List.getD_cons_zero, List.getD_cons_succ, List.setIfInBounds_toArray, List.set_cons_succ, List.set_cons_zero]
  simp only [e14, e15]
  have y0 := BX2.out.c (i := 0) rfl
  have y1 := BX2.out.c (i := 1) rfl
  have h1 : IntKind.i64.wrap (1 + N) = 1 + N := H1.out
  clear q2 e14 b14 e15 b15 z14 z15 HQ1 BX1 HSA1 HSB1 HR1 HE1 KM KY KZ KD
  go_wp2_with fail
  refine reg_P5 W2 N T E a3 l3 c3 a4 l4 c4 a6 l6 c6 w.heap.size g9 g14 (w.heap.size + 1 + 1 + 1) SE SD SU SR Tryz.zeroCells53 q BX2.out HD2.out.blk hD.out.1 HE2.out.blk hE.out.1 HR2.out.blk sq_zero.1 hR.out Hq.out (fun W' q => KU W' (Old.trans HQ2.out q)) (fun W' q => KR W' (Old.trans HQ2.out q)) _ _ ?_ ?_ ?_ ?_ ?_ ?_ ?_
  iterate 6 (· exact rfl)
  intro us3 W3 q3
  have HQ3 : Hid (Old w W3) := Old.trans HQ2.out q3
  have HR3 : Hid (Sg W3 (w.heap.size + 1 + 1 + 1) Tryz.zeroCells53) := HR2.out.old q3
  simp only [putAll, Act.put, slotP5, List.range, List.range.loop, List.map_cons, List.map_nil, List.getD_cons_zero, List.getD_cons_succ, List.setIfInBounds_toArray, List.set_cons_succ, List.set_cons_zero]
  clear q3
  go_wp2_with (first | ((with_reducible refine bodyPost_ret (ret_sg Tryz.results31 _ _ ?_ (HR3.out.row SR hR.out)) ?_ ?_); exact rfl; exact rfl; exact ⟨rfl, HQ3.out.row (by omega) _⟩))
def dgS (xs : List Int) : Nat → Int
  | 0 => 0
  | k + 1 => dgS xs k + (xs.getD k 0 - 1)
theorem dgS_bd (xs : List Int) (h : ∀ k, k < xs.length → 2 ≤ xs.getD k 0 ∧ xs.getD k 0 ≤ 268435456) : ∀ k, k ≤ xs.length → 0 ≤ dgS xs k ∧ dgS xs k ≤ 268435456 * k
  | 0, _ => by simp [dgS]
  | k + 1, hk => by
    have h1 := dgS_bd xs h k (by omega)
    have h2 := h k (by omega)
    simp only [dgS]
    omega
set_option maxRecDepth 100000 in
set_option maxHeartbeats 4000000 in
theorem switched_of (N T E : Int) (a3 : Option Addr) (c3 : Nat) (a4 : Option Addr) (l4 c4 : Nat) (a6 : Option Addr) (l6 c6 : Nat) (xs : List Int) (S0 SR : Array Value) (Y1 Y2 Y3 : Int) (w : World) (hx : Row w (.slice a3 xs.length c3) xs) (hl : 1 ≤ xs.length ∧ xs.length ≤ 6) (hp : ∀ k, k < xs.length → 2 ≤ xs.getD k 0 ∧ xs.getD k 0 ≤ 268435456) (h0' : Sq S0) (hR' : Sq SR)
    (h1 : IntKind.i64.wrap (T * N) = Y1) (h2 : IntKind.i64.wrap (Y1 * E) = Y2) (h3 : IntKind.i64.wrap (Y2 * dgS xs xs.length) = Y3)
    (KR : ∀ W, Old w W → Calls Tryz.prog 56 #[.agg #[.int .i64 N, .int .i64 T, .int .i64 E, .slice a3 xs.length c3, .slice a4 l4 c4, .bool false, .slice a6 l6 c6], .agg S0, .int .i64 Y3] W fun e w' => e = .returned (.agg SR) ∧ Old W w') :
    Calls Tryz.prog 33 #[.agg #[.int .i64 N, .int .i64 T, .int .i64 E, .slice a3 xs.length c3, .slice a4 l4 c4, .bool false, .slice a6 l6 c6], .agg S0] w fun e w' => e = .returned (.agg SR) ∧ Old w w' := by
  have hR : Hid (Sq SR) := hR'
  rcases hx with ⟨_, _, e, e'⟩ | ⟨b2, o2, cap2, e, hb2, h02, hc2⟩
  · subst e'
    simp at hl
  simp only [Value.slice.injEq] at e
  obtain ⟨rfl, _, rfl⟩ := e
  have HC2 : Hid (∀ j, j < xs.length → w.cell? ⟨b2, o2 + j, none⟩ = some (.int .i64 (xs.getD j 0))) := hc2
  have HP : Hid (∀ k, k < xs.length → 2 ≤ xs.getD k 0 ∧ xs.getD k 0 ≤ 268435456) := hp
  have HDB : Hid (∀ k, k ≤ xs.length → 0 ≤ dgS xs k ∧ dgS xs k ≤ 268435456 * k) := dgS_bd xs hp
  have HDS : Hid (∀ k, dgS xs (k + 1) = dgS xs k + (xs.getD k 0 - 1)) := fun _ => rfl
  have HD0 : Hid (dgS xs 0 = 0) := rfl
  have HA : Hid (Old w (((w.alloc (.cells #[.int .i64 N, .int .i64 T, .int .i64 E, .slice (some ⟨b2, o2, none⟩) xs.length c3, .slice a4 l4 c4, .bool false, .slice a6 l6 c6] 48)).alloc (.cells S0 53)).alloc (.cells Tryz.zeroCells53 53))) := (((Old.refl w).alloc _).alloc _).alloc _
  have BX : Hid (Bk (((w.alloc (.cells #[.int .i64 N, .int .i64 T, .int .i64 E, .slice (some ⟨b2, o2, none⟩) xs.length c3, .slice a4 l4 c4, .bool false, .slice a6 l6 c6] 48)).alloc (.cells S0 53)).alloc (.cells Tryz.zeroCells53 53)) w.heap.size #[.int .i64 N, .int .i64 T, .int .i64 E, .slice (some ⟨b2, o2, none⟩) xs.length c3, .slice a4 l4 c4, .bool false, .slice a6 l6 c6] 48) := ((Bk.new' w _ _ rfl).alloc _).alloc _
  have HS : Hid (Sg (((w.alloc (.cells #[.int .i64 N, .int .i64 T, .int .i64 E, .slice (some ⟨b2, o2, none⟩) xs.length c3, .slice a4 l4 c4, .bool false, .slice a6 l6 c6] 48)).alloc (.cells S0 53)).alloc (.cells Tryz.zeroCells53 53)) (w.heap.size + 1) S0) := (Sg.new _ _ _ h0' (by simp)).alloc _
  have HR : Hid (Sg (((w.alloc (.cells #[.int .i64 N, .int .i64 T, .int .i64 E, .slice (some ⟨b2, o2, none⟩) xs.length c3, .slice a4 l4 c4, .bool false, .slice a6 l6 c6] 48)).alloc (.cells S0 53)).alloc (.cells Tryz.zeroCells53 53)) (w.heap.size + 1 + 1) Tryz.zeroCells53) := Sg.zero _ _ (by simp)
  generalize hwA : (((w.alloc (.cells #[.int .i64 N, .int .i64 T, .int .i64 E, .slice (some ⟨b2, o2, none⟩) xs.length c3, .slice a4 l4 c4, .bool false, .slice a6 l6 c6] 48)).alloc (.cells S0 53)).alloc (.cells Tryz.zeroCells53 53)) = wA at HA BX HS HR
  have HC3 : Hid (∀ j, j < xs.length → wA.cell? ⟨b2, o2 + j, none⟩ = some (.int .i64 (xs.getD j 0))) := fun j hj => (HA.out.cell (p := ⟨b2, o2 + j, none⟩) hb2).trans (HC2.out j hj)
  have y3 := BX.out.c (i := 3) rfl
  have y0 := BX.out.c (i := 0) rfl
  have y1 := BX.out.c (i := 1) rfl
  have y2 := BX.out.c (i := 2) rfl
  have y4 := BX.out.c (i := 4) rfl
  have y5 := BX.out.c (i := 5) rfl
  have y6 := BX.out.c (i := 6) rfl
  generalize dgS xs = dS at *
  clear hp hc2 hR' h0' h02
  go_enter Tryz.func33, Tryz.ntmps33
  go_wp2_with fail
  go_loopw [5, 12] (fun x i W => ∃ (k : Nat), k ≤ xs.length ∧ i = .int .i64 k ∧ x = .int .i64 (dS k) ∧ W = wA) (fun _ i _ => xs.length - (intOf i).toNat)
  case atStart => exact ⟨0, by omega, rfl, by rw [HD0.out], rfl⟩
  case round =>
    obtain ⟨k, hk, rfl, rfl, rfl⟩ := hrel
    by_cases hlt : k < xs.length
    · have d1 : decide ((k : Int) < (xs.length : Int)) = true := decide_eq_true (by omega)
      have c1 := HC3.out k hlt
      have p1 := HP.out k hlt
      have p2 := HDB.out k (by omega)
      have p3 := HDS.out k
      have w1 : IntKind.i64.wrap (xs.getD k 0 - 1) = xs.getD k 0 - 1 := by rw [IntKind.wrap_i64]; omega
      have w2 : IntKind.i64.wrap (dS k + (xs.getD k 0 - 1)) = dS (k + 1) := by rw [p3, IntKind.wrap_i64]; omega
      clear p3
      generalize xs.getD k 0 = pk at *
      go_wp2_with fail
      exact ⟨⟨k + 1, by omega, by go_num, by first | rfl | trivial, by first | rfl | trivial⟩, by simp [intOf]; omega⟩
    · have d1 : decide ((k : Int) < (xs.length : Int)) = false := decide_eq_false (by omega)
      obtain rfl : k = xs.length := by omega
      have hsz := HR.out.lt
      go_wp2_with (first | ((with_reducible refine load_sg HS.out ?_ ?_); exact rfl; simp only [Act.put, List.setIfInBounds_toArray, List.set_cons_succ, List.set_cons_zero]) | (go_at_call 56; refine (KR _ HA.out).mono ?_; rintro e w3 ⟨rfl, g3⟩; have HR3 : Hid (Sg w3 (w.heap.size + 1 + 1) Tryz.zeroCells53) := HR.out.old g3; have HO3 : Hid (Old w w3) := Old.trans HA.out g3; clear g3) | ((with_reducible refine store_sg HR3.out (SR) hR.out ?_ ?_ ?_); exact rfl; exact rfl; simp only [Act.put]) | ((with_reducible refine bodyPost_ret (ret_sg Tryz.results33 _ _ ?_ (HR3.out.row SR hR.out)) ?_ ?_); exact rfl; exact rfl; exact ⟨rfl, HO3.out.row (by omega) _⟩))
end Go.Proofs.YtihjndakgncdaaaGreatDoor
