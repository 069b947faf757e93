/- Proved: several texts in one: what each proves is said ahead of it. -/
import Derived.Test.YtpcpahgflkjnaaaGreatDoorB52
import Derived.Test.YtpcpahgflkjnaaaGreatDoorB05
import Derived.Test.YtpcpahgflkjnaaaGreatDoorMlr
import Derived.Test.YtpcpahgflkjnaaaGreatDoorB07
import Derived.KernelRfl
import Derived.Test.YtpcpahgflkjnaaaGreatDoorB49
import Derived.Test.YtpcpahgflkjnaaaGreatDoorB00
import Derived.Test.YtpcpahgflkjnaaaGreatDoorB10
import Derived.Test.YtpcpahgflkjnaaaGreatDoorNhq5
import Derived.Test.YtpcpahgflkjnaaaGreatDoorNiq5
import Derived.Test.YtpcpahgflkjnaaaGreatDoorB30
import Derived.Test.YtpcpahgflkjnaaaGreatDoorLawMulBound
/- Proved: the model's l11Mul, l11Switch and l11Bound. -/
namespace Go.Proofs.YtpcpahgflkjnaaaGreatDoor
open Go.ChangeShapes Go.WideShapes Go.ChangeAt Go.RowKit
open M2
set_option linter.unusedVariables false
set_option linter.unusedSimpArgs false
def mulM (q N T a b : Nat) : Nat := N * oftN N T * (a + b) + (N * (a * b) / q + 1) + rndN N T
theorem mulM_eq (q N T a b : Nat) : mulM q N T a b = (a + b) * (N * oftN N T) + a * b * N / q + (1 + rndN N T) := by
  unfold mulM
  rw [Nat.mul_comm (N * oftN N T) (a + b), Nat.mul_comm N (a * b)]
  omega
set_option maxRecDepth 100000 in
set_option maxHeartbeats 4000000 in
theorem l11Mul_n (Nn Tn En : Nat) (P : List Nat) (a0 : Option Addr) (l0 c0 : Nat) (a b : Nat) (v u : Value) (w : World) (hv : Row w (.slice a0 l0 c0) (toZ P)) (hb : Bas P) (h0 : 0 < prodN P) (hN : 2 ≤ Nn ∧ Nn ≤ 16) (hT : 2 ≤ Tn ∧ Tn ≤ 65536) (ha : RwD a w v) (hb' : RwD b w u) (hca : cnt a ≤ 100) (hcb : cnt b ≤ 100) : Calls Tryz.prog 92 #[.agg #[.int .i64 (Nn : Int), .int .i64 (Tn : Int), .int .i64 (En : Int), .slice a0 l0 c0], v, u] w fun e w' => ∃ v, e = .returned v ∧ Old w w' ∧ RwD (mulM (prodN P) Nn Tn a b) w' v := by
  obtain ⟨b1, b2, b3, b4, b5⟩ := oft_bd hN hT
  have HV : Hid (Row w (.slice a0 l0 c0) (toZ P)) := hv
  have hcq := hb.cnt
  have CQ := fun W (g : Old w W) => l9Q_n Nn Tn En P a0 l0 c0 W (HV.out.old g) hb
  have e1 : (Tn : Int) * (1 + (Nn : Int)) = ((Tn * (1 + Nn) : Nat) : Int) := by rw [Int.natCast_mul, Int.natCast_add]; rfl
  have e2 : (Nn : Int) * (Nn : Int) = ((Nn * Nn : Nat) : Int) := by rw [Int.natCast_mul]
  have e3 : (Tn : Int) * (1 + (Nn : Int) + ((Nn * Nn : Nat) : Int)) = ((Tn * (1 + Nn + Nn * Nn) : Nat) : Int) := by first | (push_cast; rfl) | push_cast
  have e4 : (Nn : Int) * ((oftN Nn Tn : Nat) : Int) = ((Nn * oftN Nn Tn : Nat) : Int) := by rw [Int.natCast_mul]
  have k1 : cnt (a + b) ≤ 101 := cnt_addL hca hcb
  have k2 : cnt (Nn * oftN Nn Tn) ≤ 3 := cnt_w (by omega)
  have k3 : cnt (Nn * oftN Nn Tn * (a + b)) ≤ 104 := Nat.le_trans (cnt_mul _ _) (by omega)
  have k4 : cnt (a * b) ≤ 200 := Nat.le_trans (cnt_mul _ _) (by omega)
  have k5 : cnt Nn ≤ 3 := cnt_w (by omega)
  have k6 : cnt (Nn * (a * b)) ≤ 203 := Nat.le_trans (cnt_mul _ _) (by omega)
  have k7 : cnt (Nn * (a * b) / prodN P) ≤ 203 := Nat.le_trans (cnt_mono (Nat.div_le_self _ _)) k6
  have k8 : cnt (Nn * (a * b) / prodN P + 1) ≤ 204 := cnt_addL (k := 203) k7 (Nat.le_trans (cnt_w (by omega)) (by omega))
  have k9 : cnt (Nn * oftN Nn Tn * (a + b) + (Nn * (a * b) / prodN P + 1)) ≤ 205 := cnt_addL (k := 204) (by omega) k8
  have k10 : cnt (rndN Nn Tn) ≤ 3 := cnt_w (by omega)
  have g1' : IntKind.i64.wrap (1 + (Nn : Int)) = 1 + (Nn : Int) := by rw [IntKind.wrap_i64]; omega
  have g2' : IntKind.i64.wrap ((Tn : Int) * (1 + (Nn : Int))) = ((Tn * (1 + Nn) : Nat) : Int) := by rw [e1, IntKind.wrap_i64]; omega
  have g3' : (((Tn * (1 + Nn) : Nat) : Int)).tdiv 2 = ((Tn * (1 + Nn) / 2 : Nat) : Int) := by rw [Int.tdiv_eq_ediv_of_nonneg (by omega)]; rfl
  have g4' : IntKind.i64.wrap ((Tn * (1 + Nn) / 2 : Nat) : Int) = ((Tn * (1 + Nn) / 2 : Nat) : Int) := by rw [IntKind.wrap_i64]; omega
  have g5' : IntKind.i64.wrap (((Tn * (1 + Nn) / 2 : Nat) : Int) + 1) = ((oftN Nn Tn : Nat) : Int) := by rw [IntKind.wrap_i64]; unfold oftN; omega
  have g6' : IntKind.i64.wrap ((Nn : Int) * ((oftN Nn Tn : Nat) : Int)) = ((Nn * oftN Nn Tn : Nat) : Int) := by rw [e4, IntKind.wrap_i64]; omega
  have f1' : IntKind.i64.wrap ((Nn : Int) * (Nn : Int)) = ((Nn * Nn : Nat) : Int) := by rw [e2, IntKind.wrap_i64]; omega
  have f2' : IntKind.i64.wrap (1 + (Nn : Int) + ((Nn * Nn : Nat) : Int)) = 1 + (Nn : Int) + ((Nn * Nn : Nat) : Int) := by rw [IntKind.wrap_i64]; omega
  have f3' : IntKind.i64.wrap ((Tn : Int) * (1 + (Nn : Int) + ((Nn * Nn : Nat) : Int))) = ((Tn * (1 + Nn + Nn * Nn) : Nat) : Int) := by rw [e3, IntKind.wrap_i64]; omega
  have f4' : (((Tn * (1 + Nn + Nn * Nn) : Nat) : Int)).tdiv 2 = ((Tn * (1 + Nn + Nn * Nn) / 2 : Nat) : Int) := by rw [Int.tdiv_eq_ediv_of_nonneg (by omega)]; rfl
  have f5' : IntKind.i64.wrap ((Tn * (1 + Nn + Nn * Nn) / 2 : Nat) : Int) = ((Tn * (1 + Nn + Nn * Nn) / 2 : Nat) : Int) := by rw [IntKind.wrap_i64]; omega
  have f6' : IntKind.i64.wrap (((Tn * (1 + Nn + Nn * Nn) / 2 : Nat) : Int) + 1) = ((rndN Nn Tn : Nat) : Int) := by rw [IntKind.wrap_i64]; unfold rndN; omega
  have HG1 : Hid (IntKind.i64.wrap (1 + (Nn : Int)) = 1 + (Nn : Int)) := g1'
  have HM : Hid (mulM (prodN P) Nn Tn a b = Nn * oftN Nn Tn * (a + b) + (Nn * (a * b) / prodN P + 1) + rndN Nn Tn) := rfl
  have KNo : ∀ W, Calls Tryz.prog 86 #[.int .i64 ((Nn * oftN Nn Tn : Nat) : Int)] W fun e w' => ∃ v, e = .returned v ∧ Old W w' ∧ RwD (Nn * oftN Nn Tn) w' v := fun W => of_n _ W (by omega)
  have KNn : ∀ W, Calls Tryz.prog 86 #[.int .i64 (Nn : Int)] W fun e w' => ∃ v, e = .returned v ∧ Old W w' ∧ RwD Nn w' v := fun W => of_n _ W (by omega)
  have KRn : ∀ W, Calls Tryz.prog 86 #[.int .i64 ((rndN Nn Tn : Nat) : Int)] W fun e w' => ∃ v, e = .returned v ∧ Old W w' ∧ RwD (rndN Nn Tn) w' v := fun W => of_n _ W (by omega)
  obtain ⟨va, vc, rfl, ra⟩ := ha
  obtain ⟨ua, uc, rfl, rb⟩ := hb'
  have HRA : Hid (RwD a w (.slice va (dig a).length vc)) := ⟨va, vc, rfl, ra⟩
  have HRB : Hid (RwD b w (.slice ua (dig b).length uc)) := ⟨ua, uc, rfl, rb⟩
  clear ra rb hv e1 e2 e3 e4 b1 b2 b3 b4 b5
  generalize (Tn * (1 + Nn + Nn * Nn) / 2 : Nat) = X6 at *
  generalize (Tn * (1 + Nn + Nn * Nn) : Nat) = X5 at *
  generalize (Nn * Nn : Nat) = X3 at *
  generalize (Tn * (1 + Nn) / 2 : Nat) = X2 at *
  generalize (Tn * (1 + Nn) : Nat) = X1 at *
  generalize hO : (Nn * oftN Nn Tn : Nat) = NO at *
  generalize oftN Nn Tn = oo at *
  generalize rndN Nn Tn = rr at *
  generalize mulM (prodN P) Nn Tn a b = MM at *
  generalize prodN P = q at *
  generalize (dig a).length = la at *
  generalize (dig b).length = lb at *
  have HA : Hid (Old w (w.alloc (.cells #[.int .i64 (Nn : Int), .int .i64 (Tn : Int), .int .i64 (En : Int), .slice a0 l0 c0] 34))) := (Old.refl w).alloc _
  have BP : Hid (Bk (w.alloc (.cells #[.int .i64 (Nn : Int), .int .i64 (Tn : Int), .int .i64 (En : Int), .slice a0 l0 c0] 34)) w.heap.size #[.int .i64 (Nn : Int), .int .i64 (Tn : Int), .int .i64 (En : Int), .slice a0 l0 c0] 34) := Bk.new' w _ _ rfl
  generalize hwA : (w.alloc (.cells #[.int .i64 (Nn : Int), .int .i64 (Tn : Int), .int .i64 (En : Int), .slice a0 l0 c0] 34)) = wA at HA BP
  have p0 := BP.out.c (i := 0) rfl
  have p1 := BP.out.c (i := 1) rfl
  clear hO hN hT
  go_enter Tryz.func92, Tryz.ntmps92
  go_wp2_with fail
  refine (KNo _).mono ?_
  rintro e w1 ⟨v1, rfl, g1, ya, yc, rfl, r1⟩
  have HO1 : Hid (Old w w1) := Old.trans HA.out g1
  have BP1 : Hid (Bk w1 w.heap.size #[.int .i64 (Nn : Int), .int .i64 (Tn : Int), .int .i64 (En : Int), .slice a0 l0 c0] 34) := BP.out.old g1
  have HY1 : Hid (RwD NO w1 (.slice ya (dig NO).length yc)) := ⟨ya, yc, rfl, r1⟩
  clear g1 r1 p0 p1 BP HA hwA KNo g1' g2' g3' g4' g5' g6'
  go_wp2_with fail
  refine (add_n a b _ _ w1 (HRA.out.old HO1.out) (HRB.out.old HO1.out) (by omega) (by omega)).mono ?_
  rintro e w2 ⟨v2, rfl, g2, za, zc, rfl, r2⟩
  have HO2 : Hid (Old w w2) := Old.trans HO1.out g2
  have BP2 : Hid (Bk w2 w.heap.size #[.int .i64 (Nn : Int), .int .i64 (Tn : Int), .int .i64 (En : Int), .slice a0 l0 c0] 34) := BP1.out.old g2
  have HY2 : Hid (RwD NO w2 (.slice ya (dig NO).length yc)) := HY1.out.old g2
  have HZ2 : Hid (RwD (a + b) w2 (.slice za (dig (a + b)).length zc)) := ⟨za, zc, rfl, r2⟩
  clear g2 r2 HY1 BP1
  go_wp2_with fail
  refine (mul_n NO (a + b) _ _ w2 HY2.out HZ2.out (by omega) (by omega)).mono ?_
  rintro e w3 ⟨v3, rfl, g3, oa, oc, rfl, r3⟩
  have HO3 : Hid (Old w w3) := Old.trans HO2.out g3
  have BP3 : Hid (Bk w3 w.heap.size #[.int .i64 (Nn : Int), .int .i64 (Tn : Int), .int .i64 (En : Int), .slice a0 l0 c0] 34) := BP2.out.old g3
  have HU3 : Hid (RwD (NO * (a + b)) w3 (.slice oa (dig (NO * (a + b))).length oc)) := ⟨oa, oc, rfl, r3⟩
  clear g3 r3 HY2 HZ2 BP2 HO1 HO2
  generalize (dig (NO * (a + b))).length = lo at *
  go_wp2_with fail
  refine reg_Mj w3 Nn Tn En a0 l0 c0 w.heap.size va la vc ua lb uc (RwD Nn) (RwD (a * b)) (RwD (Nn * (a * b))) (RwD q) (fun W x => ∃ v1 v2, x = .tuple #[v1, v2] ∧ RwD (Nn * (a * b) / q) W v1 ∧ RwD (Nn * (a * b) % q) W v2) (RwD (Nn * (a * b) / q)) (RwD (Nn * (a * b) % q)) (fun W W' v h q => h.old q) (fun W W' v h q => h.old q) (fun W W' v h q => h.old q) (fun W W' v h q => h.old q) (fun W W' v h g => by obtain ⟨v1, v2, e, h1, h2⟩ := h; exact ⟨v1, v2, e, h1.old g, h2.old g⟩) (fun W W' v h q => h.old q) (fun W W' v h q => h.old q) (fun W x h => h) BP3.out (fun W g => KNn W) (fun W g => mul_n a b _ _ W (HRA.out.old (Old.trans HO3.out g)) (HRB.out.old (Old.trans HO3.out g)) (by omega) (by omega)) (fun W g u1 u2 h1 h2 => mul_n Nn (a * b) u1 u2 W h1 h2 (by omega) (by omega)) (fun W g => CQ W (Old.trans HO3.out g)) (fun W g u1 u2 h1 h2 => (div_n (Nn * (a * b)) q u1 u2 W h1 h2 (by omega) (by omega) h0).mono fun e w' h => by obtain ⟨v1, v2, e1, g1, d1, d2⟩ := h; exact ⟨_, e1, g1, v1, v2, rfl, d1, d2⟩) _ _ ?_ ?_ ?_ ?_ ?_
  iterate 4 (· exact rfl)
  intro us W4 q4 h13
  obtain ⟨da, dc, e13, r13⟩ := h13
  have HO4 : Hid (Old w W4) := Old.trans HO3.out q4
  have BP4 : Hid (Bk W4 w.heap.size #[.int .i64 (Nn : Int), .int .i64 (Tn : Int), .int .i64 (En : Int), .slice a0 l0 c0] 34) := BP3.out.old q4
  have HU4 : Hid (RwD (NO * (a + b)) W4 (.slice oa lo oc)) := HU3.out.old q4
  have HD4 : Hid (RwD (Nn * (a * b) / q) W4 (.slice da (dig (Nn * (a * b) / q)).length dc)) := ⟨da, dc, rfl, r13⟩
  simp only [putAll, Act.put, slotMj, List.range, List.range.loop, List.map_cons, List.map_nil, List.getD_cons_zero, List.getD_cons_succ, List.setIfInBounds_toArray, List.set_cons_succ, List.set_cons_zero]
  simp only [e13]
  clear q4 e13 r13 BP3 HU3 HO3 KNn CQ HRA HRB
  generalize (dig (Nn * (a * b) / q)).length = ld at *
  generalize Nn * (a * b) / q = BQ at *
  generalize NO * (a + b) = AQ at *
  have K1 : Calls Tryz.prog 85 #[.slice da ld dc, .slice (some ⟨W4.heap.size, 0, none⟩) 1 1] (W4.alloc (.cells #[.int .i64 1] 3)) fun e w' => ∃ v, e = .returned v ∧ Old (W4.alloc (.cells #[.int .i64 1] 3)) w' ∧ RwD (BQ + 1) w' v := add_n BQ 1 _ _ _ (HD4.out.old ((Old.refl W4).alloc _)) (RwD.one W4 1 (by decide)) (by omega) (by decide)
  go_wp2_with fail
  refine K1.mono ?_
  rintro e w5 ⟨v5, rfl, g5, ea, ec, rfl, r5⟩
  have HO5 : Hid (Old w w5) := Old.trans (HO4.out.alloc _) g5
  have BP5 : Hid (Bk w5 w.heap.size #[.int .i64 (Nn : Int), .int .i64 (Tn : Int), .int .i64 (En : Int), .slice a0 l0 c0] 34) := (BP4.out.alloc _).old g5
  have HU5 : Hid (RwD AQ w5 (.slice oa lo oc)) := HU4.out.old (Old.trans ((Old.refl W4).alloc _) g5)
  have HE5 : Hid (RwD (BQ + 1) w5 (.slice ea (dig (BQ + 1)).length ec)) := ⟨ea, ec, rfl, r5⟩
  clear g5 r5 K1 BP4 HU4 HD4 HO4
  generalize (dig (BQ + 1)).length = le at *
  go_wp2_with fail
  refine (add_n AQ (BQ + 1) _ _ w5 HU5.out HE5.out (by omega) (by omega)).mono ?_
  rintro e w6 ⟨v6, rfl, g6, ha, hc, rfl, r6⟩
  have HO6 : Hid (Old w w6) := Old.trans HO5.out g6
  have BP6 : Hid (Bk w6 w.heap.size #[.int .i64 (Nn : Int), .int .i64 (Tn : Int), .int .i64 (En : Int), .slice a0 l0 c0] 34) := BP5.out.old g6
  have HS6 : Hid (RwD (AQ + (BQ + 1)) w6 (.slice ha (dig (AQ + (BQ + 1))).length hc)) := ⟨ha, hc, rfl, r6⟩
  have x0 := BP6.out.c (i := 0) rfl
  have x1 := BP6.out.c (i := 1) rfl
  have g1' : IntKind.i64.wrap (1 + (Nn : Int)) = 1 + (Nn : Int) := HG1.out
  clear g6 r6 BP5 HU5 HE5 HO5
  generalize (dig (AQ + (BQ + 1))).length = ls at *
  go_wp2_with fail
  refine (KRn _).mono ?_
  rintro e w7 ⟨v7, rfl, g7, ka, kc, rfl, r7⟩
  have HO7 : Hid (Old w w7) := Old.trans HO6.out g7
  have HS7 : Hid (RwD (AQ + (BQ + 1)) w7 (.slice ha ls hc)) := HS6.out.old g7
  have HK7 : Hid (RwD rr w7 (.slice ka (dig rr).length kc)) := ⟨ka, kc, rfl, r7⟩
  clear g7 r7 x0 x1 HS6 HO6 BP6 KRn f1' f2' f3' f4' f5' f6' g1'
  go_wp2_with fail
  refine (add_n (AQ + (BQ + 1)) rr _ _ w7 HS7.out HK7.out (by omega) (by omega)).mono ?_
  rintro e w8 ⟨v8, rfl, g8, r8⟩
  have HO8 : Hid (Old w w8) := Old.trans HO7.out g8
  have HR8 : Hid (RwD (AQ + (BQ + 1) + rr) w8 v8) := r8
  clear g8 r8
  go_wp2_with fail
  go_ret
  exact ⟨_, rfl, HO8.out, by rw [HM.out]; exact HR8.out⟩
end Go.Proofs.YtpcpahgflkjnaaaGreatDoor
/- Proved: the model's MulBound and BudgetOf. -/
namespace Go.Proofs.YtpcpahgflkjnaaaGreatDoor
open Go.ChangeShapes Go.WideShapes Go.ChangeAt Go.RowKit
open M2
set_option linter.unusedVariables false
set_option linter.unusedSimpArgs false
set_option maxRecDepth 100000 in
set_option maxHeartbeats 4000000 in
theorem spec_MulBound_no (N T E : Int) (a0 : Option Addr) (l0 c0 : Nat) (na : Bool) (a1 : Option Addr) (l1 c1 : Nat) (nb : Bool) (a2 : Option Addr) (l2 c2 : Nat) (bA bB : Bool) (hAB : (bA && bB) = false) (w : World) (KA : ∀ W, Old w W → Calls Tryz.prog 84 #[.agg #[.int .i64 N, .int .i64 T, .int .i64 E, .slice a0 l0 c0], .agg #[.bool na, .slice a1 l1 c1]] W fun e w' => e = .returned (.bool bA) ∧ Old W w') (KB : ∀ W, Old w W → Calls Tryz.prog 84 #[.agg #[.int .i64 N, .int .i64 T, .int .i64 E, .slice a0 l0 c0], .agg #[.bool nb, .slice a2 l2 c2]] W fun e w' => e = .returned (.bool bB) ∧ Old W w') :
    Calls Tryz.prog 39 #[.agg #[.int .i64 N, .int .i64 T, .int .i64 E, .slice a0 l0 c0], .agg #[.bool na, .slice a1 l1 c1], .agg #[.bool nb, .slice a2 l2 c2]] w (WhA [] false w) := by
  have HA : Hid (Old w ((((w.alloc (.cells #[.int .i64 N, .int .i64 T, .int .i64 E, .slice a0 l0 c0] 34)).alloc (.cells #[.bool na, .slice a1 l1 c1] 31)).alloc (.cells #[.bool nb, .slice a2 l2 c2] 31)).alloc (.cells #[.bool false, .slice none 0 0] 31))) := ((((Old.refl w).alloc _).alloc _).alloc _).alloc _
  have BP : Hid (Bk ((((w.alloc (.cells #[.int .i64 N, .int .i64 T, .int .i64 E, .slice a0 l0 c0] 34)).alloc (.cells #[.bool na, .slice a1 l1 c1] 31)).alloc (.cells #[.bool nb, .slice a2 l2 c2] 31)).alloc (.cells #[.bool false, .slice none 0 0] 31)) w.heap.size #[.int .i64 N, .int .i64 T, .int .i64 E, .slice a0 l0 c0] 34) := (((Bk.new' w _ _ rfl).alloc _).alloc _).alloc _
  have BA : Hid (Bk ((((w.alloc (.cells #[.int .i64 N, .int .i64 T, .int .i64 E, .slice a0 l0 c0] 34)).alloc (.cells #[.bool na, .slice a1 l1 c1] 31)).alloc (.cells #[.bool nb, .slice a2 l2 c2] 31)).alloc (.cells #[.bool false, .slice none 0 0] 31)) (w.heap.size + 1) #[.bool na, .slice a1 l1 c1] 31) := ((Bk.new' _ _ _ (by simp)).alloc _).alloc _
  have BB : Hid (Bk ((((w.alloc (.cells #[.int .i64 N, .int .i64 T, .int .i64 E, .slice a0 l0 c0] 34)).alloc (.cells #[.bool na, .slice a1 l1 c1] 31)).alloc (.cells #[.bool nb, .slice a2 l2 c2] 31)).alloc (.cells #[.bool false, .slice none 0 0] 31)) (w.heap.size + 1 + 1) #[.bool nb, .slice a2 l2 c2] 31) := (Bk.new' _ _ _ (by simp)).alloc _
  have BR : Hid (Bk ((((w.alloc (.cells #[.int .i64 N, .int .i64 T, .int .i64 E, .slice a0 l0 c0] 34)).alloc (.cells #[.bool na, .slice a1 l1 c1] 31)).alloc (.cells #[.bool nb, .slice a2 l2 c2] 31)).alloc (.cells #[.bool false, .slice none 0 0] 31)) (w.heap.size + 1 + 1 + 1) #[.bool false, .slice none 0 0] 31) := Bk.new' _ _ _ (by simp)
  generalize hwA : ((((w.alloc (.cells #[.int .i64 N, .int .i64 T, .int .i64 E, .slice a0 l0 c0] 34)).alloc (.cells #[.bool na, .slice a1 l1 c1] 31)).alloc (.cells #[.bool nb, .slice a2 l2 c2] 31)).alloc (.cells #[.bool false, .slice none 0 0] 31)) = wA at HA BP BA BB BR
  have p0 := BP.out.c (i := 0) rfl
  have p1 := BP.out.c (i := 1) rfl
  have p2 := BP.out.c (i := 2) rfl
  have p3 := BP.out.c (i := 3) rfl
  have u0 := BA.out.c (i := 0) rfl
  have u1 := BA.out.c (i := 1) rfl
  cases bA
  · clear hAB
    go_enter Tryz.func39, Tryz.ntmps39
    go_wp2_with fail
    refine (KA _ HA.out).mono ?_
    rintro e w1 ⟨rfl, g1⟩
    have HO1 : Hid (Old w w1) := Old.trans HA.out g1
    have R1 : Hid (Bk w1 (w.heap.size + 1 + 1 + 1) #[.bool false, .slice none 0 0] 31) := BR.out.old g1
    clear g1 p0 p1 p2 p3 u0 u1
    have y0 := R1.out.c (i := 0) rfl
    have y1 := R1.out.c (i := 1) rfl
    have f0 := frozen_of_row _ _ 0 _ _ R1.out
    have f1 := frozen_of_row _ _ 1 _ _ R1.out
    go_wp2_with fail
    have HF := bk_putW R1.out (.bool false) (.slice none 0 0)
    have q0 := HF.c (i := 0) rfl
    have q1 := HF.c (i := 1) rfl
    refine bodyPost_ret (v := .tuple #[.agg #[.bool false, .slice none 0 0], .bool false]) (by simp [results, Tryz.results39, go_sem, q0, q1]) rfl ?_
    exact ⟨_, rfl, (HO1.out.own (p := ⟨w.heap.size + 1 + 1 + 1, 0, none⟩) (by simp; try omega) _).own (p := ⟨w.heap.size + 1 + 1 + 1, 1, none⟩) (by simp; try omega) _, nil_own _ _⟩
  · obtain rfl : bB = false := hAB
    go_enter Tryz.func39, Tryz.ntmps39
    go_wp2_with fail
    refine (KA _ HA.out).mono ?_
    rintro e w1 ⟨rfl, g1⟩
    have HO1 : Hid (Old w w1) := Old.trans HA.out g1
    have R1 : Hid (Bk w1 (w.heap.size + 1 + 1 + 1) #[.bool false, .slice none 0 0] 31) := BR.out.old g1
    have P1 : Hid (Bk w1 w.heap.size #[.int .i64 N, .int .i64 T, .int .i64 E, .slice a0 l0 c0] 34) := BP.out.old g1
    have B1 : Hid (Bk w1 (w.heap.size + 1 + 1) #[.bool nb, .slice a2 l2 c2] 31) := BB.out.old g1
    clear g1 p0 p1 p2 p3 u0 u1
    have p0 := P1.out.c (i := 0) rfl
    have p1 := P1.out.c (i := 1) rfl
    have p2 := P1.out.c (i := 2) rfl
    have p3 := P1.out.c (i := 3) rfl
    have u0 := B1.out.c (i := 0) rfl
    have u1 := B1.out.c (i := 1) rfl
    go_wp2_with fail
    refine (KB _ HO1.out).mono ?_
    rintro e w2 ⟨rfl, g2⟩
    have HO2 : Hid (Old w w2) := Old.trans HO1.out g2
    have R2 : Hid (Bk w2 (w.heap.size + 1 + 1 + 1) #[.bool false, .slice none 0 0] 31) := R1.out.old g2
    clear g2 p0 p1 p2 p3 u0 u1
    have y0 := R2.out.c (i := 0) rfl
    have y1 := R2.out.c (i := 1) rfl
    have f0 := frozen_of_row _ _ 0 _ _ R2.out
    have f1 := frozen_of_row _ _ 1 _ _ R2.out
    go_wp2_with fail
    have HF := bk_putW R2.out (.bool false) (.slice none 0 0)
    have q0 := HF.c (i := 0) rfl
    have q1 := HF.c (i := 1) rfl
    refine bodyPost_ret (v := .tuple #[.agg #[.bool false, .slice none 0 0], .bool false]) (by simp [results, Tryz.results39, go_sem, q0, q1]) rfl ?_
    exact ⟨_, rfl, (HO2.out.own (p := ⟨w.heap.size + 1 + 1 + 1, 0, none⟩) (by simp; try omega) _).own (p := ⟨w.heap.size + 1 + 1 + 1, 1, none⟩) (by simp; try omega) _, nil_own _ _⟩
set_option maxRecDepth 100000 in
set_option maxHeartbeats 4000000 in
theorem spec_MulBound_yes (Nn Tn En : Nat) (P : List Nat) (a0 : Option Addr) (l0 c0 : Nat) (na : Bool) (a1 : Option Addr) (l1 c1 : Nat) (nb : Bool) (a2 : Option Addr) (l2 c2 : Nat) (n m : Nat) (w : World) (hv : Row w (.slice a0 l0 c0) (toZ P)) (hb : Bas P) (hN : 2 ≤ Nn ∧ Nn ≤ 16) (hT : 2 ≤ Tn ∧ Tn ≤ 65536) (hE : 1 ≤ En ∧ En ≤ 16) (h0 : 0 < prodN P) (hn : RwD n w (.slice a1 l1 c1)) (hcn : cnt n ≤ 40) (hm : RwD m w (.slice a2 l2 c2)) (hcm : cnt m ≤ 40) (hcc : cnt (mulM (prodN P) Nn Tn n m) ≤ 1000) (KA : ∀ W, Old w W → Calls Tryz.prog 84 #[.agg #[.int .i64 (Nn : Int), .int .i64 (Tn : Int), .int .i64 (En : Int), .slice a0 l0 c0], .agg #[.bool na, .slice a1 l1 c1]] W fun e w' => e = .returned (.bool true) ∧ Old W w') (KB : ∀ W, Old w W → Calls Tryz.prog 84 #[.agg #[.int .i64 (Nn : Int), .int .i64 (Tn : Int), .int .i64 (En : Int), .slice a0 l0 c0], .agg #[.bool nb, .slice a2 l2 c2]] W fun e w' => e = .returned (.bool true) ∧ Old W w') :
    Calls Tryz.prog 39 #[.agg #[.int .i64 (Nn : Int), .int .i64 (Tn : Int), .int .i64 (En : Int), .slice a0 l0 c0], .agg #[.bool na, .slice a1 l1 c1], .agg #[.bool nb, .slice a2 l2 c2]] w (WhA (dig (cutN (prodN P) (mulM (prodN P) Nn Tn n m))) true w) := by
  have HV : Hid (Row w (.slice a0 l0 c0) (toZ P)) := hv
  have HRN : Hid (RwD n w (.slice a1 l1 c1)) := hn
  have HRM : Hid (RwD m w (.slice a2 l2 c2)) := hm
  clear hn hv hm
  have HA : Hid (Old w ((((w.alloc (.cells #[.int .i64 (Nn : Int), .int .i64 (Tn : Int), .int .i64 (En : Int), .slice a0 l0 c0] 34)).alloc (.cells #[.bool na, .slice a1 l1 c1] 31)).alloc (.cells #[.bool nb, .slice a2 l2 c2] 31)).alloc (.cells #[.bool false, .slice none 0 0] 31))) := ((((Old.refl w).alloc _).alloc _).alloc _).alloc _
  have BP : Hid (Bk ((((w.alloc (.cells #[.int .i64 (Nn : Int), .int .i64 (Tn : Int), .int .i64 (En : Int), .slice a0 l0 c0] 34)).alloc (.cells #[.bool na, .slice a1 l1 c1] 31)).alloc (.cells #[.bool nb, .slice a2 l2 c2] 31)).alloc (.cells #[.bool false, .slice none 0 0] 31)) w.heap.size #[.int .i64 (Nn : Int), .int .i64 (Tn : Int), .int .i64 (En : Int), .slice a0 l0 c0] 34) := (((Bk.new' w _ _ rfl).alloc _).alloc _).alloc _
  have BA : Hid (Bk ((((w.alloc (.cells #[.int .i64 (Nn : Int), .int .i64 (Tn : Int), .int .i64 (En : Int), .slice a0 l0 c0] 34)).alloc (.cells #[.bool na, .slice a1 l1 c1] 31)).alloc (.cells #[.bool nb, .slice a2 l2 c2] 31)).alloc (.cells #[.bool false, .slice none 0 0] 31)) (w.heap.size + 1) #[.bool na, .slice a1 l1 c1] 31) := ((Bk.new' _ _ _ (by simp)).alloc _).alloc _
  have BB : Hid (Bk ((((w.alloc (.cells #[.int .i64 (Nn : Int), .int .i64 (Tn : Int), .int .i64 (En : Int), .slice a0 l0 c0] 34)).alloc (.cells #[.bool na, .slice a1 l1 c1] 31)).alloc (.cells #[.bool nb, .slice a2 l2 c2] 31)).alloc (.cells #[.bool false, .slice none 0 0] 31)) (w.heap.size + 1 + 1) #[.bool nb, .slice a2 l2 c2] 31) := (Bk.new' _ _ _ (by simp)).alloc _
  have BR : Hid (Bk ((((w.alloc (.cells #[.int .i64 (Nn : Int), .int .i64 (Tn : Int), .int .i64 (En : Int), .slice a0 l0 c0] 34)).alloc (.cells #[.bool na, .slice a1 l1 c1] 31)).alloc (.cells #[.bool nb, .slice a2 l2 c2] 31)).alloc (.cells #[.bool false, .slice none 0 0] 31)) (w.heap.size + 1 + 1 + 1) #[.bool false, .slice none 0 0] 31) := Bk.new' _ _ _ (by simp)
  generalize hwA : ((((w.alloc (.cells #[.int .i64 (Nn : Int), .int .i64 (Tn : Int), .int .i64 (En : Int), .slice a0 l0 c0] 34)).alloc (.cells #[.bool na, .slice a1 l1 c1] 31)).alloc (.cells #[.bool nb, .slice a2 l2 c2] 31)).alloc (.cells #[.bool false, .slice none 0 0] 31)) = wA at HA BP BA BB BR
  have p0 := BP.out.c (i := 0) rfl
  have p1 := BP.out.c (i := 1) rfl
  have p2 := BP.out.c (i := 2) rfl
  have p3 := BP.out.c (i := 3) rfl
  have u0 := BA.out.c (i := 0) rfl
  have u1 := BA.out.c (i := 1) rfl
  go_enter Tryz.func39, Tryz.ntmps39
  go_wp2_with fail
  refine (KA _ HA.out).mono ?_
  rintro e wC ⟨rfl, g1⟩
  replace HA : Hid (Old w wC) := Old.trans HA.out g1
  replace BP : Hid (Bk wC w.heap.size #[.int .i64 (Nn : Int), .int .i64 (Tn : Int), .int .i64 (En : Int), .slice a0 l0 c0] 34) := BP.out.old g1
  replace BA : Hid (Bk wC (w.heap.size + 1) #[.bool na, .slice a1 l1 c1] 31) := BA.out.old g1
  replace BB : Hid (Bk wC (w.heap.size + 1 + 1) #[.bool nb, .slice a2 l2 c2] 31) := BB.out.old g1
  replace BR : Hid (Bk wC (w.heap.size + 1 + 1 + 1) #[.bool false, .slice none 0 0] 31) := BR.out.old g1
  clear g1 p0 p1 p2 p3 u0 u1 hwA
  have p0 := BP.out.c (i := 0) rfl
  have p1 := BP.out.c (i := 1) rfl
  have p2 := BP.out.c (i := 2) rfl
  have p3 := BP.out.c (i := 3) rfl
  have u0 := BB.out.c (i := 0) rfl
  have u1 := BB.out.c (i := 1) rfl
  go_wp2_with fail
  refine (KB _ HA.out).mono ?_
  rintro e wB ⟨rfl, g1⟩
  replace HA : Hid (Old w wB) := Old.trans HA.out g1
  replace BP : Hid (Bk wB w.heap.size #[.int .i64 (Nn : Int), .int .i64 (Tn : Int), .int .i64 (En : Int), .slice a0 l0 c0] 34) := BP.out.old g1
  replace BA : Hid (Bk wB (w.heap.size + 1) #[.bool na, .slice a1 l1 c1] 31) := BA.out.old g1
  replace BB : Hid (Bk wB (w.heap.size + 1 + 1) #[.bool nb, .slice a2 l2 c2] 31) := BB.out.old g1
  replace BR : Hid (Bk wB (w.heap.size + 1 + 1 + 1) #[.bool false, .slice none 0 0] 31) := BR.out.old g1
  clear g1 p0 p1 p2 p3 u0 u1
  go_wp2_with fail
  refine reg_Mi wB Nn Tn En a0 l0 c0 w.heap.size (w.heap.size + 1) na a1 l1 c1 (w.heap.size + 1 + 1 + 1) (w.heap.size + 1 + 1) nb a2 l2 c2 (RwD (mulM (prodN P) Nn Tn n m)) (WhT wB.heap.size (cutN (prodN P) (mulM (prodN P) Nn Tn n m))) (WhP wB.heap.size (cutN (prodN P) (mulM (prodN P) Nn Tn n m))) (fun W W' v h q => h.old q) (fun W W' v h q => h.old q) (fun W W' v h q => h.old q) (fun W x h => h.tup) (fun W x h => h.agg) BP.out BR.out BB.out BA.out (fun W g => l11Mul_n Nn Tn En P a0 l0 c0 n m _ _ W (HV.out.old (Old.trans HA.out g)) hb h0 hN hT (HRN.out.old (Old.trans HA.out g)) (HRM.out.old (Old.trans HA.out g)) (by omega) (by omega)) (fun W g u1 h1 => (l11Out_n Nn Tn En P a0 l0 c0 _ u1 W (HV.out.old (Old.trans HA.out g)) hb h1 hcc).mono fun e w' h => by obtain ⟨x, e1, g1, h1⟩ := h; exact ⟨x, e1, g1, h1.low g.size⟩) _ _ ?_ ?_ ?_ ?_ ?_ ?_
  iterate 5 (· exact rfl)
  intro us W cs q hpc
  obtain ⟨oa, oc, ecs, o4⟩ := hpc
  obtain rfl : cs = #[.bool false, .slice oa (dig (cutN (prodN P) (mulM (prodN P) Nn Tn n m))).length oc] := by simpa using ecs
  have HO4 : Hid (Old w W) := Old.trans HA.out q
  have hz : W.heap[w.heap.size + 1 + 1 + 1]? = some (.cells #[.bool false, .slice none 0 0] 31 (0, 0)) := BR.out.old q
  have HF : Bk (W.setRow (w.heap.size + 1 + 1 + 1) #[.bool false, .slice oa (dig (cutN (prodN P) (mulM (prodN P) Nn Tn n m))).length oc]) (w.heap.size + 1 + 1 + 1) #[.bool false, .slice oa (dig (cutN (prodN P) (mulM (prodN P) Nn Tn n m))).length oc] 31 := heap_setRow_same hz
  have hz4 : w.heap.size + 1 + 1 + 1 < wB.heap.size := BR.out.lt
  have O4 : Hid (Own W wB.heap.size (.slice oa (dig (cutN (prodN P) (mulM (prodN P) Nn Tn n m))).length oc) (toI (dig (cutN (prodN P) (mulM (prodN P) Nn Tn n m))))) := o4
  simp only [putAll, Act.put, slotMi, List.range, List.range.loop, List.map_cons, List.map_nil, List.getD_cons_zero, List.getD_cons_succ, List.setIfInBounds_toArray, List.set_cons_succ, List.set_cons_zero]
  clear q ecs o4
  go_wp2_with fail
  have q0 := HF.c (i := 0) rfl
  have q1 := HF.c (i := 1) rfl
  refine bodyPost_ret (v := .tuple #[.agg #[.bool false, .slice oa (dig (cutN (prodN P) (mulM (prodN P) Nn Tn n m))).length oc], .bool true]) (by simp [results, Tryz.results39, go_sem, q0, q1]) rfl ?_
  refine ⟨_, rfl, old_setRow HO4.out (by omega) _, ?_⟩
  refine own_farB (Own.low O4.out (by omega)) (fun b hb => ?_)
  have hlt := (O4.out.lt b hb).1
  exact heap_setRow_other _ _ _ _ (by omega)
end Go.Proofs.YtpcpahgflkjnaaaGreatDoor
/- Proved: the program's MulBound. -/
namespace Go.Proofs.YtpcpahgflkjnaaaGreatDoor
open Go.ChangeShapes Go.WideShapes Go.ChangeAt Go.RowKit
open M2
set_option linter.unusedVariables false
set_option linter.unusedSimpArgs false
set_option maxRecDepth 100000 in
set_option maxHeartbeats 4000000 in
theorem impl_MulBound (N T E : Int) (ps : List Int) (v : Value) (na : Bool) (xs : List Int) (u : Value) (nb : Bool) (ys : List Int) (x : Value) (V : Nat → Nat → Nat) (w : World) (hP : PrsW w) (hT : TabW w) (hv : Row w v ps) (hf : Fit v) (hlp : ps.length ≤ 9223372036854775807) (hu : Row w u xs) (hlx : xs.length ≤ 1048576) (hx : Row w x ys) (hly : ys.length ≤ 1048576) (hV : prB N T E ps = true → ∀ n m, cnt (V n m) ≤ 7)
    (KC : prB N T E ps = true → ∀ W g a l c n m, Old w W → Row W (.slice a l c) (toI (dig (prodN (ps.map Int.toNat)))) → cnt n ≤ 14 → cnt m ≤ 14 → Calls Tryz.prog 94 #[.agg #[.int .i64 N, .int .i64 T, .int .i64 E, v, .slice (some ⟨g, 0, none⟩) ps.length ps.length, .bool false, .slice a l c], .agg (szV n), .agg (szV m)] W fun e w' => e = .returned (.agg (szV (V n m))) ∧ Old W w')
    (D : List Nat) (ok : Bool) (hy : ((prB N T E ps && bdB (prodN (ps.map Int.toNat)) na xs) && bdB (prodN (ps.map Int.toNat)) nb ys) = true → D = dig (V (val (nat xs)) (val (nat ys))) ∧ ok = true) (hn : ((prB N T E ps && bdB (prodN (ps.map Int.toNat)) na xs) && bdB (prodN (ps.map Int.toNat)) nb ys) = false → D = [] ∧ ok = false) :
    Calls Tryz.prog 40 #[.agg #[.int .i64 N, .int .i64 T, .int .i64 E, v], .agg #[.bool na, u], .agg #[.bool nb, x]] w (WhA D ok w) := by
  have HY : Hid (((prB N T E ps && bdB (prodN (ps.map Int.toNat)) na xs) && bdB (prodN (ps.map Int.toNat)) nb ys) = true → D = dig (V (val (nat xs)) (val (nat ys))) ∧ ok = true) := hy
  have HNN : Hid (((prB N T E ps && bdB (prodN (ps.map Int.toNat)) na xs) && bdB (prodN (ps.map Int.toNat)) nb ys) = false → D = [] ∧ ok = false) := hn
  clear hy hn
  obtain ⟨Rf, hRf⟩ := Rings_roots N ps
  have K1 := fun W (g : Old w W) => impl_reckonerOf N T E ps Rf v W (hP.old g) (hT.old g) (hv.old g) hf hlp hRf
  obtain ⟨a0, c0, ev⟩ := hv.slice
  obtain ⟨a1, c1, eu⟩ := hu.slice
  obtain ⟨a2, c2, ex⟩ := hx.slice
  subst ev eu ex
  have HA : Hid (Old w ((((w.alloc (.cells #[.int .i64 N, .int .i64 T, .int .i64 E, .slice a0 ps.length c0] 34)).alloc (.cells #[.bool na, .slice a1 xs.length c1] 31)).alloc (.cells #[.bool nb, .slice a2 ys.length c2] 31)).alloc (.cells #[.bool false, .slice none 0 0] 31))) := ((((Old.refl w).alloc _).alloc _).alloc _).alloc _
  have BA : Hid (Bk ((((w.alloc (.cells #[.int .i64 N, .int .i64 T, .int .i64 E, .slice a0 ps.length c0] 34)).alloc (.cells #[.bool na, .slice a1 xs.length c1] 31)).alloc (.cells #[.bool nb, .slice a2 ys.length c2] 31)).alloc (.cells #[.bool false, .slice none 0 0] 31)) (w.heap.size + 1) #[.bool na, .slice a1 xs.length c1] 31) := ((Bk.new' _ _ _ (by simp)).alloc _).alloc _
  have BB : Hid (Bk ((((w.alloc (.cells #[.int .i64 N, .int .i64 T, .int .i64 E, .slice a0 ps.length c0] 34)).alloc (.cells #[.bool na, .slice a1 xs.length c1] 31)).alloc (.cells #[.bool nb, .slice a2 ys.length c2] 31)).alloc (.cells #[.bool false, .slice none 0 0] 31)) (w.heap.size + 1 + 1) #[.bool nb, .slice a2 ys.length c2] 31) := (Bk.new' _ _ _ (by simp)).alloc _
  have BR : Hid (Bk ((((w.alloc (.cells #[.int .i64 N, .int .i64 T, .int .i64 E, .slice a0 ps.length c0] 34)).alloc (.cells #[.bool na, .slice a1 xs.length c1] 31)).alloc (.cells #[.bool nb, .slice a2 ys.length c2] 31)).alloc (.cells #[.bool false, .slice none 0 0] 31)) (w.heap.size + 1 + 1 + 1) #[.bool false, .slice none 0 0] 31) := Bk.new' _ _ _ (by simp)
  have HU : Hid (Row w (.slice a1 xs.length c1) xs) := hu
  have HX : Hid (Row w (.slice a2 ys.length c2) ys) := hx
  have HKC : Hid (prB N T E ps = true → ∀ W g a l c n m, Old w W → Row W (.slice a l c) (toI (dig (prodN (ps.map Int.toNat)))) → cnt n ≤ 14 → cnt m ≤ 14 → Calls Tryz.prog 94 #[.agg #[.int .i64 N, .int .i64 T, .int .i64 E, .slice a0 ps.length c0, .slice (some ⟨g, 0, none⟩) ps.length ps.length, .bool false, .slice a l c], .agg (szV n), .agg (szV m)] W fun e w' => e = .returned (.agg (szV (V n m))) ∧ Old W w') := KC
  have HV : Hid (prB N T E ps = true → ∀ n m, cnt (V n m) ≤ 7) := hV
  clear hv hf hu hx hP hT hRf KC hV
  go_enter Tryz.func40, Tryz.ntmps40
  go_wp2_with fail
  refine (K1 _ HA.out).mono ?_
  rintro e w1 ⟨g1, h⟩
  have HG1 : Hid (Old w w1) := Old.trans HA.out g1
  have A1 : Hid (Bk w1 (w.heap.size + 1) #[.bool na, .slice a1 xs.length c1] 31) := BA.out.old g1
  have B1 : Hid (Bk w1 (w.heap.size + 1 + 1) #[.bool nb, .slice a2 ys.length c2] 31) := BB.out.old g1
  have R1 : Hid (Bk w1 (w.heap.size + 1 + 1 + 1) #[.bool false, .slice none 0 0] 31) := BR.out.old g1
  clear g1 K1 BA BB BR HA
  rcases h with ⟨hB, rfl⟩ | ⟨hB, g, a, l, c, hg, rfl, hrg, P, hPz, hbas, hl, ho⟩
  · have HB : Hid (D = [] ∧ ok = false) := HNN.out (by rw [hB]; rfl)
    obtain ⟨SA, hSA', _, RA'⟩ := readB_n 0 0 0 none 0 0 none 0 0 none 0 0 0 na xs a1 c1 (by decide) hlx
    obtain ⟨SB, hSB', _, RB'⟩ := readB_n 0 0 0 none 0 0 none 0 0 none 0 0 0 nb ys a2 c2 (by decide) hly
    have hSA : Hid (Sq SA) := hSA'
    have hSB : Hid (Sq SB) := hSB'
    have HO : Hid (Old w (w1.alloc (.cells rk0 87))) := HG1.out.alloc _
    have RA := fun W (q : Old (w1.alloc (.cells rk0 87)) W) => RA' W (by rw [dig_zero]; exact .inl ⟨_, _, rfl, rfl⟩) (HU.out.old (Old.trans HO.out q))
    have RB := fun W (q : Old (w1.alloc (.cells rk0 87)) W) => RB' W (by rw [dig_zero]; exact .inl ⟨_, _, rfl, rfl⟩) (HX.out.old (Old.trans HO.out q))
    generalize bdB 0 na xs = bA at *
    generalize bdB 0 nb ys = bB at *
    clear hB hSA' RA' hSB' RB' HKC HV HY HNN
    have HG2 : Hid (Old w (w1.alloc (.cells rk0 87))) := HG1.out.alloc _
    have R2 : Hid (Bk (w1.alloc (.cells rk0 87)) (w.heap.size + 1 + 1 + 1) #[.bool false, .slice none 0 0] 31) := R1.out.alloc _
    have BX : Hid (Bk (w1.alloc (.cells rk0 87)) w1.heap.size rk0 87) := Bk.new' w1 _ _ rfl
    have BA2 : Hid (Bk (w1.alloc (.cells rk0 87)) (w.heap.size + 1) #[.bool na, .slice a1 xs.length c1] 31) := A1.out.alloc _
    have BB2 : Hid (Bk (w1.alloc (.cells rk0 87)) (w.heap.size + 1 + 1) #[.bool nb, .slice a2 ys.length c2] 31) := B1.out.alloc _
    have HGR : Hid (Old (w1.alloc (.cells rk0 87)) (w1.alloc (.cells rk0 87))) := Old.refl _
    have z0 := BX.out.c (i := 0) rfl
    have z1 := BX.out.c (i := 1) rfl
    have z2 := BX.out.c (i := 2) rfl
    have z3 := BX.out.c (i := 3) rfl
    have z4 := BX.out.c (i := 4) rfl
    have z5 := BX.out.c (i := 5) rfl
    have z6 := BX.out.c (i := 6) rfl
    have u0 := BA2.out.c (i := 0) rfl
    have u1 := BA2.out.c (i := 1) rfl
    go_wp2_with fail
    refine (RA _ HGR.out).mono ?_
    rintro e w2 ⟨rfl, g2⟩
    have hz2 : w.heap.size + 1 + 1 + 1 < w2.heap.size := Nat.lt_of_lt_of_le R2.out.lt g2.size
    have hy2 : w1.heap.size < w2.heap.size := Nat.lt_of_lt_of_le BX.out.lt g2.size
    have HN : Hid (Sg (w2.alloc (.cells Tryz.zeroCells113 113)) w2.heap.size Tryz.zeroCells113) := Sg.zero _ _ rfl
    have HN2 : Hid (Sg ((w2.alloc (.cells Tryz.zeroCells113 113)).setRow w2.heap.size SA) w2.heap.size SA) := HN.out.row SA hSA.out
    have R3 : Hid (Bk ((w2.alloc (.cells Tryz.zeroCells113 113)).setRow w2.heap.size SA) (w.heap.size + 1 + 1 + 1) #[.bool false, .slice none 0 0] 31) := ((R2.out.old g2).alloc _).otherRow (by omega) _
    have X3 : Hid (Bk ((w2.alloc (.cells Tryz.zeroCells113 113)).setRow w2.heap.size SA) w1.heap.size rk0 87) := ((BX.out.old g2).alloc _).otherRow (by omega) _
    have BB3 : Hid (Bk ((w2.alloc (.cells Tryz.zeroCells113 113)).setRow w2.heap.size SA) (w.heap.size + 1 + 1) #[.bool nb, .slice a2 ys.length c2] 31) := ((BB2.out.old g2).alloc _).otherRow (by omega) _
    have HO2 : Hid (Old w ((w2.alloc (.cells Tryz.zeroCells113 113)).setRow w2.heap.size SA)) := Old.row ((Old.trans HG2.out g2).alloc _) (by omega) _
    have HP2 : Hid (Old (w1.alloc (.cells rk0 87)) ((w2.alloc (.cells Tryz.zeroCells113 113)).setRow w2.heap.size SA)) := Old.row (g2.alloc _) (by simp; omega) _
    clear g2 z0 z1 z2 z3 z4 z5 z6 u0 u1
    have z0 := X3.out.c (i := 0) rfl
    have z1 := X3.out.c (i := 1) rfl
    have z2 := X3.out.c (i := 2) rfl
    have z3 := X3.out.c (i := 3) rfl
    have z4 := X3.out.c (i := 4) rfl
    have z5 := X3.out.c (i := 5) rfl
    have z6 := X3.out.c (i := 6) rfl
    have u0 := BB3.out.c (i := 0) rfl
    have u1 := BB3.out.c (i := 1) rfl
    go_wp2_with (first | ((with_reducible refine store_sg HN.out (SA) hSA.out ?_ ?_ ?_); exact rfl; exact rfl; simp only [Act.put]))
    refine (RB _ HP2.out).mono ?_
    rintro e w3 ⟨rfl, g3⟩
    have hz3 : w.heap.size + 1 + 1 + 1 < w3.heap.size := Nat.lt_of_lt_of_le R3.out.lt g3.size
    have hy3 : w1.heap.size < w3.heap.size := Nat.lt_of_lt_of_le X3.out.lt g3.size
    have hx3 : w2.heap.size < w3.heap.size := Nat.lt_of_lt_of_le HN2.out.lt g3.size
    have HM : Hid (Sg (w3.alloc (.cells Tryz.zeroCells113 113)) w3.heap.size Tryz.zeroCells113) := Sg.zero _ _ rfl
    have HM2 : Hid (Sg ((w3.alloc (.cells Tryz.zeroCells113 113)).setRow w3.heap.size SB) w3.heap.size SB) := HM.out.row SB hSB.out
    have HN3 : Hid (Sg ((w3.alloc (.cells Tryz.zeroCells113 113)).setRow w3.heap.size SB) w2.heap.size SA) := ((HN2.out.old g3).alloc _).otherRow (by omega) _
    have R4 : Hid (Bk ((w3.alloc (.cells Tryz.zeroCells113 113)).setRow w3.heap.size SB) (w.heap.size + 1 + 1 + 1) #[.bool false, .slice none 0 0] 31) := ((R3.out.old g3).alloc _).otherRow (by omega) _
    have X4 : Hid (Bk ((w3.alloc (.cells Tryz.zeroCells113 113)).setRow w3.heap.size SB) w1.heap.size rk0 87) := ((X3.out.old g3).alloc _).otherRow (by omega) _
    have HO3 : Hid (Old w ((w3.alloc (.cells Tryz.zeroCells113 113)).setRow w3.heap.size SB)) := Old.row ((Old.trans HO2.out g3).alloc _) (by omega) _
    have HP3 : Hid (Old (w1.alloc (.cells rk0 87)) ((w3.alloc (.cells Tryz.zeroCells113 113)).setRow w3.heap.size SB)) := Old.row ((Old.trans HP2.out g3).alloc _) (by simp; omega) _
    clear g3 z0 z1 z2 z3 z4 z5 z6 u0 u1
    have y0 := R4.out.c (i := 0) rfl
    have y1 := R4.out.c (i := 1) rfl
    have f0 := frozen_of_row _ _ 0 _ _ R4.out
    have f1 := frozen_of_row _ _ 1 _ _ R4.out
    go_wp2_with (first | ((with_reducible refine store_sg HM.out (SB) hSB.out ?_ ?_ ?_); exact rfl; exact rfl; simp only [Act.put]))
    have HF := bk_putW R4.out (.bool false) (.slice none 0 0)
    have q0 := HF.c (i := 0) rfl
    have q1 := HF.c (i := 1) rfl
    refine bodyPost_ret (v := .tuple #[.agg #[.bool false, .slice none 0 0], .bool false]) (by simp [results, Tryz.results40, go_sem, q0, q1]) rfl ?_
    rw [HB.out.1, HB.out.2]
    exact ⟨_, rfl, (HO3.out.own (p := ⟨w.heap.size + 1 + 1 + 1, 0, none⟩) (by simp; omega) _).own (p := ⟨w.heap.size + 1 + 1 + 1, 1, none⟩) (by simp; omega) _, nil_own _ _⟩
  · have hPn : ps.map Int.toNat = P := by rw [hPz]; exact toZ_bk11 P
    have hcq : cnt (prodN (ps.map Int.toNat)) ≤ 7 := by rw [hPn]; exact hbas.cnt
    have HQR : Hid (Row w1 (.slice a l c) (toI (dig (prodN (ps.map Int.toNat))))) := by rw [hPn]; exact Own.row ho
    obtain ⟨SA, hSA', hVA, RA'⟩ := readB_n N T E a0 ps.length c0 (some ⟨g, 0, none⟩) ps.length ps.length a l c (prodN (ps.map Int.toNat)) na xs a1 c1 hcq hlx
    obtain ⟨SB, hSB', hVB, RB'⟩ := readB_n N T E a0 ps.length c0 (some ⟨g, 0, none⟩) ps.length ps.length a l c (prodN (ps.map Int.toNat)) nb ys a2 c2 hcq hly
    have hSA : Hid (Sq SA) := hSA'
    have hSB : Hid (Sq SB) := hSB'
    have RA : ∀ W, Old (w1.alloc (.cells #[.int .i64 N, .int .i64 T, .int .i64 E, .slice a0 ps.length c0, .slice (some ⟨g, 0, none⟩) ps.length ps.length, .bool false, .slice a l c] 87)) W → Calls Tryz.prog 93 #[.agg #[.int .i64 N, .int .i64 T, .int .i64 E, .slice a0 ps.length c0, .slice (some ⟨g, 0, none⟩) ps.length ps.length, .bool false, .slice a l c], .agg #[.bool na, .slice a1 xs.length c1]] W fun e w' => e = .returned (.tuple #[.agg SA, .bool (bdB (prodN (ps.map Int.toNat)) na xs)]) ∧ Old W w' := fun W q => RA' W (HQR.out.old (Old.trans ((Old.refl w1).alloc _) q)) (HU.out.old (Old.trans (HG1.out.alloc _) q))
    have RB : ∀ W, Old (w1.alloc (.cells #[.int .i64 N, .int .i64 T, .int .i64 E, .slice a0 ps.length c0, .slice (some ⟨g, 0, none⟩) ps.length ps.length, .bool false, .slice a l c] 87)) W → Calls Tryz.prog 93 #[.agg #[.int .i64 N, .int .i64 T, .int .i64 E, .slice a0 ps.length c0, .slice (some ⟨g, 0, none⟩) ps.length ps.length, .bool false, .slice a l c], .agg #[.bool nb, .slice a2 ys.length c2]] W fun e w' => e = .returned (.tuple #[.agg SB, .bool (bdB (prodN (ps.map Int.toNat)) nb ys)]) ∧ Old W w' := fun W q => RB' W (HQR.out.old (Old.trans ((Old.refl w1).alloc _) q)) (HX.out.old (Old.trans (HG1.out.alloc _) q))
    clear hSA' hSB' RA' RB'
    cases hbA : bdB (prodN (ps.map Int.toNat)) na xs
    · have HB : Hid (D = [] ∧ ok = false) := HNN.out (by rw [hB, hbA]; rfl)
      rw [hbA] at RA
      generalize bdB (prodN (ps.map Int.toNat)) nb ys = bB at *
      clear hB hPn hcq hPz hbas ho hrg hg hl HKC HV hVA hVB hbA HY HNN HQR
      have HG2 : Hid (Old w (w1.alloc (.cells #[.int .i64 N, .int .i64 T, .int .i64 E, .slice a0 ps.length c0, .slice (some ⟨g, 0, none⟩) ps.length ps.length, .bool false, .slice a l c] 87))) := HG1.out.alloc _
      have R2 : Hid (Bk (w1.alloc (.cells #[.int .i64 N, .int .i64 T, .int .i64 E, .slice a0 ps.length c0, .slice (some ⟨g, 0, none⟩) ps.length ps.length, .bool false, .slice a l c] 87)) (w.heap.size + 1 + 1 + 1) #[.bool false, .slice none 0 0] 31) := R1.out.alloc _
      have BX : Hid (Bk (w1.alloc (.cells #[.int .i64 N, .int .i64 T, .int .i64 E, .slice a0 ps.length c0, .slice (some ⟨g, 0, none⟩) ps.length ps.length, .bool false, .slice a l c] 87)) w1.heap.size #[.int .i64 N, .int .i64 T, .int .i64 E, .slice a0 ps.length c0, .slice (some ⟨g, 0, none⟩) ps.length ps.length, .bool false, .slice a l c] 87) := Bk.new' w1 _ _ rfl
      have BA2 : Hid (Bk (w1.alloc (.cells #[.int .i64 N, .int .i64 T, .int .i64 E, .slice a0 ps.length c0, .slice (some ⟨g, 0, none⟩) ps.length ps.length, .bool false, .slice a l c] 87)) (w.heap.size + 1) #[.bool na, .slice a1 xs.length c1] 31) := A1.out.alloc _
      have BB2 : Hid (Bk (w1.alloc (.cells #[.int .i64 N, .int .i64 T, .int .i64 E, .slice a0 ps.length c0, .slice (some ⟨g, 0, none⟩) ps.length ps.length, .bool false, .slice a l c] 87)) (w.heap.size + 1 + 1) #[.bool nb, .slice a2 ys.length c2] 31) := B1.out.alloc _
      have HGR : Hid (Old (w1.alloc (.cells #[.int .i64 N, .int .i64 T, .int .i64 E, .slice a0 ps.length c0, .slice (some ⟨g, 0, none⟩) ps.length ps.length, .bool false, .slice a l c] 87)) (w1.alloc (.cells #[.int .i64 N, .int .i64 T, .int .i64 E, .slice a0 ps.length c0, .slice (some ⟨g, 0, none⟩) ps.length ps.length, .bool false, .slice a l c] 87))) := Old.refl _
      have z0 := BX.out.c (i := 0) rfl
      have z1 := BX.out.c (i := 1) rfl
      have z2 := BX.out.c (i := 2) rfl
      have z3 := BX.out.c (i := 3) rfl
      have z4 := BX.out.c (i := 4) rfl
      have z5 := BX.out.c (i := 5) rfl
      have z6 := BX.out.c (i := 6) rfl
      have u0 := BA2.out.c (i := 0) rfl
      have u1 := BA2.out.c (i := 1) rfl
      go_wp2_with fail
      refine (RA _ HGR.out).mono ?_
      rintro e w2 ⟨rfl, g2⟩
      have hz2 : w.heap.size + 1 + 1 + 1 < w2.heap.size := Nat.lt_of_lt_of_le R2.out.lt g2.size
      have hy2 : w1.heap.size < w2.heap.size := Nat.lt_of_lt_of_le BX.out.lt g2.size
      have HN : Hid (Sg (w2.alloc (.cells Tryz.zeroCells113 113)) w2.heap.size Tryz.zeroCells113) := Sg.zero _ _ rfl
      have HN2 : Hid (Sg ((w2.alloc (.cells Tryz.zeroCells113 113)).setRow w2.heap.size SA) w2.heap.size SA) := HN.out.row SA hSA.out
      have R3 : Hid (Bk ((w2.alloc (.cells Tryz.zeroCells113 113)).setRow w2.heap.size SA) (w.heap.size + 1 + 1 + 1) #[.bool false, .slice none 0 0] 31) := ((R2.out.old g2).alloc _).otherRow (by omega) _
      have X3 : Hid (Bk ((w2.alloc (.cells Tryz.zeroCells113 113)).setRow w2.heap.size SA) w1.heap.size #[.int .i64 N, .int .i64 T, .int .i64 E, .slice a0 ps.length c0, .slice (some ⟨g, 0, none⟩) ps.length ps.length, .bool false, .slice a l c] 87) := ((BX.out.old g2).alloc _).otherRow (by omega) _
      have BB3 : Hid (Bk ((w2.alloc (.cells Tryz.zeroCells113 113)).setRow w2.heap.size SA) (w.heap.size + 1 + 1) #[.bool nb, .slice a2 ys.length c2] 31) := ((BB2.out.old g2).alloc _).otherRow (by omega) _
      have HO2 : Hid (Old w ((w2.alloc (.cells Tryz.zeroCells113 113)).setRow w2.heap.size SA)) := Old.row ((Old.trans HG2.out g2).alloc _) (by omega) _
      have HP2 : Hid (Old (w1.alloc (.cells #[.int .i64 N, .int .i64 T, .int .i64 E, .slice a0 ps.length c0, .slice (some ⟨g, 0, none⟩) ps.length ps.length, .bool false, .slice a l c] 87)) ((w2.alloc (.cells Tryz.zeroCells113 113)).setRow w2.heap.size SA)) := Old.row (g2.alloc _) (by simp; omega) _
      clear g2 z0 z1 z2 z3 z4 z5 z6 u0 u1
      have z0 := X3.out.c (i := 0) rfl
      have z1 := X3.out.c (i := 1) rfl
      have z2 := X3.out.c (i := 2) rfl
      have z3 := X3.out.c (i := 3) rfl
      have z4 := X3.out.c (i := 4) rfl
      have z5 := X3.out.c (i := 5) rfl
      have z6 := X3.out.c (i := 6) rfl
      have u0 := BB3.out.c (i := 0) rfl
      have u1 := BB3.out.c (i := 1) rfl
      go_wp2_with (first | ((with_reducible refine store_sg HN.out (SA) hSA.out ?_ ?_ ?_); exact rfl; exact rfl; simp only [Act.put]))
      refine (RB _ HP2.out).mono ?_
      rintro e w3 ⟨rfl, g3⟩
      have hz3 : w.heap.size + 1 + 1 + 1 < w3.heap.size := Nat.lt_of_lt_of_le R3.out.lt g3.size
      have hy3 : w1.heap.size < w3.heap.size := Nat.lt_of_lt_of_le X3.out.lt g3.size
      have hx3 : w2.heap.size < w3.heap.size := Nat.lt_of_lt_of_le HN2.out.lt g3.size
      have HM : Hid (Sg (w3.alloc (.cells Tryz.zeroCells113 113)) w3.heap.size Tryz.zeroCells113) := Sg.zero _ _ rfl
      have HM2 : Hid (Sg ((w3.alloc (.cells Tryz.zeroCells113 113)).setRow w3.heap.size SB) w3.heap.size SB) := HM.out.row SB hSB.out
      have HN3 : Hid (Sg ((w3.alloc (.cells Tryz.zeroCells113 113)).setRow w3.heap.size SB) w2.heap.size SA) := ((HN2.out.old g3).alloc _).otherRow (by omega) _
      have R4 : Hid (Bk ((w3.alloc (.cells Tryz.zeroCells113 113)).setRow w3.heap.size SB) (w.heap.size + 1 + 1 + 1) #[.bool false, .slice none 0 0] 31) := ((R3.out.old g3).alloc _).otherRow (by omega) _
      have X4 : Hid (Bk ((w3.alloc (.cells Tryz.zeroCells113 113)).setRow w3.heap.size SB) w1.heap.size #[.int .i64 N, .int .i64 T, .int .i64 E, .slice a0 ps.length c0, .slice (some ⟨g, 0, none⟩) ps.length ps.length, .bool false, .slice a l c] 87) := ((X3.out.old g3).alloc _).otherRow (by omega) _
      have HO3 : Hid (Old w ((w3.alloc (.cells Tryz.zeroCells113 113)).setRow w3.heap.size SB)) := Old.row ((Old.trans HO2.out g3).alloc _) (by omega) _
      have HP3 : Hid (Old (w1.alloc (.cells #[.int .i64 N, .int .i64 T, .int .i64 E, .slice a0 ps.length c0, .slice (some ⟨g, 0, none⟩) ps.length ps.length, .bool false, .slice a l c] 87)) ((w3.alloc (.cells Tryz.zeroCells113 113)).setRow w3.heap.size SB)) := Old.row ((Old.trans HP2.out g3).alloc _) (by simp; omega) _
      clear g3 z0 z1 z2 z3 z4 z5 z6 u0 u1
      have y0 := R4.out.c (i := 0) rfl
      have y1 := R4.out.c (i := 1) rfl
      have f0 := frozen_of_row _ _ 0 _ _ R4.out
      have f1 := frozen_of_row _ _ 1 _ _ R4.out
      go_wp2_with (first | ((with_reducible refine store_sg HM.out (SB) hSB.out ?_ ?_ ?_); exact rfl; exact rfl; simp only [Act.put]))
      have HF := bk_putW R4.out (.bool false) (.slice none 0 0)
      have q0 := HF.c (i := 0) rfl
      have q1 := HF.c (i := 1) rfl
      refine bodyPost_ret (v := .tuple #[.agg #[.bool false, .slice none 0 0], .bool false]) (by simp [results, Tryz.results40, go_sem, q0, q1]) rfl ?_
      rw [HB.out.1, HB.out.2]
      exact ⟨_, rfl, (HO3.out.own (p := ⟨w.heap.size + 1 + 1 + 1, 0, none⟩) (by simp; omega) _).own (p := ⟨w.heap.size + 1 + 1 + 1, 1, none⟩) (by simp; omega) _, nil_own _ _⟩
    cases hbB : bdB (prodN (ps.map Int.toNat)) nb ys
    · have HB : Hid (D = [] ∧ ok = false) := HNN.out (by rw [hB, hbA, hbB]; rfl)
      rw [hbA] at RA
      rw [hbB] at RB
      clear hB hPn hcq hPz hbas ho hrg hg hl HKC HV hVA hVB hbA hbB HY HNN HQR
      have HG2 : Hid (Old w (w1.alloc (.cells #[.int .i64 N, .int .i64 T, .int .i64 E, .slice a0 ps.length c0, .slice (some ⟨g, 0, none⟩) ps.length ps.length, .bool false, .slice a l c] 87))) := HG1.out.alloc _
      have R2 : Hid (Bk (w1.alloc (.cells #[.int .i64 N, .int .i64 T, .int .i64 E, .slice a0 ps.length c0, .slice (some ⟨g, 0, none⟩) ps.length ps.length, .bool false, .slice a l c] 87)) (w.heap.size + 1 + 1 + 1) #[.bool false, .slice none 0 0] 31) := R1.out.alloc _
      have BX : Hid (Bk (w1.alloc (.cells #[.int .i64 N, .int .i64 T, .int .i64 E, .slice a0 ps.length c0, .slice (some ⟨g, 0, none⟩) ps.length ps.length, .bool false, .slice a l c] 87)) w1.heap.size #[.int .i64 N, .int .i64 T, .int .i64 E, .slice a0 ps.length c0, .slice (some ⟨g, 0, none⟩) ps.length ps.length, .bool false, .slice a l c] 87) := Bk.new' w1 _ _ rfl
      have BA2 : Hid (Bk (w1.alloc (.cells #[.int .i64 N, .int .i64 T, .int .i64 E, .slice a0 ps.length c0, .slice (some ⟨g, 0, none⟩) ps.length ps.length, .bool false, .slice a l c] 87)) (w.heap.size + 1) #[.bool na, .slice a1 xs.length c1] 31) := A1.out.alloc _
      have BB2 : Hid (Bk (w1.alloc (.cells #[.int .i64 N, .int .i64 T, .int .i64 E, .slice a0 ps.length c0, .slice (some ⟨g, 0, none⟩) ps.length ps.length, .bool false, .slice a l c] 87)) (w.heap.size + 1 + 1) #[.bool nb, .slice a2 ys.length c2] 31) := B1.out.alloc _
      have HGR : Hid (Old (w1.alloc (.cells #[.int .i64 N, .int .i64 T, .int .i64 E, .slice a0 ps.length c0, .slice (some ⟨g, 0, none⟩) ps.length ps.length, .bool false, .slice a l c] 87)) (w1.alloc (.cells #[.int .i64 N, .int .i64 T, .int .i64 E, .slice a0 ps.length c0, .slice (some ⟨g, 0, none⟩) ps.length ps.length, .bool false, .slice a l c] 87))) := Old.refl _
      have z0 := BX.out.c (i := 0) rfl
      have z1 := BX.out.c (i := 1) rfl
      have z2 := BX.out.c (i := 2) rfl
      have z3 := BX.out.c (i := 3) rfl
      have z4 := BX.out.c (i := 4) rfl
      have z5 := BX.out.c (i := 5) rfl
      have z6 := BX.out.c (i := 6) rfl
      have u0 := BA2.out.c (i := 0) rfl
      have u1 := BA2.out.c (i := 1) rfl
      go_wp2_with fail
      refine (RA _ HGR.out).mono ?_
      rintro e w2 ⟨rfl, g2⟩
      have hz2 : w.heap.size + 1 + 1 + 1 < w2.heap.size := Nat.lt_of_lt_of_le R2.out.lt g2.size
      have hy2 : w1.heap.size < w2.heap.size := Nat.lt_of_lt_of_le BX.out.lt g2.size
      have HN : Hid (Sg (w2.alloc (.cells Tryz.zeroCells113 113)) w2.heap.size Tryz.zeroCells113) := Sg.zero _ _ rfl
      have HN2 : Hid (Sg ((w2.alloc (.cells Tryz.zeroCells113 113)).setRow w2.heap.size SA) w2.heap.size SA) := HN.out.row SA hSA.out
      have R3 : Hid (Bk ((w2.alloc (.cells Tryz.zeroCells113 113)).setRow w2.heap.size SA) (w.heap.size + 1 + 1 + 1) #[.bool false, .slice none 0 0] 31) := ((R2.out.old g2).alloc _).otherRow (by omega) _
      have X3 : Hid (Bk ((w2.alloc (.cells Tryz.zeroCells113 113)).setRow w2.heap.size SA) w1.heap.size #[.int .i64 N, .int .i64 T, .int .i64 E, .slice a0 ps.length c0, .slice (some ⟨g, 0, none⟩) ps.length ps.length, .bool false, .slice a l c] 87) := ((BX.out.old g2).alloc _).otherRow (by omega) _
      have BB3 : Hid (Bk ((w2.alloc (.cells Tryz.zeroCells113 113)).setRow w2.heap.size SA) (w.heap.size + 1 + 1) #[.bool nb, .slice a2 ys.length c2] 31) := ((BB2.out.old g2).alloc _).otherRow (by omega) _
      have HO2 : Hid (Old w ((w2.alloc (.cells Tryz.zeroCells113 113)).setRow w2.heap.size SA)) := Old.row ((Old.trans HG2.out g2).alloc _) (by omega) _
      have HP2 : Hid (Old (w1.alloc (.cells #[.int .i64 N, .int .i64 T, .int .i64 E, .slice a0 ps.length c0, .slice (some ⟨g, 0, none⟩) ps.length ps.length, .bool false, .slice a l c] 87)) ((w2.alloc (.cells Tryz.zeroCells113 113)).setRow w2.heap.size SA)) := Old.row (g2.alloc _) (by simp; omega) _
      clear g2 z0 z1 z2 z3 z4 z5 z6 u0 u1
      have z0 := X3.out.c (i := 0) rfl
      have z1 := X3.out.c (i := 1) rfl
      have z2 := X3.out.c (i := 2) rfl
      have z3 := X3.out.c (i := 3) rfl
      have z4 := X3.out.c (i := 4) rfl
      have z5 := X3.out.c (i := 5) rfl
      have z6 := X3.out.c (i := 6) rfl
      have u0 := BB3.out.c (i := 0) rfl
      have u1 := BB3.out.c (i := 1) rfl
      go_wp2_with (first | ((with_reducible refine store_sg HN.out (SA) hSA.out ?_ ?_ ?_); exact rfl; exact rfl; simp only [Act.put]))
      refine (RB _ HP2.out).mono ?_
      rintro e w3 ⟨rfl, g3⟩
      have hz3 : w.heap.size + 1 + 1 + 1 < w3.heap.size := Nat.lt_of_lt_of_le R3.out.lt g3.size
      have hy3 : w1.heap.size < w3.heap.size := Nat.lt_of_lt_of_le X3.out.lt g3.size
      have hx3 : w2.heap.size < w3.heap.size := Nat.lt_of_lt_of_le HN2.out.lt g3.size
      have HM : Hid (Sg (w3.alloc (.cells Tryz.zeroCells113 113)) w3.heap.size Tryz.zeroCells113) := Sg.zero _ _ rfl
      have HM2 : Hid (Sg ((w3.alloc (.cells Tryz.zeroCells113 113)).setRow w3.heap.size SB) w3.heap.size SB) := HM.out.row SB hSB.out
      have HN3 : Hid (Sg ((w3.alloc (.cells Tryz.zeroCells113 113)).setRow w3.heap.size SB) w2.heap.size SA) := ((HN2.out.old g3).alloc _).otherRow (by omega) _
      have R4 : Hid (Bk ((w3.alloc (.cells Tryz.zeroCells113 113)).setRow w3.heap.size SB) (w.heap.size + 1 + 1 + 1) #[.bool false, .slice none 0 0] 31) := ((R3.out.old g3).alloc _).otherRow (by omega) _
      have X4 : Hid (Bk ((w3.alloc (.cells Tryz.zeroCells113 113)).setRow w3.heap.size SB) w1.heap.size #[.int .i64 N, .int .i64 T, .int .i64 E, .slice a0 ps.length c0, .slice (some ⟨g, 0, none⟩) ps.length ps.length, .bool false, .slice a l c] 87) := ((X3.out.old g3).alloc _).otherRow (by omega) _
      have HO3 : Hid (Old w ((w3.alloc (.cells Tryz.zeroCells113 113)).setRow w3.heap.size SB)) := Old.row ((Old.trans HO2.out g3).alloc _) (by omega) _
      have HP3 : Hid (Old (w1.alloc (.cells #[.int .i64 N, .int .i64 T, .int .i64 E, .slice a0 ps.length c0, .slice (some ⟨g, 0, none⟩) ps.length ps.length, .bool false, .slice a l c] 87)) ((w3.alloc (.cells Tryz.zeroCells113 113)).setRow w3.heap.size SB)) := Old.row ((Old.trans HP2.out g3).alloc _) (by simp; omega) _
      clear g3 z0 z1 z2 z3 z4 z5 z6 u0 u1
      have y0 := R4.out.c (i := 0) rfl
      have y1 := R4.out.c (i := 1) rfl
      have f0 := frozen_of_row _ _ 0 _ _ R4.out
      have f1 := frozen_of_row _ _ 1 _ _ R4.out
      go_wp2_with (first | ((with_reducible refine store_sg HM.out (SB) hSB.out ?_ ?_ ?_); exact rfl; exact rfl; simp only [Act.put]))
      have HF := bk_putW R4.out (.bool false) (.slice none 0 0)
      have q0 := HF.c (i := 0) rfl
      have q1 := HF.c (i := 1) rfl
      refine bodyPost_ret (v := .tuple #[.agg #[.bool false, .slice none 0 0], .bool false]) (by simp [results, Tryz.results40, go_sem, q0, q1]) rfl ?_
      rw [HB.out.1, HB.out.2]
      exact ⟨_, rfl, (HO3.out.own (p := ⟨w.heap.size + 1 + 1 + 1, 0, none⟩) (by simp; omega) _).own (p := ⟨w.heap.size + 1 + 1 + 1, 1, none⟩) (by simp; omega) _, nil_own _ _⟩
    obtain ⟨k1, k2, k3⟩ := bdB_yes hbA
    obtain ⟨j1, j2, j3⟩ := bdB_yes hbB
    have hcn : cnt (val (nat xs)) ≤ 14 := Nat.le_trans (cnt_mono k3) (Nat.le_trans (cnt_mul _ _) (by omega))
    have hcm : cnt (val (nat ys)) ≤ 14 := Nat.le_trans (cnt_mono j3) (Nat.le_trans (cnt_mul _ _) (by omega))
    have HB : Hid (D = dig (V (val (nat xs)) (val (nat ys))) ∧ ok = true) := HY.out (by rw [hB, hbA, hbB]; rfl)
    have eA := hVA (by rw [k2, decide_eq_true (k2 ▸ k1)]; rfl)
    have eB := hVB (by rw [j2, decide_eq_true (j2 ▸ j1)]; rfl)
    rw [hbA] at RA
    rw [hbB] at RB
    have CH : ∀ W, Old (w1.alloc (.cells #[.int .i64 N, .int .i64 T, .int .i64 E, .slice a0 ps.length c0, .slice (some ⟨g, 0, none⟩) ps.length ps.length, .bool false, .slice a l c] 87)) W → Calls Tryz.prog 94 #[.agg #[.int .i64 N, .int .i64 T, .int .i64 E, .slice a0 ps.length c0, .slice (some ⟨g, 0, none⟩) ps.length ps.length, .bool false, .slice a l c], .agg SA, .agg SB] W fun e w' => e = .returned (.agg (szV (V (val (nat xs)) (val (nat ys))))) ∧ Old W w' := fun W q => by
      rw [eA, eB]
      exact HKC.out hB W g a l c _ _ (Old.trans (HG1.out.alloc _) q) (HQR.out.old (Old.trans ((Old.refl w1).alloc _) q)) hcn hcm
    have CW := fun W => wholeF_any2 (V (val (nat xs)) (val (nat ys))) W (Nat.le_trans (HV.out hB _ _) (by omega))
    clear hB hPn hcq hPz hbas ho hrg hg hl HKC HV hVA hVB hbA hbB HY HNN HQR k1 k2 k3 j1 j2 j3 hcn hcm eA eB
    generalize szV (V (val (nat xs)) (val (nat ys))) = SV at *
    generalize dig (V (val (nat xs)) (val (nat ys))) = DV at *
    have HG2 : Hid (Old w (w1.alloc (.cells #[.int .i64 N, .int .i64 T, .int .i64 E, .slice a0 ps.length c0, .slice (some ⟨g, 0, none⟩) ps.length ps.length, .bool false, .slice a l c] 87))) := HG1.out.alloc _
    have R2 : Hid (Bk (w1.alloc (.cells #[.int .i64 N, .int .i64 T, .int .i64 E, .slice a0 ps.length c0, .slice (some ⟨g, 0, none⟩) ps.length ps.length, .bool false, .slice a l c] 87)) (w.heap.size + 1 + 1 + 1) #[.bool false, .slice none 0 0] 31) := R1.out.alloc _
    have BX : Hid (Bk (w1.alloc (.cells #[.int .i64 N, .int .i64 T, .int .i64 E, .slice a0 ps.length c0, .slice (some ⟨g, 0, none⟩) ps.length ps.length, .bool false, .slice a l c] 87)) w1.heap.size #[.int .i64 N, .int .i64 T, .int .i64 E, .slice a0 ps.length c0, .slice (some ⟨g, 0, none⟩) ps.length ps.length, .bool false, .slice a l c] 87) := Bk.new' w1 _ _ rfl
    have BA2 : Hid (Bk (w1.alloc (.cells #[.int .i64 N, .int .i64 T, .int .i64 E, .slice a0 ps.length c0, .slice (some ⟨g, 0, none⟩) ps.length ps.length, .bool false, .slice a l c] 87)) (w.heap.size + 1) #[.bool na, .slice a1 xs.length c1] 31) := A1.out.alloc _
    have BB2 : Hid (Bk (w1.alloc (.cells #[.int .i64 N, .int .i64 T, .int .i64 E, .slice a0 ps.length c0, .slice (some ⟨g, 0, none⟩) ps.length ps.length, .bool false, .slice a l c] 87)) (w.heap.size + 1 + 1) #[.bool nb, .slice a2 ys.length c2] 31) := B1.out.alloc _
    have HGR : Hid (Old (w1.alloc (.cells #[.int .i64 N, .int .i64 T, .int .i64 E, .slice a0 ps.length c0, .slice (some ⟨g, 0, none⟩) ps.length ps.length, .bool false, .slice a l c] 87)) (w1.alloc (.cells #[.int .i64 N, .int .i64 T, .int .i64 E, .slice a0 ps.length c0, .slice (some ⟨g, 0, none⟩) ps.length ps.length, .bool false, .slice a l c] 87))) := Old.refl _
    have z0 := BX.out.c (i := 0) rfl
    have z1 := BX.out.c (i := 1) rfl
    have z2 := BX.out.c (i := 2) rfl
    have z3 := BX.out.c (i := 3) rfl
    have z4 := BX.out.c (i := 4) rfl
    have z5 := BX.out.c (i := 5) rfl
    have z6 := BX.out.c (i := 6) rfl
    have u0 := BA2.out.c (i := 0) rfl
    have u1 := BA2.out.c (i := 1) rfl
    go_wp2_with fail
    refine (RA _ HGR.out).mono ?_
    rintro e w2 ⟨rfl, g2⟩
    have hz2 : w.heap.size + 1 + 1 + 1 < w2.heap.size := Nat.lt_of_lt_of_le R2.out.lt g2.size
    have hy2 : w1.heap.size < w2.heap.size := Nat.lt_of_lt_of_le BX.out.lt g2.size
    have HN : Hid (Sg (w2.alloc (.cells Tryz.zeroCells113 113)) w2.heap.size Tryz.zeroCells113) := Sg.zero _ _ rfl
    have HN2 : Hid (Sg ((w2.alloc (.cells Tryz.zeroCells113 113)).setRow w2.heap.size SA) w2.heap.size SA) := HN.out.row SA hSA.out
    have R3 : Hid (Bk ((w2.alloc (.cells Tryz.zeroCells113 113)).setRow w2.heap.size SA) (w.heap.size + 1 + 1 + 1) #[.bool false, .slice none 0 0] 31) := ((R2.out.old g2).alloc _).otherRow (by omega) _
    have X3 : Hid (Bk ((w2.alloc (.cells Tryz.zeroCells113 113)).setRow w2.heap.size SA) w1.heap.size #[.int .i64 N, .int .i64 T, .int .i64 E, .slice a0 ps.length c0, .slice (some ⟨g, 0, none⟩) ps.length ps.length, .bool false, .slice a l c] 87) := ((BX.out.old g2).alloc _).otherRow (by omega) _
    have BB3 : Hid (Bk ((w2.alloc (.cells Tryz.zeroCells113 113)).setRow w2.heap.size SA) (w.heap.size + 1 + 1) #[.bool nb, .slice a2 ys.length c2] 31) := ((BB2.out.old g2).alloc _).otherRow (by omega) _
    have HO2 : Hid (Old w ((w2.alloc (.cells Tryz.zeroCells113 113)).setRow w2.heap.size SA)) := Old.row ((Old.trans HG2.out g2).alloc _) (by omega) _
    have HP2 : Hid (Old (w1.alloc (.cells #[.int .i64 N, .int .i64 T, .int .i64 E, .slice a0 ps.length c0, .slice (some ⟨g, 0, none⟩) ps.length ps.length, .bool false, .slice a l c] 87)) ((w2.alloc (.cells Tryz.zeroCells113 113)).setRow w2.heap.size SA)) := Old.row (g2.alloc _) (by simp; omega) _
    clear g2 z0 z1 z2 z3 z4 z5 z6 u0 u1
    have z0 := X3.out.c (i := 0) rfl
    have z1 := X3.out.c (i := 1) rfl
    have z2 := X3.out.c (i := 2) rfl
    have z3 := X3.out.c (i := 3) rfl
    have z4 := X3.out.c (i := 4) rfl
    have z5 := X3.out.c (i := 5) rfl
    have z6 := X3.out.c (i := 6) rfl
    have u0 := BB3.out.c (i := 0) rfl
    have u1 := BB3.out.c (i := 1) rfl
    go_wp2_with (first | ((with_reducible refine store_sg HN.out (SA) hSA.out ?_ ?_ ?_); exact rfl; exact rfl; simp only [Act.put]))
    refine (RB _ HP2.out).mono ?_
    rintro e w3 ⟨rfl, g3⟩
    have hz3 : w.heap.size + 1 + 1 + 1 < w3.heap.size := Nat.lt_of_lt_of_le R3.out.lt g3.size
    have hy3 : w1.heap.size < w3.heap.size := Nat.lt_of_lt_of_le X3.out.lt g3.size
    have hx3 : w2.heap.size < w3.heap.size := Nat.lt_of_lt_of_le HN2.out.lt g3.size
    have HM : Hid (Sg (w3.alloc (.cells Tryz.zeroCells113 113)) w3.heap.size Tryz.zeroCells113) := Sg.zero _ _ rfl
    have HM2 : Hid (Sg ((w3.alloc (.cells Tryz.zeroCells113 113)).setRow w3.heap.size SB) w3.heap.size SB) := HM.out.row SB hSB.out
    have HN3 : Hid (Sg ((w3.alloc (.cells Tryz.zeroCells113 113)).setRow w3.heap.size SB) w2.heap.size SA) := ((HN2.out.old g3).alloc _).otherRow (by omega) _
    have R4 : Hid (Bk ((w3.alloc (.cells Tryz.zeroCells113 113)).setRow w3.heap.size SB) (w.heap.size + 1 + 1 + 1) #[.bool false, .slice none 0 0] 31) := ((R3.out.old g3).alloc _).otherRow (by omega) _
    have X4 : Hid (Bk ((w3.alloc (.cells Tryz.zeroCells113 113)).setRow w3.heap.size SB) w1.heap.size #[.int .i64 N, .int .i64 T, .int .i64 E, .slice a0 ps.length c0, .slice (some ⟨g, 0, none⟩) ps.length ps.length, .bool false, .slice a l c] 87) := ((X3.out.old g3).alloc _).otherRow (by omega) _
    have HO3 : Hid (Old w ((w3.alloc (.cells Tryz.zeroCells113 113)).setRow w3.heap.size SB)) := Old.row ((Old.trans HO2.out g3).alloc _) (by omega) _
    have HP3 : Hid (Old (w1.alloc (.cells #[.int .i64 N, .int .i64 T, .int .i64 E, .slice a0 ps.length c0, .slice (some ⟨g, 0, none⟩) ps.length ps.length, .bool false, .slice a l c] 87)) ((w3.alloc (.cells Tryz.zeroCells113 113)).setRow w3.heap.size SB)) := Old.row ((Old.trans HP2.out g3).alloc _) (by simp; omega) _
    clear g3 z0 z1 z2 z3 z4 z5 z6 u0 u1
    have x0 := X4.out.c (i := 0) rfl
    have x1 := X4.out.c (i := 1) rfl
    have x2 := X4.out.c (i := 2) rfl
    have x3 := X4.out.c (i := 3) rfl
    have x4 := X4.out.c (i := 4) rfl
    have x5 := X4.out.c (i := 5) rfl
    have x6 := X4.out.c (i := 6) rfl
    go_wp2_with (first | ((with_reducible refine store_sg HM.out (SB) hSB.out ?_ ?_ ?_); exact rfl; exact rfl; simp only [Act.put]) | ((with_reducible refine load_sg HN3.out ?_ ?_); exact rfl; simp only [Act.put, List.setIfInBounds_toArray, List.set_cons_succ, List.set_cons_zero]) | ((with_reducible refine load_sg HM2.out ?_ ?_); exact rfl; simp only [Act.put, List.setIfInBounds_toArray, List.set_cons_succ, List.set_cons_zero]))
    refine (CH _ HP3.out).mono ?_
    rintro e w5 ⟨rfl, g5⟩
    have R5 : Hid (Bk w5 (w.heap.size + 1 + 1 + 1) #[.bool false, .slice none 0 0] 31) := R4.out.old g5
    have HO5 : Hid (Old w w5) := Old.trans HO3.out g5
    clear g5 x0 x1 x2 x3 x4 x5 x6
    go_wp2_with fail
    refine (CW _).mono ?_
    rintro e w6 ⟨v6, rfl, g6, o6⟩
    have R6 : Hid (Bk w6 (w.heap.size + 1 + 1 + 1) #[.bool false, .slice none 0 0] 31) := R5.out.old g6
    have HO6 : Hid (Old w w6) := Old.trans HO5.out g6
    have hz6 : w.heap.size + 1 + 1 + 1 < w5.heap.size := R5.out.lt
    have y0 := R6.out.c (i := 0) rfl
    have y1 := R6.out.c (i := 1) rfl
    have f0 := frozen_of_row _ _ 0 _ _ R6.out
    have f1 := frozen_of_row _ _ 1 _ _ R6.out
    have O6 : Hid (Own w6 w5.heap.size v6 (toI DV)) := o6
    obtain ⟨x4, m4, rfl⟩ := (Own.row o6).slice
    clear g6 o6
    go_wp2_with fail
    have HF := bk_putW R6.out (.bool false) (.slice x4 (toI DV).length m4)
    have q0 := HF.c (i := 0) rfl
    have q1 := HF.c (i := 1) rfl
    refine bodyPost_ret (v := .tuple #[.agg #[.bool false, .slice x4 (toI DV).length m4], .bool true]) (by simp [results, Tryz.results40, go_sem, q0, q1]) rfl ?_
    rw [HB.out.1, HB.out.2]
    refine ⟨_, rfl, (HO6.out.own (p := ⟨w.heap.size + 1 + 1 + 1, 0, none⟩) (by simp; omega) _).own (p := ⟨w.heap.size + 1 + 1 + 1, 1, none⟩) (by simp; omega) _, ?_⟩
    refine own_farB (Own.low O6.out (by omega)) (fun b hb => ?_)
    have hlt := (O6.out.lt b hb).1
    exact (heap_setCell_other _ ⟨w.heap.size + 1 + 1 + 1, 1, none⟩ b _ (by show b ≠ w.heap.size + 1 + 1 + 1; omega)).trans (heap_setCell_other _ ⟨w.heap.size + 1 + 1 + 1, 0, none⟩ b _ (by show b ≠ w.heap.size + 1 + 1 + 1; omega))
end Go.Proofs.YtpcpahgflkjnaaaGreatDoor
/- Proved: the statement on MulBound at every argument, in a world in which the two tables are laid. -/
namespace Go.Proofs.YtpcpahgflkjnaaaGreatDoor
open Go.ChangeShapes Go.WideShapes Go.ChangeAt Go.RowKit
open M2
set_option linter.unusedVariables false
set_option linter.unusedSimpArgs false
theorem mulM_cnt {q N T a b : Nat} (hN : 2 ≤ N ∧ N ≤ 16) (hT : 2 ≤ T ∧ T ≤ 65536) (ha : cnt a ≤ 40) (hb : cnt b ≤ 40) : cnt (mulM q N T a b) ≤ 1000 := by
  rw [mulM_eq]
  obtain ⟨b1, b2, b3, b4, b5⟩ := oft_bd hN hT
  have k1 : cnt (a + b) ≤ 41 := cnt_addL (k := 40) ha hb
  have k2 : cnt (N * oftN N T) ≤ 3 := cnt_w (by omega)
  have k3 : cnt ((a + b) * (N * oftN N T)) ≤ 44 := Nat.le_trans (cnt_mul _ _) (by omega)
  have k4 : cnt (a * b) ≤ 80 := Nat.le_trans (cnt_mul _ _) (by omega)
  have k5 : cnt N ≤ 3 := cnt_w (by omega)
  have k6 : cnt (a * b * N) ≤ 83 := Nat.le_trans (cnt_mul _ _) (by omega)
  have k7 : cnt (a * b * N / q) ≤ 83 := Nat.le_trans (cnt_mono (Nat.div_le_self _ _)) k6
  have k8 : cnt (1 + rndN N T) ≤ 3 := cnt_w (by omega)
  have k9 := cnt_addL (k := 83) (Nat.le_trans k3 (by omega)) k7
  have k10 := cnt_addL (k := 84) k9 (Nat.le_trans k8 (by omega))
  omega
theorem MulBound_any (N T E : Int) (xs : List Int) (na : Bool) (ys : List Int) (nb : Bool) (zs : List Int) (v u x : Value) (w : World) (hv : Row w v xs) (hl : xs.length ≤ 9223372036854775807) (hx : ∀ x ∈ xs, -9223372036854775808 ≤ x ∧ x ≤ 9223372036854775807) (hu : Row w u ys) (hlu : ys.length ≤ 9223372036854775807) (hz : Row w x zs) (hlz : zs.length ≤ 9223372036854775807) (hP : PrsW w) (hT : TabW w) :
    Calls Tryz.prog 8 #[.agg #[.int .i64 N, .int .i64 T, .int .i64 E, v], .agg #[.bool na, u], .agg #[.bool nb, x]] w fun e w' => e = .returned (.bool true) ∧ Old w w' := by
  obtain ⟨a0, c0, rfl⟩ := hv.slice
  obtain ⟨a1, c1, rfl⟩ := hu.slice
  obtain ⟨a2, c2, rfl⟩ := hz.slice
  obtain ⟨L0, hL0⟩ : ∃ L : Int, L = leftN 1048576 xs.length := ⟨_, rfl⟩
  obtain ⟨L1, hL1⟩ : ∃ L : Int, L = leftN L0 ys.length := ⟨_, rfl⟩
  obtain ⟨L2, hL2⟩ : ∃ L : Int, L = leftN L1 zs.length := ⟨_, rfl⟩
  have bnd : ∀ {A : Prop}, ¬ L0 < 0 → ¬ L1 < 0 → ¬ L2 < 0 → (xs.length ≤ 1048576 → ys.length ≤ 1048576 → zs.length ≤ 1048576 → A) → A := fun h1 h2 h3 k => by
    rw [hL0] at h1
    obtain ⟨q1, q2, q3⟩ := leftN_ok h1 (by omega)
    rw [← hL0] at q2 q3
    rw [hL1] at h2
    obtain ⟨q4, q5, q6⟩ := leftN_ok h2 q3
    rw [← hL1] at q5 q6
    rw [hL2] at h3
    obtain ⟨q7, q8, q9⟩ := leftN_ok h3 q6
    exact k (by omega) (by omega) (by omega)
  obtain ⟨V, hV⟩ : ∃ V : Nat → Nat → Nat, ∀ n m, V n m = prdN (prodN (xs.map Int.toNat)) N.toNat T.toNat n m := ⟨_, fun _ _ => rfl⟩
  obtain ⟨D, ok, hy, hn, hD⟩ : ∃ (D : List Nat) (ok : Bool), (((prB N T E xs && bdB (prodN (xs.map Int.toNat)) na ys) && bdB (prodN (xs.map Int.toNat)) nb zs) = true → D = dig (V (val (nat ys)) (val (nat zs))) ∧ ok = true) ∧ (((prB N T E xs && bdB (prodN (xs.map Int.toNat)) na ys) && bdB (prodN (xs.map Int.toNat)) nb zs) = false → D = [] ∧ ok = false) ∧ D.length ≤ 40 := by
    cases h : ((prB N T E xs && bdB (prodN (xs.map Int.toNat)) na ys) && bdB (prodN (xs.map Int.toNat)) nb zs)
    · exact ⟨[], false, (fun h => by cases h), (fun _ => ⟨rfl, rfl⟩), by simp⟩
    · rw [Bool.and_eq_true, Bool.and_eq_true] at h
      obtain ⟨Nn, Tn, En, P, _, _, _, _, hb, _, _, _, hPn, _⟩ := prB_nat h.1.1
      refine ⟨dig (V (val (nat ys)) (val (nat zs))), true, (fun _ => ⟨rfl, rfl⟩), (fun h => by cases h), ?_⟩
      have h1 : cnt (V (val (nat ys)) (val (nat zs))) ≤ 7 := by
        rw [hV, hPn]
        exact Nat.le_trans (cnt_mono cutN_le) hb.cnt
      unfold cnt at h1
      omega
  have eD : (toI D).length = D.length := toI_len D
  refine law9_MulBound w N T E xs.length a0 c0 na ys.length a1 c1 nb zs.length a2 c2 false (toI D).length ok L0 L1 L2
    (fun W g => by rw [hL0]; exact kp_sz N T E a0 xs.length c0 1048576 W hl (by omega) (by omega))
    (fun h W g => by
      rw [hL0] at h
      obtain ⟨q1, q2, q3⟩ := leftN_ok h (by omega)
      rw [← hL0] at q3
      rw [hL1]
      exact kw_sz na a1 ys.length c1 _ W hlu q3 (by omega))
    (fun h h2 W g => by
      rw [hL0] at h
      obtain ⟨q1, q2, q3⟩ := leftN_ok h (by omega)
      rw [← hL0] at q3 q2
      rw [hL1] at h2
      obtain ⟨q4, q5, q6⟩ := leftN_ok h2 q3
      rw [← hL1] at q6 q5
      rw [hL2]
      exact kw_sz nb a2 zs.length c2 _ W hlz q6 (by omega))
    (XP N T E xs) (far_XP N T E xs) shape_XP (fun h0 h1 h2 W g => bnd h0 h1 h2 fun h3 _ _ => kp_to N T E xs _ W (hv.old g) h3) (fun h0 h1 h2 W lo hi g lo' hi' g' k k' => bnd h0 h1 h2 fun h3 _ _ => kp_eq N T E xs W lo hi g lo' hi' g' k k' (by omega))
    (1 + xs.length) (by omega) (fun h0 h1 h2 W lo hi g k => bnd h0 h1 h2 fun h3 _ _ => kp_mark N T E xs 1 W lo hi g k h3 (by omega) (by omega))
    (XW na ys) (far_XW na ys) shape_XW (fun h0 h1 h2 W g => bnd h0 h1 h2 fun h3 h4 _ => kw_to na ys _ W (hu.old g) h4) (fun h0 h1 h2 W lo hi g lo' hi' g' k k' => bnd h0 h1 h2 fun h3 h4 _ => kw_eq na ys W lo hi g lo' hi' g' k k' (by omega))
    (1 + xs.length + ys.length) (by omega) (fun h0 h1 h2 W lo hi g k => bnd h0 h1 h2 fun h3 h4 _ => kw_mark na ys _ W lo hi g k h4 (by omega) (by omega))
    (XW nb zs) (far_XW nb zs) shape_XW (fun h0 h1 h2 W g => bnd h0 h1 h2 fun h3 _ h4 => kw_to nb zs _ W (hz.old g) h4) (fun h0 h1 h2 W lo hi g lo' hi' g' k k' => bnd h0 h1 h2 fun h3 _ h4 => kw_eq nb zs W lo hi g lo' hi' g' k k' (by omega))
    (1 + xs.length + ys.length + zs.length) (by omega) (fun h0 h1 h2 W lo hi g k => bnd h0 h1 h2 fun h3 h5 h4 => kw_mark nb zs _ W lo hi g k h4 (by omega) (by omega))
    (XW false (toI D)) (far_XW _ _) shape_XW (XW false (toI D)) (far_XW _ _) shape_XW (XWm false (toI D).length) (far_XWm _ _) shape_XWm
    (fun h0 h1 h2 W lo hi g lo1 hi1 g1 lo2 hi2 g2 k k1 k2 q => bnd h0 h1 h2 fun _ h4 h5 => ?_) (fun h0 h1 h2 W lo hi g lo1 hi1 g1 lo2 hi2 g2 k k1 k2 q => bnd h0 h1 h2 fun _ h4 h5 => ?_)
    (fun h0 h1 h2 W lo hi p lo' hi' p' k k' => kw_eq false (toI D) W lo hi p lo' hi' p' k k' (by omega))
    (1 + (toI D).length) (by omega) (fun h0 h1 h2 W lo hi p k => kw_mark2 false (toI D) W lo hi p k (by omega))
    (fun h0 h1 h2 W lo hi p k => kw_held false (toI D).length W lo hi p k (by omega))
  · obtain ⟨a, c, rfl, o, f⟩ := k
    obtain ⟨a', c', rfl, o'⟩ := k1
    obtain ⟨a'', c'', rfl, o''⟩ := k2
    refine Calls.mono ?_ (fun e w' h => WhA.res h)
    have KA := fun W' (q' : Old W W') => l11Bound_n N T E xs a c na ys a' c' W' (o.row.old q') f hl hx (o'.row.old q') h4
    have KB := fun W' (q' : Old W W') => l11Bound_n N T E xs a c nb zs a'' c'' W' (o.row.old q') f hl hx (o''.row.old q') h5
    cases hB : ((prB N T E xs && bdB (prodN (xs.map Int.toNat)) na ys) && bdB (prodN (xs.map Int.toNat)) nb zs)
    · obtain ⟨rfl, rfl⟩ := hn hB
      refine spec_MulBound_no N T E a xs.length c na a' ys.length c' nb a'' zs.length c'' _ _ ?_ W KA KB
      revert hB
      cases prB N T E xs <;> cases bdB (prodN (xs.map Int.toNat)) na ys <;> cases bdB (prodN (xs.map Int.toNat)) nb zs <;> simp
    · obtain ⟨rfl, rfl⟩ := hy hB
      rw [Bool.and_eq_true, Bool.and_eq_true] at hB
      rw [hB.1.1, hB.1.2] at KA
      rw [hB.1.1, hB.2] at KB
      obtain ⟨hg, rfl, hle⟩ := bdB_yes hB.1.2
      obtain ⟨hg2, rfl, hle2⟩ := bdB_yes hB.2
      obtain ⟨Nn, Tn, En, P, rfl, rfl, rfl, hz', hb, hN, hTn, hE, hPn, h0', hlx, hpx⟩ := prB_nat hB.1.1
      obtain ⟨hr, hcy⟩ := rwd_good hg o'.row
      obtain ⟨hr2, hcz⟩ := rwd_good hg2 o''.row
      rw [hV, hPn]
      rw [show ((Tn : Int).toNat) = Tn by omega, show ((Nn : Int).toNat) = Nn by omega]
      rw [show prdN (prodN P) Nn Tn (val (nat ys)) (val (nat zs)) = cutN (prodN P) (mulM (prodN P) Nn Tn (val (nat ys)) (val (nat zs))) by rw [mulM_eq]; rfl]
      exact spec_MulBound_yes Nn Tn En P a xs.length c false a' ys.length c' false a'' zs.length c'' _ _ W (by rw [← hz']; exact o.row) hb hN hTn hE h0' hr hcy hr2 hcz (mulM_cnt hN hTn hcy hcz) KA KB
  · obtain ⟨a, c, rfl, o, f⟩ := k
    obtain ⟨a', c', rfl, o'⟩ := k1
    obtain ⟨a'', c'', rfl, o''⟩ := k2
    refine Calls.mono ?_ (fun e w' h => WhA.res h)
    refine impl_MulBound N T E xs _ na ys _ nb zs _ V W (hP.old q) (hT.old q) o.row f hl o'.row h4 o''.row h5 (fun hB n m => ?_) (fun hB W2 g al l cc n m q2 hr hcn hcm => ?_) D ok hy hn
    · obtain ⟨Nn, Tn, En, P, _, _, _, _, hb, _, _, _, hPn, _⟩ := prB_nat hB
      rw [hV, hPn]
      exact Nat.le_trans (cnt_mono cutN_le) hb.cnt
    · obtain ⟨Nn, Tn, En, P, rfl, rfl, rfl, hz', hb, hN, hTn, hE, hPn, h0', hlx, hpx⟩ := prB_nat hB
      rw [hPn] at hr
      rw [hV, hPn]
      rw [show ((Tn : Int).toNat) = Tn by omega, show ((Nn : Int).toNat) = Nn by omega]
      exact product_n Nn Tn En a xs.length c _ _ _ al l cc (prodN P) n m W2 hb.cnt hr h0' hN hTn hcn hcm
end Go.Proofs.YtpcpahgflkjnaaaGreatDoor
