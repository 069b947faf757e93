/- Proved: the program's productBound and switchedBound, under what they call. -/
import Derived.Test.YtpcpahgflkjnaaaGreatDoorB13
import Derived.Test.YtpcpahgflkjnaaaGreatDoorB05
import Derived.Test.YtpcpahgflkjnaaaGreatDoorMlr
import Derived.Test.YtpcpahgflkjnaaaGreatDoorB07
import Derived.KernelRfl
import Derived.Test.YtpcpahgflkjnaaaGreatDoorB08
import Derived.Test.YtpcpahgflkjnaaaGreatDoorB10
namespace Go.Proofs.YtpcpahgflkjnaaaGreatDoor
open Go.ChangeShapes Go.WideShapes Go.ChangeAt Go.RowKit
open M2
set_option linter.unusedVariables false
set_option linter.unusedSimpArgs false
set_option maxRecDepth 100000 in
set_option maxHeartbeats 4000000 in
theorem product_of (N T E : Int) (a3 : Option Addr) (l3 c3 : Nat) (a4 : Option Addr) (l4 c4 : Nat) (a6 : Option Addr) (l6 c6 : Nat) (SA SB SS SE SM SN SQ SD SZ SU SR : Array Value) (o X1 X2 X3 X4 X5 X6 q : Int) (w : World) (hA' : Sq SA) (hB' : Sq SB) (hE' : Sq SE) (hD' : Sq SD) (hZ' : Sq SZ) (hR' : Sq SR)
    (h1 : IntKind.i64.wrap (1 + N) = 1 + N) (h2 : IntKind.i64.wrap (T * (1 + N)) = X1) (h3 : X1.tdiv 2 = X2) (h3' : IntKind.i64.wrap X2 = X2) (h4 : IntKind.i64.wrap (X2 + 1) = o)
    (h5 : IntKind.i64.wrap (N * N) = X3) (h6 : IntKind.i64.wrap (1 + N + X3) = X4) (h7 : IntKind.i64.wrap (T * X4) = X5) (h8 : X5.tdiv 2 = X6) (h8' : IntKind.i64.wrap X6 = X6) (h9 : IntKind.i64.wrap (X6 + 1) = q)
    (hX : 0 ≤ N * o ∧ N * o ≤ 4611686018427387904) (hq : 0 ≤ q ∧ q ≤ 4611686018427387904)
    (KA : ∀ W, Old w W → Calls Tryz.prog 151 #[.agg SA, .agg SB] W fun e w' => e = .returned (.agg SS) ∧ Old W w')
    (KX : ∀ W, Old w W → Calls Tryz.prog 148 #[.agg SS, .int .i64 (N * o), .int .i64 0] W fun e w' => e = .returned (.agg SE) ∧ Old W w')
    (KM : ∀ W, Old w W → Calls Tryz.prog 150 #[.agg SA, .agg SB] W fun e w' => e = .returned (.agg SM) ∧ Old W w')
    (KY : ∀ W, Old w W → Calls Tryz.prog 148 #[.agg SM, .int .i64 N, .int .i64 0] W fun e w' => e = .returned (.agg SN) ∧ Old W w')
    (KZ : ∀ W, Old w W → Calls Tryz.prog 130 #[.agg #[.bool false, .slice a6 l6 c6]] W fun e w' => e = .returned (.agg SQ) ∧ Old W w')
    (KD : ∀ W, Old w W → Calls Tryz.prog 152 #[.agg SN, .agg SQ] W fun e w' => e = .returned (.tuple #[.agg SD, .agg SZ]) ∧ Old W w')
    (KU : ∀ W, Old w W → Calls Tryz.prog 151 #[.agg SE, .agg SD] W fun e w' => e = .returned (.agg SU) ∧ Old W w')
    (KR : ∀ W, Old w W → Calls Tryz.prog 142 #[.agg #[.int .i64 N, .int .i64 T, .int .i64 E, .slice a3 l3 c3, .slice a4 l4 c4, .bool false, .slice a6 l6 c6], .agg SU, .int .i64 (1 + q)] W fun e w' => e = .returned (.agg SR) ∧ Old W w') :
    Calls Tryz.prog 94 #[.agg #[.int .i64 N, .int .i64 T, .int .i64 E, .slice a3 l3 c3, .slice a4 l4 c4, .bool false, .slice a6 l6 c6], .agg SA, .agg SB] w fun e w' => e = .returned (.agg SR) ∧ Old w w' := by
  have hA : Hid (Sq SA) := hA'
  have hB : Hid (Sq SB) := hB'
  have hE : Hid (Sq SE) := hE'
  have hD : Hid (Sq SD) := hD'
  have hZ : Hid (Sq SZ) := hZ'
  have hR : Hid (Sq SR) := hR'
  have HX : Hid (0 ≤ N * o ∧ N * o ≤ 4611686018427387904) := hX
  have Hq : Hid (0 ≤ q ∧ q ≤ 4611686018427387904) := hq
  have HQ : Hid (Old w ((((w.alloc (.cells #[.int .i64 N, .int .i64 T, .int .i64 E, .slice a3 l3 c3, .slice a4 l4 c4, .bool false, .slice a6 l6 c6] 87)).alloc (.cells SA 113)).alloc (.cells SB 113)).alloc (.cells Tryz.zeroCells113 113))) := ((((Old.refl w).alloc _).alloc _).alloc _).alloc _
  have BX : Hid (Bk ((((w.alloc (.cells #[.int .i64 N, .int .i64 T, .int .i64 E, .slice a3 l3 c3, .slice a4 l4 c4, .bool false, .slice a6 l6 c6] 87)).alloc (.cells SA 113)).alloc (.cells SB 113)).alloc (.cells Tryz.zeroCells113 113)) w.heap.size #[.int .i64 N, .int .i64 T, .int .i64 E, .slice a3 l3 c3, .slice a4 l4 c4, .bool false, .slice a6 l6 c6] 87) := (((Bk.new' w _ _ rfl).alloc _).alloc _).alloc _
  have HSA : Hid (Sg ((((w.alloc (.cells #[.int .i64 N, .int .i64 T, .int .i64 E, .slice a3 l3 c3, .slice a4 l4 c4, .bool false, .slice a6 l6 c6] 87)).alloc (.cells SA 113)).alloc (.cells SB 113)).alloc (.cells Tryz.zeroCells113 113)) (w.heap.size + 1) SA) := ((Sg.new _ _ _ hA.out (by simp)).alloc _).alloc _
  have HSB : Hid (Sg ((((w.alloc (.cells #[.int .i64 N, .int .i64 T, .int .i64 E, .slice a3 l3 c3, .slice a4 l4 c4, .bool false, .slice a6 l6 c6] 87)).alloc (.cells SA 113)).alloc (.cells SB 113)).alloc (.cells Tryz.zeroCells113 113)) (w.heap.size + 1 + 1) SB) := (Sg.new _ _ _ hB.out (by simp)).alloc _
  have HR : Hid (Sg ((((w.alloc (.cells #[.int .i64 N, .int .i64 T, .int .i64 E, .slice a3 l3 c3, .slice a4 l4 c4, .bool false, .slice a6 l6 c6] 87)).alloc (.cells SA 113)).alloc (.cells SB 113)).alloc (.cells Tryz.zeroCells113 113)) (w.heap.size + 1 + 1 + 1) Tryz.zeroCells113) := Sg.zero _ _ (by simp)
  generalize hwA : ((((w.alloc (.cells #[.int .i64 N, .int .i64 T, .int .i64 E, .slice a3 l3 c3, .slice a4 l4 c4, .bool false, .slice a6 l6 c6] 87)).alloc (.cells SA 113)).alloc (.cells SB 113)).alloc (.cells Tryz.zeroCells113 113)) = wA at HQ BX HSA HSB HR
  have y0 := BX.out.c (i := 0) rfl
  have y1 := BX.out.c (i := 1) rfl
  have H1 : Hid (IntKind.i64.wrap (1 + N) = 1 + N) := h1
  clear hX hq hA' hB' hE' hD' hZ' hR'
  go_enter Tryz.func94, Tryz.ntmps94
  go_wp2_with fail
  refine reg_P2 wA N T E a3 l3 c3 a4 l4 c4 a6 l6 c6 w.heap.size (w.heap.size + 1) (w.heap.size + 1 + 1) SA SB SS SE o HSA.out.blk hA.out.1 HSB.out.blk hB.out.1 BX.out hE.out HX.out (fun W' q => KA W' (Old.trans HQ.out q)) (fun W' q => KX W' (Old.trans HQ.out q)) _ _ ?_ ?_ ?_ ?_ ?_ ?_
  iterate 5 (· exact rfl)
  intro us W1 g9 q1 e9 b9 z9
  have hs1 : w.heap.size + 1 + 1 + 1 < g9 := Nat.lt_of_lt_of_le HR.out.lt b9
  have HQ1 : Hid (Old w W1) := Old.trans HQ.out q1
  have BX1 : Hid (Bk W1 w.heap.size #[.int .i64 N, .int .i64 T, .int .i64 E, .slice a3 l3 c3, .slice a4 l4 c4, .bool false, .slice a6 l6 c6] 87) := BX.out.old q1
  have HSA1 : Hid (Sg W1 (w.heap.size + 1) SA) := HSA.out.old q1
  have HSB1 : Hid (Sg W1 (w.heap.size + 1 + 1) SB) := HSB.out.old q1
  have HR1 : Hid (Sg W1 (w.heap.size + 1 + 1 + 1) Tryz.zeroCells113) := HR.out.old q1
  have HE1 : Hid (Sg W1 g9 SE) := ⟨z9, hE.out⟩
  simp only [putAll, Act.put, slotP2, List.range, List.range.loop, List.map_cons, List.map_nil, List.getD_cons_zero, List.getD_cons_succ, List.setIfInBounds_toArray, List.set_cons_succ, List.set_cons_zero]
  simp only [e9]
  clear q1 e9 b9 z9 HQ BX HSA HSB HR hwA y0 y1 KA KX h1 h2 h3 h3' h4
  go_wp2_with fail
  refine reg_P3 W1 N T E a3 l3 c3 a4 l4 c4 a6 l6 c6 w.heap.size (w.heap.size + 1) (w.heap.size + 1 + 1) SA SB SM SN SQ SD SZ HSA1.out.blk hA.out.1 HSB1.out.blk hB.out.1 BX1.out hD.out hZ.out (fun W' q => KM W' (Old.trans HQ1.out q)) (fun W' q => KY W' (Old.trans HQ1.out q)) (fun W' q => KZ W' (Old.trans HQ1.out q)) (fun W' q => KD W' (Old.trans HQ1.out q)) _ _ ?_ ?_ ?_ ?_ ?_
  iterate 4 (· exact rfl)
  intro us2 W2 g14 g15 q2 e14 b14 e15 b15 z14 z15
  have HQ2 : Hid (Old w W2) := Old.trans HQ1.out q2
  have BX2 : Hid (Bk W2 w.heap.size #[.int .i64 N, .int .i64 T, .int .i64 E, .slice a3 l3 c3, .slice a4 l4 c4, .bool false, .slice a6 l6 c6] 87) := BX1.out.old q2
  have HR2 : Hid (Sg W2 (w.heap.size + 1 + 1 + 1) Tryz.zeroCells113) := HR1.out.old q2
  have HE2 : Hid (Sg W2 g9 SE) := HE1.out.old q2
  have HD2 : Hid (Sg W2 g14 SD) := ⟨z14, hD.out⟩
  simp only [putAll, Act.put, slotP3, List.range, List.range.loop, List.map_cons, List.map_nil, List.getD_cons_zero, List.getD_cons_succ, List.setIfInBounds_toArray, List.set_cons_succ, List.set_cons_zero]
  simp only [e14, e15]
  have y0 := BX2.out.c (i := 0) rfl
  have y1 := BX2.out.c (i := 1) rfl
  have h1 : IntKind.i64.wrap (1 + N) = 1 + N := H1.out
  clear q2 e14 b14 e15 b15 z14 z15 HQ1 BX1 HSA1 HSB1 HR1 HE1 KM KY KZ KD
  go_wp2_with fail
  refine reg_P5 W2 N T E a3 l3 c3 a4 l4 c4 a6 l6 c6 w.heap.size g9 g14 (w.heap.size + 1 + 1 + 1) SE SD SU SR Tryz.zeroCells113 q BX2.out HD2.out.blk hD.out.1 HE2.out.blk hE.out.1 HR2.out.blk sq_zero.1 hR.out Hq.out (fun W' q => KU W' (Old.trans HQ2.out q)) (fun W' q => KR W' (Old.trans HQ2.out q)) _ _ ?_ ?_ ?_ ?_ ?_ ?_ ?_
  iterate 6 (· exact rfl)
  intro us3 W3 q3
  have HQ3 : Hid (Old w W3) := Old.trans HQ2.out q3
  have HR3 : Hid (Sg W3 (w.heap.size + 1 + 1 + 1) Tryz.zeroCells113) := HR2.out.old q3
  simp only [putAll, Act.put, slotP5, List.range, List.range.loop, List.map_cons, List.map_nil, List.getD_cons_zero, List.getD_cons_succ, List.setIfInBounds_toArray, List.set_cons_succ, List.set_cons_zero]
  clear q3
  go_wp2_with (first | ((with_reducible refine bodyPost_ret (ret_sg Tryz.results94 _ _ ?_ (HR3.out.row SR hR.out)) ?_ ?_); exact rfl; exact rfl; exact ⟨rfl, HQ3.out.row (by omega) _⟩))
end Go.Proofs.YtpcpahgflkjnaaaGreatDoor
