/- Proved: the program's raised, freshBound, plusPlainBound and timesPlainBound, under what they call. -/
import Derived.Test.YtpcpahgflkjnaaaGreatDoorB13
import Derived.Test.YtpcpahgflkjnaaaGreatDoorB05
import Derived.Test.YtpcpahgflkjnaaaGreatDoorMlr
import Derived.Test.YtpcpahgflkjnaaaGreatDoorB07
import Derived.KernelRfl
import Derived.Test.YtpcpahgflkjnaaaGreatDoorB08
import Derived.Test.YtpcpahgflkjnaaaGreatDoorB09
namespace Go.Proofs.YtpcpahgflkjnaaaGreatDoor
open Go.ChangeShapes Go.WideShapes Go.ChangeAt Go.RowKit
open M2
set_option linter.unusedVariables false
set_option linter.unusedSimpArgs false
set_option maxRecDepth 100000 in
set_option maxHeartbeats 4000000 in
theorem fresh_of (N T E : Int) (a3 : Option Addr) (l3 c3 : Nat) (a4 : Option Addr) (l4 c4 : Nat) (a6 : Option Addr) (l6 c6 : Nat) (S1 SR : Array Value) (m : Int) (w : World) (hN : 2 ≤ N ∧ N ≤ 16) (hm : 0 ≤ m ∧ m ≤ 4611686018427387904) (hTE : 0 ≤ T * E ∧ T * E ≤ 1048576) (hX : 0 ≤ T * E * (2 * N + 1) ∧ T * E * (2 * N + 1) ≤ 34603008) (hR : Sq SR)
    (KP : ∀ W, Old w W → Calls Tryz.prog 143 #[.agg #[.int .i64 N, .int .i64 T, .int .i64 E, .slice a3 l3 c3, .slice a4 l4 c4, .bool false, .slice a6 l6 c6]] W fun e w' => e = .returned (.int .i64 m) ∧ Old W w')
    (KO : ∀ W, Old w W → Calls Tryz.prog 138 #[.int .u64 m] W fun e w' => e = .returned (.agg S1) ∧ Old W w')
    (KR : ∀ W, Old w W → Calls Tryz.prog 142 #[.agg #[.int .i64 N, .int .i64 T, .int .i64 E, .slice a3 l3 c3, .slice a4 l4 c4, .bool false, .slice a6 l6 c6], .agg S1, .int .i64 (T * E * (2 * N + 1))] W fun e w' => e = .returned (.agg SR) ∧ Old W w') :
    Calls Tryz.prog 83 #[.agg #[.int .i64 N, .int .i64 T, .int .i64 E, .slice a3 l3 c3, .slice a4 l4 c4, .bool false, .slice a6 l6 c6]] w fun e w' => e = .returned (.agg SR) ∧ Old w w' := by
  have HA : Hid (Old w ((w.alloc (.cells #[.int .i64 N, .int .i64 T, .int .i64 E, .slice a3 l3 c3, .slice a4 l4 c4, .bool false, .slice a6 l6 c6] 87)).alloc (.cells Tryz.zeroCells113 113))) := ((Old.refl w).alloc _).alloc _
  have BX : Hid (Bk ((w.alloc (.cells #[.int .i64 N, .int .i64 T, .int .i64 E, .slice a3 l3 c3, .slice a4 l4 c4, .bool false, .slice a6 l6 c6] 87)).alloc (.cells Tryz.zeroCells113 113)) (w.heap.size) #[.int .i64 N, .int .i64 T, .int .i64 E, .slice a3 l3 c3, .slice a4 l4 c4, .bool false, .slice a6 l6 c6] 87) := (Bk.new' w _ _ rfl).alloc _
  have HR : Hid (Sg ((w.alloc (.cells #[.int .i64 N, .int .i64 T, .int .i64 E, .slice a3 l3 c3, .slice a4 l4 c4, .bool false, .slice a6 l6 c6] 87)).alloc (.cells Tryz.zeroCells113 113)) (w.heap.size + 1) (Tryz.zeroCells113)) := Sg.zero _ _ (by simp)
  generalize hwA : ((w.alloc (.cells #[.int .i64 N, .int .i64 T, .int .i64 E, .slice a3 l3 c3, .slice a4 l4 c4, .bool false, .slice a6 l6 c6] 87)).alloc (.cells Tryz.zeroCells113 113)) = wA at HA BX HR
  go_enter Tryz.func83, Tryz.ntmps83
  go_wp2_with fail
  refine reg_Fr wA N T E a3 l3 c3 a4 l4 c4 a6 l6 c6 w.heap.size (w.heap.size + 1) S1 SR Tryz.zeroCells113 m BX.out HR.out.blk sq_zero.1 hR hN hm hTE hX (fun W q => KP W (Old.trans HA.out q)) (fun W q => KO W (Old.trans HA.out q)) (fun W q => KR W (Old.trans HA.out q)) _ _ ?_ ?_ ?_ ?_
  iterate 3 (· exact rfl)
  intro us W q
  have HQ : Hid (Old w W) := Old.trans HA.out q
  have HR2 : Hid (Sg W (w.heap.size + 1) Tryz.zeroCells113) := HR.out.old q
  simp only [putAll, Act.put, slotFr, List.range, List.range.loop, List.map_cons, List.map_nil, List.getD_cons_zero, List.getD_cons_succ, List.setIfInBounds_toArray, List.set_cons_succ, List.set_cons_zero]
  clear q
  go_wp2_with (first | ((with_reducible refine bodyPost_ret (ret_sg Tryz.results83 _ _ ?_ (HR2.out.row SR hR)) ?_ ?_); exact rfl; exact rfl; exact ⟨rfl, HQ.out.row (by omega) _⟩))
end Go.Proofs.YtpcpahgflkjnaaaGreatDoor
