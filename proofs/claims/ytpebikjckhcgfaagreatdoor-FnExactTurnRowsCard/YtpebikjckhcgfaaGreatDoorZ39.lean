/- Proved: several texts in one: what each proves is said ahead of it. -/
import Derived.Test.YtpebikjckhcgfaaGreatDoorZ36
import Derived.Test.YtpebikjckhcgfaaGreatDoorZ18
/- Proved: the contract of the program's product in a ring: it is the model's. -/
namespace Go.Proofs.YtpebikjckhcgfaaGreatDoor
open Go.ChangeShapes Go.WideShapes Go.ChangeAt Go.RowKit
set_option linter.unusedVariables false
set_option linter.unusedSimpArgs false
theorem eachN_lt (P N : Nat) (xs ys : List Nat) (hP : 0 < P) : ∀ z ∈ eachN P N xs ys, z < P := by
  intro z hz
  unfold eachN at hz
  obtain ⟨k, _, rfl⟩ := List.mem_map.1 hz
  exact Nat.mod_lt _ hP
theorem fwdS_lt (P N R : Nat) (xs : List Nat) (hP : 0 < P) : ∀ z ∈ fwdS P N R xs, z < P := by
  intro z hz
  unfold fwdS at hz
  obtain ⟨k, _, rfl⟩ := List.mem_map.1 hz
  exact horS_lt P _ xs N hP N
set_option maxRecDepth 100000 in
set_option maxHeartbeats 4000000 in
theorem impl_product (P N R : Nat) (xs ys : List Nat) (v u : Value) (w : World) (hT : TabW w) (hv : Row w v (toZ xs)) (hu : Row w u (toZ ys)) (hP : 2 ≤ P ∧ P ≤ 268435456) (ho : P % 2 = 1) (hS : Sz4 N) (hR : R < P) (la : xs.length = N) (lb : ys.length = N) (ha : ∀ x ∈ xs, x < P) (hb : ∀ x ∈ ys, x < P)
    (r1 : Cg P ((R : Int) ^ (2 * N)) 1) (r2 : Cg P ((R : Int) ^ N) (-1)) :
    Calls Tryz.prog 110 #[.agg #[.int .i64 P, .int .i64 N, .int .i64 R], v, u] w fun e w' => ∃ v', e = .returned v' ∧ Old w w' ∧ Own w' w.heap.size v' (toZ (muO P N xs ys N)) := by
  have hs := sz_bd hS
  obtain ⟨A, hA⟩ : ∃ A : Array Value, A = #[.int .i64 P, .int .i64 N, .int .i64 R] := ⟨_, rfl⟩
  obtain ⟨wB, hwB⟩ : ∃ wB, wB = w.alloc (.cells A 53) := ⟨_, rfl⟩
  have HWB : Old w wB := by rw [hwB]; exact (Old.refl w).alloc _
  have hb0 : wB.heap[w.heap.size]? = some (.cells A 53 (0, 0)) := by rw [hwB]; exact heap_alloc_new _ _
  have KF1 : Hid (∀ W, Old wB W → Calls Tryz.prog 113 #[.agg A, v] W fun e w' => ∃ v', e = .returned v' ∧ Old W w' ∧ Own w' W.heap.size v' (toZ (fwdS P N R xs))) := fun W g => by
    have g0 := Old.trans HWB g
    have := impl_forward P N R xs v W (hT.old g0) (hv.old g0) hP hS hR la ha
    rw [fwd_same P N R xs hS la (by omega) ha r1 r2] at this
    rw [hA]
    exact this
  have KF2 : Hid (∀ W, Old wB W → Calls Tryz.prog 113 #[.agg A, u] W fun e w' => ∃ v', e = .returned v' ∧ Old W w' ∧ Own w' W.heap.size v' (toZ (fwdS P N R ys))) := fun W g => by
    have g0 := Old.trans HWB g
    have := impl_forward P N R ys u W (hT.old g0) (hu.old g0) hP hS hR lb hb
    rw [fwd_same P N R ys hS lb (by omega) hb r1 r2] at this
    rw [hA]
    exact this
  have KP : Hid (∀ W x y, Old wB W → Row W x (toZ (fwdS P N R xs)) → Row W y (toZ (fwdS P N R ys)) → Calls Tryz.prog 112 #[.agg A, x, y] W fun e w' => ∃ v', e = .returned v' ∧ Old W w' ∧ Own w' W.heap.size v' (toZ (eachN P N (fwdS P N R xs) (fwdS P N R ys)))) := fun W x y g h1 h2 => by
    have := impl_products P N R _ _ x y W h1 h2 hP (by omega) (fwdS_len P N R xs) (fwdS_len P N R ys) (fwdS_lt P N R xs (by omega)) (fwdS_lt P N R ys (by omega))
    rw [hA]
    exact this
  have KI : Hid (∀ W x, Old wB W → Row W x (toZ (eachN P N (fwdS P N R xs) (fwdS P N R ys))) → Calls Tryz.prog 111 #[.agg A, x] W fun e w' => ∃ v', e = .returned v' ∧ Old W w' ∧ Own w' W.heap.size v' (toZ (muO P N xs ys N))) := fun W x g h1 => by
    have g0 := Old.trans HWB g
    have := impl_inverse0 P N R _ x W (hT.old g0) h1 hP hS hR (eachN_len P N _ _) (eachN_lt P N _ _ (by omega))
    rw [inv_same P N R _ hS (eachN_len P N _ _) hP.1 (eachN_lt P N _ _ (by omega)) r1 r2, mul_same P N R xs ys hS hP.1 ho r1 r2] at this
    rw [hA]
    exact this
  have HB : Hid (wB.heap[w.heap.size]? = some (.cells A 53 (0, 0))) := hb0
  have HW : Hid (Old w wB) := HWB
  have hA3 : A.size = 3 := by rw [hA]; rfl
  obtain ⟨av, cv, rfl⟩ := hv.slice
  obtain ⟨au, cu, rfl⟩ := hu.slice
  rw [← hA]
  generalize toZ (muO P N xs ys N) = ZS at *
  generalize toZ (eachN P N (fwdS P N R xs) (fwdS P N R ys)) = PS at *
  generalize toZ (fwdS P N R xs) = FA at *
  generalize toZ (fwdS P N R ys) = FB at *
  generalize (toZ xs).length = lx at *
  generalize (toZ ys).length = ly at *
  clear hv hu ha hb r1 r2 hb0 HWB hT la lb
  rw [hA]
  go_enter Tryz.func110, Tryz.ntmps110
  go_wp2_with fail
  rw [← hA, ← hwB]
  refine reg_prod wB w.heap.size A _ _ FA FB PS ZS HB.out hA3 KF1.out KF2.out KP.out KI.out _ _ _ ?_ ?_ ?_ ?_ ?_
  iterate 4 (· exact rfl)
  intro a W g hF o
  have hdef : a.defers = [] := hF.defers
  go_wp2_with fail
  refine bodyPost_ret (results_tmp rfl _ _ _) hdef ⟨_, rfl, Old.trans HW.out g, ?_⟩
  exact o.low HW.out.size
end Go.Proofs.YtpebikjckhcgfaaGreatDoor
