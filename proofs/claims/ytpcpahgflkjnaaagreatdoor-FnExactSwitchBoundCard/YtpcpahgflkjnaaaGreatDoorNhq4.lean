/- Proved: the program's productBound and switchedBound, under what they call. -/
import Derived.Test.YtpcpahgflkjnaaaGreatDoorB13
import Derived.Test.YtpcpahgflkjnaaaGreatDoorB05
import Derived.Test.YtpcpahgflkjnaaaGreatDoorMlr
import Derived.Test.YtpcpahgflkjnaaaGreatDoorB07
import Derived.KernelRfl
import Derived.Test.YtpcpahgflkjnaaaGreatDoorB08
namespace Go.Proofs.YtpcpahgflkjnaaaGreatDoor
open Go.ChangeShapes Go.WideShapes Go.ChangeAt Go.RowKit
open M2
set_option linter.unusedVariables false
set_option linter.unusedSimpArgs false
def dgS (xs : List Int) : Nat → Int
  | 0 => 0
  | k + 1 => dgS xs k + (xs.getD k 0 - 1)
theorem dgS_bd (xs : List Int) (h : ∀ k, k < xs.length → 2 ≤ xs.getD k 0 ∧ xs.getD k 0 ≤ 268435456) : ∀ k, k ≤ xs.length → 0 ≤ dgS xs k ∧ dgS xs k ≤ 268435456 * k
  | 0, _ => by simp [dgS]
  | k + 1, hk => by
    have h1 := dgS_bd xs h k (by omega)
    have h2 := h k (by omega)
    simp only [dgS]
    omega
set_option maxRecDepth 100000 in
set_option maxHeartbeats 4000000 in
theorem switched_of (N T E : Int) (a3 : Option Addr) (c3 : Nat) (a4 : Option Addr) (l4 c4 : Nat) (a6 : Option Addr) (l6 c6 : Nat) (xs : List Int) (S0 SR : Array Value) (Y1 Y2 Y3 : Int) (w : World) (hx : Row w (.slice a3 xs.length c3) xs) (hl : 1 ≤ xs.length ∧ xs.length ≤ 6) (hp : ∀ k, k < xs.length → 2 ≤ xs.getD k 0 ∧ xs.getD k 0 ≤ 268435456) (h0' : Sq S0) (hR' : Sq SR)
    (h1 : IntKind.i64.wrap (T * N) = Y1) (h2 : IntKind.i64.wrap (Y1 * E) = Y2) (h3 : IntKind.i64.wrap (Y2 * dgS xs xs.length) = Y3)
    (KR : ∀ W, Old w W → Calls Tryz.prog 142 #[.agg #[.int .i64 N, .int .i64 T, .int .i64 E, .slice a3 xs.length c3, .slice a4 l4 c4, .bool false, .slice a6 l6 c6], .agg S0, .int .i64 Y3] W fun e w' => e = .returned (.agg SR) ∧ Old W w') :
    Calls Tryz.prog 96 #[.agg #[.int .i64 N, .int .i64 T, .int .i64 E, .slice a3 xs.length c3, .slice a4 l4 c4, .bool false, .slice a6 l6 c6], .agg S0] w fun e w' => e = .returned (.agg SR) ∧ Old w w' := by
  have hR : Hid (Sq SR) := hR'
  rcases hx with ⟨_, _, e, e'⟩ | ⟨b2, o2, cap2, e, hb2, h02, hc2⟩
  · subst e'
    simp at hl
  simp only [Value.slice.injEq] at e
  obtain ⟨rfl, _, rfl⟩ := e
  have HC2 : Hid (∀ j, j < xs.length → w.cell? ⟨b2, o2 + j, none⟩ = some (.int .i64 (xs.getD j 0))) := hc2
  have HP : Hid (∀ k, k < xs.length → 2 ≤ xs.getD k 0 ∧ xs.getD k 0 ≤ 268435456) := hp
  have HDB : Hid (∀ k, k ≤ xs.length → 0 ≤ dgS xs k ∧ dgS xs k ≤ 268435456 * k) := dgS_bd xs hp
  have HDS : Hid (∀ k, dgS xs (k + 1) = dgS xs k + (xs.getD k 0 - 1)) := fun _ => rfl
  have HD0 : Hid (dgS xs 0 = 0) := rfl
  have HA : Hid (Old w (((w.alloc (.cells #[.int .i64 N, .int .i64 T, .int .i64 E, .slice (some ⟨b2, o2, none⟩) xs.length c3, .slice a4 l4 c4, .bool false, .slice a6 l6 c6] 87)).alloc (.cells S0 113)).alloc (.cells Tryz.zeroCells113 113))) := (((Old.refl w).alloc _).alloc _).alloc _
  have BX : Hid (Bk (((w.alloc (.cells #[.int .i64 N, .int .i64 T, .int .i64 E, .slice (some ⟨b2, o2, none⟩) xs.length c3, .slice a4 l4 c4, .bool false, .slice a6 l6 c6] 87)).alloc (.cells S0 113)).alloc (.cells Tryz.zeroCells113 113)) w.heap.size #[.int .i64 N, .int .i64 T, .int .i64 E, .slice (some ⟨b2, o2, none⟩) xs.length c3, .slice a4 l4 c4, .bool false, .slice a6 l6 c6] 87) := ((Bk.new' w _ _ rfl).alloc _).alloc _
  have HS : Hid (Sg (((w.alloc (.cells #[.int .i64 N, .int .i64 T, .int .i64 E, .slice (some ⟨b2, o2, none⟩) xs.length c3, .slice a4 l4 c4, .bool false, .slice a6 l6 c6] 87)).alloc (.cells S0 113)).alloc (.cells Tryz.zeroCells113 113)) (w.heap.size + 1) S0) := (Sg.new _ _ _ h0' (by simp)).alloc _
  have HR : Hid (Sg (((w.alloc (.cells #[.int .i64 N, .int .i64 T, .int .i64 E, .slice (some ⟨b2, o2, none⟩) xs.length c3, .slice a4 l4 c4, .bool false, .slice a6 l6 c6] 87)).alloc (.cells S0 113)).alloc (.cells Tryz.zeroCells113 113)) (w.heap.size + 1 + 1) Tryz.zeroCells113) := Sg.zero _ _ (by simp)
  generalize hwA : (((w.alloc (.cells #[.int .i64 N, .int .i64 T, .int .i64 E, .slice (some ⟨b2, o2, none⟩) xs.length c3, .slice a4 l4 c4, .bool false, .slice a6 l6 c6] 87)).alloc (.cells S0 113)).alloc (.cells Tryz.zeroCells113 113)) = wA at HA BX HS HR
  have HC3 : Hid (∀ j, j < xs.length → wA.cell? ⟨b2, o2 + j, none⟩ = some (.int .i64 (xs.getD j 0))) := fun j hj => (HA.out.cell (p := ⟨b2, o2 + j, none⟩) hb2).trans (HC2.out j hj)
  have y3 := BX.out.c (i := 3) rfl
  have y0 := BX.out.c (i := 0) rfl
  have y1 := BX.out.c (i := 1) rfl
  have y2 := BX.out.c (i := 2) rfl
  have y4 := BX.out.c (i := 4) rfl
  have y5 := BX.out.c (i := 5) rfl
  have y6 := BX.out.c (i := 6) rfl
  generalize dgS xs = dS at *
  clear hp hc2 hR' h0' h02
  go_enter Tryz.func96, Tryz.ntmps96
  go_wp2_with fail
  go_loopw [5, 12] (fun x i W => ∃ (k : Nat), k ≤ xs.length ∧ i = .int .i64 k ∧ x = .int .i64 (dS k) ∧ W = wA) (fun _ i _ => xs.length - (intOf i).toNat)
  case atStart => exact ⟨0, by omega, rfl, by rw [HD0.out], rfl⟩
  case round =>
    obtain ⟨k, hk, rfl, rfl, rfl⟩ := hrel
    by_cases hlt : k < xs.length
    · have d1 : decide ((k : Int) < (xs.length : Int)) = true := decide_eq_true (by omega)
      have c1 := HC3.out k hlt
      have p1 := HP.out k hlt
      have p2 := HDB.out k (by omega)
      have p3 := HDS.out k
      have w1 : IntKind.i64.wrap (xs.getD k 0 - 1) = xs.getD k 0 - 1 := by rw [IntKind.wrap_i64]; omega
      have w2 : IntKind.i64.wrap (dS k + (xs.getD k 0 - 1)) = dS (k + 1) := by rw [p3, IntKind.wrap_i64]; omega
      clear p3
      generalize xs.getD k 0 = pk at *
      go_wp2_with fail
      exact ⟨⟨k + 1, by omega, by go_num, by first | rfl | trivial, by first | rfl | trivial⟩, by simp [intOf]; omega⟩
    · have d1 : decide ((k : Int) < (xs.length : Int)) = false := decide_eq_false (by omega)
      obtain rfl : k = xs.length := by omega
      have hsz := HR.out.lt
      go_wp2_with (first | ((with_reducible refine load_sg HS.out ?_ ?_); exact rfl; simp only [Act.put, List.setIfInBounds_toArray, List.set_cons_succ, List.set_cons_zero]) | (go_at_call 142; refine (KR _ HA.out).mono ?_; rintro e w3 ⟨rfl, g3⟩; have HR3 : Hid (Sg w3 (w.heap.size + 1 + 1) Tryz.zeroCells113) := HR.out.old g3; have HO3 : Hid (Old w w3) := Old.trans HA.out g3; clear g3) | ((with_reducible refine store_sg HR3.out (SR) hR.out ?_ ?_ ?_); exact rfl; exact rfl; simp only [Act.put]) | ((with_reducible refine bodyPost_ret (ret_sg Tryz.results96 _ _ ?_ (HR3.out.row SR hR.out)) ?_ ?_); exact rfl; exact rfl; exact ⟨rfl, HO3.out.row (by omega) _⟩))
end Go.Proofs.YtpcpahgflkjnaaaGreatDoor
