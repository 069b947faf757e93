/- Proved: the walk of the statement on RingOf out of contracts of the program and of the model. -/
import Derived.Test.YtcnkanjkdkjceaaDoorRingB
namespace Go.Proofs.YtcnkanjkdkjceaaDoor
open Go.ChangeShapes Go.WideShapes Go.ChangeAt Go.RowKit
open M1
set_option linter.unusedVariables false
theorem eqRing_same (a b c : Int) (w : World) :
    Calls Tryd.prog 25 #[.agg #[.int .i64 a, .int .i64 b, .int .i64 c], .agg #[.int .i64 a, .int .i64 b, .int .i64 c]] w fun e w' => e = .returned (.bool true) ∧ Old w w' := by
  have da : (a != a) = false := by simp
  have db : (b != b) = false := by simp
  have dc : (c != c) = false := by simp
  go_enter Tryd.func25, Tryd.ntmps25
  go_wp2
  go_ret
  exact ⟨rfl, by repeat (first | exact Old.refl _ | apply Old.drewN | apply Old.alloc)⟩
set_option maxHeartbeats 1000000 in
theorem law_RingOf (p n : Int) (w : World) (hP : PrsW w) (hT : TabW w) (q m s : Int) (b : Bool)
    (c1 : ∀ W, Calls Tryd.prog 23 #[.int .i64 p, .int .i64 n] W fun e w' => e = .returned (.tuple #[.agg #[.int .i64 q, .int .i64 m, .int .i64 s], .bool b]) ∧ Old W w')
    (c2 : ∀ W, PrsW W → TabW W → Calls Tryd.prog 24 #[.int .i64 p, .int .i64 n] W fun e w' => e = .returned (.tuple #[.agg #[.int .i64 q, .int .i64 m, .int .i64 s], .bool b]) ∧ Old W w') :
    Calls Tryd.prog 5 #[.int .i64 p, .int .i64 n] w fun e w' => e = .returned (.bool true) ∧ Old w w' := by
  have HP : Hid (PrsW w) := hP
  have HT : Hid (TabW w) := hT
  clear hP hT
  have db : (b != b) = false := by simp
  go_enter Tryd.func5, Tryd.ntmps5
  go_wp2_with fail
  refine (c1 _).mono ?_
  rintro e w1 ⟨rfl, g1⟩
  go_wp2_with fail
  have g1' : Old w (w1.alloc (.cells #[.int .i64 q, .int .i64 m, .int .i64 s] 24)) := Old.alloc g1 _
  refine (c2 _ (HP.out.old g1') (HT.out.old g1')).mono ?_
  rintro e w2 ⟨rfl, g2⟩
  have hlt : w1.heap.size < w2.heap.size := Nat.lt_of_lt_of_le (by simp) g2.size
  have q0 : (w2.alloc (.cells #[.int .i64 q, .int .i64 m, .int .i64 s] 24)).cell? ⟨w1.heap.size, 0, none⟩ = some (.int .i64 q) := (cell_lt _ _ _ _ hlt).trans ((g2.cell (p := ⟨w1.heap.size, 0, none⟩) (by simp)).trans (cell_at _ _ _ _ _ rfl))
  have q1 : (w2.alloc (.cells #[.int .i64 q, .int .i64 m, .int .i64 s] 24)).cell? ⟨w1.heap.size, 1, none⟩ = some (.int .i64 m) := (cell_lt _ _ _ _ hlt).trans ((g2.cell (p := ⟨w1.heap.size, 1, none⟩) (by simp)).trans (cell_at _ _ _ _ _ rfl))
  have q2 : (w2.alloc (.cells #[.int .i64 q, .int .i64 m, .int .i64 s] 24)).cell? ⟨w1.heap.size, 2, none⟩ = some (.int .i64 s) := (cell_lt _ _ _ _ hlt).trans ((g2.cell (p := ⟨w1.heap.size, 2, none⟩) (by simp)).trans (cell_at _ _ _ _ _ rfl))
  go_wp2_with fail
  refine (eqRing_same _ _ _ _).mono ?_
  rintro e w3 ⟨rfl, g3⟩
  go_wp2_with fail
  go_ret
  exact ⟨rfl, Old.trans g1' (Old.trans (Old.alloc g2 _) g3)⟩
theorem RingOf_any (p n : Int) (hp : -9223372036854775808 ≤ p ∧ p ≤ 9223372036854775807) (w : World) (hP : PrsW w) (hT : TabW w) :
    Calls Tryd.prog 5 #[.int .i64 p, .int .i64 n] w fun e w' => e = .returned (.bool true) ∧ Old w w' := by
  by_cases h : RingOk p n
  · obtain ⟨P, rfl⟩ := Int.eq_ofNat_of_zero_le (show 0 ≤ p by have := modB_yes h.md; omega)
    obtain ⟨N, rfl⟩ := Int.eq_ofNat_of_zero_le (show 0 ≤ n by have := h.sz; omega)
    obtain ⟨R, h1, h2, h3, h4⟩ := Ring_both P N h
    exact law_RingOf _ _ w hP hT _ _ _ _ h4 h3
  · exact law_RingOf _ _ w hP hT _ _ _ _ (fun W => spec_RingOf_no p n W hp h) (fun W a b => impl_RingOf_no p n W a b h)
end Go.Proofs.YtcnkanjkdkjceaaDoor
