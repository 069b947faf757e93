/- Proved: the walk of the statement on BarrettMul out of contracts of the program and of the model. -/
import Derived.Test.YtgejgkbpbikadaaRows
import Derived.WalkKit
import Derived.ProofKit
import Derived.OpenShut
import Derived.Handy
import Derived.Test.YtgejgkbpbikadaaBarMul
namespace Go.Proofs.Ytgejgkbpbikadaa
open Go.ChangeShapes Go.WideShapes Go.ChangeAt Go.RowKit
open M1
theorem gcell {W w1 : World} (h : Grown W w1) {b : Nat} (o : Nat) (hb : b < W.heap.size) : w1.cell? ⟨b, o, none⟩ = W.cell? ⟨b, o, none⟩ := h.1.cell hb (fun f => f)
theorem toBarrett_any (a b c : Int) (w : World) :
    Calls Try.prog 27 #[.agg #[.int .i64 a, .int .i64 b, .int .i64 c]] w fun e w' => e = .returned (.agg #[.int .i64 a, .int .i64 b, .int .i64 c]) ∧ Grown w w' := by
  go_enter Try.func27, Try.ntmps27
  go_wp2
  refine bodyPost_ret (v := .agg #[.int .i64 a, .int .i64 b, .int .i64 c]) (by simp [results, Try.results27, go_sem]) rfl ⟨rfl, ?_⟩
  repeat (first | exact Grown.refl _ | apply Grown.drew | apply Grown.alloc)
set_option maxHeartbeats 1000000 in
theorem barMul_law (p s m x y : Int) (w : World) (z : Int) (b : Bool)
    (c1 : ∀ W, Calls Try.prog 14 #[.agg #[.int .i64 p, .int .i64 s, .int .i64 m], .int .i64 x, .int .i64 y] W fun e w' => e = .returned (.tuple #[.int .i64 z, .bool b]) ∧ Grown W w')
    (c2 : ∀ W, Calls Try.prog 13 #[.agg #[.int .i64 p, .int .i64 s, .int .i64 m], .int .i64 x, .int .i64 y] W fun e w' => e = .returned (.tuple #[.int .i64 z, .bool b]) ∧ Grown W w') :
    Calls Try.prog 7 #[.agg #[.int .i64 p, .int .i64 s, .int .i64 m], .int .i64 x, .int .i64 y] w fun e w' => e = .returned (.bool true) ∧ Grown w w' := by
  have dz : (z != z) = false := by simp
  have db : (b != b) = false := by simp
  go_enter Try.func7, Try.ntmps7
  go_wp2_with fail
  refine (toBarrett_any _ _ _ _).mono ?_
  rintro e w1 ⟨rfl, g1⟩
  go_wp2_with fail
  refine (c1 _).mono ?_
  rintro e w2 ⟨rfl, g2⟩
  have g12 := grown_trans g1 g2
  have q0 := gcell g12 0 (b := w.heap.size) (by simp)
  have q1 := gcell g12 1 (b := w.heap.size) (by simp)
  have q2 := gcell g12 2 (b := w.heap.size) (by simp)
  simp at q0 q1 q2
  go_wp2_with fail
  refine (toBarrett_any _ _ _ _).mono ?_
  rintro e w3 ⟨rfl, g3⟩
  go_wp2_with fail
  refine (c2 _).mono ?_
  rintro e w4 ⟨rfl, g4⟩
  go_wp2_with fail
  go_ret
  exact ⟨rfl, grown_trans (Grown.alloc (Grown.refl _) _ _) (grown_trans g12 (grown_trans g3 g4))⟩
end Go.Proofs.Ytgejgkbpbikadaa
