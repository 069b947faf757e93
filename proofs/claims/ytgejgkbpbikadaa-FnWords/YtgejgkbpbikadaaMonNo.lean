/- Proved: where MontMul has no answer, of the program and of the model: 0 and no. -/
import Derived.Test.YtgejgkbpbikadaaRows
import Derived.WalkKit
import Derived.ProofKit
import Derived.OpenShut
import Derived.Handy
import Derived.Deep.QuietTactic
import Derived.BigQuiet
import Derived.Test.YtgejgkbpbikadaaMonPro
namespace Go.Proofs.Ytgejgkbpbikadaa
open Go.ChangeShapes Go.WideShapes Go.ChangeAt Go.RowKit
open M1
set_option linter.unusedVariables false
/-- where MontMul answers -/
structure MonOk (p i t x y : Int) : Prop where
  odd : oddB p = true
  hi : i = (monI p.toNat : Int)
  ht : t = (monT p.toNat : Int)
  x0 : 0 ≤ x
  xp : x < p
  y0 : 0 ≤ y
  yp : y < p
theorem MonOk.nots {p i t x y : Int} (h : ¬ MonOk p i t x y) : oddB p = false ∨ (oddB p = true ∧ ((i == (monI p.toNat : Int)) = false ∧ ((monI p.toNat : Int) == i) = false)) ∨ (oddB p = true ∧ i = (monI p.toNat : Int) ∧ ((t == (monT p.toNat : Int)) = false ∧ ((monT p.toNat : Int) == t) = false))
    ∨ (oddB p = true ∧ i = (monI p.toNat : Int) ∧ t = (monT p.toNat : Int) ∧ (x < 0 ∨ (0 ≤ x ∧ p ≤ x) ∨ (0 ≤ x ∧ x < p ∧ y < 0) ∨ (0 ≤ x ∧ x < p ∧ 0 ≤ y ∧ p ≤ y))) := by
  cases h1 : oddB p
  · exact Or.inl rfl
  · refine Or.inr ?_
    by_cases h2 : i = (monI p.toNat : Int)
    · refine Or.inr ?_
      by_cases h3 : t = (monT p.toNat : Int)
      · refine Or.inr ⟨rfl, h2, h3, ?_⟩
        by_cases hh : 0 ≤ x ∧ x < p ∧ 0 ≤ y ∧ y < p
        · exact absurd ⟨h1, h2, h3, hh.1, hh.2.1, hh.2.2.1, hh.2.2.2⟩ h
        · omega
      · exact Or.inl ⟨rfl, h2, by simpa using h3, by simpa using fun e => h3 e.symm⟩
    · exact Or.inl ⟨rfl, by simpa using h2, by simpa using fun e => h2 e.symm⟩
set_option maxHeartbeats 1000000 in
theorem impl_MontMul_a (q I T : Nat) (i t x y : Int) (w : World) (h2 : (i == (I : Int)) = false) (h3 : ((I : Int) == i) = false) (c : ∀ W, Calls Try.prog 15 #[.int .i64 q] W fun e w' => e = .returned (.tuple #[.agg (monV q I T), .bool true]) ∧ Grown W w') :
    Calls Try.prog 16 #[.agg #[.int .i64 q, .int .i64 i, .int .i64 t], .int .i64 x, .int .i64 y] w fun e w' => e = .returned (.tuple #[.int .i64 0, .bool false]) ∧ Grown w w' := by
  go_enter Try.func16, Try.ntmps16
  go_wp2_with fail
  refine (c _).mono ?_
  rintro e w1 ⟨rfl, g1⟩
  have q0 := gcell g1 0 (b := w.heap.size) (by simp)
  have q1 := gcell g1 1 (b := w.heap.size) (by simp)
  have q2 := gcell g1 2 (b := w.heap.size) (by simp)
  simp at q0 q1 q2
  have hsz : w.heap.size < w1.heap.size := by have := g1.2.2; simp at this; omega
  go_wp2_with (go_at_call 37; refine (impl_isResidue _ _ _).mono ?_; rintro e w' ⟨rfl, rfl⟩)
  go_ret2
  exact ⟨rfl, grown_trans (Grown.alloc (Grown.refl _) _ _) (grown_trans g1 (Grown.alloc (Grown.refl _) _ _))⟩
set_option maxHeartbeats 1000000 in
theorem impl_MontMul_b (q I T : Nat) (t x y : Int) (w : World) (h2 : (t == (T : Int)) = false) (h3 : ((T : Int) == t) = false) (c : ∀ W, Calls Try.prog 15 #[.int .i64 q] W fun e w' => e = .returned (.tuple #[.agg (monV q I T), .bool true]) ∧ Grown W w') :
    Calls Try.prog 16 #[.agg #[.int .i64 q, .int .i64 I, .int .i64 t], .int .i64 x, .int .i64 y] w fun e w' => e = .returned (.tuple #[.int .i64 0, .bool false]) ∧ Grown w w' := by
  go_enter Try.func16, Try.ntmps16
  go_wp2_with fail
  refine (c _).mono ?_
  rintro e w1 ⟨rfl, g1⟩
  have q0 := gcell g1 0 (b := w.heap.size) (by simp)
  have q1 := gcell g1 1 (b := w.heap.size) (by simp)
  have q2 := gcell g1 2 (b := w.heap.size) (by simp)
  simp at q0 q1 q2
  have hsz : w.heap.size < w1.heap.size := by have := g1.2.2; simp at this; omega
  go_wp2_with (go_at_call 37; refine (impl_isResidue _ _ _).mono ?_; rintro e w' ⟨rfl, rfl⟩)
  go_ret2
  exact ⟨rfl, grown_trans (Grown.alloc (Grown.refl _) _ _) (grown_trans g1 (Grown.alloc (Grown.refl _) _ _))⟩
set_option maxHeartbeats 1000000 in
theorem impl_MontMul_c (q I T : Nat) (x y : Int) (w : World) (hq2 : (2 : Int) ≤ (q : Int)) (hq3 : (q : Int) < 268435456) (d : inB x 0 ((q : Int) - 1) = false) (c : ∀ W, Calls Try.prog 15 #[.int .i64 q] W fun e w' => e = .returned (.tuple #[.agg (monV q I T), .bool true]) ∧ Grown W w') :
    Calls Try.prog 16 #[.agg #[.int .i64 q, .int .i64 I, .int .i64 T], .int .i64 x, .int .i64 y] w fun e w' => e = .returned (.tuple #[.int .i64 0, .bool false]) ∧ Grown w w' := by
  go_enter Try.func16, Try.ntmps16
  go_wp2_with fail
  refine (c _).mono ?_
  rintro e w1 ⟨rfl, g1⟩
  have q0 := gcell g1 0 (b := w.heap.size) (by simp)
  have q1 := gcell g1 1 (b := w.heap.size) (by simp)
  have q2 := gcell g1 2 (b := w.heap.size) (by simp)
  simp at q0 q1 q2
  have hsz : w.heap.size < w1.heap.size := by have := g1.2.2; simp at this; omega
  go_wp2_with (go_at_call 37; refine (impl_isResidue _ _ _).mono ?_; rintro e w' ⟨rfl, rfl⟩)
  go_ret2
  exact ⟨rfl, grown_trans (Grown.alloc (Grown.refl _) _ _) (grown_trans g1 (Grown.alloc (Grown.refl _) _ _))⟩
set_option maxHeartbeats 1000000 in
theorem impl_MontMul_d (q I T : Nat) (x y : Int) (w : World) (hq2 : (2 : Int) ≤ (q : Int)) (hq3 : (q : Int) < 268435456) (d : inB x 0 ((q : Int) - 1) = true) (dy : inB y 0 ((q : Int) - 1) = false) (c : ∀ W, Calls Try.prog 15 #[.int .i64 q] W fun e w' => e = .returned (.tuple #[.agg (monV q I T), .bool true]) ∧ Grown W w') :
    Calls Try.prog 16 #[.agg #[.int .i64 q, .int .i64 I, .int .i64 T], .int .i64 x, .int .i64 y] w fun e w' => e = .returned (.tuple #[.int .i64 0, .bool false]) ∧ Grown w w' := by
  go_enter Try.func16, Try.ntmps16
  go_wp2_with fail
  refine (c _).mono ?_
  rintro e w1 ⟨rfl, g1⟩
  have q0 := gcell g1 0 (b := w.heap.size) (by simp)
  have q1 := gcell g1 1 (b := w.heap.size) (by simp)
  have q2 := gcell g1 2 (b := w.heap.size) (by simp)
  simp at q0 q1 q2
  have hsz : w.heap.size < w1.heap.size := by have := g1.2.2; simp at this; omega
  go_wp2_with (go_at_call 37; refine (impl_isResidue _ _ _).mono ?_; rintro e w' ⟨rfl, rfl⟩)
  go_ret2
  exact ⟨rfl, grown_trans (Grown.alloc (Grown.refl _) _ _) (grown_trans g1 (Grown.alloc (Grown.refl _) _ _))⟩
set_option maxHeartbeats 1000000 in
theorem impl_MontMul_no (p i t x y : Int) (w : World) (h : ¬ MonOk p i t x y) :
    Calls Try.prog 16 #[.agg #[.int .i64 p, .int .i64 i, .int .i64 t], .int .i64 x, .int .i64 y] w fun e w' => e = .returned (.tuple #[.int .i64 0, .bool false]) ∧ Grown w w' := by
  rcases MonOk.nots h with h1 | ⟨h1, h2, h3⟩ | ⟨h1, rfl, h2, h3⟩ | ⟨h1, rfl, rfl, h2⟩
  · clear h
    have c := fun W => impl_MontOf_no p W h1
    go_enter Try.func16, Try.ntmps16
    go_wp2_with fail
    refine (c _).mono ?_
    rintro e w1 ⟨rfl, g1⟩
    have q0 := gcell g1 0 (b := w.heap.size) (by simp)
    have q1 := gcell g1 1 (b := w.heap.size) (by simp)
    have q2 := gcell g1 2 (b := w.heap.size) (by simp)
    simp at q0 q1 q2
    have hsz : w.heap.size < w1.heap.size := by have := g1.2.2; simp at this; omega
    go_wp2_with (go_at_call 37; refine (impl_isResidue _ _ _).mono ?_; rintro e w' ⟨rfl, rfl⟩)
    go_ret2
    exact ⟨rfl, grown_trans (Grown.alloc (Grown.refl _) _ _) (grown_trans g1 (Grown.alloc (Grown.refl _) _ _))⟩
  all_goals
    clear h
    obtain ⟨q, rfl⟩ := Int.eq_ofNat_of_zero_le (show 0 ≤ p by have := oddB_yes h1; omega)
    simp only [Int.toNat_natCast] at *
    have hq2 : (2 : Int) ≤ (q : Int) := (oddB_yes h1).2.1
    have hq3 : (q : Int) < 268435456 := (oddB_yes h1).2.2.1
  · exact impl_MontMul_a q _ _ i t x y w h2 h3 (fun W => impl_MontOf_yes q W h1)
  · exact impl_MontMul_b q _ _ t x y w h2 h3 (fun W => impl_MontOf_yes q W h1)
  · rcases h2 with h2 | ⟨h2, h3⟩ | ⟨h2, h3, h4⟩ | ⟨h2, h3, h4, h5⟩
    · exact impl_MontMul_c q _ _ x y w hq2 hq3 (inB_lo h2) (fun W => impl_MontOf_yes q W h1)
    · exact impl_MontMul_c q _ _ x y w hq2 hq3 (inB_hi (by omega)) (fun W => impl_MontOf_yes q W h1)
    · exact impl_MontMul_d q _ _ x y w hq2 hq3 (inB_yes (by omega) (by omega)) (inB_lo h4) (fun W => impl_MontOf_yes q W h1)
    · exact impl_MontMul_d q _ _ x y w hq2 hq3 (inB_yes (by omega) (by omega)) (inB_hi (by omega)) (fun W => impl_MontOf_yes q W h1)
set_option maxHeartbeats 1000000 in
theorem spec_MontMul_a (q I T : Nat) (i t x y : Int) (w : World) (h2 : (i == (I : Int)) = false) (h3 : ((I : Int) == i) = false) (c : ∀ W, Calls Try.prog 28 #[.int .i64 q] W fun e w' => e = .returned (.tuple #[.agg (monV q I T), .bool true]) ∧ Grown W w') :
    Calls Try.prog 30 #[.agg #[.int .i64 q, .int .i64 i, .int .i64 t], .int .i64 x, .int .i64 y] w fun e w' => e = .returned (.tuple #[.int .i64 0, .bool false]) ∧ Grown w w' := by
  go_enter Try.func30, Try.ntmps30
  go_wp2_with fail
  refine (c _).mono ?_
  rintro e w1 ⟨rfl, g1⟩
  have q0 := gcell g1 0 (b := w.heap.size) (by simp)
  have q1 := gcell g1 1 (b := w.heap.size) (by simp)
  have q2 := gcell g1 2 (b := w.heap.size) (by simp)
  simp at q0 q1 q2
  have hsz : w.heap.size < w1.heap.size := by have := g1.2.2; simp at this; omega
  go_wp2_with (go_at_call 39; refine (spec_in _ _ _ _).mono ?_; rintro e w' ⟨rfl, rfl⟩)
  go_ret2
  exact ⟨rfl, grown_trans (Grown.alloc (Grown.refl _) _ _) (grown_trans g1 (Grown.alloc (Grown.refl _) _ _))⟩
set_option maxHeartbeats 1000000 in
theorem spec_MontMul_b (q I T : Nat) (t x y : Int) (w : World) (h2 : (t == (T : Int)) = false) (h3 : ((T : Int) == t) = false) (c : ∀ W, Calls Try.prog 28 #[.int .i64 q] W fun e w' => e = .returned (.tuple #[.agg (monV q I T), .bool true]) ∧ Grown W w') :
    Calls Try.prog 30 #[.agg #[.int .i64 q, .int .i64 I, .int .i64 t], .int .i64 x, .int .i64 y] w fun e w' => e = .returned (.tuple #[.int .i64 0, .bool false]) ∧ Grown w w' := by
  go_enter Try.func30, Try.ntmps30
  go_wp2_with fail
  refine (c _).mono ?_
  rintro e w1 ⟨rfl, g1⟩
  have q0 := gcell g1 0 (b := w.heap.size) (by simp)
  have q1 := gcell g1 1 (b := w.heap.size) (by simp)
  have q2 := gcell g1 2 (b := w.heap.size) (by simp)
  simp at q0 q1 q2
  have hsz : w.heap.size < w1.heap.size := by have := g1.2.2; simp at this; omega
  go_wp2_with (go_at_call 39; refine (spec_in _ _ _ _).mono ?_; rintro e w' ⟨rfl, rfl⟩)
  go_ret2
  exact ⟨rfl, grown_trans (Grown.alloc (Grown.refl _) _ _) (grown_trans g1 (Grown.alloc (Grown.refl _) _ _))⟩
set_option maxHeartbeats 1000000 in
theorem spec_MontMul_c (q I T : Nat) (x y : Int) (w : World) (hq2 : (2 : Int) ≤ (q : Int)) (hq3 : (q : Int) < 268435456) (d : inB x 0 ((q : Int) - 1) = false) (c : ∀ W, Calls Try.prog 28 #[.int .i64 q] W fun e w' => e = .returned (.tuple #[.agg (monV q I T), .bool true]) ∧ Grown W w') :
    Calls Try.prog 30 #[.agg #[.int .i64 q, .int .i64 I, .int .i64 T], .int .i64 x, .int .i64 y] w fun e w' => e = .returned (.tuple #[.int .i64 0, .bool false]) ∧ Grown w w' := by
  go_enter Try.func30, Try.ntmps30
  go_wp2_with fail
  refine (c _).mono ?_
  rintro e w1 ⟨rfl, g1⟩
  have q0 := gcell g1 0 (b := w.heap.size) (by simp)
  have q1 := gcell g1 1 (b := w.heap.size) (by simp)
  have q2 := gcell g1 2 (b := w.heap.size) (by simp)
  simp at q0 q1 q2
  have hsz : w.heap.size < w1.heap.size := by have := g1.2.2; simp at this; omega
  go_wp2_with (go_at_call 39; refine (spec_in _ _ _ _).mono ?_; rintro e w' ⟨rfl, rfl⟩)
  go_ret2
  exact ⟨rfl, grown_trans (Grown.alloc (Grown.refl _) _ _) (grown_trans g1 (Grown.alloc (Grown.refl _) _ _))⟩
set_option maxHeartbeats 1000000 in
theorem spec_MontMul_d (q I T : Nat) (x y : Int) (w : World) (hq2 : (2 : Int) ≤ (q : Int)) (hq3 : (q : Int) < 268435456) (d : inB x 0 ((q : Int) - 1) = true) (dy : inB y 0 ((q : Int) - 1) = false) (c : ∀ W, Calls Try.prog 28 #[.int .i64 q] W fun e w' => e = .returned (.tuple #[.agg (monV q I T), .bool true]) ∧ Grown W w') :
    Calls Try.prog 30 #[.agg #[.int .i64 q, .int .i64 I, .int .i64 T], .int .i64 x, .int .i64 y] w fun e w' => e = .returned (.tuple #[.int .i64 0, .bool false]) ∧ Grown w w' := by
  go_enter Try.func30, Try.ntmps30
  go_wp2_with fail
  refine (c _).mono ?_
  rintro e w1 ⟨rfl, g1⟩
  have q0 := gcell g1 0 (b := w.heap.size) (by simp)
  have q1 := gcell g1 1 (b := w.heap.size) (by simp)
  have q2 := gcell g1 2 (b := w.heap.size) (by simp)
  simp at q0 q1 q2
  have hsz : w.heap.size < w1.heap.size := by have := g1.2.2; simp at this; omega
  go_wp2_with (go_at_call 39; refine (spec_in _ _ _ _).mono ?_; rintro e w' ⟨rfl, rfl⟩)
  go_ret2
  exact ⟨rfl, grown_trans (Grown.alloc (Grown.refl _) _ _) (grown_trans g1 (Grown.alloc (Grown.refl _) _ _))⟩
set_option maxHeartbeats 1000000 in
theorem spec_MontMul_no (p i t x y : Int) (w : World) (h : ¬ MonOk p i t x y) :
    Calls Try.prog 30 #[.agg #[.int .i64 p, .int .i64 i, .int .i64 t], .int .i64 x, .int .i64 y] w fun e w' => e = .returned (.tuple #[.int .i64 0, .bool false]) ∧ Grown w w' := by
  rcases MonOk.nots h with h1 | ⟨h1, h2, h3⟩ | ⟨h1, rfl, h2, h3⟩ | ⟨h1, rfl, rfl, h2⟩
  · clear h
    have c := fun W => spec_MontOf_no p W h1
    go_enter Try.func30, Try.ntmps30
    go_wp2_with fail
    refine (c _).mono ?_
    rintro e w1 ⟨rfl, g1⟩
    have q0 := gcell g1 0 (b := w.heap.size) (by simp)
    have q1 := gcell g1 1 (b := w.heap.size) (by simp)
    have q2 := gcell g1 2 (b := w.heap.size) (by simp)
    simp at q0 q1 q2
    have hsz : w.heap.size < w1.heap.size := by have := g1.2.2; simp at this; omega
    go_wp2_with (go_at_call 39; refine (spec_in _ _ _ _).mono ?_; rintro e w' ⟨rfl, rfl⟩)
    go_ret2
    exact ⟨rfl, grown_trans (Grown.alloc (Grown.refl _) _ _) (grown_trans g1 (Grown.alloc (Grown.refl _) _ _))⟩
  all_goals
    clear h
    obtain ⟨q, rfl⟩ := Int.eq_ofNat_of_zero_le (show 0 ≤ p by have := oddB_yes h1; omega)
    simp only [Int.toNat_natCast] at *
    have hq2 : (2 : Int) ≤ (q : Int) := (oddB_yes h1).2.1
    have hq3 : (q : Int) < 268435456 := (oddB_yes h1).2.2.1
  · exact spec_MontMul_a q _ _ i t x y w h2 h3 (fun W => spec_MontOf_yes q W h1)
  · exact spec_MontMul_b q _ _ t x y w h2 h3 (fun W => spec_MontOf_yes q W h1)
  · rcases h2 with h2 | ⟨h2, h3⟩ | ⟨h2, h3, h4⟩ | ⟨h2, h3, h4, h5⟩
    · exact spec_MontMul_c q _ _ x y w hq2 hq3 (inB_lo h2) (fun W => spec_MontOf_yes q W h1)
    · exact spec_MontMul_c q _ _ x y w hq2 hq3 (inB_hi (by omega)) (fun W => spec_MontOf_yes q W h1)
    · exact spec_MontMul_d q _ _ x y w hq2 hq3 (inB_yes (by omega) (by omega)) (inB_lo h4) (fun W => spec_MontOf_yes q W h1)
    · exact spec_MontMul_d q _ _ x y w hq2 hq3 (inB_yes (by omega) (by omega)) (inB_hi (by omega)) (fun W => spec_MontOf_yes q W h1)
end Go.Proofs.Ytgejgkbpbikadaa
