/- Proved: the walk of the statement on MontMul out of contracts of the program and of the model. -/
import Derived.Test.YtgejgkbpbikadaaRows
import Derived.WalkKit
import Derived.ProofKit
import Derived.OpenShut
import Derived.Handy
import Derived.Deep.QuietTactic
import Derived.BigQuiet
import Derived.Test.YtgejgkbpbikadaaMonNo
namespace Go.Proofs.Ytgejgkbpbikadaa
open Go.ChangeShapes Go.WideShapes Go.ChangeAt Go.RowKit
open M1
set_option linter.unusedVariables false
theorem invM_lt (a m : Nat) (h : 0 < m) : invM a m < m := by
  unfold invM
  cases hf : (List.range m).find? (fun i => a * i % m == 1) with
  | none => simpa using h
  | some j => simpa using List.mem_of_find?_eq_some hf
theorem wrap64_small (z : Nat) (h : z ≤ 72057594037927936) : wrap64 (z : Int) = (z : Int) := by unfold wrap64; omega
theorem two_mods (x y b q : Nat) (hq : 0 < q) (hq' : q ≤ 268435456) (hxy : x * y ≤ 268435456 * 268435456) (hb : b < q) :
    (wrap64 ((wrap64 ((x : Int) * (y : Int))).tmod (q : Int) * (b : Int))).tmod (q : Int) = ((x * y % q * b % q : Nat) : Int) := by
  have e1 : (x : Int) * (y : Int) = ((x * y : Nat) : Int) := by simp
  rw [e1]
  generalize x * y = z at *
  have hzq : z % q < q := Nat.mod_lt _ hq
  have bb : z % q * b ≤ 268435456 * 268435456 := Nat.mul_le_mul (by omega) (by omega)
  have e4 : (z : Int).tmod (q : Int) = ((z % q : Nat) : Int) := by rw [Int.tmod_eq_emod_of_nonneg (Int.natCast_nonneg _)]; simp
  rw [wrap64_small z hxy, e4, ← Int.natCast_mul, wrap64_small _ bb, Int.tmod_eq_emod_of_nonneg (Int.natCast_nonneg _), ← Int.natCast_emod]
theorem ret_ib {k : IntKind} {a b : Int} {t : Bool} (h : a = b) : Ending.returned (.tuple #[.int k a, .bool t]) = .returned (.tuple #[.int k b, .bool t]) := by rw [h]
set_option maxHeartbeats 1000000 in
theorem impl_MontMul_yes (q I T x y R : Nat) (w : World) (hq2 : (2 : Int) ≤ (q : Int)) (hq3 : (q : Int) < 268435456) (hx : x < q) (hy : y < q) (hR : R < 268435456)
    (c : ∀ W, Calls Try.prog 15 #[.int .i64 q] W fun e w' => e = .returned (.tuple #[.agg (monV q I T), .bool true]) ∧ Grown W w')
    (bp : ∀ W, Calls Try.prog 79 #[.agg (monV q I T), .int .u64 x, .int .u64 y] W fun e w' => e = .returned (.int .u64 (R : Int)) ∧ Grown W w') :
    Calls Try.prog 16 #[.agg (monV q I T), .int .i64 x, .int .i64 y] w fun e w' => e = .returned (.tuple #[.int .i64 (R : Int), .bool true]) ∧ Grown w w' := by
  have d : inB x 0 ((q : Int) - 1) = true := inB_yes (by omega) (by omega)
  have dy : inB y 0 ((q : Int) - 1) = true := inB_yes (by omega) (by omega)
  go_enter Try.func16, Try.ntmps16
  go_wp2_with fail
  refine (c _).mono ?_
  rintro e w1 ⟨rfl, g1⟩
  have q0 := gcell g1 0 (b := w.heap.size) (by simp)
  have q1 := gcell g1 1 (b := w.heap.size) (by simp)
  have q2 := gcell g1 2 (b := w.heap.size) (by simp)
  simp at q0 q1 q2
  have hsz : w.heap.size < w1.heap.size := by have := g1.2.2; simp at this; omega
  go_wp2_with (first | (go_at_call 37; refine (impl_isResidue _ _ _).mono ?_; rintro e w' ⟨rfl, rfl⟩) | (go_at_call 38; go_in))
  refine (bp _).mono ?_
  rintro e w2 ⟨rfl, g2⟩
  go_wp2_with fail
  go_ret2
  exact ⟨rfl, grown_trans (Grown.alloc (Grown.refl _) _ _) (grown_trans g1 (grown_trans (Grown.alloc (Grown.refl _) _ _) g2))⟩
set_option maxHeartbeats 1000000 in
theorem spec_MontMul_yes (q I T x y : Nat) (w : World) (hq2 : (2 : Int) ≤ (q : Int)) (hq3 : (q : Int) < 268435456) (hx : x < q) (hy : y < q)
    (c : ∀ W, Calls Try.prog 28 #[.int .i64 q] W fun e w' => e = .returned (.tuple #[.agg (monV q I T), .bool true]) ∧ Grown W w') :
    Calls Try.prog 30 #[.agg (monV q I T), .int .i64 x, .int .i64 y] w fun e w' => e = .returned (.tuple #[.int .i64 ((x * y % q * invM (4294967296 % q) q % q : Nat) : Int), .bool true]) ∧ Grown w w' := by
  have d : inB x 0 ((q : Int) - 1) = true := inB_yes (by omega) (by omega)
  have dy : inB y 0 ((q : Int) - 1) = true := inB_yes (by omega) (by omega)
  have d1 : ((q : Int) == 1) = false := by simp; omega
  have hqn : ¬ q = 0 := by omega
  have r0 : 4294967296 % q < q := Nat.mod_lt _ (by omega)
  have ci : ∀ W, Calls Try.prog 46 #[.int .i64 ((4294967296 : Int).tmod (q : Int)), .int .i64 q] W fun e w' => e = .returned (.int .i64 (invM (4294967296 % q) q)) ∧ w' = W := by
    intro W
    have e : (4294967296 : Int).tmod (q : Int) = ((4294967296 % q : Nat) : Int) := by rw [Int.tmod_eq_emod_of_nonneg (by omega)]; simp
    rw [e]
    have h := spec_inv ((4294967296 % q : Nat) : Int) (q : Int) W ⟨by omega, by omega⟩ ⟨by omega, by omega⟩
    rw [← Int.natCast_emod, Int.toNat_natCast, Int.toNat_natCast, Nat.mod_mod] at h
    exact h
  have ci2 : ∀ W, Calls Try.prog 46 #[.int .i64 (4294967296 % (q : Int)), .int .i64 q] W fun e w' => e = .returned (.int .i64 (invM (4294967296 % q) q)) ∧ w' = W := by
    intro W
    have h := ci W
    rw [Int.tmod_eq_emod_of_nonneg (by omega)] at h
    exact h
  have hb := invM_lt (4294967296 % q) q (by omega)
  generalize invM (4294967296 % q) q = b at *
  have bxy : x * y ≤ 268435456 * 268435456 := Nat.mul_le_mul (by omega) (by omega)
  have F : Hid ((wrap64 ((wrap64 ((x : Int) * (y : Int))).tmod (q : Int) * (b : Int))).tmod (q : Int) = ((x * y % q * b % q : Nat) : Int)) := two_mods x y b q (by omega) (by omega) bxy (by omega)
  clear bxy
  go_enter Try.func30, Try.ntmps30
  go_wp2_with fail
  refine (c _).mono ?_
  rintro e w1 ⟨rfl, g1⟩
  have q0 := gcell g1 0 (b := w.heap.size) (by simp)
  have q1 := gcell g1 1 (b := w.heap.size) (by simp)
  have q2 := gcell g1 2 (b := w.heap.size) (by simp)
  simp at q0 q1 q2
  have hsz : w.heap.size < w1.heap.size := by have := g1.2.2; simp at this; omega
  go_wp2_with (first | (go_at_call 39; refine (spec_in _ _ _ _).mono ?_; rintro e w' ⟨rfl, rfl⟩))
  go_quiet ((go_at_call 46; first | exact Calls.quiet_of_same (ci _) | exact Calls.quiet_of_same (ci2 _)))
  go_wp2_with fail
  go_quiet (fail)
  go_wp2_with fail
  go_ret2
  exact ⟨ret_ib F.out, grown_trans (Grown.alloc (Grown.refl _) _ _) (grown_trans g1 (grown_trans (Grown.alloc (Grown.refl _) _ _) (grown_drewN _ _)))⟩
theorem toMont_any (a b c : Int) (w : World) :
    Calls Try.prog 31 #[.agg #[.int .i64 a, .int .i64 b, .int .i64 c]] w fun e w' => e = .returned (.agg #[.int .i64 a, .int .i64 b, .int .i64 c]) ∧ Grown w w' := by
  go_enter Try.func31, Try.ntmps31
  go_wp2
  refine bodyPost_ret (v := .agg #[.int .i64 a, .int .i64 b, .int .i64 c]) (by simp [results, Try.results31, go_sem]) rfl ⟨rfl, ?_⟩
  repeat (first | exact Grown.refl _ | apply Grown.drew | apply Grown.alloc)
set_option maxHeartbeats 1000000 in
theorem monMul_law (p s m x y : Int) (w : World) (z : Int) (b : Bool)
    (c1 : ∀ W, Calls Try.prog 30 #[.agg #[.int .i64 p, .int .i64 s, .int .i64 m], .int .i64 x, .int .i64 y] W fun e w' => e = .returned (.tuple #[.int .i64 z, .bool b]) ∧ Grown W w')
    (c2 : ∀ W, Calls Try.prog 16 #[.agg #[.int .i64 p, .int .i64 s, .int .i64 m], .int .i64 x, .int .i64 y] W fun e w' => e = .returned (.tuple #[.int .i64 z, .bool b]) ∧ Grown W w') :
    Calls Try.prog 9 #[.agg #[.int .i64 p, .int .i64 s, .int .i64 m], .int .i64 x, .int .i64 y] w fun e w' => e = .returned (.bool true) ∧ Grown w w' := by
  have dz : (z != z) = false := by simp
  have db : (b != b) = false := by simp
  go_enter Try.func9, Try.ntmps9
  go_wp2_with fail
  refine (toMont_any _ _ _ _).mono ?_
  rintro e w1 ⟨rfl, g1⟩
  go_wp2_with fail
  refine (c1 _).mono ?_
  rintro e w2 ⟨rfl, g2⟩
  have g12 := grown_trans g1 g2
  have q0 := gcell g12 0 (b := w.heap.size) (by simp)
  have q1 := gcell g12 1 (b := w.heap.size) (by simp)
  have q2 := gcell g12 2 (b := w.heap.size) (by simp)
  simp at q0 q1 q2
  go_wp2_with fail
  refine (toMont_any _ _ _ _).mono ?_
  rintro e w3 ⟨rfl, g3⟩
  go_wp2_with fail
  refine (c2 _).mono ?_
  rintro e w4 ⟨rfl, g4⟩
  go_wp2_with fail
  go_ret
  exact ⟨rfl, grown_trans (Grown.alloc (Grown.refl _) _ _) (grown_trans g12 (grown_trans g3 g4))⟩
theorem monMul_yes (q x y : Nat) (w : World) (h1 : oddB q = true) (hx : x < q) (hy : y < q) :
    Calls Try.prog 9 #[.agg (monV q (monI q) (monT q)), .int .i64 x, .int .i64 y] w fun e w' => e = .returned (.bool true) ∧ Grown w w' := by
  obtain ⟨_, hq2, hq3, ho⟩ := oddB_yes h1
  have b1 : x * y ≤ 268435456 * 268435456 := Nat.mul_le_mul (by omega) (by omega)
  have b2 : x * y < 4294967296 * q := by
    have h := Nat.mul_lt_mul'' hx hy
    have h3 : q * q ≤ 4294967296 * q := Nat.mul_le_mul (by omega) (Nat.le_refl _)
    omega
  have m0 : x * y % q * invM (4294967296 % q) q % q < q := Nat.mod_lt _ (by omega)
  exact monMul_law _ _ _ _ _ _ _ true (fun W => spec_MontMul_yes q _ _ x y W hq2 hq3 hx hy (fun W => spec_MontOf_yes q W h1))
    (fun W => impl_MontMul_yes q _ _ x y _ W hq2 hq3 hx hy (by omega) (fun W => impl_MontOf_yes q W h1) (fun W => mont_product q _ x y _ W rfl (by omega) (by omega) (by omega) (by omega) b2))
theorem monMul_no (p i t x y : Int) (w : World) (h : ¬ MonOk p i t x y) :
    Calls Try.prog 9 #[.agg #[.int .i64 p, .int .i64 i, .int .i64 t], .int .i64 x, .int .i64 y] w fun e w' => e = .returned (.bool true) ∧ Grown w w' :=
  monMul_law _ _ _ _ _ _ _ false (fun W => spec_MontMul_no p i t x y W h) (fun W => impl_MontMul_no p i t x y W h)
end Go.Proofs.Ytgejgkbpbikadaa
