/- Proved: contracts of the program's steps of a conversion: plusSum, plusProducts, overLessProduct, overDivisor; and centredBy. -/
import Derived.Test.YtejkejfhahmhcaaDoorCva
import Derived.Deep.RegionHeld3
namespace Go.Proofs.YtejkejfhahmhcaaDoor
open Go.ChangeShapes Go.WideShapes Go.ChangeAt Go.RowKit
open M2
set_option linter.unusedVariables false
set_option linter.unusedSimpArgs false
/-- by m what is left, and the sum -/
def plusS (m : Nat) (ps ys : List Nat) (x : Nat) : Nat := (x + sbS m ps ys ps.length % m) % m
/-- by m what is left, and o products -/
def plusP (m : Nat) (ps : List Nat) (o : Int) (x : Nat) : Nat := (((x : Int) + o * ((pmN m ps : Nat) : Int)) % (m : Int)).toNat
/-- by m what is left over the product below 0 -/
def overL (m : Nat) (ps : List Nat) (x : Nat) : Nat := x * M1.invM ((-((pmN m ps : Nat) : Int)) % (m : Int)).toNat m % m
/-- by m what is left over d -/
def overD (m : Nat) (d : Int) (x : Nat) : Nat := x * M1.invM (d % (m : Int)).toNat m % m
theorem plusS_lt (m : Nat) (ps ys : List Nat) (x : Nat) (hm : 2 ≤ m) : plusS m ps ys x < m := Nat.mod_lt _ (by omega)
theorem plusP_lt (m : Nat) (ps : List Nat) (o : Int) (x : Nat) (hm : 2 ≤ m) : plusP m ps o x < m := by
  unfold plusP
  have h1 := Int.emod_nonneg ((x : Int) + o * ((pmN m ps : Nat) : Int)) (show (m : Int) ≠ 0 by omega)
  have h2 := Int.emod_lt_of_pos ((x : Int) + o * ((pmN m ps : Nat) : Int)) (show (0 : Int) < m by omega)
  omega
theorem overL_lt (m : Nat) (ps : List Nat) (x : Nat) (hm : 2 ≤ m) : overL m ps x < m := Nat.mod_lt _ (by omega)
theorem overD_lt (m : Nat) (d : Int) (x : Nat) (hm : 2 ≤ m) : overD m d x < m := Nat.mod_lt _ (by omega)
set_option maxHeartbeats 1000000 in
theorem plusSum_any (m x : Nat) (ps ys : List Nat) (vf vs : Value) (o d : Int) (w : World) (hm : 2 ≤ m ∧ m ≤ 268435456) (hx : x ≤ 268435456) (hc : Cv w ps ys vf vs) :
    Calls Tryd.prog 50 #[.agg #[vf, vs, .int .i64 o, .int .i64 d], .int .i64 x, .int .i64 m] w fun e w' => e = .returned (.int .i64 ((plusS m ps ys x : Nat) : Int)) ∧ Old w w' := by
  have cp := fun W h3 => sumBy_any m ps ys vf vs o d W hm h3
  have HCV : Hid (Cv w ps ys vf vs) := hc
  obtain ⟨fa, fc, rfl⟩ : ∃ a c, vf = .slice a ps.length c := by have := hc.rf.slice; rwa [toZ_len] at this
  obtain ⟨sa, sc, rfl⟩ : ∃ a c, vs = .slice a ys.length c := by have := hc.rs.slice; rwa [toZ_len] at this
  have HA : Hid (Old w (w.alloc (.cells #[.slice fa ps.length fc, .slice sa ys.length sc, .int .i64 o, .int .i64 d] 63))) := (Old.refl w).alloc _
  unfold plusS
  have hr : sbS m ps ys ps.length % m < m := Nat.mod_lt _ (by omega)
  generalize sbS m ps ys ps.length % m = r at *
  have t1 : IntKind.i64.wrap ((x : Int) + (r : Int)) = ((x + r : Nat) : Int) := by rw [← Int.natCast_add, IntKind.wrap_i64]; omega
  have hm0 : ¬ m = 0 := by omega
  have t3 : Int.tmod ((x + r : Nat) : Int) (m : Int) = (((x + r) % m : Nat) : Int) := by rw [Int.tmod_eq_emod_of_nonneg (by omega)]; rfl
  generalize (x + r) % m = z at *
  generalize x + r = y at *
  clear hc
  go_enter Tryd.func50, Tryd.ntmps50
  go_wp2_with fail
  refine (cp _ (HCV.out.old HA.out)).mono ?_
  rintro e w3 ⟨rfl, g3⟩
  have HG3 : Hid (Old w w3) := Old.trans HA.out g3
  clear g3
  go_wp2_with fail
  go_ret
  exact ⟨rfl, HG3.out⟩
set_option maxRecDepth 100000 in
set_option maxHeartbeats 2000000 in
theorem plusProducts_any (m x : Nat) (ps ys : List Nat) (vf vs : Value) (o d : Int) (w : World) (hm : 2 ≤ m ∧ m ≤ 268435456) (hx : x ≤ 268435456) (ho : -268435456 ≤ o ∧ o ≤ 268435456) (hc : Cv w ps ys vf vs) :
    Calls Tryd.prog 68 #[.agg #[vf, vs, .int .i64 o, .int .i64 d], .int .i64 x, .int .i64 m] w fun e w' => e = .returned (.int .i64 ((plusP m ps o x : Nat) : Int)) ∧ Old w w' := by
  have cp := fun W h3 => productBy_any m ps ys vf vs o d W hm h3
  have HCV : Hid (Cv w ps ys vf vs) := hc
  obtain ⟨fa, fc, rfl⟩ : ∃ a c, vf = .slice a ps.length c := by have := hc.rf.slice; rwa [toZ_len] at this
  obtain ⟨sa, sc, rfl⟩ : ∃ a c, vs = .slice a ys.length c := by have := hc.rs.slice; rwa [toZ_len] at this
  have HA : Hid (Old w (w.alloc (.cells #[.slice fa ps.length fc, .slice sa ys.length sc, .int .i64 o, .int .i64 d] 63))) := (Old.refl w).alloc _
  have HB : Hid (∀ W, Old (w.alloc (.cells #[.slice fa ps.length fc, .slice sa ys.length sc, .int .i64 o, .int .i64 d] 63)) W → (W.cell? ⟨w.heap.size, 0, none⟩ = some (.slice fa ps.length fc) ∧ W.cell? ⟨w.heap.size, 1, none⟩ = some (.slice sa ys.length sc) ∧ W.cell? ⟨w.heap.size, 2, none⟩ = some (.int .i64 o) ∧ W.cell? ⟨w.heap.size, 3, none⟩ = some (.int .i64 d))) := BoxC.new w (.slice fa ps.length fc) (.slice sa ys.length sc) o d 63
  have hr := pmN_lt m ps hm.1
  have hpp : ((plusP m ps o x : Nat) : Int) = ((x : Int) + o * ((pmN m ps : Nat) : Int)) % (m : Int) := by
    unfold plusP
    rw [Int.toNat_of_nonneg (Int.emod_nonneg _ (by omega))]
  rw [hpp]
  clear hpp
  generalize pmN m ps = r at *
  have hb : -72057594037927936 ≤ o * (r : Int) ∧ o * (r : Int) ≤ 72057594037927936 := by
    have h1 : o * (r : Int) ≤ 268435456 * (r : Int) := Int.mul_le_mul_of_nonneg_right ho.2 (by omega)
    have h2 : -268435456 * (r : Int) ≤ o * (r : Int) := Int.mul_le_mul_of_nonneg_right ho.1 (by omega)
    omega
  obtain ⟨y, hy⟩ : ∃ y, o * (r : Int) = y := ⟨_, rfl⟩
  rw [hy] at hb ⊢
  have t1 : IntKind.i64.wrap (o * (r : Int)) = y := by rw [hy, IntKind.wrap_i64]; omega
  clear hy
  have t2 : IntKind.i64.wrap ((x : Int) + y) = (x : Int) + y := by rw [IntKind.wrap_i64]; omega
  have cr := fun W => impl_residueOf ((x : Int) + y) (m : Int) W (by omega) (by omega)
  have hz1 : 0 ≤ ((x : Int) + y) % (m : Int) ∧ ((x : Int) + y) % (m : Int) < (m : Int) := ⟨Int.emod_nonneg _ (by omega), Int.emod_lt_of_pos _ (by omega)⟩
  generalize ((x : Int) + y) % (m : Int) = z at *
  clear hc
  go_enter Tryd.func68, Tryd.ntmps68
  go_wp2_with fail
  generalize (w.alloc (.cells #[.slice fa ps.length fc, .slice sa ys.length sc, .int .i64 o, .int .i64 d] 63)) = w0 at *
  obtain ⟨z0, z1, z2, z3⟩ := HB.out w0 (Old.refl _)
  go_region_held3 (fun W => W.cell? ⟨w.heap.size, 0, none⟩ = some (.slice fa ps.length fc) ∧ W.cell? ⟨w.heap.size, 1, none⟩ = some (.slice sa ys.length sc) ∧ W.cell? ⟨w.heap.size, 2, none⟩ = some (.int .i64 o) ∧ W.cell? ⟨w.heap.size, 3, none⟩ = some (.int .i64 d)) (first | with_reducible exact HB.out _ G2.out | with_reducible exact HB.out _ G1.out | with_reducible exact HB.out _ (Below.drew (Old.refl w0)) | with_reducible exact HB.out _ (Old.refl w0)) (first
    | (go_at_call 109; refine (cp _ (HCV.out.old (Below.drew HA.out))).mono ?_; rintro e w1 ⟨rfl, g1⟩; have G1 : Hid (Old w0 w1) := Old.trans (Below.drew (Old.refl w0)) g1; clear g1)
    | (go_at_call 82; refine (cr _).mono ?_; rintro e w2 ⟨rfl, hw2⟩; have G2 : Hid (Old w0 w2) := (by rw [hw2]; exact G1.out); clear hw2)
    | fail)
  all_goals
    go_wp2_with fail
    go_ret
    exact ⟨rfl, Old.trans HA.out G2.out⟩
set_option maxRecDepth 100000 in
set_option maxHeartbeats 2000000 in
theorem overLess_any (m x : Nat) (ps ys : List Nat) (vf vs : Value) (o d : Int) (w : World) (hm : 2 ≤ m ∧ m ≤ 268435456) (hx : x ≤ 268435456) (hc : Cv w ps ys vf vs) :
    Calls Tryd.prog 69 #[.agg #[vf, vs, .int .i64 o, .int .i64 d], .int .i64 x, .int .i64 m] w fun e w' => e = .returned (.int .i64 ((overL m ps x : Nat) : Int)) ∧ Old w w' := by
  have cp := fun W h3 => productBy_any m ps ys vf vs o d W hm h3
  have HCV : Hid (Cv w ps ys vf vs) := hc
  obtain ⟨fa, fc, rfl⟩ : ∃ a c, vf = .slice a ps.length c := by have := hc.rf.slice; rwa [toZ_len] at this
  obtain ⟨sa, sc, rfl⟩ : ∃ a c, vs = .slice a ys.length c := by have := hc.rs.slice; rwa [toZ_len] at this
  have HA : Hid (Old w (w.alloc (.cells #[.slice fa ps.length fc, .slice sa ys.length sc, .int .i64 o, .int .i64 d] 63))) := (Old.refl w).alloc _
  have hr := pmN_lt m ps hm.1
  unfold overL
  generalize pmN m ps = r at *
  have tn : IntKind.i64.wrap (-(r : Int)) = -(r : Int) := by rw [IntKind.wrap_i64]; omega
  have ci := fun W => impl_InvMod_yes (-(r : Int)) (m : Int) W (by omega) (decide_eq_true ⟨by omega, by omega⟩)
  rw [Int.toNat_natCast] at ci
  have hil := invM_lt ((-(r : Int)) % (m : Int)).toNat m (by omega)
  generalize M1.invM ((-(r : Int)) % (m : Int)).toNat m = iv at *
  have hb : x * iv ≤ 72057594037927936 := Nat.le_trans (Nat.mul_le_mul hx (show iv ≤ 268435456 by omega)) (by decide)
  have t1 : IntKind.i64.wrap ((x : Int) * (iv : Int)) = ((x * iv : Nat) : Int) := by rw [← Int.natCast_mul, IntKind.wrap_i64]; omega
  have hm0 : ¬ m = 0 := by omega
  have t3 : Int.tmod ((x * iv : Nat) : Int) (m : Int) = ((x * iv % m : Nat) : Int) := by rw [Int.tmod_eq_emod_of_nonneg (by omega)]; rfl
  generalize x * iv % m = z at *
  generalize x * iv = y at *
  clear hc
  go_enter Tryd.func69, Tryd.ntmps69
  go_wp2_with fail
  refine (cp _ (HCV.out.old HA.out)).mono ?_
  rintro e w3 ⟨rfl, g3⟩
  have HG3 : Hid (Old w w3) := Old.trans HA.out g3
  clear g3
  go_wp2_with fail
  refine (ci _).mono ?_
  rintro e w4 ⟨rfl, hw4⟩
  obtain rfl := hw4.symm
  go_wp2_with fail
  go_ret
  exact ⟨rfl, HG3.out⟩
set_option maxRecDepth 100000 in
set_option maxHeartbeats 2000000 in
theorem overDivisor_any (m x : Nat) (vf vs : Value) (fa sa : Option Addr) (fn fc sn sc : Nat) (ef : vf = .slice fa fn fc) (es : vs = .slice sa sn sc) (o d : Int) (w : World) (hm : 2 ≤ m ∧ m ≤ 268435456) (hx : x ≤ 268435456) (hd : -268435456 ≤ d ∧ d ≤ 268435456) :
    Calls Tryd.prog 77 #[.agg #[vf, vs, .int .i64 o, .int .i64 d], .int .i64 x, .int .i64 m] w fun e w' => e = .returned (.int .i64 ((overD m d x : Nat) : Int)) ∧ Old w w' := by
  subst ef es
  have HA : Hid (Old w (w.alloc (.cells #[.slice fa fn fc, .slice sa sn sc, .int .i64 o, .int .i64 d] 63))) := (Old.refl w).alloc _
  unfold overD
  have ci := fun W => impl_InvMod_yes d (m : Int) W (by omega) (decide_eq_true ⟨by omega, by omega⟩)
  rw [Int.toNat_natCast] at ci
  have hil := invM_lt (d % (m : Int)).toNat m (by omega)
  generalize M1.invM (d % (m : Int)).toNat m = iv at *
  have hb : x * iv ≤ 72057594037927936 := Nat.le_trans (Nat.mul_le_mul hx (show iv ≤ 268435456 by omega)) (by decide)
  have t1 : IntKind.i64.wrap ((x : Int) * (iv : Int)) = ((x * iv : Nat) : Int) := by rw [← Int.natCast_mul, IntKind.wrap_i64]; omega
  have hm0 : ¬ m = 0 := by omega
  have t3 : Int.tmod ((x * iv : Nat) : Int) (m : Int) = ((x * iv % m : Nat) : Int) := by rw [Int.tmod_eq_emod_of_nonneg (by omega)]; rfl
  generalize x * iv % m = z at *
  generalize x * iv = y at *
  go_enter Tryd.func77, Tryd.ntmps77
  go_wp2_with fail
  refine (ci _).mono ?_
  rintro e w4 ⟨rfl, hw4⟩
  obtain rfl := hw4.symm
  go_wp2_with fail
  go_ret
  exact ⟨rfl, HA.out⟩
/-- what is left by m, from half of it on below 0 -/
def cenB (x m : Nat) : Int := if m ≤ 2 * x then (x : Int) - m else x
theorem centredBy_any (x m : Nat) (w : World) (hx : x ≤ 268435456) (hm : m ≤ 268435456) :
    Calls Tryd.prog 70 #[.int .i64 x, .int .i64 m] w fun e w' => e = .returned (.int .i64 (cenB x m)) ∧ w' = w := by
  unfold cenB
  have t1 : IntKind.i64.wrap (2 * (x : Int)) = 2 * (x : Int) := by rw [IntKind.wrap_i64]; omega
  by_cases h : m ≤ 2 * x
  · rw [if_pos h]
    have d1 : decide ((m : Int) ≤ 2 * (x : Int)) = true := decide_eq_true (by omega)
    have t2 : IntKind.i64.wrap ((x : Int) - (m : Int)) = (x : Int) - (m : Int) := by rw [IntKind.wrap_i64]; omega
    go_enter Tryd.func70, Tryd.ntmps70
    go_wp2_with fail
    go_ret
    exact ⟨rfl, rfl⟩
  · rw [if_neg h]
    have d1 : decide ((m : Int) ≤ 2 * (x : Int)) = false := decide_eq_false (by omega)
    go_enter Tryd.func70, Tryd.ntmps70
    go_wp2_with fail
    go_ret
    exact ⟨rfl, rfl⟩
end Go.Proofs.YtejkejfhahmhcaaDoor
