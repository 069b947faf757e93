/- Proved: contracts of RootOf, of the program and of the model: both answer one and the same least root, 0 and no where there is none. -/
import Derived.Test.YtplaaglckbfklaaDoorRows
import Derived.WalkKit
import Derived.ProofKit
import Derived.OpenShut
import Derived.Handy
import Derived.WalkSmall
import Derived.Test.YtplaaglckbfklaaDoorLeast
namespace Go.Proofs.YtplaaglckbfklaaDoor
open Go.ChangeShapes Go.WideShapes Go.ChangeAt Go.RowKit
open M1
set_option linter.unusedVariables false
/-- at least lo and at most hi -/
def inB (x lo hi : Int) : Bool := decide (lo ≤ x ∧ x ≤ hi)
theorem inB_out {x lo hi : Int} (h : inB x lo hi = true) : lo ≤ x ∧ x ≤ hi := by simpa [inB] using h
theorem inB_not {x lo hi : Int} (h : inB x lo hi = false) : x < lo ∨ (lo ≤ x ∧ hi < x) := by simp [inB] at h; omega
theorem spec_in (x lo hi : Int) (w : World) :
    Calls Tryd.prog 114 #[.int .i64 x, .int .i64 lo, .int .i64 hi] w fun e w' => e = .returned (.bool (inB x lo hi)) ∧ w' = w := by
  cases h : inB x lo hi
  · rcases inB_not h with h1 | ⟨h1, h2⟩
    · clear h
      have d : decide (lo ≤ x) = false := by simp; omega
      go_enter Tryd.func114, Tryd.ntmps114
      go_wp2
      go_ret
      exact ⟨rfl, rfl⟩
    · clear h
      have d : decide (x ≤ hi) = false := by simp; omega
      go_enter Tryd.func114, Tryd.ntmps114
      go_wp2
      go_ret
      exact ⟨rfl, rfl⟩
  · obtain ⟨h1, h2⟩ := inB_out h
    clear h
    have d : decide (x ≤ hi) = true := by simp; omega
    go_enter Tryd.func114, Tryd.ntmps114
    go_wp2
    go_ret
    exact ⟨rfl, rfl⟩
/-- the orders of roots: powers of 2 from 2 to 64 -/
def ordB (n : Int) : Bool := inB n 2 64 && (bits BinOp.and IntKind.i64 n (n - 1) == 0)
theorem ord_even : ∀ n : Nat, n < 65 → 2 ≤ n → n &&& (n - 1) = 0 → n % 2 = 0 := by decide
theorem and_nat (a b : Nat) (ha : a ≤ 9223372036854775807) (hb : b ≤ 9223372036854775807) : bits .and .i64 (a : Int) (b : Int) = ((a &&& b : Nat) : Int) := and_i64_nat a b ha hb
theorem ordB_yes (n : Nat) (h : ordB (n : Int) = true) : 2 ≤ n ∧ n ≤ 64 ∧ n % 2 = 0 := by
  simp only [ordB, Bool.and_eq_true] at h
  obtain ⟨h1, h2⟩ := h
  obtain ⟨h3, h4⟩ := inB_out h1
  refine ⟨by omega, by omega, ord_even n (by omega) (by omega) ?_⟩
  have e : (n : Int) - 1 = ((n - 1 : Nat) : Int) := by omega
  rw [e, and_nat n (n - 1) (by omega) (by omega)] at h2
  have := beq_iff_eq.1 h2
  omega
theorem impl_isOrder (n : Int) (w : World) :
    Calls Tryd.prog 211 #[.int .i64 n] w fun e w' => e = .returned (.bool (ordB n)) ∧ w' = w := by
  cases h : inB n 2 64
  · have ho : ordB n = false := by simp [ordB, h]
    rw [ho]
    rcases inB_not h with h1 | ⟨h1, h2⟩
    · clear h ho
      have d : decide (2 ≤ n) = false := by simp; omega
      go_enter Tryd.func211, Tryd.ntmps211
      go_wp2
      go_ret
      exact ⟨rfl, rfl⟩
    · clear h ho
      have d : decide (n ≤ 64) = false := by simp; omega
      go_enter Tryd.func211, Tryd.ntmps211
      go_wp2
      go_ret
      exact ⟨rfl, rfl⟩
  · have ho : ordB n = (bits BinOp.and IntKind.i64 n (n - 1) == 0) := by simp [ordB, h]
    rw [ho]
    obtain ⟨h1, h2⟩ := inB_out h
    clear h ho
    have d : decide (n ≤ 64) = true := by simp; omega
    have d2 : decide (2 ≤ n) = true := by simp; omega
    go_enter Tryd.func211, Tryd.ntmps211
    go_wp2
    go_ret
    exact ⟨rfl, rfl⟩
theorem spec_isOrder (n : Int) (w : World) :
    Calls Tryd.prog 210 #[.int .i64 n, .int .i64 2, .int .i64 64] w fun e w' => e = .returned (.bool (ordB n)) ∧ w' = w := by
  cases h : inB n 2 64
  · have ho : ordB n = false := by simp [ordB, h]
    rw [ho]
    clear ho
    go_enter Tryd.func210, Tryd.ntmps210
    go_wp2_with (go_at_call 114; refine (spec_in _ _ _ _).mono ?_; rintro e w' ⟨rfl, rfl⟩)
    go_ret
    exact ⟨rfl, rfl⟩
  · have ho : ordB n = (bits BinOp.and IntKind.i64 n (n - 1) == 0) := by simp [ordB, h]
    rw [ho]
    obtain ⟨h1, h2⟩ := inB_out h
    clear ho
    go_enter Tryd.func210, Tryd.ntmps210
    go_wp2_with (go_at_call 114; refine (spec_in _ _ _ _).mono ?_; rintro e w' ⟨rfl, rfl⟩)
    go_ret
    exact ⟨rfl, rfl⟩
theorem impl_isPM (p : Int) (w : World) (hP : PrsW w) (hT : TabW w) :
    Calls Tryd.prog 117 #[.int .i64 p] w fun e w' => e = .returned (.bool (modB p && isP p.toNat)) ∧ ∃ k, w' = w.drewN k := by
  cases h : modB p
  · have HB : Hid ((false && isP p.toNat) = false) := rfl
    generalize (false && isP p.toNat) = B at *
    clear hP hT
    go_enter Tryd.func117, Tryd.ntmps117
    go_wp2_with (go_at_call 169; refine (impl_isModulus _ _).mono ?_; rintro en w' ⟨rfl, rfl⟩)
    go_ret
    exact ⟨ret_bool HB.out.symm, 0, rfl⟩
  · obtain ⟨h1, h2⟩ := modB_yes h
    have c := fun W (h1 : PrsW W) (h2 : TabW W) => impl_IsPrime p.toNat W (by omega) h1 h2
    rw [Int.toNat_of_nonneg (by omega)] at c
    rw [Bool.true_and]
    generalize isP p.toNat = B at *
    have HP : Hid (PrsW w) := hP
    have HT : Hid (TabW w) := hT
    clear hP hT
    go_enter Tryd.func117, Tryd.ntmps117
    go_wp2_with (go_at_call 169; refine (impl_isModulus _ _).mono ?_; rintro en w' ⟨rfl, rfl⟩)
    refine (c _ HP.out HT.out).mono ?_
    rintro e w2 ⟨rfl, k, rfl⟩
    go_wp2_with fail
    go_ret
    exact ⟨rfl, k, rfl⟩
theorem lr_lt (p sq : Nat) (hp : 0 < p) : ∀ (k x b : Nat), b < p → lr p sq k x b < p
  | 0, _, _, h => h
  | k + 1, x, b, h => lr_lt p sq hp k _ _ (by have := Nat.mod_lt (x * sq) hp; omega)
/-- where RootOf answers -/
structure RootOk (p n : Int) : Prop where
  ord : ordB n = true
  md : modB p = true
  pr : isP p.toNat = true
  dv : (p - 1) % n = 0
theorem RootOk.nots {p n : Int} (h : ¬ RootOk p n) : ordB n = false ∨ modB p = false ∨ (modB p = true ∧ isP p.toNat = false) ∨ (ordB n = true ∧ modB p = true ∧ isP p.toNat = true ∧ ¬ (p - 1) % n = 0) := by
  cases h1 : ordB n
  · exact Or.inl rfl
  · refine Or.inr ?_
    cases h2 : modB p
    · exact Or.inl rfl
    · refine Or.inr ?_
      cases h3 : isP p.toNat
      · exact Or.inl ⟨rfl, rfl⟩
      · exact Or.inr ⟨rfl, rfl, rfl, fun h4 => h ⟨h1, h2, h3, h4⟩⟩
theorem ordB_bd {n : Int} (h : ordB n = true) : 2 ≤ n ∧ n ≤ 64 := by
  simp only [ordB, Bool.and_eq_true] at h
  exact inB_out h.1
set_option maxHeartbeats 1000000 in
theorem impl_RootOf_no (p n : Int) (w : World) (hP : PrsW w) (hT : TabW w) (h : ¬ RootOk p n) :
    Calls Tryd.prog 196 #[.int .i64 p, .int .i64 n] w fun e w' => e = .returned (.tuple #[.int .i64 0, .bool false]) ∧ ∃ k, w' = w.drewN k := by
  have c0 := fun W => impl_isOrder n W
  have c1 := fun W (h1 : PrsW W) (h2 : TabW W) => impl_isPM p W h1 h2
  have HP : Hid (PrsW w) := hP
  have HT : Hid (TabW w) := hT
  clear hP hT
  cases ho : ordB n
  · rw [ho] at c0
    clear h
    go_enter Tryd.func196, Tryd.ntmps196
    go_wp2_with fail
    refine (c0 _).mono ?_
    rintro e w1 ⟨rfl, rfl⟩
    go_wp2_with fail
    go_ret2
    exact ⟨rfl, 0, rfl⟩
  · rw [ho] at c0
    obtain ⟨b1, b2⟩ := ordB_bd ho
    cases hm : (modB p && isP p.toNat)
    · rw [hm] at c1
      clear h
      go_enter Tryd.func196, Tryd.ntmps196
      go_wp2_with fail
      refine (c0 _).mono ?_
      rintro e w1 ⟨rfl, rfl⟩
      go_wp2_with fail
      refine (c1 _ HP.out HT.out).mono ?_
      rintro e w2 ⟨rfl, k, rfl⟩
      go_wp2_with fail
      go_ret2
      exact ⟨rfl, k, rfl⟩
    · rw [hm] at c1
      simp only [Bool.and_eq_true] at hm
      obtain ⟨m1, m2⟩ := modB_yes hm.1
      have hd : ((p - 1) % n != 0) = true := by
        simp only [bne_iff_ne]
        exact fun h4 => h ⟨ho, hm.1, hm.2, h4⟩
      have hnn : ¬ n = 0 := by omega
      clear h hm ho
      go_enter Tryd.func196, Tryd.ntmps196
      go_wp2_with fail
      refine (c0 _).mono ?_
      rintro e w1 ⟨rfl, rfl⟩
      go_wp2_with fail
      refine (c1 _ HP.out HT.out).mono ?_
      rintro e w2 ⟨rfl, k, rfl⟩
      go_wp2_with fail
      go_ret2
      exact ⟨rfl, k, rfl⟩
set_option maxHeartbeats 1000000 in
theorem impl_RootOf_yes (p n r R : Nat) (w : World) (hP : PrsW w) (hT : TabW w) (h : RootOk p n) (hrp : r < p)
    (cs : ∀ W, Calls Tryd.prog 213 #[.int .i64 p, .int .i64 n] W fun en w' => en = .returned (.int .i64 r) ∧ ∃ k, w' = W.drewN k)
    (cl : ∀ W, Calls Tryd.prog 212 #[.int .i64 r, .int .i64 p, .int .i64 n] W fun en w' => en = .returned (.int .i64 R) ∧ w' = W) :
    Calls Tryd.prog 196 #[.int .i64 p, .int .i64 n] w fun e w' => e = .returned (.tuple #[.int .i64 R, .bool true]) ∧ ∃ k, w' = w.drewN k := by
  obtain ⟨ho, hm, hi, hd⟩ := h
  have c0 := fun W => impl_isOrder n W
  have c1 := fun W (h1 : PrsW W) (h2 : TabW W) => impl_isPM p W h1 h2
  rw [ho] at c0
  rw [hm, hi, Bool.true_and] at c1
  obtain ⟨b1, b2⟩ := ordB_bd ho
  obtain ⟨m1, m2⟩ := modB_yes hm
  have hd' : (((p : Int) - 1) % (n : Int) != 0) = false := by simp [hd]
  have hnn : ¬ n = 0 := by omega
  have HP : Hid (PrsW w) := hP
  have HT : Hid (TabW w) := hT
  clear hP hT ho hm hi hd
  go_enter Tryd.func196, Tryd.ntmps196
  go_wp2_with fail
  refine (c0 _).mono ?_
  rintro e w1 ⟨rfl, rfl⟩
  go_wp2_with fail
  refine (c1 _ HP.out HT.out).mono ?_
  rintro e w2 ⟨rfl, k, rfl⟩
  go_wp2_with fail
  refine (cs _).mono ?_
  rintro e w3 ⟨rfl, k3, rfl⟩
  go_wp2_with fail
  refine (cl _).mono ?_
  rintro e w4 ⟨rfl, rfl⟩
  go_wp2_with fail
  go_ret2
  exact ⟨rfl, _, rfl⟩
end Go.Proofs.YtplaaglckbfklaaDoor
