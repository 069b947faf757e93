/- Proved: the questions that ScaleDown asks, of the program and of the model. -/
import Derived.Test.YtejkejfhahmhcaaDoorCvf
import Derived.Test.YtejkejfhahmhcaaDoorCvh
import Derived.Test.YtejkejfhahmhcaaDoorCompB
namespace Go.Proofs.YtejkejfhahmhcaaDoor
open Go.ChangeShapes Go.WideShapes Go.ChangeAt Go.RowKit
open M2
set_option linter.unusedVariables false
set_option linter.unusedSimpArgs false
/-- what a call that tells a number and a bool leaves -/
abbrev Nm6 (W : World) (z : Int) (ok : Bool) (e : Ending) (w' : World) : Prop := e = .returned (.tuple #[.int .i64 z, .bool ok]) ∧ Old W w'
set_option maxHeartbeats 2000000 in
theorem gcd_any (a b : Nat) (w : World) (ha : a ≤ 268435456) (hb : b ≤ 268435456) :
    Calls Tryd.prog 79 #[.int .i64 (a : Int), .int .i64 (b : Int)] w fun e w' => e = .returned (.int .i64 ((Nat.gcd a b : Nat) : Int)) ∧ Old w w' := by
  obtain ⟨R, hR⟩ : ∃ R, Nat.gcd a b = R := ⟨_, rfl⟩
  rw [hR]
  have HR : Hid (Nat.gcd a b = R) := hR
  clear hR
  go_enter Tryd.func79, Tryd.ntmps79
  go_wp2_with fail
  go_loopw [0, 1] (fun x y W => ∃ m n : Nat, x = .int .i64 m ∧ y = .int .i64 n ∧ m ≤ 268435456 ∧ n ≤ 268435456 ∧ Hid (Nat.gcd m n = R) ∧ Hid (Old w W)) (fun _ y _ => (intOf y).toNat)
  case atStart => exact ⟨a, b, rfl, rfl, ha, hb, HR, Old.refl _⟩
  case round =>
    obtain ⟨m, n, rfl, rfl, hm, hn, HQ, HG⟩ := hrel
    by_cases h0 : n = 0
    · subst h0
      have d1 : (((0 : Nat) : Int) != 0) = false := by simp
      obtain rfl : m = R := by have := HQ.out; rwa [Nat.gcd_zero_right] at this
      go_wp2_with fail
      go_ret
      exact ⟨rfl, HG.out⟩
    · have d1 : ((n : Int) != 0) = true := by simp; omega
      have hn0 : ¬ n = 0 := h0
      have t1 : Int.tmod (m : Int) (n : Int) = ((m % n : Nat) : Int) := by rw [Int.tmod_eq_emod_of_nonneg (by omega)]; rfl
      have hlt : m % n < n := Nat.mod_lt _ (by omega)
      have HQ2 : Hid (Nat.gcd n (m % n) = R) := by show _ = _; rw [← HQ.out, Nat.gcd_comm m n, Nat.gcd_rec n m, Nat.gcd_comm]
      generalize m % n = r at *
      go_wp2_with fail
      exact ⟨⟨n, r, rfl, rfl, by omega, by omega, HQ2, HG⟩, by simp [intOf]; omega⟩
/-- a prime that is not t's and not g -/
def scP (t g : Int) (p : Int) : Bool := p == g || t % p == 0
/-- what is asked of t and gamma -/
def scB (t g : Int) (xs : List Int) : Bool := (((decide (2 ≤ t) && decide (t ≤ 65536)) && decide (t < g)) && pmB g) && !xs.any (scP t g)
set_option maxHeartbeats 2000000 in
theorem scale1_any (t g p : Int) (pg pt : Nat) (w : World) (h1 : w.cell? ⟨pg, 0, none⟩ = some (.int .i64 g)) (h2 : w.cell? ⟨pt, 0, none⟩ = some (.int .i64 t)) (hp : 2 ≤ p) (ht : 0 ≤ t) :
    Calls Tryd.prog 113 #[.int .i64 p, .pointer (some ⟨pg, 0, none⟩), .pointer (some ⟨pt, 0, none⟩)] w fun e w' => e = .returned (.bool (scP t g p)) ∧ Old w w' := by
  unfold scP
  have hp0 : ¬ p = 0 := by omega
  have t1 : Int.tmod t p = t % p := Int.tmod_eq_emod_of_nonneg ht
  cases hb : (p == g)
  · rw [Bool.false_or]
    generalize t % p = z at *
    go_enter Tryd.func113, Tryd.ntmps113
    go_wp2_with fail
    go_ret
    exact ⟨rfl, Old.refl _⟩
  · rw [Bool.true_or]
    go_enter Tryd.func113, Tryd.ntmps113
    go_wp2_with fail
    go_ret
    exact ⟨rfl, Old.refl _⟩
set_option maxRecDepth 100000 in
set_option maxHeartbeats 8000000 in
theorem isScale_any (t g : Int) (xs : List Int) (u : Value) (w : World) (hP : PrsW w) (hT : TabW w) (hu : Row w u xs) (hl : xs.length ≤ 1048576) (hx : ∀ x ∈ xs, 2 ≤ x) :
    Calls Tryd.prog 80 #[.int .i64 t, .int .i64 g, u] w fun e w' => e = .returned (.bool (scB t g xs)) ∧ Old w w' := by
  have K4 : ∀ W, Old w W → Calls Tryd.prog 89 #[.int .i64 g] W fun en w' => en = .returned (.bool (pmB g)) ∧ Old W w' := fun W q => (impl_isPM g W (hP.old q) (hT.old q)).mono (fun en w' h => ⟨h.1, by obtain ⟨_, k, hk⟩ := h; rw [hk]; exact (Old.refl W).drewN k⟩)
  have HG0 : Hid (Old w ((w.alloc (.cells #[.int .i64 t] 3)).alloc (.cells #[.int .i64 g] 3))) := ((Old.refl w).alloc _).alloc _
  have hcl : ∀ W, Old ((w.alloc (.cells #[.int .i64 t] 3)).alloc (.cells #[.int .i64 g] 3)) W → W.cell? ⟨w.heap.size, 0, none⟩ = some (.int .i64 t) ∧ W.cell? ⟨w.heap.size + 1, 0, none⟩ = some (.int .i64 g) := fun W q =>
    ⟨(q.cell (p := ⟨w.heap.size, 0, none⟩) (by simp; omega)).trans (by simp [cell_at, cell_lt]), (q.cell (p := ⟨w.heap.size + 1, 0, none⟩) (by simp)).trans (by simp [cell_at, cell_lt])⟩
  have HANY : Hid (0 ≤ t → ∀ W, Old ((w.alloc (.cells #[.int .i64 t] 3)).alloc (.cells #[.int .i64 g] 3)) W → Calls Tryd.prog 111 #[u, .func (.func 113) #[] #[.pointer (some ⟨w.heap.size + 1, 0, none⟩), .pointer (some ⟨w.heap.size, 0, none⟩)]] W fun e w' => e = .returned (.bool (xs.any (scP t g))) ∧ Old W w') := fun h0 W q =>
    cfS_any (scP t g) (w.heap.size + 1) w.heap.size xs u W (hu.old (Old.trans HG0.out q)) (by omega) (fun x hx' W2 q2 => scale1_any t g x (w.heap.size + 1) w.heap.size W2 (hcl W2 (Old.trans q q2)).2 (hcl W2 (Old.trans q q2)).1 (hx x hx') h0)
  have hmf : ∀ (fn : Fn) (first cap : Array Value) (w : World), (Instr.makeFunc fn first cap).run Tryd.prog w = .ok (.func fn first cap) w := fun _ _ _ _ => rfl
  obtain ⟨ua, uc, rfl⟩ := hu.slice
  unfold scB
  have q1 : decide (2 ≤ t) = !decide (t < 2) := by rw [← decide_not, decide_eq_decide]; omega
  have q2 : decide (t ≤ 65536) = !decide (65536 < t) := by rw [← decide_not, decide_eq_decide]; omega
  have q3 : decide (t < g) = !decide (g ≤ t) := by rw [← decide_not, decide_eq_decide]; omega
  rw [q1, q2, q3]
  clear hP hT hu hx hcl q1 q2 q3
  cases hB1 : decide (t < 2)
  case true =>
    have D1 := hB1
    simp only [Bool.false_and, Bool.and_false, Bool.true_and, Bool.and_true, Bool.not_true, Bool.not_false]
    clear HANY hB1 K4
    go_enter Tryd.func80, Tryd.ntmps80
    go_wp2_with fail
    go_ret
    exact ⟨rfl, HG0.out⟩
  case false =>
    have D1 := hB1
    cases hB2 : decide (65536 < t)
    case true =>
      have D2 := hB2
      simp only [Bool.false_and, Bool.and_false, Bool.true_and, Bool.and_true, Bool.not_true, Bool.not_false]
      clear HANY hB1 hB2 K4
      go_enter Tryd.func80, Tryd.ntmps80
      go_wp2_with fail
      go_ret
      exact ⟨rfl, HG0.out⟩
    case false =>
      have D2 := hB2
      cases hB3 : decide (g ≤ t)
      case true =>
        have D3 := hB3
        simp only [Bool.false_and, Bool.and_false, Bool.true_and, Bool.and_true, Bool.not_true, Bool.not_false]
        clear HANY hB1 hB2 hB3 K4
        go_enter Tryd.func80, Tryd.ntmps80
        go_wp2_with fail
        go_ret
        exact ⟨rfl, HG0.out⟩
      case false =>
        have D3 := hB3
        cases hB4 : pmB g
        case false =>
          rw [hB4] at K4
          simp only [Bool.false_and, Bool.and_false, Bool.true_and, Bool.and_true, Bool.not_true, Bool.not_false]
          clear HANY hB1 hB2 hB3 hB4
          go_enter Tryd.func80, Tryd.ntmps80
          go_wp2_with fail
          refine (K4 _ HG0.out).mono ?_
          rintro e w4 ⟨rfl, g4⟩
          have HG4 : Hid (Old w w4) := Old.trans HG0.out g4
          clear g4
          go_wp2_with fail
          go_ret
          exact ⟨rfl, HG4.out⟩
        case true =>
          rw [hB4] at K4
          have hany := HANY.out (by simp at hB1; omega)
          have HCF : Hid (∀ W, Old ((w.alloc (.cells #[.int .i64 t] 3)).alloc (.cells #[.int .i64 g] 3)) W → Calls Tryd.prog 111 #[.slice ua xs.length uc, .func (.func 113) #[] #[.pointer (some ⟨w.heap.size + 1, 0, none⟩), .pointer (some ⟨w.heap.size, 0, none⟩)]] W fun e w' => e = .returned (.bool (xs.any (scP t g))) ∧ Old W w') := hany
          clear hany HANY hB1 hB2 hB3 hB4
          generalize xs.any (scP t g) = B at *
          simp only [Bool.true_and, Bool.not_false]
          go_enter Tryd.func80, Tryd.ntmps80
          go_wp2_with fail
          refine (K4 _ HG0.out).mono ?_
          rintro e w4 ⟨rfl, g4⟩
          have HG4 : Hid (Old w w4) := Old.trans HG0.out g4
          have HGB : Hid (Old ((w.alloc (.cells #[.int .i64 t] 3)).alloc (.cells #[.int .i64 g] 3)) w4) := g4
          clear g4
          go_wp2_with fail
          refine (HCF.out _ HGB.out).mono ?_
          rintro e w5 ⟨rfl, g5⟩
          have HG5 : Hid (Old w w5) := Old.trans HG4.out g5
          clear g5
          go_wp2_with fail
          go_ret
          exact ⟨rfl, HG5.out⟩
/-- what ScaleDown asks for -/
def sdB (rs xs : List Int) (t g : Int) : Bool := (basB xs && rsB rs xs) && scB t g xs
theorem bas_lo {xs : List Int} (h : basB xs = true) : ∀ x ∈ xs, 2 ≤ x := fun x hx => by
  obtain ⟨ps, rfl, hb⟩ := basB_yes h
  obtain ⟨n, hn, rfl⟩ := List.mem_map.1 hx
  have := hb.lo n hn
  omega
set_option maxRecDepth 100000 in
set_option maxHeartbeats 8000000 in
theorem impl_ScaleDown_no (rs xs : List Int) (t g : Int) (v u : Value) (w : World) (hP : PrsW w) (hT : TabW w) (hv : Row w v rs) (hu : Row w u xs) (hf : Fit u) (hl : xs.length ≤ 1048576) (h : sdB rs xs t g = false) :
    Calls Tryd.prog 33 #[v, u, .int .i64 t, .int .i64 g] w (Nm6 w 0 false) := by
  have K1 : ∀ W, Old w W → Calls Tryd.prog 37 #[u] W fun en w' => en = .returned (.bool (basB xs)) ∧ Old W w' := fun W q => impl_goodBasis xs u W (hP.old q) (hT.old q) (hu.old q) hf (by omega)
  have HG0 : Hid (Old w w) := Old.refl w
  unfold sdB at h
  cases hB1 : basB xs
  · rw [hB1] at K1
    obtain ⟨va, vc, rfl⟩ := hv.slice
    obtain ⟨ua, uc, rfl⟩ := hu.slice
    clear hP hT hv hu hf h hB1
    go_enter Tryd.func33, Tryd.ntmps33
    go_wp2_with fail
    refine (K1 _ HG0.out).mono ?_
    rintro e w1 ⟨rfl, g1⟩
    have HG1 : Hid (Old w w1) := Old.trans HG0.out g1
    clear g1
    go_wp2_with fail
    go_ret2
    exact ⟨rfl, HG1.out⟩
  · rw [hB1] at K1
    have K2 : ∀ W, Old w W → Calls Tryd.prog 38 #[v, u] W fun en w' => en = .returned (.bool (rsB rs xs)) ∧ Old W w' := fun W q => areRes_any rs xs v u W (hv.old q) (hu.old q) (by omega) (basB_len1 hB1)
    have K3 : ∀ W, Old w W → Calls Tryd.prog 80 #[.int .i64 t, .int .i64 g, u] W fun en w' => en = .returned (.bool (scB t g xs)) ∧ Old W w' := fun W q => isScale_any t g xs u W (hP.old q) (hT.old q) (hu.old q) hl (bas_lo hB1)
    obtain ⟨va, vc, rfl⟩ := hv.slice
    obtain ⟨ua, uc, rfl⟩ := hu.slice
    clear hP hT hv hu hf
    cases hB2 : rsB rs xs
    · rw [hB2] at K2
      clear K3 h hB1 hB2
      go_enter Tryd.func33, Tryd.ntmps33
      go_wp2_with fail
      refine (K1 _ HG0.out).mono ?_
      rintro e w1 ⟨rfl, g1⟩
      have HG1 : Hid (Old w w1) := Old.trans HG0.out g1
      clear g1
      go_wp2_with fail
      refine (K2 _ HG1.out).mono ?_
      rintro e w2 ⟨rfl, g2⟩
      have HG2 : Hid (Old w w2) := Old.trans HG1.out g2
      clear g2
      go_wp2_with fail
      go_ret2
      exact ⟨rfl, HG2.out⟩
    · rw [hB2] at K2
      have hB3 : scB t g xs = false := by rw [hB1, hB2] at h; simpa using h
      rw [hB3] at K3
      clear h hB1 hB2 hB3
      go_enter Tryd.func33, Tryd.ntmps33
      go_wp2_with fail
      refine (K1 _ HG0.out).mono ?_
      rintro e w1 ⟨rfl, g1⟩
      have HG1 : Hid (Old w w1) := Old.trans HG0.out g1
      clear g1
      go_wp2_with fail
      refine (K2 _ HG1.out).mono ?_
      rintro e w2 ⟨rfl, g2⟩
      have HG2 : Hid (Old w w2) := Old.trans HG1.out g2
      clear g2
      go_wp2_with fail
      refine (K3 _ HG2.out).mono ?_
      rintro e w3 ⟨rfl, g3⟩
      have HG3 : Hid (Old w w3) := Old.trans HG2.out g3
      clear g3
      go_wp2_with fail
      go_ret2
      exact ⟨rfl, HG3.out⟩
end Go.Proofs.YtejkejfhahmhcaaDoor
