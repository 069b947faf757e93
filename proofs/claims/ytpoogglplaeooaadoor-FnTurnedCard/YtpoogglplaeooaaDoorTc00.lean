/- Proved: several texts in one: what each proves is said ahead of it. -/
import Derived.Deep.RegionWith
import Derived.Test.YtpoogglplaeooaaDoorTa00
import Derived.Test.YtpoogglplaeooaaDoorTa01
import Derived.Test.YtpoogglplaeooaaDoorModel
import Derived.Test.YtpoogglplaeooaaDoorLen
import Derived.Test.YtpoogglplaeooaaDoorDiv
import Derived.Test.YtpoogglplaeooaaDoorRem2
import Derived.Test.YtpoogglplaeooaaDoorBoth
import Derived.Test.YtpoogglplaeooaaDoorTa02
import Derived.Test.YtpoogglplaeooaaDoorTa08
import Derived.Test.YtpoogglplaeooaaDoorTa03
import Derived.Test.YtpoogglplaeooaaDoorTa04
import Derived.Test.YtpoogglplaeooaaDoorInv
import Derived.Test.YtpoogglplaeooaaDoorFrameD
import Derived.Test.YtpoogglplaeooaaDoorTa07
import Derived.Test.YtpoogglplaeooaaDoorCux
import Derived.Test.YtpoogglplaeooaaDoorTa10
import Derived.Test.YtpoogglplaeooaaDoorTa11
import Derived.Test.YtpoogglplaeooaaDoorSam
import Derived.Test.YtpoogglplaeooaaDoorTa23
import Derived.Test.YtpoogglplaeooaaDoorTa13
import Derived.Test.YtpoogglplaeooaaDoorPows
import Derived.Test.YtpoogglplaeooaaDoorTa16
import Derived.Test.YtpoogglplaeooaaDoorTa15
import Derived.Test.YtpoogglplaeooaaDoorTa17
import Derived.Test.YtpoogglplaeooaaDoorCopy
import Derived.Test.YtpoogglplaeooaaDoorSpInv
import Derived.Test.YtpoogglplaeooaaDoorTa19
import Derived.Test.YtpoogglplaeooaaDoorTa21
import Derived.Test.YtpoogglplaeooaaDoorTa22
import Derived.Test.YtpoogglplaeooaaDoorTa24
import Derived.Test.YtpoogglplaeooaaDoorTa25
import Derived.Test.YtpoogglplaeooaaDoorTa26
import Derived.Test.YtpoogglplaeooaaDoorFrameT
/- Proved: the doors of the functions on rings: none where the ring, a list or a turn is not as said; what the function within answers otherwise. -/
namespace Go.Proofs.YtpoogglplaeooaaDoor
open Go.ChangeShapes Go.WideShapes Go.ChangeAt Go.RowKit
set_option linter.unusedVariables false
/-- an odd number in 1..2 n - 1 -/
def turnB (n t : Int) : Bool := decide (1 ≤ t) && decide (t < 2 * n) && (t % 2 == 1)
theorem impl_isTurn (t n : Int) (w : World) (ht : -9223372036854775808 ≤ t ∧ t ≤ 9223372036854775807) (hn : 2 ≤ n ∧ n ≤ 16) :
    Calls Tryd.prog 28 #[.int .i64 t, .int .i64 n] w fun e w' => e = .returned (.bool (turnB n t)) ∧ w' = w := by
  by_cases h1 : 1 ≤ t
  · have d1 : decide (1 ≤ t) = true := by simp; omega
    by_cases h2 : t < 2 * n
    · have d2 : decide (t < 2 * n) = true := by simp; omega
      go_enter Tryd.func28, Tryd.ntmps28
      go_wp2_with fail
      go_ret
      exact ⟨by simp [turnB, d1, d2], rfl⟩
    · have d2 : decide (t < 2 * n) = false := by simp; omega
      go_enter Tryd.func28, Tryd.ntmps28
      go_wp2_with fail
      go_ret
      exact ⟨by simp [turnB, d1, d2], rfl⟩
  · have d1 : decide (1 ≤ t) = false := by simp; omega
    go_enter Tryd.func28, Tryd.ntmps28
    go_wp2_with fail
    go_ret
    exact ⟨by simp [turnB, d1], rfl⟩
theorem spec_odd (n t : Int) (w : World) (ht : -9223372036854775808 ≤ t ∧ t ≤ 9223372036854775807) (hn : 2 ≤ n ∧ n ≤ 16) :
    Calls Tryd.prog 30 #[.int .i64 n, .int .i64 t] w fun e w' => e = .returned (.bool (turnB n t)) ∧ w' = w := by
  have c := fun W => spec_in t 1 (2 * n - 1) W
  have e : turnB n t = (inB t 1 (2 * n - 1) && (t % 2 == 1)) := by
    rw [Bool.eq_iff_iff]
    simp [turnB, inB]
    omega
  rw [e]
  cases hi : inB t 1 (2 * n - 1)
  · rw [hi] at c
    clear hi e
    go_enter Tryd.func30, Tryd.ntmps30
    go_wp2_with fail
    refine (c _).mono ?_
    rintro e w1 ⟨rfl, rfl⟩
    go_wp2_with fail
    go_ret
    exact ⟨rfl, rfl⟩
  · rw [hi] at c
    obtain ⟨h1, h2⟩ := inB_out hi
    clear hi e
    go_enter Tryd.func30, Tryd.ntmps30
    go_wp2_with fail
    refine (c _).mono ?_
    rintro e w1 ⟨rfl, rfl⟩
    go_wp2_with fail
    go_ret
    exact ⟨rfl, rfl⟩
end Go.Proofs.YtpoogglplaeooaaDoor
/- Proved: the doors of the functions on rings: none where the ring, a list or a turn is not as said; what the function within answers otherwise. -/
namespace Go.Proofs.YtpoogglplaeooaaDoor
open Go.ChangeShapes Go.WideShapes Go.ChangeAt Go.RowKit
set_option linter.unusedVariables false
set_option maxHeartbeats 2000000 in
theorem impl_TurnRing_of (p n r : Int) (t : Int) (xs : List Int) (g ok : Bool) (zs : List Int) (hgp : g = true → (2 ≤ p ∧ p ≤ 268435456) ∧ (2 ≤ n ∧ n ≤ 16)) (ht : -9223372036854775808 ≤ t ∧ t ≤ 9223372036854775807) (hlv : xs.length ≤ 9223372036854775807) (hok : (g && polyB p n xs && turnB n t) = ok) (hz : ok = false → zs = [])
    (cg : ∀ W, PrsW W → TabW W → Calls Tryd.prog 18 #[.agg #[.int .i64 p, .int .i64 n, .int .i64 r]] W fun e w' => e = .returned (.bool g) ∧ Old W w')
    (inn : ok = true → ∀ v W, TabW W → Row W v xs → Calls Tryd.prog 29 #[.agg #[.int .i64 p, .int .i64 n, .int .i64 r], v, .int .i64 t] W fun e w' => ∃ v', e = .returned v' ∧ Old W w' ∧ Own w' W.heap.size v' zs) (v : Value) (w : World) (hP : PrsW w) (hT : TabW w) (hv : Row w v xs) :
    Calls Tryd.prog 13 #[.agg #[.int .i64 p, .int .i64 n, .int .i64 r], v, .int .i64 t] w fun e w' => ∃ v', e = .returned (.tuple #[v', .bool ok]) ∧ Old w w' ∧ Own w' w.heap.size v' zs := by
  have HP : Hid (PrsW w) := hP
  have HT : Hid (TabW w) := hT
  clear hP hT
  have Rv : Hid (Row w v xs) := hv
  obtain ⟨cv, capv, rfl⟩ := hv.slice
  clear hv
  have HG0 : Hid (Old w (w.alloc (.cells #[.int .i64 p, .int .i64 n, .int .i64 r] 24))) := (Old.refl w).alloc _
  have RC0 : Hid (Rc (w.alloc (.cells #[.int .i64 p, .int .i64 n, .int .i64 r] 24)) w.heap.size p n r) := Rc.new w p n r
  cases g
  · obtain rfl : ok = false := by simpa using hok.symm
    obtain rfl := hz rfl
    clear inn hok hz hgp
    go_enter Tryd.func13, Tryd.ntmps13
    go_wp2_with fail
    refine (cg _ (HP.out.old HG0.out) (HT.out.old HG0.out)).mono ?_
    rintro e w1 ⟨rfl, g1⟩
    have HG1 : Hid (Old w w1) := Old.trans HG0.out g1
    have RC1 : Hid (Rc w1 w.heap.size p n r) := RC0.out.old g1
    clear g1
    go_wp2_with fail
    go_ret2
    exact ⟨_, rfl, HG1.out, own_nil _ _⟩
  · obtain ⟨⟨p1, p2⟩, n1, n2⟩ := hgp rfl
    have c1 := fun v W (h : Row W v xs) => impl_poly p n r xs v W h hlv ⟨p1, p2⟩
    cases e1 : polyB p n xs
    · rw [e1] at c1
      obtain rfl : ok = false := by rw [← hok]; simp [e1]
      obtain rfl := hz rfl
      clear inn hok hz hgp e1
      go_enter Tryd.func13, Tryd.ntmps13
      go_wp2_with fail
      refine (cg _ (HP.out.old HG0.out) (HT.out.old HG0.out)).mono ?_
      rintro e w1 ⟨rfl, g1⟩
      have HG1 : Hid (Old w w1) := Old.trans HG0.out g1
      have RC1 : Hid (Rc w1 w.heap.size p n r) := RC0.out.old g1
      clear g1
      have z10 := RC1.out.c0
      have z11 := RC1.out.c1
      have z12 := RC1.out.c2
      go_wp2_with fail
      refine (c1 _ _ (Rv.out.old HG1.out)).mono ?_
      rintro e w2 ⟨rfl, g2⟩
      clear z10 z11 z12
      have HG2 : Hid (Old w w2) := Old.trans HG1.out g2
      have RC2 : Hid (Rc w2 w.heap.size p n r) := RC1.out.old g2
      clear g2
      go_wp2_with fail
      go_ret2
      exact ⟨_, rfl, HG2.out, own_nil _ _⟩
    rw [e1] at c1
    have ct := fun W => impl_isTurn t n W ht ⟨n1, n2⟩
    cases et : turnB n t
    · rw [et] at ct
      obtain rfl : ok = false := by rw [← hok]; simp [et]
      obtain rfl := hz rfl
      clear inn hok hz hgp et e1
      go_enter Tryd.func13, Tryd.ntmps13
      go_wp2_with fail
      refine (cg _ (HP.out.old HG0.out) (HT.out.old HG0.out)).mono ?_
      rintro e w1 ⟨rfl, g1⟩
      have HG1 : Hid (Old w w1) := Old.trans HG0.out g1
      have RC1 : Hid (Rc w1 w.heap.size p n r) := RC0.out.old g1
      clear g1
      have z10 := RC1.out.c0
      have z11 := RC1.out.c1
      have z12 := RC1.out.c2
      go_wp2_with fail
      refine (c1 _ _ (Rv.out.old HG1.out)).mono ?_
      rintro e w2 ⟨rfl, g2⟩
      clear z10 z11 z12
      have HG2 : Hid (Old w w2) := Old.trans HG1.out g2
      have RC2 : Hid (Rc w2 w.heap.size p n r) := RC1.out.old g2
      clear g2
      have z20 := RC2.out.c0
      have z21 := RC2.out.c1
      have z22 := RC2.out.c2
      go_wp2_with fail
      refine (ct _).mono ?_
      rintro e w3 ⟨rfl, rfl⟩
      clear z20 z21 z22
      have HG3 := HG2
      have RC3 := RC2
      go_wp2_with fail
      go_ret2
      exact ⟨_, rfl, HG3.out, own_nil _ _⟩
    rw [et] at ct
    obtain rfl : ok = true := by rw [← hok]; simp [e1, et]
    have IN := inn rfl
    clear inn hok hz hgp e1 et
    go_enter Tryd.func13, Tryd.ntmps13
    go_wp2_with fail
    refine (cg _ (HP.out.old HG0.out) (HT.out.old HG0.out)).mono ?_
    rintro e w1 ⟨rfl, g1⟩
    have HG1 : Hid (Old w w1) := Old.trans HG0.out g1
    have RC1 : Hid (Rc w1 w.heap.size p n r) := RC0.out.old g1
    clear g1
    have z10 := RC1.out.c0
    have z11 := RC1.out.c1
    have z12 := RC1.out.c2
    go_wp2_with fail
    refine (c1 _ _ (Rv.out.old HG1.out)).mono ?_
    rintro e w2 ⟨rfl, g2⟩
    clear z10 z11 z12
    have HG2 : Hid (Old w w2) := Old.trans HG1.out g2
    have RC2 : Hid (Rc w2 w.heap.size p n r) := RC1.out.old g2
    clear g2
    have z20 := RC2.out.c0
    have z21 := RC2.out.c1
    have z22 := RC2.out.c2
    go_wp2_with fail
    refine (ct _).mono ?_
    rintro e w3 ⟨rfl, rfl⟩
    clear z20 z21 z22
    have HG3 := HG2
    have RC3 := RC2
    have z30 := RC3.out.c0
    have z31 := RC3.out.c1
    have z32 := RC3.out.c2
    go_wp2_with fail
    refine (IN _ _ (HT.out.old HG3.out) (Rv.out.old HG3.out)).mono ?_
    rintro e w4 ⟨v', rfl, g, o⟩
    obtain ⟨a', cap', rfl⟩ := (Own.row o).slice
    have HO : Hid (Own w4 w.heap.size (.slice a' zs.length cap') zs) := Own.low o HG3.out.size
    have HG : Hid (Old w w4) := Old.trans HG3.out g
    clear g o
    go_wp2_with fail
    go_ret2
    exact ⟨_, rfl, HG.out, HO.out⟩
set_option maxHeartbeats 2000000 in
theorem spec_TurnRing_of (p n r : Int) (t : Int) (xs : List Int) (g ok : Bool) (zs : List Int) (hgp : g = true → (2 ≤ p ∧ p ≤ 268435456) ∧ (2 ≤ n ∧ n ≤ 16)) (ht : -9223372036854775808 ≤ t ∧ t ≤ 9223372036854775807) (hlv : xs.length ≤ 9223372036854775807) (hok : (g && polyB p n xs && turnB n t) = ok) (hz : ok = false → zs = [])
    (cg : ∀ W, Calls Tryd.prog 21 #[.agg #[.int .i64 p, .int .i64 n, .int .i64 r]] W fun e w' => e = .returned (.bool g) ∧ Old W w')
    (inn : ok = true → ∀ v W, Row W v xs → Calls Tryd.prog 31 #[.int .i64 p, .int .i64 n, v, .int .i64 t] W fun e w' => ∃ v', e = .returned v' ∧ Old W w' ∧ Own w' W.heap.size v' zs) (v : Value) (w : World) (hv : Row w v xs) :
    Calls Tryd.prog 14 #[.agg #[.int .i64 p, .int .i64 n, .int .i64 r], v, .int .i64 t] w fun e w' => ∃ v', e = .returned (.tuple #[v', .bool ok]) ∧ Old w w' ∧ Own w' w.heap.size v' zs := by
  have Rv : Hid (Row w v xs) := hv
  obtain ⟨cv, capv, rfl⟩ := hv.slice
  clear hv
  have HG0 : Hid (Old w (w.alloc (.cells #[.int .i64 p, .int .i64 n, .int .i64 r] 24))) := (Old.refl w).alloc _
  have RC0 : Hid (Rc (w.alloc (.cells #[.int .i64 p, .int .i64 n, .int .i64 r] 24)) w.heap.size p n r) := Rc.new w p n r
  cases g
  · obtain rfl : ok = false := by simpa using hok.symm
    obtain rfl := hz rfl
    clear inn hok hz hgp
    go_enter Tryd.func14, Tryd.ntmps14
    go_wp2_with fail
    refine (cg _).mono ?_
    rintro e w1 ⟨rfl, g1⟩
    have HG1 : Hid (Old w w1) := Old.trans HG0.out g1
    have RC1 : Hid (Rc w1 w.heap.size p n r) := RC0.out.old g1
    clear g1
    go_wp2_with fail
    go_ret2
    exact ⟨_, rfl, HG1.out, own_nil _ _⟩
  · obtain ⟨⟨p1, p2⟩, n1, n2⟩ := hgp rfl
    have c1 := fun v W (h : Row W v xs) => spec_poly p n r xs v W h hlv ⟨p1, p2⟩
    cases e1 : polyB p n xs
    · rw [e1] at c1
      obtain rfl : ok = false := by rw [← hok]; simp [e1]
      obtain rfl := hz rfl
      clear inn hok hz hgp e1
      go_enter Tryd.func14, Tryd.ntmps14
      go_wp2_with fail
      refine (cg _).mono ?_
      rintro e w1 ⟨rfl, g1⟩
      have HG1 : Hid (Old w w1) := Old.trans HG0.out g1
      have RC1 : Hid (Rc w1 w.heap.size p n r) := RC0.out.old g1
      clear g1
      have z10 := RC1.out.c0
      have z11 := RC1.out.c1
      have z12 := RC1.out.c2
      go_wp2_with fail
      refine (c1 _ _ (Rv.out.old HG1.out)).mono ?_
      rintro e w2 ⟨rfl, g2⟩
      clear z10 z11 z12
      have HG2 : Hid (Old w w2) := Old.trans HG1.out g2
      have RC2 : Hid (Rc w2 w.heap.size p n r) := RC1.out.old g2
      clear g2
      go_wp2_with fail
      go_ret2
      exact ⟨_, rfl, HG2.out, own_nil _ _⟩
    rw [e1] at c1
    have ct := fun W => spec_odd n t W ht ⟨n1, n2⟩
    cases et : turnB n t
    · rw [et] at ct
      obtain rfl : ok = false := by rw [← hok]; simp [et]
      obtain rfl := hz rfl
      clear inn hok hz hgp et e1
      go_enter Tryd.func14, Tryd.ntmps14
      go_wp2_with fail
      refine (cg _).mono ?_
      rintro e w1 ⟨rfl, g1⟩
      have HG1 : Hid (Old w w1) := Old.trans HG0.out g1
      have RC1 : Hid (Rc w1 w.heap.size p n r) := RC0.out.old g1
      clear g1
      have z10 := RC1.out.c0
      have z11 := RC1.out.c1
      have z12 := RC1.out.c2
      go_wp2_with fail
      refine (c1 _ _ (Rv.out.old HG1.out)).mono ?_
      rintro e w2 ⟨rfl, g2⟩
      clear z10 z11 z12
      have HG2 : Hid (Old w w2) := Old.trans HG1.out g2
      have RC2 : Hid (Rc w2 w.heap.size p n r) := RC1.out.old g2
      clear g2
      have z20 := RC2.out.c0
      have z21 := RC2.out.c1
      have z22 := RC2.out.c2
      go_wp2_with fail
      refine (ct _).mono ?_
      rintro e w3 ⟨rfl, rfl⟩
      clear z20 z21 z22
      have HG3 := HG2
      have RC3 := RC2
      go_wp2_with fail
      go_ret2
      exact ⟨_, rfl, HG3.out, own_nil _ _⟩
    rw [et] at ct
    obtain rfl : ok = true := by rw [← hok]; simp [e1, et]
    have IN := inn rfl
    clear inn hok hz hgp e1 et
    go_enter Tryd.func14, Tryd.ntmps14
    go_wp2_with fail
    refine (cg _).mono ?_
    rintro e w1 ⟨rfl, g1⟩
    have HG1 : Hid (Old w w1) := Old.trans HG0.out g1
    have RC1 : Hid (Rc w1 w.heap.size p n r) := RC0.out.old g1
    clear g1
    have z10 := RC1.out.c0
    have z11 := RC1.out.c1
    have z12 := RC1.out.c2
    go_wp2_with fail
    refine (c1 _ _ (Rv.out.old HG1.out)).mono ?_
    rintro e w2 ⟨rfl, g2⟩
    clear z10 z11 z12
    have HG2 : Hid (Old w w2) := Old.trans HG1.out g2
    have RC2 : Hid (Rc w2 w.heap.size p n r) := RC1.out.old g2
    clear g2
    have z20 := RC2.out.c0
    have z21 := RC2.out.c1
    have z22 := RC2.out.c2
    go_wp2_with fail
    refine (ct _).mono ?_
    rintro e w3 ⟨rfl, rfl⟩
    clear z20 z21 z22
    have HG3 := HG2
    have RC3 := RC2
    have z30 := RC3.out.c0
    have z31 := RC3.out.c1
    have z32 := RC3.out.c2
    go_wp2_with fail
    refine (IN _ _ (Rv.out.old HG3.out)).mono ?_
    rintro e w4 ⟨v', rfl, g, o⟩
    obtain ⟨a', cap', rfl⟩ := (Own.row o).slice
    have HO : Hid (Own w4 w.heap.size (.slice a' zs.length cap') zs) := Own.low o HG3.out.size
    have HG : Hid (Old w w4) := Old.trans HG3.out g
    clear g o
    go_wp2_with fail
    go_ret2
    exact ⟨_, rfl, HG.out, HO.out⟩
end Go.Proofs.YtpoogglplaeooaaDoor
/- Proved: how many noughts a ring's size has, the exponents of its points and their places, by the program and by the model. -/
namespace Go.Proofs.YtpoogglplaeooaaDoor
open Go.ChangeShapes Go.WideShapes Go.ChangeAt Go.RowKit
set_option linter.unusedVariables false
set_option linter.unusedSimpArgs false
theorem impl_exponent (N k : Nat) (w : World) (h : Sz4 N) (hk : k < N) (hT : TabW w) :
    Calls Tryd.prog 34 #[.int .i64 k, .int .i64 N] w fun e w' => e = .returned (.int .i64 ((2 * backN (lg N) k 0 + 1 : Nat) : Int)) ∧ w' = w := by
  have c1 := fun W (hT : TabW W) => impl_noughts N W h hT
  have c2 := fun W => impl_backN N k W h hk
  have hb := back_lt0 h k
  have hs := sz_bd h
  have HT : Hid (TabW w) := hT
  generalize backN (lg N) k 0 = x at *
  generalize lg N = L at *
  clear hT h
  go_enter Tryd.func34, Tryd.ntmps34
  go_wp2_with fail
  refine (c1 _ HT.out).mono ?_
  rintro e w1 ⟨rfl, rfl⟩
  go_wp2_with fail
  refine (c2 _).mono ?_
  rintro e w1 ⟨rfl, rfl⟩
  go_wp2_with fail
  go_ret
  exact ⟨by congr 1, rfl⟩
theorem impl_place (N m : Nat) (w : World) (h : Sz4 N) (hm : m < 2 * N) (hT : TabW w) :
    Calls Tryd.prog 33 #[.int .i64 m, .int .i64 N] w fun e w' => e = .returned (.int .i64 (backN (lg N) (m / 2) 0)) ∧ w' = w := by
  have c1 := fun W (hT : TabW W) => impl_noughts N W h hT
  have c2 := fun W => impl_backN N (m / 2) W h (by omega)
  have e : ((m / 2 : Nat) : Int) = (m : Int) / 2 := by omega
  rw [e] at c2
  have hs := sz_bd h
  have HT : Hid (TabW w) := hT
  generalize backN (lg N) (m / 2) 0 = x at *
  generalize lg N = L at *
  clear hT h e
  go_enter Tryd.func33, Tryd.ntmps33
  go_wp2_with fail
  refine (c1 _ HT.out).mono ?_
  rintro e w1 ⟨rfl, rfl⟩
  go_wp2_with fail
  refine (c2 _).mono ?_
  rintro e w1 ⟨rfl, rfl⟩
  go_wp2_with fail
  go_ret
  exact ⟨rfl, rfl⟩
end Go.Proofs.YtpoogglplaeooaaDoor
/- Proved: a polynomial turned, by the program and by the model: the same places are filled with the same numbers. -/
namespace Go.Proofs.YtpoogglplaeooaaDoor
open Go.ChangeShapes Go.WideShapes Go.ChangeAt Go.RowKit
set_option linter.unusedVariables false
/-- what has been filled behind k numbers -/
def trnS (P N t : Nat) (xs : List Nat) : Nat → List Int
  | 0 => List.replicate N 0
  | k + 1 => if k * t % (2 * N) < N then (trnS P N t xs k).set (k * t % (2 * N)) ((xs.getD k 0 : Nat) : Int) else (trnS P N t xs k).set (k * t % (2 * N) - N) ((-((xs.getD k 0 : Nat) : Int)) % (P : Int))
theorem trnS_len (P N t : Nat) (xs : List Nat) : ∀ k, (trnS P N t xs k).length = N
  | 0 => by simp [trnS]
  | k + 1 => by
    unfold trnS
    split <;> rw [List.length_set, trnS_len P N t xs k]
theorem trnS_lo (P N t : Nat) (xs : List Nat) (k e : Nat) (he : k * t % (2 * N) = e) (h : e < N) : trnS P N t xs (k + 1) = (trnS P N t xs k).set e ((xs.getD k 0 : Nat) : Int) := by
  subst he
  rw [trnS, if_pos h]
theorem trnS_hi (P N t : Nat) (xs : List Nat) (k e : Nat) (he : k * t % (2 * N) = e) (h : ¬ e < N) : trnS P N t xs (k + 1) = (trnS P N t xs k).set (e - N) ((-((xs.getD k 0 : Nat) : Int)) % (P : Int)) := by
  subst he
  rw [trnS, if_neg h]
theorem kt_bd (k t N : Nat) (hk : k < N) (hN : N ≤ 16) (ht : t < 2 * N) : k * t ≤ 512 := by
  have := Nat.mul_le_mul (show k ≤ 16 by omega) (show t ≤ 32 by omega)
  omega
set_option maxRecDepth 100000 in
set_option maxHeartbeats 800000 in
theorem impl_turned (P N R t : Nat) (xs : List Nat) (v : Value) (w : World) (hv : Row w v (toZ xs)) (hP : 2 ≤ P ∧ P ≤ 268435456) (hN : 2 ≤ N ∧ N ≤ 16) (la : xs.length = N) (ha : ∀ x ∈ xs, x < P) (ht : t < 2 * N) :
    Calls Tryd.prog 29 #[.agg #[.int .i64 P, .int .i64 N, .int .i64 R], v, .int .i64 t] w fun e w' => ∃ v', e = .returned v' ∧ Old w w' ∧ Own w' w.heap.size v' (trnS P N t xs N) := by
  obtain ⟨i0, hi, hz0, hz1, hz2⟩ := info_parts Tryd.infoInt
  obtain ⟨b1, o1, cap1, rfl, hb1, hc1⟩ := hv.atZ (by omega)
  rw [la] at hc1 ⊢
  have HC1 : Hid (∀ j, j < N → w.cell? ⟨b1, o1 + j, none⟩ = some (.int .i64 ((xs.getD j 0 : Nat) : Int))) := hc1
  have HA : Hid (∀ k, xs.getD k 0 < P) := fun k => getD_lt ha (by omega) k
  have HLO : Hid (∀ k e, k * t % (2 * N) = e → e < N → trnS P N t xs (k + 1) = (trnS P N t xs k).set e ((xs.getD k 0 : Nat) : Int)) := fun k e he h => trnS_lo P N t xs k e he h
  have HHI : Hid (∀ k e, k * t % (2 * N) = e → ¬ e < N → trnS P N t xs (k + 1) = (trnS P N t xs k).set (e - N) ((-((xs.getD k 0 : Nat) : Int)) % (P : Int))) := fun k e he h => trnS_hi P N t xs k e he h
  have HL : Hid (∀ k, (trnS P N t xs k).length = N) := fun k => trnS_len P N t xs k
  have H0 : Hid (trnS P N t xs 0 = List.replicate N 0) := rfl
  generalize trnS P N t xs = F at *
  clear hc1 hv la ha
  have RC0 : Hid (Rc (w.alloc (.cells #[.int .i64 P, .int .i64 N, .int .i64 R] 24)) w.heap.size P N R) := Rc.new w _ _ _
  have hpn : ¬ (2 * (N : Int)) = 0 := by omega
  have hpn2 : ¬ N = 0 := by omega
  go_enter Tryd.func29, Tryd.ntmps29
  go_wp2_with (at_make; refine wpList_make_full _ rfl _ _ 25 rfl (w.heap.size + 1) 3 i0 (.int .i64 0) 1 Tryd.underlying25 hi hz0 hz1 .i64 .i64 _ _ N rfl rfl rfl rfl (by rw [hz2]; omega) (by unfold maxLen; omega) (by simp) ?_; intro w1 hown hgrow; have z1 := (RC0.out.by_ hgrow (fun k hk => by cases hk)).c1)
  have HO : Hid (OwnI w1 (w.heap.size + 1) (w.heap.size + 1) N (F 0)) := by
    have e : (w.alloc (.cells #[.int .i64 P, .int .i64 N, .int .i64 R] 24)).heap.size = w.heap.size + 1 := by simp
    rw [made_ints, e] at hown
    show OwnI _ _ _ _ _
    rw [H0.out]
    exact hown
  have HG : Hid (Old (w.alloc (.cells #[.int .i64 P, .int .i64 N, .int .i64 R] 24)) w1) := Old.by_ (Old.refl _) hgrow (fun b hb => by cases hb)
  have HSZ : Hid ((w.alloc (.cells #[.int .i64 P, .int .i64 N, .int .i64 R] 24)).heap.size = w.heap.size + 1) := by show _ = _; simp
  clear z1
  clear hown hgrow
  go_loopw [8, 9, 15] (fun x y i W => ∃ k : Nat, k ≤ N ∧ i = .int .i64 k ∧ Hid (OwnI W (w.heap.size + 1) (w.heap.size + 1) N (F k)) ∧ Hid (Old (w.alloc (.cells #[.int .i64 P, .int .i64 N, .int .i64 R] 24)) W)) (fun _ _ i _ => N - (intOf i).toNat)
  case atStart => exact ⟨0, by omega, rfl, HO, HG⟩
  case round =>
    obtain ⟨k, hk, rfl, HO1, HG2⟩ := hrel
    clear HO HG
    have HG1 : Hid (Old w wr) := Old.trans ((Old.refl w).alloc _) HG2.out
    have RC2 : Hid (Rc wr w.heap.size P N R) := RC0.out.old HG2.out
    have z0 := RC2.out.c0
    have z1 := RC2.out.c1
    by_cases hlt : k < N
    · have d1 : decide ((k : Int) < (N : Int)) = true := by simp; omega
      have i1 : (k : Int) < (N : Int) := by omega
      have c1 : wr.cell? ⟨b1, o1 + k, none⟩ = some (.int .i64 ((xs.getD k 0 : Nat) : Int)) := (HG1.out.cell (p := ⟨b1, o1 + k, none⟩) hb1).trans (HC1.out k hlt)
      have hx := HA.out k
      have hkt := kt_bd k t N hlt hN.2 ht
      have e1 : (k : Int) * (t : Int) = ((k * t : Nat) : Int) := by simp
      have he : k * t % (2 * N) < 2 * N := Nat.mod_lt _ (by omega)
      have e2 : ((k * t : Nat) : Int) % (2 * (N : Int)) = ((k * t % (2 * N) : Nat) : Int) := by simp
      have HLO1 := fun h => HLO.out k _ rfl h
      have HHI1 := fun h => HHI.out k _ rfl h
      have hlen := HL.out k
      generalize xs.getD k 0 = x at *
      generalize k * t = m at *
      generalize m % (2 * N) = e at *
      by_cases hlo : e < N
      · have d2 : decide ((e : Int) < (N : Int)) = true := by simp; omega
        have i2 : (e : Int) < (N : Int) := by omega
        have HS : Hid (F (k + 1) = (F k).set e (x : Int)) := HLO1 hlo
        clear HLO1 HHI1
        have c3 := HO1.out.get hlen e hlo
        have c4 := HO1.out.free e
        generalize (F k).getD e 0 = oldv at *
        have HP : Hid (OwnI (wr.setCell ⟨w.heap.size + 1, e, none⟩ (.int .i64 (x : Int))) (w.heap.size + 1) (w.heap.size + 1) N (F (k + 1))) := by
          show OwnI _ _ _ _ _
          rw [HS.out]
          exact HO1.out.put e _
        have HN2 : Hid (Old (w.alloc (.cells #[.int .i64 P, .int .i64 N, .int .i64 R] 24)) (wr.setCell ⟨w.heap.size + 1, e, none⟩ (.int .i64 (x : Int)))) := HG2.out.own (by have := HSZ.out; simp; try omega) _
        clear HS
        go_wp2_with fail
        exact ⟨⟨k + 1, by omega, by go_num, HP, HN2⟩, by simp [intOf]; omega⟩
      · have d2 : decide ((e : Int) < (N : Int)) = false := by simp; omega
        have i2 : (e : Int) - (N : Int) < (N : Int) := by omega
        obtain ⟨f, hf⟩ : ∃ f, f = e - N := ⟨_, rfl⟩
        have ef : (e : Int) - (N : Int) = (f : Int) := by omega
        have hfl : f < N := by omega
        have i3 : (f : Int) < (N : Int) := by omega
        have HS : Hid (F (k + 1) = (F k).set f ((-(x : Int)) % (P : Int))) := by rw [hf]; exact HHI1 hlo
        clear HLO1 HHI1 hf
        have c3 := HO1.out.get hlen f hfl
        have c4 := HO1.out.free f
        have cr := fun W => impl_residueOf (-(x : Int)) (P : Int) W ⟨by omega, by omega⟩ ⟨by omega, by omega⟩
        have ew1 : IntKind.i64.wrap (f : Int) = (f : Int) := by rw [IntKind.wrap_i64]; omega
        have ew2 : IntKind.i64.wrap (-(x : Int)) = -(x : Int) := by rw [IntKind.wrap_i64]; omega
        have ew3 : IntKind.i64.wrap ((e : Int) - (N : Int)) = (f : Int) := by rw [IntKind.wrap_i64]; omega
        generalize (F k).getD f 0 = oldv at *
        generalize (-(x : Int)) % (P : Int) = y at *
        have HP : Hid (OwnI (wr.setCell ⟨w.heap.size + 1, f, none⟩ (.int .i64 y)) (w.heap.size + 1) (w.heap.size + 1) N (F (k + 1))) := by
          show OwnI _ _ _ _ _
          rw [HS.out]
          exact HO1.out.put f _
        have HN2 : Hid (Old (w.alloc (.cells #[.int .i64 P, .int .i64 N, .int .i64 R] 24)) (wr.setCell ⟨w.heap.size + 1, f, none⟩ (.int .i64 y))) := HG2.out.own (by have := HSZ.out; simp; try omega) _
        clear HS
        go_wp2_with fail
        go_region_with (go_at_call 53; refine (cr _).mono ?_; rintro en w5 ⟨rfl, rfl⟩)
        all_goals
          go_wp2_with fail
          exact ⟨⟨k + 1, by omega, by go_num, HP.out, HN2.out.drewN 1⟩, by simp [intOf]; omega⟩
    · have d1 : decide ((k : Int) < (N : Int)) = false := by simp; omega
      obtain rfl : k = N := by omega
      have HF : Hid (Own wr (w.heap.size + 1) (.slice (some ⟨w.heap.size + 1, 0, none⟩) k k) (F k)) := HO1.out.own (HL.out k)
      go_wp2_with fail
      go_ret
      exact ⟨_, rfl, HG1.out, HF.out.low (by omega)⟩
end Go.Proofs.YtpoogglplaeooaaDoor
/- Proved: a polynomial turned, by the program and by the model: the same places are filled with the same numbers. -/
namespace Go.Proofs.YtpoogglplaeooaaDoor
open Go.ChangeShapes Go.WideShapes Go.ChangeAt Go.RowKit
set_option linter.unusedVariables false
set_option maxRecDepth 100000 in
set_option maxHeartbeats 800000 in
theorem spec_turned (P N R t : Nat) (xs : List Nat) (v : Value) (w : World) (hv : Row w v (toZ xs)) (hP : 2 ≤ P ∧ P ≤ 268435456) (hN : 2 ≤ N ∧ N ≤ 16) (la : xs.length = N) (ha : ∀ x ∈ xs, x < P) (ht : t < 2 * N) :
    Calls Tryd.prog 31 #[.int .i64 P, .int .i64 N, v, .int .i64 t] w fun e w' => ∃ v', e = .returned v' ∧ Old w w' ∧ Own w' w.heap.size v' (trnS P N t xs N) := by
  obtain ⟨i0, hi, hz0, hz1, hz2⟩ := info_parts Tryd.infoInt
  obtain ⟨b1, o1, cap1, rfl, hb1, hc1⟩ := hv.atZ (by omega)
  rw [la] at hc1 ⊢
  have HC1 : Hid (∀ j, j < N → w.cell? ⟨b1, o1 + j, none⟩ = some (.int .i64 ((xs.getD j 0 : Nat) : Int))) := hc1
  have HA : Hid (∀ k, xs.getD k 0 < P) := fun k => getD_lt ha (by omega) k
  have HLO : Hid (∀ k e, k * t % (2 * N) = e → e < N → trnS P N t xs (k + 1) = (trnS P N t xs k).set e ((xs.getD k 0 : Nat) : Int)) := fun k e he h => trnS_lo P N t xs k e he h
  have HHI : Hid (∀ k e, k * t % (2 * N) = e → ¬ e < N → trnS P N t xs (k + 1) = (trnS P N t xs k).set (e - N) ((-((xs.getD k 0 : Nat) : Int)) % (P : Int))) := fun k e he h => trnS_hi P N t xs k e he h
  have HL : Hid (∀ k, (trnS P N t xs k).length = N) := fun k => trnS_len P N t xs k
  have H0 : Hid (trnS P N t xs 0 = List.replicate N 0) := rfl
  generalize trnS P N t xs = F at *
  clear hc1 hv la ha
  have hpn : ¬ (2 * (N : Int)) = 0 := by omega
  have hpn2 : ¬ N = 0 := by omega
  go_enter Tryd.func31, Tryd.ntmps31
  go_wp2_with (at_make; refine wpList_make_full _ rfl _ _ 25 rfl (w.heap.size) 3 i0 (.int .i64 0) 1 Tryd.underlying25 hi hz0 hz1 .i64 .i64 _ _ N rfl rfl rfl rfl (by rw [hz2]; omega) (by unfold maxLen; omega) (by simp) ?_; intro w1 hown hgrow; skip)
  have HO : Hid (OwnI w1 (w.heap.size) (w.heap.size) N (F 0)) := by
    rw [made_ints] at hown
    show OwnI _ _ _ _ _
    rw [H0.out]
    exact hown
  have HG : Hid (Old w w1) := Old.by_ (Old.refl _) hgrow (fun b hb => by cases hb)
  clear hown hgrow
  go_loopw [10, 11, 12, 17] (fun x y z i W => ∃ k : Nat, k ≤ N ∧ i = .int .i64 k ∧ Hid (OwnI W (w.heap.size) (w.heap.size) N (F k)) ∧ Hid (Old w W)) (fun _ _ _ i _ => N - (intOf i).toNat)
  case atStart => exact ⟨0, by omega, rfl, HO, HG⟩
  case round =>
    obtain ⟨k, hk, rfl, HO1, HG2⟩ := hrel
    clear HO HG
    have HG1 : Hid (Old w wr) := HG2.out
    by_cases hlt : k < N
    · have d1 : decide ((k : Int) < (N : Int)) = true := by simp; omega
      have i1 : (k : Int) < (N : Int) := by omega
      have c1 : wr.cell? ⟨b1, o1 + k, none⟩ = some (.int .i64 ((xs.getD k 0 : Nat) : Int)) := (HG1.out.cell (p := ⟨b1, o1 + k, none⟩) hb1).trans (HC1.out k hlt)
      have hx := HA.out k
      have hkt := kt_bd k t N hlt hN.2 ht
      have e1 : (k : Int) * (t : Int) = ((k * t : Nat) : Int) := by simp
      have he : k * t % (2 * N) < 2 * N := Nat.mod_lt _ (by omega)
      have e2 : ((k * t : Nat) : Int) % (2 * (N : Int)) = ((k * t % (2 * N) : Nat) : Int) := by simp
      have HLO1 := fun h => HLO.out k _ rfl h
      have HHI1 := fun h => HHI.out k _ rfl h
      have hlen := HL.out k
      generalize xs.getD k 0 = x at *
      generalize k * t = m at *
      generalize m % (2 * N) = e at *
      by_cases hlo : e < N
      · have d2 : decide ((e : Int) < (N : Int)) = true := by simp; omega
        have i2 : (e : Int) < (N : Int) := by omega
        have HS : Hid (F (k + 1) = (F k).set e (x : Int)) := HLO1 hlo
        clear HLO1 HHI1
        have c3 := HO1.out.get hlen e hlo
        have c4 := HO1.out.free e
        generalize (F k).getD e 0 = oldv at *
        have HP : Hid (OwnI (wr.setCell ⟨w.heap.size, e, none⟩ (.int .i64 (x : Int))) (w.heap.size) (w.heap.size) N (F (k + 1))) := by
          show OwnI _ _ _ _ _
          rw [HS.out]
          exact HO1.out.put e _
        have HN2 : Hid (Old w (wr.setCell ⟨w.heap.size, e, none⟩ (.int .i64 (x : Int)))) := HG2.out.own (by simp) _
        clear HS
        go_wp2_with fail
        exact ⟨⟨k + 1, by omega, by go_num, HP, HN2⟩, by simp [intOf]; omega⟩
      · have d2 : decide ((e : Int) < (N : Int)) = false := by simp; omega
        have i2 : (e : Int) - (N : Int) < (N : Int) := by omega
        obtain ⟨f, hf⟩ : ∃ f, f = e - N := ⟨_, rfl⟩
        have ef : (e : Int) - (N : Int) = (f : Int) := by omega
        have hfl : f < N := by omega
        have i3 : (f : Int) < (N : Int) := by omega
        have HS : Hid (F (k + 1) = (F k).set f ((-(x : Int)) % (P : Int))) := by rw [hf]; exact HHI1 hlo
        clear HLO1 HHI1 hf
        have c3 := HO1.out.get hlen f hfl
        have c4 := HO1.out.free f
        have cr := fun W => spec_mod (-(x : Int)) (P : Int) W ⟨by omega, by omega⟩ ⟨by omega, by omega⟩
        have ew1 : IntKind.i64.wrap (f : Int) = (f : Int) := by rw [IntKind.wrap_i64]; omega
        have ew2 : IntKind.i64.wrap (-(x : Int)) = -(x : Int) := by rw [IntKind.wrap_i64]; omega
        have ew3 : IntKind.i64.wrap ((e : Int) - (N : Int)) = (f : Int) := by rw [IntKind.wrap_i64]; omega
        generalize (F k).getD f 0 = oldv at *
        generalize (-(x : Int)) % (P : Int) = y at *
        have HP : Hid (OwnI (wr.setCell ⟨w.heap.size, f, none⟩ (.int .i64 y)) (w.heap.size) (w.heap.size) N (F (k + 1))) := by
          show OwnI _ _ _ _ _
          rw [HS.out]
          exact HO1.out.put f _
        have HN2 : Hid (Old w (wr.setCell ⟨w.heap.size, f, none⟩ (.int .i64 y))) := HG2.out.own (by simp) _
        clear HS
        go_wp2_with fail
        refine (cr _).mono ?_
        rintro en w5 ⟨rfl, rfl⟩
        go_wp2_with fail
        exact ⟨⟨k + 1, by omega, by go_num, HP, HN2⟩, by simp [intOf]; omega⟩
    · have d1 : decide ((k : Int) < (N : Int)) = false := by simp; omega
      obtain rfl : k = N := by omega
      have HF : Hid (Own wr (w.heap.size) (.slice (some ⟨w.heap.size, 0, none⟩) k k) (F k)) := HO1.out.own (HL.out k)
      go_wp2_with fail
      go_ret
      exact ⟨_, rfl, HG1.out, HF.out.low (by omega)⟩
end Go.Proofs.YtpoogglplaeooaaDoor
/- Proved: the statement on TurnRing at every ring, list and turn, in a world in which the tables are laid. -/
namespace Go.Proofs.YtpoogglplaeooaaDoor
open Go.ChangeShapes Go.WideShapes Go.ChangeAt Go.RowKit
set_option linter.unusedVariables false
theorem turnB_yes {N : Nat} {t : Int} (h : turnB N t = true) : ∃ T : Nat, t = T ∧ T < 2 * N := by
  simp only [turnB, Bool.and_eq_true, decide_eq_true_eq] at h
  exact ⟨t.toNat, by omega, by omega⟩
end Go.Proofs.YtpoogglplaeooaaDoor
/- Proved: the program's table of a turn: at each place the place of the point's power; none where the size or the turn is not as said. -/
namespace Go.Proofs.YtpoogglplaeooaaDoor
open Go.ChangeShapes Go.WideShapes Go.ChangeAt Go.RowKit
set_option linter.unusedVariables false
set_option linter.unusedSimpArgs false
def tabN (N t : Nat) : List Nat := (List.range N).map (fun k => backN (lg N) ((2 * backN (lg N) k 0 + 1) * t % (2 * N) / 2) 0)
theorem tabN_len (N t : Nat) : (tabN N t).length = N := by simp [tabN]
theorem tabN_get (N t k : Nat) (h : k < N) : (tabN N t).getD k 0 = backN (lg N) ((2 * backN (lg N) k 0 + 1) * t % (2 * N) / 2) 0 := by simp [tabN, List.getD, h]
theorem et_bd (x t N : Nat) (hx : x < N) (hN : N ≤ 16) (ht : t < 2 * N) : (2 * x + 1) * t ≤ 1056 := by
  have := Nat.mul_le_mul (show 2 * x + 1 ≤ 33 by omega) (show t ≤ 32 by omega)
  omega
set_option maxRecDepth 100000 in
set_option maxHeartbeats 1000000 in
theorem impl_TurnTable_yes (N t : Nat) (w : World) (hT : TabW w) (h : Sz4 N) (ht : turnB N t = true) (htl : t < 2 * N) :
    Calls Tryd.prog 15 #[.int .i64 N, .int .i64 t] w fun e w' => ∃ v', e = .returned (.tuple #[v', .bool true]) ∧ Old w w' ∧ Own w' w.heap.size v' (toZ (tabN N t)) := by
  obtain ⟨i0, hi, hz0, hz1, hz2⟩ := info_parts Tryd.infoInt
  have hs := sz_bd h
  have c0 := fun W => impl_isSize N W
  rw [rgB_mk (by omega)] at c0
  have c1 := fun W => impl_isTurn t N W (by omega) (by omega)
  rw [ht] at c1
  have HEX : Hid (∀ k, k < N → ∀ W, TabW W → Calls Tryd.prog 34 #[.int .i64 k, .int .i64 N] W fun e w' => e = .returned (.int .i64 ((2 * backN (lg N) k 0 + 1 : Nat) : Int)) ∧ w' = W) := fun k hk W hT => impl_exponent N k W h hk hT
  have HPL : Hid (∀ m, m < 2 * N → ∀ W, TabW W → Calls Tryd.prog 33 #[.int .i64 m, .int .i64 N] W fun e w' => e = .returned (.int .i64 (backN (lg N) (m / 2) 0)) ∧ w' = W) := fun m hm W hT => impl_place N m W h hm hT
  have HE : Hid (∀ k, k < N → (toZ (tabN N t)).getD k 0 = ((backN (lg N) ((2 * backN (lg N) k 0 + 1) * t % (2 * N) / 2) 0 : Nat) : Int)) := fun k hk => by rw [toZ_get, tabN_get N t k hk]
  have hzl : (toZ (tabN N t)).length = N := by rw [toZ_len, tabN_len]
  have HBL : Hid (∀ k, backN (lg N) k 0 < N) := fun k => back_lt0 h k
  generalize toZ (tabN N t) = zs at *
  have HT : Hid (TabW w) := hT
  clear ht h hT
  have hpn : ¬ (2 * (N : Int)) = 0 := by omega
  have hpn2 : ¬ N = 0 := by omega
  go_enter Tryd.func15, Tryd.ntmps15
  go_wp2_with fail
  refine (c0 _).mono ?_
  rintro e w1 ⟨rfl, hw⟩
  obtain rfl : w = w1 := hw.symm
  go_wp2_with fail
  refine (c1 _).mono ?_
  rintro e w1 ⟨rfl, hw⟩
  obtain rfl : w = w1 := hw.symm
  go_wp2_with (at_make; refine wpList_make_full _ rfl _ _ 25 rfl w.heap.size 3 i0 (.int .i64 0) 1 Tryd.underlying25 hi hz0 hz1 .i64 .i64 _ _ N rfl rfl rfl rfl (by rw [hz2]; omega) (by unfold maxLen; omega) (by simp) ?_; intro w1 hown hgrow)
  have HO : Hid (OwnI w1 w.heap.size w.heap.size N (List.replicate N 0)) := by
    rw [made_ints] at hown
    exact hown
  have HG : Hid (Old w w1) := Old.by_ (Old.refl _) hgrow (fun b hb => by cases hb)
  clear hown hgrow
  go_loopw [7, 20] (fun x i W => ∃ k : Nat, k ≤ N ∧ i = .int .i64 k ∧ Hid (OwnI W w.heap.size w.heap.size N (fillN zs k)) ∧ Hid (Old w W)) (fun _ i _ => N - (intOf i).toNat)
  case atStart => exact ⟨0, by omega, rfl, (by show OwnI _ _ _ _ _; rw [fillN_zero, hzl]; exact HO.out), HG⟩
  case round =>
    obtain ⟨k, hk, rfl, HO1, HG2⟩ := hrel
    clear HO HG
    by_cases hlt : k < N
    · have d1 : decide ((k : Int) < (N : Int)) = true := by simp; omega
      have i1 : (k : Int) < (N : Int) := by omega
      have HT2 : Hid (TabW wr) := HT.out.old HG2.out
      have cx := HEX.out k hlt
      have hx := HBL.out k
      have HX : Hid (zs.getD k 0 = _) := HE.out k hlt
      generalize backN (lg N) k 0 = x at *
      have hb := et_bd x t N hx hs.2 htl
      have hm : (2 * x + 1) * t % (2 * N) < 2 * N := Nat.mod_lt _ (by omega)
      have cp := HPL.out _ hm
      have e1 : ((2 * x + 1 : Nat) : Int) * (t : Int) = (((2 * x + 1) * t : Nat) : Int) := by simp
      have e2 : (((2 * x + 1) * t : Nat) : Int) % (2 * (N : Int)) = (((2 * x + 1) * t % (2 * N) : Nat) : Int) := by simp
      generalize (2 * x + 1) * t = m at *
      generalize 2 * x + 1 = y at *
      generalize m % (2 * N) = q at *
      generalize backN (lg N) (q / 2) 0 = z at *
      have c3 := HO1.out.get (fillN_len zs k (by omega) |>.trans hzl) k hlt
      have c4 := HO1.out.free k
      generalize (fillN zs k).getD k 0 = oldv at *
      have HP : Hid (OwnI (wr.setCell ⟨w.heap.size, k, none⟩ (.int .i64 (z : Int))) w.heap.size w.heap.size N (fillN zs (k + 1))) := by
        have := HO1.out.put k (z : Int)
        rw [← HX.out, fillN_set zs k (by omega)] at this
        rw [← HX.out]
        exact this
      have HN2 : Hid (Old w (wr.setCell ⟨w.heap.size, k, none⟩ (.int .i64 (z : Int)))) := HG2.out.own (by simp) _
      go_wp2_with fail
      refine (cx _ HT2.out).mono ?_
      rintro e w2 ⟨rfl, hw⟩
      obtain rfl : wr = w2 := hw.symm
      go_wp2_with fail
      refine (cp _ HT2.out).mono ?_
      rintro e w2 ⟨rfl, hw⟩
      obtain rfl : wr = w2 := hw.symm
      go_wp2_with fail
      exact ⟨⟨k + 1, by omega, by go_num, HP, HN2⟩, by simp [intOf]; omega⟩
    · have d1 : decide ((k : Int) < (N : Int)) = false := by simp; omega
      obtain rfl : k = N := by omega
      have HF : Hid (Own wr w.heap.size (.slice (some ⟨w.heap.size, 0, none⟩) k k) zs) := by
        have := HO1.out.own ((fillN_len zs k (by omega)).trans hzl)
        rw [show fillN zs k = zs by rw [← hzl]; exact fillN_all zs] at this
        exact this
      go_wp2_with fail
      go_ret2
      exact ⟨_, rfl, HG2.out, HF.out⟩
end Go.Proofs.YtpoogglplaeooaaDoor
/- Proved: the mathematics of a turn of a row that is ahead: the transform takes back the inverse transform, and what a turned polynomial is worth at a point is what the polynomial is worth at another point; no function of the program. -/
namespace Go.Proofs.YtpoogglplaeooaaDoor
open M1
set_option linter.unusedVariables false
set_option linter.unusedSimpArgs false
theorem ev_sum (f : Nat → Int) (x : Int) : ∀ n, evI f x n = sumK (fun i => f i * x ^ i) 0 n
  | 0 => by simp [evI, sumK]
  | n + 1 => by
    rw [evI, sumK, ev_sum f x n, Nat.zero_add]
theorem sumK_zero (a : Nat) : ∀ n, sumK (fun _ => (0 : Int)) a n = 0
  | 0 => rfl
  | n + 1 => by rw [sumK, sumK_zero a n]; rfl
theorem sumK_swap (g : Nat → Nat → Int) (m : Nat) : ∀ n, sumK (fun i => sumK (fun j => g i j) 0 m) 0 n = sumK (fun j => sumK (fun i => g i j) 0 n) 0 m
  | 0 => by
    have : (fun j => sumK (fun i => g i j) 0 0) = fun _ => (0 : Int) := rfl
    rw [this, sumK_zero]
    rfl
  | n + 1 => by
    rw [sumK, sumK_swap g m n]
    have : (fun j => sumK (fun i => g i j) 0 (n + 1)) = fun j => sumK (fun i => g i j) 0 n + g (0 + n) j := rfl
    rw [this, sumK_plus]
theorem sumK_delta (c : Nat → Int) (k : Nat) : ∀ n, sumK (fun j => if j = k then c j else 0) 0 n = if k < n then c k else 0
  | 0 => by simp [sumK]
  | n + 1 => by
    rw [sumK, sumK_delta c k n, Nat.zero_add]
    by_cases h : n = k
    · subst h
      rw [if_neg (by omega), if_pos rfl, if_pos (by omega), Int.zero_add]
    · rw [if_neg h, Int.add_zero]
      by_cases h1 : k < n
      · rw [if_pos h1, if_pos (by omega)]
      · rw [if_neg h1, if_neg (by omega)]
theorem sumK_mulL (f : Nat → Int) (c : Int) (a : Nat) : ∀ n, sumK (fun k => c * f k) a n = c * sumK f a n
  | 0 => by simp [sumK]
  | n + 1 => by rw [sumK, sumK_mulL f c a n, sumK, Int.mul_add]
/-- a row of powers whose terms take each other away -/
theorem geo {P N T : Nat} (t1 : Cg P ((T : Int) ^ (2 * N)) 1) (t2 : Cg P ((T : Int) ^ N) (-1)) (E h : Nat) (h0 : 0 < h) (hm : N % (2 * h) = 0) (he : E * h % (2 * N) = N) : Cg P (sumK (fun i => (T : Int) ^ (E * i)) 0 N) 0 := by
  have e : N = N / (2 * h) * (2 * h) := by
    have := Nat.div_add_mod N (2 * h)
    rw [hm, Nat.add_zero, Nat.mul_comm] at this
    exact this.symm
  have c0 : Cg P ((T : Int) ^ (E * h)) (-1) := (pow_per t1 _ _ he).trans t2
  have key := sumK_pairs (P := P) (fun i => (T : Int) ^ (E * i)) h (N / (2 * h)) (fun J i hJ hi => by
    show Cg P ((T : Int) ^ (E * (J * (2 * h) + h + i))) (-((T : Int) ^ (E * (J * (2 * h) + i))))
    rw [show E * (J * (2 * h) + h + i) = E * (J * (2 * h) + i) + E * h by rw [← Nat.mul_add]; congr 1; omega, Int.pow_add]
    have := (Cg.refl (P : Int) ((T : Int) ^ (E * (J * (2 * h) + i)))).mul c0
    rw [Int.mul_neg, Int.mul_one] at this
    exact this) (N / (2 * h)) (Nat.le_refl _)
  rw [← e] at key
  exact key
def hhN (N E : Nat) : Nat := if E * 1 % (2 * N) = N then 1 else if E * 2 % (2 * N) = N then 2 else if E * 4 % (2 * N) = N then 4 else 8
def ejk (N j k : Nat) : Nat := (2 * N - 1) * (2 * backN (lg N) j 0 + 1) + (2 * backN (lg N) k 0 + 1)
def geoB (N j k : Nat) : Bool := decide (N % (2 * hhN N (ejk N j k)) = 0) && decide (ejk N j k * hhN N (ejk N j k) % (2 * N) = N)
theorem geo2 : ∀ j, j < 2 → ∀ k, k < 2 → j ≠ k → geoB 2 j k = true := by decide +kernel
theorem geo4 : ∀ j, j < 4 → ∀ k, k < 4 → j ≠ k → geoB 4 j k = true := by decide +kernel
theorem geo8 : ∀ j, j < 8 → ∀ k, k < 8 → j ≠ k → geoB 8 j k = true := by decide +kernel
theorem geo16 : ∀ j, j < 16 → ∀ k, k < 16 → j ≠ k → geoB 16 j k = true := by decide +kernel
theorem geo_all {N : Nat} (h : Sz4 N) (j k : Nat) (hj : j < N) (hk : k < N) (hn : j ≠ k) : geoB N j k = true := by
  rcases h with rfl | rfl | rfl | rfl
  · exact geo2 j hj k hk hn
  · exact geo4 j hj k hk hn
  · exact geo8 j hj k hk hn
  · exact geo16 j hj k hk hn
theorem hhN_pos (N E : Nat) : 0 < hhN N E := by unfold hhN; split <;> (try split) <;> (try split) <;> omega
theorem inv_as_pow {P N R B : Nat} (hN : 1 ≤ N) (r1 : Cg P ((R : Int) ^ (2 * N)) 1) (hB : Cg P ((R : Int) * (B : Int)) 1) : Cg P (B : Int) ((R : Int) ^ (2 * N - 1)) := by
  have h1 := hB.mul (Cg.refl (P : Int) ((R : Int) ^ (2 * N - 1)))
  rw [Int.one_mul] at h1
  have h2 := r1.mul (Cg.refl (P : Int) (B : Int))
  rw [Int.one_mul] at h2
  refine h2.symm.trans (Cg.trans ?_ h1)
  have e : (R : Int) ^ (2 * N) = (R : Int) ^ (2 * N - 1) * R := by
    rw [← Int.pow_succ]
    congr 1
    omega
  rw [e]
  exact ⟨0, by grind⟩
/-- the sum over the numbers takes back the value at one point -/
theorem col_sum {P N R B : Nat} (hS : Sz4 N) (r1 : Cg P ((R : Int) ^ (2 * N)) 1) (r2 : Cg P ((R : Int) ^ N) (-1)) (hB : Cg P ((R : Int) * (B : Int)) 1) (j k : Nat) (hj : j < N) (hk : k < N) :
    Cg P (sumK (fun i => (B : Int) ^ ((2 * backN (lg N) j 0 + 1) * i) * ((R : Int) ^ (2 * backN (lg N) k 0 + 1)) ^ i) 0 N) (if j = k then (N : Int) else 0) := by
  have hs := sz_bd hS
  have hb := inv_as_pow (by omega) r1 hB
  have h1 : Cg P (sumK (fun i => (B : Int) ^ ((2 * backN (lg N) j 0 + 1) * i) * ((R : Int) ^ (2 * backN (lg N) k 0 + 1)) ^ i) 0 N) (sumK (fun i => (R : Int) ^ (ejk N j k * i)) 0 N) := by
    refine sumK_cg 0 N (fun i hi => ?_)
    rw [Nat.zero_add]
    have h2 := (hb.pow ((2 * backN (lg N) j 0 + 1) * i)).mul (Cg.refl (P : Int) (((R : Int) ^ (2 * backN (lg N) k 0 + 1)) ^ i))
    have e : ((R : Int) ^ (2 * N - 1)) ^ ((2 * backN (lg N) j 0 + 1) * i) * ((R : Int) ^ (2 * backN (lg N) k 0 + 1)) ^ i = (R : Int) ^ (ejk N j k * i) := by
      rw [← Int.pow_mul, ← Int.pow_mul, ← Int.pow_add]
      congr 1
      unfold ejk
      generalize 2 * backN (lg N) j 0 + 1 = ej
      generalize 2 * backN (lg N) k 0 + 1 = ek
      rw [Nat.add_mul, Nat.mul_assoc]
    rw [e] at h2
    exact h2
  refine h1.trans ?_
  by_cases hjk : j = k
  · subst hjk
    rw [if_pos rfl]
    have h3 : Cg P (sumK (fun i => (R : Int) ^ (ejk N j j * i)) 0 N) (sumK (fun _ => (1 : Int)) 0 N) := by
      refine sumK_cg 0 N (fun i hi => ?_)
      rw [Nat.zero_add]
      have e : ejk N j j * i = 2 * N * ((2 * backN (lg N) j 0 + 1) * i) := by
        unfold ejk
        rw [show (2 * N - 1) * (2 * backN (lg N) j 0 + 1) + (2 * backN (lg N) j 0 + 1) = 2 * N * (2 * backN (lg N) j 0 + 1) by
          obtain ⟨M, hM⟩ : ∃ M, 2 * N = M + 1 := ⟨2 * N - 1, by omega⟩
          rw [hM, Nat.add_sub_cancel, Nat.add_mul, Nat.one_mul], Nat.mul_assoc]
      rw [e, Int.pow_mul]
      have := r1.pow ((2 * backN (lg N) j 0 + 1) * i)
      rw [Int.one_pow] at this
      exact this
    rw [sumK_const, Int.mul_one] at h3
    exact h3
  · rw [if_neg hjk]
    have hg := geo_all hS j k hj hk hjk
    unfold geoB at hg
    rw [Bool.and_eq_true] at hg
    exact geo r1 r2 (ejk N j k) (hhN N (ejk N j k)) (hhN_pos _ _) (of_decide_eq_true hg.1) (of_decide_eq_true hg.2)
/-- the transform takes back the inverse -/
theorem fwd_inv (P N R : Nat) (xs : List Nat) (hS : Sz4 N) (hl : xs.length = N) (hP : 2 ≤ P) (ho : P % 2 = 1) (hlt : ∀ x ∈ xs, x < P) (r1 : Cg P ((R : Int) ^ (2 * N)) 1) (r2 : Cg P ((R : Int) ^ N) (-1)) : fwdS P N R (invL P N R xs) = xs := by
  have hs := sz_bd hS
  refine list_eq (by rw [fwdS_len, hl]) (fun k hk => ?_)
  rw [hl] at hk
  have hB := inv_root (N := N) hP (by omega) r1
  generalize hBe : invM R P = B at hB
  generalize hMe : invM (N % P) P = M
  have hM := inv_size (P := P) hS hP ho
  rw [hMe] at hM
  have h1 := fwd_ev P N R (invL P N R xs) k hk
  have h2 : Cg P (evI (fun i => (((invL P N R xs).getD i 0 : Nat) : Int)) ((R : Int) ^ (2 * backN (lg N) k 0 + 1)) N) (evI (fun i => sumK (fun j => ((xs.getD j 0 : Nat) : Int) * (B : Int) ^ ((2 * backN (lg N) j 0 + 1) * i)) 0 N * (M : Int)) ((R : Int) ^ (2 * backN (lg N) k 0 + 1)) N) := by
    refine evI_cg _ N (fun i hi => ?_)
    rw [invL_get P N R xs i hi, hBe, hMe]
    refine (Cg.mod P _).trans ?_
    rw [Int.natCast_mul]
    refine Cg.mul ((invS_sum P B (ptsN N) xs i N).trans ?_) (Cg.refl _ _)
    refine sumK_cg 0 N (fun j hj => ?_)
    rw [Nat.zero_add, ptsN_get N j hj]
    exact Cg.refl _ _
  have h3 : evI (fun i => sumK (fun j => ((xs.getD j 0 : Nat) : Int) * (B : Int) ^ ((2 * backN (lg N) j 0 + 1) * i)) 0 N * (M : Int)) ((R : Int) ^ (2 * backN (lg N) k 0 + 1)) N = sumK (fun j => ((xs.getD j 0 : Nat) : Int) * (M : Int) * sumK (fun i => (B : Int) ^ ((2 * backN (lg N) j 0 + 1) * i) * ((R : Int) ^ (2 * backN (lg N) k 0 + 1)) ^ i) 0 N) 0 N := by
    rw [ev_sum]
    have e1 : (fun i => sumK (fun j => ((xs.getD j 0 : Nat) : Int) * (B : Int) ^ ((2 * backN (lg N) j 0 + 1) * i)) 0 N * (M : Int) * ((R : Int) ^ (2 * backN (lg N) k 0 + 1)) ^ i) = fun i => sumK (fun j => ((xs.getD j 0 : Nat) : Int) * (M : Int) * ((B : Int) ^ ((2 * backN (lg N) j 0 + 1) * i) * ((R : Int) ^ (2 * backN (lg N) k 0 + 1)) ^ i)) 0 N := by
      funext i
      rw [Int.mul_assoc, ← sumK_mul]
      congr 1
      funext j
      grind
    rw [e1, sumK_swap]
    congr 1
    funext j
    rw [sumK_mulL]
  rw [h3] at h2
  have h4 : Cg P (sumK (fun j => ((xs.getD j 0 : Nat) : Int) * (M : Int) * sumK (fun i => (B : Int) ^ ((2 * backN (lg N) j 0 + 1) * i) * ((R : Int) ^ (2 * backN (lg N) k 0 + 1)) ^ i) 0 N) 0 N) (sumK (fun j => if j = k then ((xs.getD j 0 : Nat) : Int) * (M : Int) * (N : Int) else 0) 0 N) := by
    refine sumK_cg 0 N (fun j hj => ?_)
    rw [Nat.zero_add]
    have := (Cg.refl (P : Int) (((xs.getD j 0 : Nat) : Int) * (M : Int))).mul (col_sum hS r1 r2 hB j k hj hk)
    refine this.trans ?_
    by_cases hjk : j = k
    · rw [if_pos hjk, if_pos hjk]
      exact Cg.refl _ _
    · rw [if_neg hjk, if_neg hjk, Int.mul_zero]
      exact Cg.refl _ _
  rw [sumK_delta, if_pos hk] at h4
  have h5 := hM.mul (Cg.refl (P : Int) ((xs.getD k 0 : Nat) : Int))
  rw [Int.one_mul] at h5
  have h6 : Cg P (((xs.getD k 0 : Nat) : Int) * (M : Int) * (N : Int)) ((xs.getD k 0 : Nat) : Int) := by
    refine Cg.trans ?_ h5
    exact ⟨0, by grind⟩
  exact Cg.eq_of_lt (((h1.trans h2).trans h4).trans h6) (getD_lt (fwdS_lt P N R _ (by omega)) (by omega) k) (getD_lt hlt (by omega) k)
theorem gsetZ (l : List Int) (m : Nat) (v : Int) (h : Nat) (hm : m < l.length) : (l.set m v).getD h 0 = if h = m then v else l.getD h 0 := by
  simp only [List.getD, List.getElem?_set]
  by_cases e : m = h
  · subst e
    simp [hm]
  · rw [if_neg e, if_neg (fun h' => e h'.symm)]
theorem evZ_set (l : List Int) (m : Nat) (v : Int) (hm : m < l.length) (X : Int) : ∀ h, evI (fun i => (l.set m v).getD i 0) X h = evI (fun i => l.getD i 0) X h + (if m < h then (v - l.getD m 0) * X ^ m else 0)
  | 0 => by simp [evI]
  | h + 1 => by
    rw [evI, evZ_set l m v hm X h, evI, gsetZ l m v h hm]
    by_cases h1 : h = m
    · subst h1
      rw [if_pos rfl, if_neg (by omega), if_pos (by omega)]
      grind
    · rw [if_neg h1]
      by_cases h2 : m < h
      · rw [if_pos h2, if_pos (by omega)]; grind
      · rw [if_neg h2, if_neg (by omega)]; grind
/-- the place that number k is laid at, and what is laid there -/
def plN (N t k : Nat) : Nat := if k * t % (2 * N) < N then k * t % (2 * N) else k * t % (2 * N) - N
def vlN (P N t k c : Nat) : Int := if k * t % (2 * N) < N then (c : Int) else (-(c : Int)) % (P : Int)
theorem plN_lt (N t k : Nat) (hN : 0 < N) : plN N t k < N := by
  have := Nat.mod_lt (k * t) (show 0 < 2 * N by omega)
  unfold plN
  split <;> omega
theorem trnS_succ (P N t : Nat) (xs : List Nat) (k : Nat) : trnS P N t xs (k + 1) = (trnS P N t xs k).set (plN N t k) (vlN P N t k (xs.getD k 0)) := by
  rw [trnS]
  unfold plN vlN
  split <;> rfl
def plA (N : Nat) : Bool := (List.range (2 * N)).all fun t => !(t % 2 == 1) || (List.range N).all fun j => (List.range N).all fun k => (j == k) || !(plN N t j == plN N t k)
theorem pl2 : plA 2 = true := by decide +kernel
theorem pl4 : plA 4 = true := by decide +kernel
theorem pl8 : plA 8 = true := by decide +kernel
theorem pl16 : plA 16 = true := by decide +kernel
theorem pl_inj {N t : Nat} (h : Sz4 N) (ht : t < 2 * N) (ho : t % 2 = 1) (j k : Nat) (hj : j < N) (hk : k < N) (hn : j ≠ k) : plN N t j ≠ plN N t k := by
  have key : plA N = true := by
    rcases h with rfl | rfl | rfl | rfl
    · exact pl2
    · exact pl4
    · exact pl8
    · exact pl16
  have h1 := List.all_eq_true.1 key t (List.mem_range.2 ht)
  rw [ho] at h1
  simp only [beq_self_eq_true, Bool.not_true, Bool.false_or] at h1
  have h2 := List.all_eq_true.1 h1 j (List.mem_range.2 hj)
  have h3 := List.all_eq_true.1 h2 k (List.mem_range.2 hk)
  intro e
  rw [e] at h3
  simp [hn] at h3
def ptB (N t k : Nat) : Bool := decide (2 * backN (lg N) (backN (lg N) ((2 * backN (lg N) k 0 + 1) * t % (2 * N) / 2) 0) 0 + 1 = (2 * backN (lg N) k 0 + 1) * t % (2 * N))
theorem pt2 : ∀ t, t < 4 → t % 2 = 1 → ∀ k, k < 2 → ptB 2 t k = true := by decide +kernel
theorem pt4 : ∀ t, t < 8 → t % 2 = 1 → ∀ k, k < 4 → ptB 4 t k = true := by decide +kernel
theorem pt8 : ∀ t, t < 16 → t % 2 = 1 → ∀ k, k < 8 → ptB 8 t k = true := by decide +kernel
theorem pt16 : ∀ t, t < 32 → t % 2 = 1 → ∀ k, k < 16 → ptB 16 t k = true := by decide +kernel
theorem pt_all {N t : Nat} (h : Sz4 N) (ht : t < 2 * N) (ho : t % 2 = 1) (k : Nat) (hk : k < N) : 2 * backN (lg N) ((tabN N t).getD k 0) 0 + 1 = (2 * backN (lg N) k 0 + 1) * t % (2 * N) := by
  rw [tabN_get N t k hk]
  have key : ptB N t k = true := by
    rcases h with rfl | rfl | rfl | rfl
    · exact pt2 t ht ho k hk
    · exact pt4 t ht ho k hk
    · exact pt8 t ht ho k hk
    · exact pt16 t ht ho k hk
  exact of_decide_eq_true key
theorem vlN_bd (P N t k c : Nat) (hc : c < P) : 0 ≤ vlN P N t k c ∧ vlN P N t k c < P := by
  unfold vlN
  split
  · omega
  · have h1 := Int.emod_nonneg (-(c : Int)) (show (P : Int) ≠ 0 by omega)
    have h2 := Int.emod_lt_of_pos (-(c : Int)) (show (0 : Int) < P by omega)
    exact ⟨h1, h2⟩
theorem trn_bd (P N t : Nat) (xs : List Nat) (hN : 0 < N) (hP : 0 < P) (hx : ∀ x ∈ xs, x < P) : ∀ m i, 0 ≤ (trnS P N t xs m).getD i 0 ∧ (trnS P N t xs m).getD i 0 < P
  | 0, i => by
    have : (trnS P N t xs 0).getD i 0 = 0 := by
      rw [trnS]
      simp [List.getD, List.getElem?_replicate]
      split <;> rfl
    omega
  | m + 1, i => by
    rw [trnS_succ, gsetZ _ _ _ _ (by rw [trnS_len]; exact plN_lt N t m hN)]
    split
    · exact vlN_bd P N t m _ (getD_lt hx hP m)
    · exact trn_bd P N t xs hN hP hx m i
theorem trn_none (P N t : Nat) (xs : List Nat) (hN : 0 < N) : ∀ m p, (∀ j, j < m → plN N t j ≠ p) → (trnS P N t xs m).getD p 0 = 0
  | 0, p, _ => by
    rw [trnS]
    simp [List.getD, List.getElem?_replicate]
    split <;> rfl
  | m + 1, p, h => by
    rw [trnS_succ, gsetZ _ _ _ _ (by rw [trnS_len]; exact plN_lt N t m hN), if_neg (fun e => h m (by omega) e.symm)]
    exact trn_none P N t xs hN m p (fun j hj => h j (by omega))
theorem Cg.modI (P a : Int) : Cg P (a % P) a := ⟨-(a / P), by rw [Int.emod_def]; grind⟩
theorem evZ_zero (P N t : Nat) (xs : List Nat) (X : Int) : ∀ h, evI (fun i => (trnS P N t xs 0).getD i 0) X h = 0
  | 0 => rfl
  | h + 1 => by
    rw [evI, evZ_zero P N t xs X h]
    have : (trnS P N t xs 0).getD h 0 = 0 := by
      rw [trnS]
      simp [List.getD, List.getElem?_replicate]
      split <;> rfl
    rw [this]
    simp
/-- a turned polynomial at a point -/
theorem ev_trn {P N t X : Nat} (xs : List Nat) (hS : Sz4 N) (ht : t < 2 * N) (ho : t % 2 = 1) (x1 : Cg P ((X : Int) ^ (2 * N)) 1) (x2 : Cg P ((X : Int) ^ N) (-1)) : ∀ m, m ≤ N → Cg P (evI (fun i => (trnS P N t xs m).getD i 0) (X : Int) N) (evI (fun i => ((xs.getD i 0 : Nat) : Int)) ((X : Int) ^ t) m)
  | 0, _ => by
    rw [evZ_zero]
    exact Cg.refl _ _
  | m + 1, hm => by
    have hs := sz_bd hS
    have ih := ev_trn xs hS ht ho x1 x2 m (by omega)
    have hpl := plN_lt N t m (by omega)
    rw [trnS_succ, evZ_set _ _ _ (by rw [trnS_len]; exact hpl) _ N, if_pos hpl, trn_none P N t xs (by omega) m (plN N t m) (fun j hj => pl_inj hS ht ho j m (by omega) (by omega) (by omega)), Int.sub_zero, evI]
    refine ih.add ?_
    have key : Cg P (vlN P N t m (xs.getD m 0) * (X : Int) ^ plN N t m) (((xs.getD m 0 : Nat) : Int) * ((X : Int) ^ t) ^ m) := by
      rw [← Int.pow_mul, Nat.mul_comm t m]
      have hp := (pow_per x1 (m * t) _ rfl).symm
      unfold vlN plN
      by_cases h1 : m * t % (2 * N) < N
      · rw [if_pos h1, if_pos h1]
        exact (Cg.refl _ _).mul hp
      · rw [if_neg h1, if_neg h1]
        generalize m * t % (2 * N) = e at *
        have e1 : (X : Int) ^ e = (X : Int) ^ (e - N) * (X : Int) ^ N := by
          rw [← Int.pow_add]
          congr 1
          omega
        rw [e1] at hp
        have h3 := ((Cg.refl (P : Int) ((X : Int) ^ (e - N))).mul x2).symm.trans hp
        rw [Int.mul_neg, Int.mul_one] at h3
        have h4 := (Cg.modI P (-((xs.getD m 0 : Nat) : Int))).mul (Cg.refl (P : Int) ((X : Int) ^ (e - N)))
        refine h4.trans ?_
        rw [Int.neg_mul, ← Int.mul_neg]
        exact (Cg.refl _ _).mul h3
    first
    | exact key
    | (rw [Int.mul_comm (((X : Int) ^ t) ^ m)]; exact key)
theorem trn_nat (P N t : Nat) (xs : List Nat) (hN : 0 < N) (hP : 0 < P) (hx : ∀ x ∈ xs, x < P) (m i : Nat) : ((((trnS P N t xs m).map Int.toNat).getD i 0 : Nat) : Int) = (trnS P N t xs m).getD i 0 := by
  have h := trn_bd P N t xs hN hP hx m i
  simp only [List.getD, List.getElem?_map] at h ⊢
  cases e : (trnS P N t xs m)[i]? with
  | none => rfl
  | some z =>
    rw [e] at h
    simp at h ⊢
    omega
/-- a row that is ahead, turned: its numbers stand at other places -/
theorem turn_pick (P N R t : Nat) (xs : List Nat) (hS : Sz4 N) (hl : xs.length = N) (hP : 2 ≤ P) (hodd : P % 2 = 1) (hlt : ∀ x ∈ xs, x < P) (ht : t < 2 * N) (ho : t % 2 = 1) (r1 : Cg P ((R : Int) ^ (2 * N)) 1) (r2 : Cg P ((R : Int) ^ N) (-1)) :
    fwdS P N R ((trnS P N t (invL P N R xs) N).map Int.toNat) = (tabN N t).map (fun p => xs.getD p 0) := by
  have hs := sz_bd hS
  have hci : ∀ x ∈ invL P N R xs, x < P := fun x hx => by
    unfold invL at hx
    rw [List.mem_map] at hx
    obtain ⟨i, _, rfl⟩ := hx
    exact Nat.mod_lt _ (by omega)
  refine list_eq (by rw [fwdS_len, List.length_map, tabN_len]) (fun k hk => ?_)
  rw [List.length_map, tabN_len] at hk
  have hrt := fwd_inv P N R xs hS hl hP hodd hlt r1 r2
  generalize hcs : invL P N R xs = cs at *
  have h1 := fwd_ev P N R ((trnS P N t cs N).map Int.toNat) k hk
  have e1 : (fun i => ((((trnS P N t cs N).map Int.toNat).getD i 0 : Nat) : Int)) = fun i => (trnS P N t cs N).getD i 0 := by
    funext i
    exact trn_nat P N t cs (by omega) (by omega) hci N i
  rw [e1] at h1
  have c1 : Cg P (((R ^ (2 * backN (lg N) k 0 + 1) : Nat) : Int) ^ (2 * N)) 1 := by
    push_cast
    rw [← Int.pow_mul, Nat.mul_comm, Int.pow_mul]
    have := r1.pow (2 * backN (lg N) k 0 + 1)
    rw [Int.one_pow] at this
    exact this
  have c2 : Cg P (((R ^ (2 * backN (lg N) k 0 + 1) : Nat) : Int) ^ N) (-1) := by
    push_cast
    rw [← Int.pow_mul, Nat.mul_comm, Int.pow_mul]
    have := r2.pow (2 * backN (lg N) k 0 + 1)
    have e : ((-1 : Int)) ^ (2 * backN (lg N) k 0 + 1) = -1 := by
      rw [Int.pow_succ, Int.pow_mul, show ((-1 : Int) ^ 2) = 1 from rfl, Int.one_pow]
      rfl
    rw [e] at this
    exact this
  have h2 := ev_trn cs hS ht ho c1 c2 N (Nat.le_refl _)
  push_cast at h2
  have hpt := pt_all hS ht ho k hk
  have htk : (tabN N t).getD k 0 < N := by
    rw [tabN_get N t k hk]
    exact back_lt0 hS _
  have h3 : Cg P (((R : Int) ^ (2 * backN (lg N) k 0 + 1)) ^ t) ((R : Int) ^ (2 * backN (lg N) ((tabN N t).getD k 0) 0 + 1)) := by
    rw [← Int.pow_mul, hpt]
    exact pow_per r1 _ _ rfl
  have h4 := evI_x (fun i => ((cs.getD i 0 : Nat) : Int)) h3 N
  have h5 := fwd_ev P N R cs ((tabN N t).getD k 0) htk
  rw [hrt] at h5
  have e2 : ((tabN N t).map (fun p => xs.getD p 0)).getD k 0 = xs.getD ((tabN N t).getD k 0) 0 := by
    have : k < (tabN N t).length := by rw [tabN_len]; exact hk
    simp [List.getD, this]
  rw [e2]
  exact Cg.eq_of_lt (((h1.trans h2).trans h4).trans h5.symm) (getD_lt (fwdS_lt P N R _ (by omega)) (by omega) k) (getD_lt hlt (by omega) _)
end Go.Proofs.YtpoogglplaeooaaDoor
/- Proved: turned by its inverse a polynomial comes back; no function of the program. -/
namespace Go.Proofs.YtpoogglplaeooaaDoor
open M1
set_option linter.unusedVariables false
set_option linter.unusedSimpArgs false
/-- a polynomial turned -/
def tuN (P N t : Nat) (xs : List Nat) : List Nat := (trnS P N t xs N).map Int.toNat
theorem tuN_len (P N t : Nat) (xs : List Nat) : (tuN P N t xs).length = N := by unfold tuN; rw [List.length_map, trnS_len]
theorem fwd_tu (P N R t : Nat) (ys : List Nat) (hS : Sz4 N) (hl : ys.length = N) (hP : 2 ≤ P) (hodd : P % 2 = 1) (hlt : ∀ x ∈ ys, x < P) (ht : t < 2 * N) (ho : t % 2 = 1) (r1 : Cg P ((R : Int) ^ (2 * N)) 1) (r2 : Cg P ((R : Int) ^ N) (-1)) :
    fwdS P N R (tuN P N t ys) = (tabN N t).map (fun p => (fwdS P N R ys).getD p 0) := by
  have h := turn_pick P N R t (fwdS P N R ys) hS (fwdS_len P N R ys) hP hodd (fwdS_lt P N R ys (by omega)) ht ho r1 r2
  rw [inv_fwd P N R ys hS hl hP hodd hlt r1 r2] at h
  exact h
def tbB (N : Nat) : Bool := (List.range (2 * N)).all fun g => (List.range (2 * N)).all fun i => !(i * g % (2 * N) == 1) || (List.range N).all fun k => (tabN N g).getD ((tabN N i).getD k 0) 0 == k && decide ((tabN N i).getD k 0 < N)
theorem tb2 : tbB 2 = true := by decide +kernel
theorem tb4 : tbB 4 = true := by decide +kernel
theorem tb8 : tbB 8 = true := by decide +kernel
theorem tb16 : tbB 16 = true := by decide +kernel
theorem tab_back {N : Nat} (h : Sz4 N) (g i : Nat) (hg : g < 2 * N) (hi : i < 2 * N) (e : i * g % (2 * N) = 1) (k : Nat) (hk : k < N) : (tabN N g).getD ((tabN N i).getD k 0) 0 = k ∧ (tabN N i).getD k 0 < N := by
  have key : tbB N = true := by
    rcases h with rfl | rfl | rfl | rfl
    · exact tb2
    · exact tb4
    · exact tb8
    · exact tb16
  unfold tbB at key
  have h1 := List.all_eq_true.1 (List.all_eq_true.1 key g (by simpa using hg)) i (by simpa using hi)
  rw [e] at h1
  simp only [beq_self_eq_true, Bool.not_true, Bool.false_or] at h1
  have h2 := List.all_eq_true.1 h1 k (by simpa using hk)
  simpa using h2
theorem pick_get (N t : Nat) (zs : List Nat) (k : Nat) (hk : k < N) : ((tabN N t).map (fun p => zs.getD p 0)).getD k 0 = zs.getD ((tabN N t).getD k 0) 0 := by
  have : k < (tabN N t).length := by rw [tabN_len]; exact hk
  simp [List.getD, this]
theorem tu_toZ0 (P N t : Nat) (xs : List Nat) (hN : 0 < N) (hP : 0 < P) (hx : ∀ x ∈ xs, x < P) (m : Nat) : toZ ((trnS P N t xs m).map Int.toNat) = trnS P N t xs m := by
  rw [toZ, List.map_map]
  refine (List.map_congr_left fun x hx' => ?_).trans (List.map_id _)
  obtain ⟨i, hi, rfl⟩ := List.getElem_of_mem hx'
  have h := trn_bd P N t xs hN hP hx m i
  rw [show (trnS P N t xs m).getD i 0 = (trnS P N t xs m)[i] by simp [List.getD, hi]] at h
  show ((trnS P N t xs m)[i].toNat : Int) = (trnS P N t xs m)[i]
  omega
theorem tu_lt0 (P N t : Nat) (xs : List Nat) (hN : 0 < N) (hP : 0 < P) (hx : ∀ x ∈ xs, x < P) (m : Nat) : ∀ y ∈ (trnS P N t xs m).map Int.toNat, y < P := by
  intro y hy
  rw [List.mem_map] at hy
  obtain ⟨x, hx', rfl⟩ := hy
  obtain ⟨i, hi, rfl⟩ := List.getElem_of_mem hx'
  have h := trn_bd P N t xs hN hP hx m i
  rw [show (trnS P N t xs m).getD i 0 = (trnS P N t xs m)[i] by simp [List.getD, hi]] at h
  omega
theorem tu_lt (P N t : Nat) (xs : List Nat) (hP : 2 ≤ P) (hN : 2 ≤ N) (hlt : ∀ x ∈ xs, x < P) : ∀ z ∈ tuN P N t xs, z < P := tu_lt0 P N t xs (by omega) (by omega) hlt N
theorem tu_toZ (P N t : Nat) (xs : List Nat) (hP : 2 ≤ P) (hN : 2 ≤ N) (hlt : ∀ x ∈ xs, x < P) : trnS P N t xs N = toZ (tuN P N t xs) := (tu_toZ0 P N t xs (by omega) (by omega) hlt N).symm
theorem tu_back (P N R g i : Nat) (ys : List Nat) (hS : Sz4 N) (hl : ys.length = N) (hP : 2 ≤ P) (hodd : P % 2 = 1) (hlt : ∀ x ∈ ys, x < P) (hg : g < 2 * N) (hi : i < 2 * N) (og : g % 2 = 1) (oi : i % 2 = 1) (e : i * g % (2 * N) = 1) (r1 : Cg P ((R : Int) ^ (2 * N)) 1) (r2 : Cg P ((R : Int) ^ N) (-1)) :
    tuN P N i (tuN P N g ys) = ys := by
  have hs := sz_bd hS
  have b1 := tu_lt P N g ys hP (by omega) hlt
  have b2 := tu_lt P N i (tuN P N g ys) hP (by omega) b1
  have h1 := fwd_tu P N R g ys hS hl hP hodd hlt hg og r1 r2
  have h2 := fwd_tu P N R i (tuN P N g ys) hS (tuN_len P N g ys) hP hodd b1 hi oi r1 r2
  have h3 : fwdS P N R (tuN P N i (tuN P N g ys)) = fwdS P N R ys := by
    refine list_eq (by rw [fwdS_len, fwdS_len]) (fun k hk => ?_)
    rw [fwdS_len] at hk
    obtain ⟨t1, t2⟩ := tab_back hS g i hg hi e k hk
    rw [h2, pick_get N i _ k hk, h1, pick_get N g _ _ t2, t1]
  rw [← inv_fwd P N R (tuN P N i (tuN P N g ys)) hS (tuN_len _ _ _ _) hP hodd b2 r1 r2, h3]
  exact inv_fwd P N R ys hS hl hP hodd hlt r1 r2
end Go.Proofs.YtpoogglplaeooaaDoor
/- Proved: what the statement on turns asks of the functions at a ring, a list and a turn. -/
namespace Go.Proofs.YtpoogglplaeooaaDoor
open Go.ChangeShapes Go.WideShapes Go.ChangeAt Go.RowKit
set_option linter.unusedVariables false
set_option linter.unusedSimpArgs false
open M1
def exB (N : Nat) : Bool := (List.range (2 * N)).all fun t => !(t % 2 == 1) || (List.range (2 * N)).any fun i => i * t % (2 * N) == 1 && i % 2 == 1
theorem ex_inv {N : Nat} (h : Sz4 N) (t : Nat) (ht : t < 2 * N) (ho : t % 2 = 1) : ∃ i, i < 2 * N ∧ i * t % (2 * N) = 1 ∧ i % 2 = 1 := by
  have key : exB N = true := by
    rcases h with rfl | rfl | rfl | rfl <;> decide +kernel
  unfold exB at key
  have h1 := List.all_eq_true.1 key t (by simpa using ht)
  rw [ho] at h1
  simp only [beq_self_eq_true, Bool.not_true, Bool.false_or] at h1
  obtain ⟨i, hi, h2⟩ := List.any_eq_true.1 h1
  exact ⟨i, by simpa using hi, by simpa using h2⟩
/-- all that the law asks of the functions -/
def TrT (w : World) (p n r t : Int) (xs : List Int) : Prop := ∃ (ok : Bool) (zs : List Int), zs.length ≤ 16
  ∧ (∀ W v, Old w W → Row W v xs → Calls Tryd.prog 13 #[.agg #[.int .i64 p, .int .i64 n, .int .i64 r], v, .int .i64 t] W (Lb W zs ok))
  ∧ (∀ W v, Old w W → Row W v xs → Calls Tryd.prog 14 #[.agg #[.int .i64 p, .int .i64 n, .int .i64 r], v, .int .i64 t] W (Lb W zs ok))
  ∧ (ok = true → ∃ (N T : Nat) (fs hs : List Int) (ts : List Nat), n = N ∧ t = T ∧ (2 ≤ N ∧ N ≤ 16) ∧ T < 2 * N ∧ fs.length = N ∧ hs.length = N ∧ ts.length = N
    ∧ (∀ W v, Old w W → Row W v xs → Calls Tryd.prog 9 #[.agg #[.int .i64 p, .int .i64 n, .int .i64 r], v] W (Lb W fs true))
    ∧ (∀ W v, Old w W → Row W v zs → Calls Tryd.prog 9 #[.agg #[.int .i64 p, .int .i64 n, .int .i64 r], v] W (Lb W hs true))
    ∧ (∀ W, Old w W → Calls Tryd.prog 15 #[.int .i64 n, .int .i64 t] W (Lb W (toZ ts) true))
    ∧ (∀ k, k < N → ts.getD k 0 < N ∧ hs.getD k 0 = fs.getD (ts.getD k 0) 0)
    ∧ (∃ i, i < 2 * N ∧ i * T % (2 * N) = 1 ∧ i % 2 = 1)
    ∧ (∀ i : Nat, i < 2 * N → i * T % (2 * N) = 1 → i % 2 = 1 → ∀ W v, Old w W → Row W v zs → Calls Tryd.prog 13 #[.agg #[.int .i64 p, .int .i64 n, .int .i64 r], v, .int .i64 i] W (Lb W xs true)))
theorem trT_any (w : World) (p n r t : Int) (xs : List Int) (hlv : xs.length ≤ 17) (hp : 2 ≤ p ∧ p ≤ 268435456) (ht : -100 ≤ t ∧ t ≤ 100) (hP : PrsW w) (hT : TabW w) : TrT w p n r t xs := by
  obtain ⟨g, hg, ci, cs⟩ := ring_any p n r (by omega)
  have hgp : g = true → (2 ≤ p ∧ p ≤ 268435456) ∧ (2 ≤ n ∧ n ≤ 16) := fun e => by
    obtain ⟨P, N, R, h⟩ := hg e
    exact h.bounds
  cases hok : (g && polyB p n xs && turnB n t)
  · exact ⟨false, [], by simp,
      (fun W v q h1 => impl_TurnRing_of p n r t xs g false [] hgp (by omega) (by omega) hok (fun _ => rfl) ci (fun e => by cases e) v W (hP.old q) (hT.old q) h1),
      (fun W v q h1 => spec_TurnRing_of p n r t xs g false [] hgp (by omega) (by omega) hok (fun _ => rfl) cs (fun e => by cases e) v W h1), (fun e => by cases e)⟩
  · have hk : g = true ∧ polyB p n xs = true ∧ turnB n t = true := by simpa [and_assoc] using hok
    obtain ⟨P, N, R, h⟩ := hg hk.1
    have hb := h.bounds
    have hok2 := h.ok
    have hrt := h.rt (ring_pr hok2)
    obtain ⟨rfl, rfl, rfl, hr, hlt, _⟩ := h
    obtain ⟨as1, rfl, la, ha⟩ := polyB_yes hk.2.1
    obtain ⟨T, rfl, hT2⟩ := turnB_yes hk.2.2
    have hTo : T % 2 = 1 := by
      have := hk.2.2
      simp only [turnB, Bool.and_eq_true, decide_eq_true_eq, beq_iff_eq] at this
      omega
    have hN : 2 ≤ N ∧ N ≤ 16 := by omega
    have hPp : 2 ≤ P ∧ P ≤ 268435456 := by omega
    have hS : Sz4 N := by
      have := hok2.sz
      omega
    have hodd : P % 2 = 1 := by
      have h1 := hok2.dv
      have h2 := hok2.sz
      rcases h2 with e | e | e | e <;> rw [e] at h1 <;> omega
    obtain ⟨r1, r2⟩ := hrt.cg hPp.1
    have hgt : g = true := hk.1
    subst hgt
    have pol : ∀ zs : List Nat, zs.length = N → (∀ z ∈ zs, z < P) → polyB P N (toZ zs) = true := fun zs h1 h2 => by
      unfold polyB
      rw [Bool.and_eq_true]
      refine ⟨decide_eq_true (by rw [toZ_len, h1]), List.all_eq_true.2 fun x hx => ?_⟩
      rw [toZ, List.mem_map] at hx
      obtain ⟨y, hy, rfl⟩ := hx
      have := h2 y hy
      unfold resB
      exact decide_eq_true (by omega)
    have tB : ∀ i : Nat, i < 2 * N → i % 2 = 1 → turnB N i = true := fun i h1 h2 => by
      simp only [turnB, Bool.and_eq_true, decide_eq_true_eq, beq_iff_eq]
      omega
    have KF : ∀ as1 : List Nat, as1.length = N → (∀ z ∈ as1, z < P) → ∀ W v, Old w W → Row W v (toZ as1) → Calls Tryd.prog 9 #[.agg #[.int .i64 P, .int .i64 N, .int .i64 R], v] W (Lb W (toZ (fwdS P N R as1)) true) := fun as1 la ha W v q h1 =>
      impl_Forward_of _ _ _ _ true true _ hgp (by rw [toZ_len]; omega) (by rw [pol as1 la ha]; rfl) (fun e => by cases e) ci (fun _ v W hT' h1 => by
        have := impl_forward P N R as1 v W hT' h1 hPp hS hlt la ha
        rw [fwd_same P N R as1 hS la (by omega) ha r1 r2] at this
        exact this) v W (hP.old q) (hT.old q) h1
    have KT : ∀ (i : Nat) (as1 : List Nat), i < 2 * N → i % 2 = 1 → as1.length = N → (∀ z ∈ as1, z < P) → ∀ W v, Old w W → Row W v (toZ as1) → Calls Tryd.prog 13 #[.agg #[.int .i64 P, .int .i64 N, .int .i64 R], v, .int .i64 i] W (Lb W (toZ (tuN P N i as1)) true) := fun i as1 hi ho la ha W v q h1 => by
      rw [← tu_toZ P N i as1 hPp.1 hN.1 ha]
      exact impl_TurnRing_of _ _ _ _ _ true true _ hgp (by omega) (by rw [toZ_len]; omega) (by rw [pol as1 la ha, tB i hi ho]; rfl) (fun e => by cases e) ci (fun _ v W _ h1 => impl_turned P N R i as1 v W h1 hPp hN la ha hi) v W (hP.old q) (hT.old q) h1
    have b1 := tu_lt P N T as1 hPp.1 hN.1 ha
    refine ⟨true, toZ (tuN P N T as1), by rw [toZ_len, tuN_len]; omega, KT T as1 hT2 hTo la ha, fun W v q h1 => ?_, fun _ => ⟨N, T, toZ (fwdS P N R as1), toZ (fwdS P N R (tuN P N T as1)), tabN N T, rfl, rfl, hN, hT2, by rw [toZ_len, fwdS_len], by rw [toZ_len, fwdS_len], tabN_len N T, KF as1 la ha, KF _ (tuN_len _ _ _ _) b1, fun W q => ?_, fun k hk => ?_, ex_inv hS T hT2 hTo, fun i hi e ho W v q h1 => ?_⟩⟩
    · rw [← tu_toZ P N T as1 hPp.1 hN.1 ha]
      exact spec_TurnRing_of _ _ _ _ _ true true _ hgp (by omega) (by rw [toZ_len]; omega) hok (fun e => by cases e) cs (fun _ v W h1 => spec_turned P N R T as1 v W h1 hPp hN la ha hT2) v W h1
    · exact impl_TurnTable_yes N T W (hT.old q) hS (tB T hT2 hTo) hT2
    · obtain ⟨i, hi, e, _⟩ := ex_inv hS T hT2 hTo
      have e' : T * i % (2 * N) = 1 := by rw [Nat.mul_comm]; exact e
      have hlt2 := (tab_back hS i T hi hT2 e' k hk).2
      refine ⟨hlt2, ?_⟩
      rw [toZ_get, toZ_get, fwd_tu P N R T as1 hS la hPp.1 hodd ha hT2 hTo r1 r2, pick_get N T _ k hk]
    · have := KT i _ hi ho (tuN_len P N T as1) b1 W v q h1
      rw [tu_back P N R T i as1 hS la hPp.1 hodd ha hT2 hi hTo ho e r1 r2] at this
      exact this
end Go.Proofs.YtpoogglplaeooaaDoor
/- Proved: contracts of the draw of a turn and of DrawTurnRing. -/
namespace Go.Proofs.YtpoogglplaeooaaDoor
open Go.ChangeShapes Go.WideShapes Go.ChangeAt Go.RowKit
set_option linter.unusedVariables false
set_option linter.unusedSimpArgs false
set_option maxRecDepth 100000 in
set_option maxHeartbeats 4000000 in
theorem turnOf_c {w : World} {code : Value} {len c B : Nat} (h : Cu w code len c B) (hB : B ≤ 68719476736) (hl : len ≤ 9223372036854775807) (n : Int) (hn : sz4I n) :
    Calls Tryd.prog 27 #[.pointer (some ⟨c, 0, none⟩), .int .i64 n] w fun e w' => CuP (fun v => -100 ≤ v ∧ v ≤ 100) w code len c (B + 10) e w' := by
  have c1 := one_c h (by omega) hl 16 (by omega) (by omega)
  have hn2 : 2 ≤ n ∧ n ≤ 16 := by rcases hn with e | e | e | e <;> omega
  clear h hn
  go_enter Tryd.func27, Tryd.ntmps27
  go_wp2_with fail
  refine c1.mono ?_
  rintro e w1 ⟨⟨o, rfl⟩, g1, C1⟩
  have HG1 : Hid (Chg w w1 c (c + 1)) := g1
  cases o
  · have c2 := pick_c C1 (by omega) hl n (by omega) (by omega)
    clear g1 C1 c1
    go_wp2_with fail
    refine c2.mono ?_
    rintro e w2 ⟨⟨v, ⟨hv0, hv1⟩, rfl⟩, g2, C2⟩
    have HG2 : Hid (Chg w w2 c (c + 1)) := HG1.out.trans g2
    have HC2 : Hid (Cu w2 code len c (B + 2 + 2)) := C2
    clear g2 C2 c2
    go_wp2_with fail
    go_ret
    exact ⟨⟨2 * v + 1, ⟨by omega, by omega⟩, rfl⟩, HG2.out, HC2.out.mono (by omega)⟩
  · have c2 := among_lit3 C1 (by omega) hl [0, 2, 2 * n - 1, 2 * n, -1] (by simp) (by simp) 3
    clear g1 C1 c1
    go_wp2_with fail
    refine c2.mono ?_
    rintro e w2 ⟨⟨v, hv, rfl⟩, g2, C2⟩
    have HG2 : Hid (Chg w w2 c (c + 1)) := HG1.out.trans g2
    have HC2 : Hid (Cu w2 code len c (B + 2 + 2)) := C2
    have HV : Hid (-100 ≤ v ∧ v ≤ 100) := by
      simp only [List.mem_cons, List.not_mem_nil, or_false] at hv
      show _ ∧ _
      rcases hv with rfl | rfl | rfl | rfl | rfl <;> omega
    clear g2 C2 c2 hv
    go_wp2_with fail
    go_ret
    exact ⟨⟨v, HV.out, rfl⟩, HG2.out, HC2.out.mono (by omega)⟩
/-- what is drawn for TurnRing: a ring, a polynomial, a turn -/
def Dt (w : World) (e : Ending) (w' : World) : Prop :=
  ∃ (p n r : Int) (a : Option Addr) (cp : Nat) (xs : List Int) (y : Int), e = .returned (.tuple #[.agg #[.int .i64 p, .int .i64 n, .int .i64 r], .slice a xs.length cp, .int .i64 y]) ∧ (2 ≤ p ∧ p ≤ 268435456) ∧ sz4I n ∧ xs.length ≤ 17 ∧ (-100 ≤ y ∧ y ≤ 100) ∧ Old w w' ∧ Row w' (.slice a xs.length cp) xs
set_option maxRecDepth 100000 in
set_option maxHeartbeats 8000000 in
theorem drawTurnRing_c (w : World) (code : Value) (len : Nat) (h : BysW w code len) (hl : len ≤ 9223372036854775807) :
    Calls Tryd.prog 12 #[code] w (Dt w) := by
  obtain ⟨ca, ccap, hcode⟩ : ∃ ca ccap, code = .slice ca len ccap := by
    rcases h with ⟨a, cap, e, e2⟩ | ⟨b, o, cap, e, _⟩
    · exact ⟨a, cap, by rw [e, e2]⟩
    · exact ⟨_, cap, e⟩
  have h1 : BysW (w.alloc (.cells #[.int .i64 0, .int .i64 0, .int .i64 0] 24)) code len := bysW_old h ((Old.refl w).alloc _)
  have C0 := Cu.new h1
  rw [show (w.alloc (.cells #[.int .i64 0, .int .i64 0, .int .i64 0] 24)).heap.size = w.heap.size + 1 by simp] at C0
  subst hcode
  have HBR : Hid (Bk ((w.alloc (.cells #[.int .i64 0, .int .i64 0, .int .i64 0] 24)).alloc (.cells #[.slice ca len ccap, .int .i64 0, .int .u64 0] 40)) w.heap.size #[.int .i64 0, .int .i64 0, .int .i64 0] 24) := (Bk.new' w _ _ rfl).alloc _
  have c1 := ring_c C0 (by omega) hl
  clear h h1 C0
  go_enter Tryd.func12, Tryd.ntmps12
  go_wp2_with fail
  refine c1.mono ?_
  rintro e w1 ⟨p, n, r, rfl, hp, hn, g1, C1⟩
  have HP : Hid (2 ≤ p ∧ p ≤ 268435456) := hp
  have HN : Hid (sz4I n) := hn
  have HG1 : Hid (Old w w1) := (((Old.refl w).alloc _).alloc _).chg g1 (Nat.le_succ _)
  have HB1 : Hid (Bk w1 w.heap.size #[.int .i64 0, .int .i64 0, .int .i64 0] 24) := HBR.out.chg g1 (Or.inl (by omega))
  have lc := C1.lt
  have HC1 : Hid (Cu (w1.alloc (.cells #[.int .i64 p, .int .i64 n, .int .i64 r] 24)) (.slice ca len ccap) len (w.heap.size + 1) (0 + 40)) := C1.old ((Old.refl w1).alloc _)
  have HR1 : Hid (Bk (w1.alloc (.cells #[.int .i64 p, .int .i64 n, .int .i64 r] 24)) w1.heap.size #[.int .i64 p, .int .i64 n, .int .i64 r] 24) := Bk.new' w1 _ _ rfl
  have HB2 : Hid (Bk (w1.alloc (.cells #[.int .i64 p, .int .i64 n, .int .i64 r] 24)) w.heap.size #[.int .i64 0, .int .i64 0, .int .i64 0] 24) := HB1.out.alloc _
  have HG2 : Hid (Old w (w1.alloc (.cells #[.int .i64 p, .int .i64 n, .int .i64 r] 24))) := HG1.out.alloc _
  clear c1 hp hn g1 C1 HBR HG1 HB1
  have HAS : Hid (∀ W', Chg (w1.alloc (.cells #[.int .i64 p, .int .i64 n, .int .i64 r] 24)) W' (w.heap.size + 1) (w.heap.size + 1 + 1) → (W'.cell? ⟨w1.heap.size, 0, none⟩ = some (.int .i64 p) ∧ W'.cell? ⟨w1.heap.size, 1, none⟩ = some (.int .i64 n) ∧ W'.cell? ⟨w1.heap.size, 2, none⟩ = some (.int .i64 r))) := fun W' q => by
    have b := HR1.out.chg q (Or.inr (by omega))
    exact ⟨b.c (i := 0) rfl, b.c (i := 1) rfl, b.c (i := 2) rfl⟩
  have HZB : Hid (∀ W', Chg (w1.alloc (.cells #[.int .i64 p, .int .i64 n, .int .i64 r] 24)) W' (w.heap.size + 1) (w.heap.size + 1 + 1) → Bk W' w.heap.size #[.int .i64 0, .int .i64 0, .int .i64 0] 24) := fun W' q => HB2.out.chg q (Or.inl (by omega))
  clear HR1 HB2
  obtain ⟨s0, s1, s2⟩ := HAS.out _ ((Old.refl _).toChg _ _)
  go_wp2_with fail
  go_region_held3 (fun W' => W'.cell? ⟨w1.heap.size, 0, none⟩ = some (.int .i64 p) ∧ W'.cell? ⟨w1.heap.size, 1, none⟩ = some (.int .i64 n) ∧ W'.cell? ⟨w1.heap.size, 2, none⟩ = some (.int .i64 r)) (first | with_reducible exact HAS.out _ Q6.out | with_reducible exact HAS.out _ Q5.out | with_reducible exact HAS.out _ (Old.toChg (Below.drew (Old.refl _)) _ _) | with_reducible exact HAS.out _ (Old.toChg (Old.refl _) _ _) | (refine cells3_other ?_ _ _ _ (by omega); with_reducible exact HAS.out _ Q6.out)) (first
    | (go_at_call 27; refine (turnOf_c HC5.out (by omega) hl n HN.out).mono ?_; rintro e w6 ⟨⟨y, hy, rfl⟩, q6, C6⟩; have HY : Hid (-100 ≤ y ∧ y ≤ 100) := hy; have Q6 : Hid (Chg (w1.alloc (.cells #[.int .i64 p, .int .i64 n, .int .i64 r] 24)) w6 (w.heap.size + 1) (w.heap.size + 1 + 1)) := Q5.out.trans q6; have R5 : Hid (Own w6 (w1.heap.size + 1) (.slice a5 xs.length cp5) xs) := O5.out.chg q6 (fun b hb => Or.inr (by have := (O5.out.lt b hb).1; omega));  have BZ := HZB.out _ Q6.out; have z0 := BZ.c (i := 0) rfl; have z1 := BZ.c (i := 1) rfl; have z2 := BZ.c (i := 2) rfl; have f0 : w6.frozen? ⟨w.heap.size, 0, none⟩ = false := frozen_of_row _ _ _ _ _ BZ; have f1 : w6.frozen? ⟨w.heap.size, 1, none⟩ = false := frozen_of_row _ _ _ _ _ BZ; have f2 : w6.frozen? ⟨w.heap.size, 2, none⟩ = false := frozen_of_row _ _ _ _ _ BZ; have HBZ : Hid (Bk w6 w.heap.size #[.int .i64 0, .int .i64 0, .int .i64 0] 24) := BZ; clear q6 C6 BZ hy)
    | (go_at_call 17; refine (poly_c (HC1.out.old (Below.drew (Old.refl _))) (by omega) hl p n r HP.out HN.out).mono ?_; rintro e w5 ⟨a5, cp5, xs, rfl, lx, q5, C5, o5⟩; have Q5 : Hid (Chg (w1.alloc (.cells #[.int .i64 p, .int .i64 n, .int .i64 r] 24)) w5 (w.heap.size + 1) (w.heap.size + 1 + 1)) := (Old.toChg (Below.drew (Old.refl _)) _ _).trans q5; have HC5 : Hid (Cu w5 (.slice ca len ccap) len (w.heap.size + 1) (0 + 40 + 1000)) := C5; have O5 : Hid (Own w5 (w1.heap.size + 1) (.slice a5 xs.length cp5) xs) := o5.low (Nat.le_of_eq (by show w1.heap.size + 1 = (w1.heap.push _).size; simp)); clear q5 C5 o5)
    | fail)
  all_goals
    have HF := bk_put3 HBZ.out (.int .i64 p) (.int .i64 n) (.int .i64 r)
    have q0 := HF.c (i := 0) rfl
    have q1 := HF.c (i := 1) rfl
    have q2 := HF.c (i := 2) rfl
    have HCH : Hid (Chg w6 (((w6.setCell ⟨w.heap.size, 0, none⟩ (.int .i64 p)).setCell ⟨w.heap.size, 1, none⟩ (.int .i64 n)).setCell ⟨w.heap.size, 2, none⟩ (.int .i64 r)) w.heap.size (w.heap.size + 1)) := chg_three w6 _ _ _ _
    have HEND : Hid (Old w (((w6.setCell ⟨w.heap.size, 0, none⟩ (.int .i64 p)).setCell ⟨w.heap.size, 1, none⟩ (.int .i64 n)).setCell ⟨w.heap.size, 2, none⟩ (.int .i64 r))) := (HG2.out.chg Q6.out (Nat.le_succ _)).chg HCH.out (Nat.le_refl _)
    have E5 : Hid (Row (((w6.setCell ⟨w.heap.size, 0, none⟩ (.int .i64 p)).setCell ⟨w.heap.size, 1, none⟩ (.int .i64 n)).setCell ⟨w.heap.size, 2, none⟩ (.int .i64 r)) (.slice a5 xs.length cp5) xs) := Own.row (R5.out.chg HCH.out (fun b hb => Or.inr (by have := (R5.out.lt b hb).1; omega)))
    clear HF
    go_wp2_with fail
    exact bodyPost_ret (v := .tuple #[.agg #[.int .i64 p, .int .i64 n, .int .i64 r], .slice a5 xs.length cp5, .int .i64 y]) (by simp [results, Tryd.results12, go_sem, q0, q1, q2]) rfl ⟨p, n, r, a5, cp5, xs, y, rfl, HP.out, HN.out, lx, HY.out, HEND.out, E5.out⟩
end Go.Proofs.YtpoogglplaeooaaDoor
/- Proved: the walk of the statement on turns, in a world in which the tables are laid. -/
namespace Go.Proofs.YtpoogglplaeooaaDoor
open Go.ChangeShapes Go.WideShapes Go.ChangeAt Go.RowKit
set_option linter.unusedVariables false
set_option linter.unusedSimpArgs false
open M1
theorem hidMk {p : Prop} (h : p) : Hid p := h
theorem row_pos {w : World} {v : Value} {xs : List Int} (h : Row w v xs) (h0 : 0 < xs.length) : ∃ b o cap, v = .slice (some ⟨b, o, none⟩) xs.length cap ∧ b < w.heap.size ∧ ∀ j, j < xs.length → w.cell? ⟨b, o + j, none⟩ = some (.int .i64 (xs.getD j 0)) := by
  rcases h with ⟨a, c, e, e2⟩ | ⟨b, o, cap, e, hb, h3, hc⟩
  · rw [e2] at h0; simp at h0
  · exact ⟨b, o, cap, e, hb, hc⟩
set_option maxRecDepth 100000 in
set_option maxHeartbeats 8000000 in
theorem law_Turned (w : World) (code : Value) (len : Nat) (h : BysW w code len) (hl : len ≤ 9223372036854775807) (hP : PrsW w) (hT : TabW w) :
    Calls Tryd.prog 4 #[code] w fun e w' => e = .returned (.bool true) ∧ Old w w' := by
  have KD : Hid (Calls Tryd.prog 12 #[code] w (Dt w)) := drawTurnRing_c w code len h hl
  obtain ⟨ca, ccap, hcode⟩ : ∃ ca ccap, code = .slice ca len ccap := by
    rcases h with ⟨a, cap, e, e2⟩ | ⟨b, o, cap, e, _⟩
    · exact ⟨a, cap, by rw [e, e2]⟩
    · exact ⟨_, cap, e⟩
  subst hcode
  have HTK : Hid (∀ (p n r t : Int) (xs : List Int), xs.length ≤ 17 → (2 ≤ p ∧ p ≤ 268435456) → (-100 ≤ t ∧ t ≤ 100) → TrT w p n r t xs) := fun p n r t xs h1 h2 h3 => trT_any w p n r t xs h1 h2 h3 hP hT
  clear h hP hT
  by_cases hbig : (1048576 : Int) < (len : Int)
  · have dL : decide ((1048576 : Int) < (len : Int)) = true := decide_eq_true hbig
    go_enter Tryd.func4, Tryd.ntmps4
    go_wp2_with fail
    go_ret
    exact ⟨rfl, Old.refl _⟩
  have dL : decide ((1048576 : Int) < (len : Int)) = false := decide_eq_false hbig
  go_enter Tryd.func4, Tryd.ntmps4
  go_wp2_with fail
  refine KD.out.mono ?_
  rintro e w1 ⟨p, n, r, ax, cx, xs, t, rfl, hp, hn, lx, ht, g1, r1⟩
  obtain ⟨ok, zs, lz, km, ks, kall⟩ := HTK.out p n r t xs lx hp ht
  have HG1 : Hid (Old w (w1.alloc (.cells #[.int .i64 p, .int .i64 n, .int .i64 r] 24))) := g1.alloc _
  have HR1 : Hid (Bk (w1.alloc (.cells #[.int .i64 p, .int .i64 n, .int .i64 r] 24)) w1.heap.size #[.int .i64 p, .int .i64 n, .int .i64 r] 24) := Bk.new' w1 _ _ rfl
  have RX1 : Hid (Row (w1.alloc (.cells #[.int .i64 p, .int .i64 n, .int .i64 r] 24)) (.slice ax xs.length cx) xs) := r1.old ((Old.refl w1).alloc _)
  have KM := km _ _ HG1.out RX1.out
  have KS : Hid (∀ W v, Old w W → Row W v xs → Calls Tryd.prog 14 #[.agg #[.int .i64 p, .int .i64 n, .int .i64 r], v, .int .i64 t] W (Lb W zs ok)) := ks
  have KA : Hid (ok = true → _) := kall
  clear g1 r1 km ks kall hp KD HTK hn
  have x0_1 := HR1.out.c (i := 0) rfl
  have x1_1 := HR1.out.c (i := 1) rfl
  have x2_1 := HR1.out.c (i := 2) rfl
  go_wp2_with fail
  refine KM.mono ?_
  rintro e w2 ⟨v2, rfl, g2, o2⟩
  obtain ⟨a2, c2, rfl⟩ := (Own.row o2).slice
  have HG2 : Hid (Old w w2) := Old.trans HG1.out g2
  have HR2 : Hid (Bk w2 w1.heap.size #[.int .i64 p, .int .i64 n, .int .i64 r] 24) := HR1.out.old g2
  have RX2 := hidMk (RX1.out.old g2)
  have RZ2 := hidMk (Own.row o2)
  have x0_2 := HR2.out.c (i := 0) rfl
  have x1_2 := HR2.out.c (i := 1) rfl
  have x2_2 := HR2.out.c (i := 2) rfl
  clear o2 HG1 HR1 g2 RX1
  go_wp2_with fail
  refine (KS.out _ _ HG2.out RX2.out).mono ?_
  rintro e w3 ⟨v3, rfl, g3, o3⟩
  obtain ⟨a3, c3, rfl⟩ := (Own.row o3).slice
  have HG3 : Hid (Old w w3) := Old.trans HG2.out g3
  have HR3 : Hid (Bk w3 w1.heap.size #[.int .i64 p, .int .i64 n, .int .i64 r] 24) := HR2.out.old g3
  have RX3 := hidMk (RX2.out.old g3)
  have RZ3 := hidMk (RZ2.out.old g3)
  have RS3 := hidMk (Own.row o3)
  have x0_3 := HR3.out.c (i := 0) rfl
  have x1_3 := HR3.out.c (i := 1) rfl
  have x2_3 := HR3.out.c (i := 2) rfl
  clear o3 HG2 HR2 g3 RX2 RZ2
  have c4 := same_yes zs _ _ w3 RZ3.out RS3.out (by omega)
  cases ok
  · go_wp2_with fail
    refine c4.mono ?_
    rintro e w4 ⟨rfl, g4⟩
    have HG4 : Hid (Old w w4) := Old.trans HG3.out g4
    clear g4 c4
    go_wp2_with fail
    go_ret
    exact ⟨rfl, HG4.out⟩
  · obtain ⟨N, T, fs, hs, ts, rfl, rfl, hN, hT2, lf, lh, lt, kf, kh, kt, kp, ke, kb⟩ := KA.out rfl
    have KF : Hid (∀ W v, Old w W → Row W v xs → Calls Tryd.prog 9 #[.agg #[.int .i64 p, .int .i64 N, .int .i64 r], v] W (Lb W fs true)) := kf
    have KH : Hid (∀ W v, Old w W → Row W v zs → Calls Tryd.prog 9 #[.agg #[.int .i64 p, .int .i64 N, .int .i64 r], v] W (Lb W hs true)) := kh
    have KT : Hid (∀ W, Old w W → Calls Tryd.prog 15 #[.int .i64 N, .int .i64 T] W (Lb W (toZ ts) true)) := kt
    have KP : Hid (∀ k, k < N → ts.getD k 0 < N ∧ hs.getD k 0 = fs.getD (ts.getD k 0) 0) := kp
    have KE : Hid (∃ i, i < 2 * N ∧ i * T % (2 * N) = 1 ∧ i % 2 = 1) := ke
    have KB : Hid (∀ i : Nat, i < 2 * N → i * T % (2 * N) = 1 → i % 2 = 1 → ∀ W v, Old w W → Row W v zs → Calls Tryd.prog 13 #[.agg #[.int .i64 p, .int .i64 N, .int .i64 r], v, .int .i64 i] W (Lb W xs true)) := kb
    have ltz : (toZ ts).length = N := by rw [toZ_len, lt]
    have HTZ : Hid (∀ k, (toZ ts).getD k 0 = ((ts.getD k 0 : Nat) : Int)) := fun k => toZ_get ts k
    clear kf kh kt kp ke kb KA
    generalize toZ ts = tz at *
    go_wp2_with fail
    refine c4.mono ?_
    rintro e w4 ⟨rfl, g4⟩
    have HG4 : Hid (Old w w4) := Old.trans HG3.out g4
    have HR4 : Hid (Bk w4 w1.heap.size #[.int .i64 p, .int .i64 N, .int .i64 r] 24) := HR3.out.old g4
    have RX4 := hidMk (RX3.out.old g4)
    have RZ4 := hidMk (RZ3.out.old g4)
    have x0_4 := HR4.out.c (i := 0) rfl
    have x1_4 := HR4.out.c (i := 1) rfl
    have x2_4 := HR4.out.c (i := 2) rfl
    clear g4 c4 HG3 HR3 RX3 RZ3 RS3
    go_wp2_with fail
    refine (KF.out _ _ HG4.out RX4.out).mono ?_
    rintro e w5 ⟨v5, rfl, g5, o5⟩
    obtain ⟨b5, q5, c5, rfl, hb5, hc5⟩ := row_pos (Own.row o5) (by omega)
    have HG5 : Hid (Old w w5) := Old.trans HG4.out g5
    have HR5 : Hid (Bk w5 w1.heap.size #[.int .i64 p, .int .i64 N, .int .i64 r] 24) := HR4.out.old g5
    have RX5 := hidMk (RX4.out.old g5)
    have RZ5 := hidMk (RZ4.out.old g5)
    have RF5 := hidMk (Own.row o5)
    have x0_5 := HR5.out.c (i := 0) rfl
    have x1_5 := HR5.out.c (i := 1) rfl
    have x2_5 := HR5.out.c (i := 2) rfl
    clear o5 HG4 HR4 RX4 RZ4
    go_wp2_with fail
    refine (KH.out _ _ HG5.out RZ5.out).mono ?_
    rintro e w6 ⟨v6, rfl, g6, o6⟩
    obtain ⟨b6, q6, c6, rfl, hb6, hc6⟩ := row_pos (Own.row o6) (by omega)
    have HG6 : Hid (Old w w6) := Old.trans HG5.out g6
    have HR6 : Hid (Bk w6 w1.heap.size #[.int .i64 p, .int .i64 N, .int .i64 r] 24) := HR5.out.old g6
    have RX6 := hidMk (RX5.out.old g6)
    have RZ6 := hidMk (RZ5.out.old g6)
    have RF6 := hidMk (RF5.out.old g6)
    have RH6 := hidMk (Own.row o6)
    have x0_6 := HR6.out.c (i := 0) rfl
    have x1_6 := HR6.out.c (i := 1) rfl
    have x2_6 := HR6.out.c (i := 2) rfl
    clear o6 HG5 HR5 RX5 RZ5 RF5
    go_wp2_with fail
    refine (KT.out _ HG6.out).mono ?_
    rintro e w7 ⟨v7, rfl, g7, o7⟩
    obtain ⟨b7, q7, c7, rfl, hb7, hc7⟩ := row_pos (Own.row o7) (by omega)
    have HG7 : Hid (Old w w7) := Old.trans HG6.out g7
    have HR7 : Hid (Bk w7 w1.heap.size #[.int .i64 p, .int .i64 N, .int .i64 r] 24) := HR6.out.old g7
    have RX7 := hidMk (RX6.out.old g7)
    have RZ7 := hidMk (RZ6.out.old g7)
    have RF7 := hidMk (RF6.out.old g7)
    have RH7 := hidMk (RH6.out.old g7)
    have RT7 := hidMk (Own.row o7)
    have x0_7 := HR7.out.c (i := 0) rfl
    have x1_7 := HR7.out.c (i := 1) rfl
    have x2_7 := HR7.out.c (i := 2) rfl
    clear o7 HG6 HR6 RX6 RZ6 RF6 RH6
    rw [lf] at hc5
    rw [lh] at hc6
    rw [ltz] at hc7
    have F5 : Hid (∀ j, j < N → w7.cell? ⟨b5, q5 + j, none⟩ = some (.int .i64 (fs.getD j 0))) := fun j hj => ((Old.trans g6 g7).cell (p := ⟨b5, q5 + j, none⟩) hb5).trans (hc5 j hj)
    have F6 : Hid (∀ j, j < N → w7.cell? ⟨b6, q6 + j, none⟩ = some (.int .i64 (hs.getD j 0))) := fun j hj => (g7.cell (p := ⟨b6, q6 + j, none⟩) hb6).trans (hc6 j hj)
    have F7 : Hid (∀ j, j < N → w7.cell? ⟨b7, q7 + j, none⟩ = some (.int .i64 ((ts.getD j 0 : Nat) : Int))) := fun j hj => by
      rw [← HTZ.out j]
      exact hc7 j hj
    have l5 : b5 < w7.heap.size := Nat.lt_of_lt_of_le hb5 (Nat.le_trans g6.size g7.size)
    have l6 : b6 < w7.heap.size := Nat.lt_of_lt_of_le hb6 g7.size
    try rw [lf]
    try rw [lh]
    try rw [ltz]
    clear hc5 hc6 hc7 g5 g6 g7 lf lh ltz HTZ RF7 RH7 RT7 lt
    have hNz : ((N : Int) == (N : Int)) = true := by simp
    go_wp2_with fail
    go_loopw [85, 16, 17] (fun i _ _ W => ∃ k : Nat, k ≤ N ∧ i = .int .i64 k ∧ Hid (Old w7 W)) (fun i _ _ _ => N - (intOf i).toNat)
    case atStart => exact ⟨0, by omega, rfl, Old.refl _⟩
    case round =>
      obtain ⟨k, hk, rfl, HGk⟩ := hrel
      by_cases hlt : k < N
      · have d1 : decide ((k : Int) < (N : Int)) = true := by simp; omega
        obtain ⟨m1, m2⟩ := KP.out k hlt
        have y7 := (HGk.out.cell (p := ⟨b7, q7 + k, none⟩) hb7).trans (F7.out k hlt)
        have y6 := (HGk.out.cell (p := ⟨b6, q6 + k, none⟩) l6).trans (F6.out k hlt)
        have y5 := (HGk.out.cell (p := ⟨b5, q5 + ts.getD k 0, none⟩) l5).trans (F5.out _ m1)
        rw [m2] at y6
        have ilt : (k : Int) < (N : Int) := by omega
        have imt : ((ts.getD k 0 : Nat) : Int) < (N : Int) := by omega
        clear m2
        generalize ts.getD k 0 = m at *
        generalize fs.getD m 0 = y at *
        go_wp2_with fail
        go_quiet (fail)
        go_wp2_with fail
        exact ⟨⟨k + 1, by omega, by go_num, HGk.out.drewN _⟩, by simp [intOf]; omega⟩
      · have d1 : decide ((k : Int) < (N : Int)) = false := by simp; omega
        have HR8 : Hid (Bk wr w1.heap.size #[.int .i64 p, .int .i64 N, .int .i64 r] 24) := HR7.out.old HGk.out
        have HG8 : Hid (Old w wr) := Old.trans HG7.out HGk.out
        have RX8 := hidMk (RX7.out.old HGk.out)
        have RZ8 := hidMk (RZ7.out.old HGk.out)
        clear F5 F6 F7 KP HGk HG7 HR7 RX7 RZ7 KT KF KH l5 l6 hb5 hb6 hb7
        go_wp2_with fail
        obtain ⟨w8, hw8⟩ : ∃ w8, w8 = wr := ⟨_, rfl⟩
        subst hw8
        clear d1 hlt hk
        go_loopw [18, 19, 20] (fun i _ _ W => ∃ j : Nat, j ≤ N ∧ i = .int .i64 ((2 * j + 1 : Nat) : Int) ∧ Hid (∀ q, q < j → (2 * q + 1) * T % (2 * N) ≠ 1) ∧ Hid (Old w8 W)) (fun i _ _ _ => 2 * N + 2 - (intOf i).toNat)
        case atStart => exact ⟨0, by omega, rfl, (fun q hq => by omega), Old.refl _⟩
        case round =>
          obtain ⟨j, hj, rfl, HJ, HGj⟩ := hrel
          have HR9 : Hid (Bk wr w1.heap.size #[.int .i64 p, .int .i64 N, .int .i64 r] 24) := HR8.out.old HGj.out
          have HG9 : Hid (Old w wr) := Old.trans HG8.out HGj.out
          have x0_9 := HR9.out.c (i := 0) rfl
          have x1_9 := HR9.out.c (i := 1) rfl
          have x2_9 := HR9.out.c (i := 2) rfl
          have hpn : ¬ (2 * (N : Int)) = 0 := by omega
          have hpn2 : ¬ N = 0 := by omega
          obtain ⟨i, hi⟩ : ∃ i, 2 * j + 1 = i := ⟨_, rfl⟩
          rw [hi]
          have HI : Hid (2 * j + 1 = i) := hi
          have hib : i ≤ 2 * N + 1 := by omega
          have hodd : i % 2 = 1 := by omega
          clear hi
          by_cases hlt : i < 2 * N
          · have d1 : decide ((i : Int) < 2 * (N : Int)) = true := by simp; omega
            have hkt : i * T ≤ 1024 := Nat.le_trans (Nat.mul_le_mul (show i ≤ 32 by omega) (show T ≤ 32 by omega)) (by decide)
            have e1 : (i : Int) * (T : Int) = ((i * T : Nat) : Int) := by simp
            have e2 : ((i * T : Nat) : Int) % (2 * (N : Int)) = ((i * T % (2 * N) : Nat) : Int) := by simp
            have KB1 := KB.out i hlt
            have he : i * T % (2 * N) < 2 * N := Nat.mod_lt _ (by omega)
            have HJ2 : Hid (i * T % (2 * N) ≠ 1 → ∀ q, q < j + 1 → (2 * q + 1) * T % (2 * N) ≠ 1) := fun h q hq => by
              rcases Nat.lt_or_ge q j with h1 | h1
              · exact HJ.out q h1
              · have : 2 * q + 1 = i := by have := HI.out; omega
                rw [this]
                exact h
            generalize i * T = m at *
            generalize m % (2 * N) = e at *
            by_cases hm : e = 1
            · subst hm
              have kb := KB1 rfl hodd wr _ HG9.out (RZ8.out.old HGj.out)
              have RX9 := hidMk (RX8.out.old HGj.out)
              clear KB1 HJ2
              go_wp2_with fail
              refine kb.mono ?_
              rintro e w10 ⟨v10, rfl, g10, o10⟩
              obtain ⟨a10, c10, rfl⟩ := (Own.row o10).slice
              have HG10 : Hid (Old w w10) := Old.trans HG9.out g10
              have c11 := same_yes xs _ _ w10 (Own.row o10) (RX9.out.old g10) (by omega)
              clear g10 o10 kb
              go_wp2_with fail
              refine c11.mono ?_
              rintro e w11 ⟨rfl, g11⟩
              have HG11 : Hid (Old w w11) := Old.trans HG10.out g11
              clear g11 c11
              go_wp2_with fail
              go_ret
              exact ⟨rfl, HG11.out⟩
            · have d2 : ((e : Int) == 1) = false := by simp; omega
              have d3 : decide ((e : Int) = 1) = false := by simp; omega
              have hm2 : ¬ (e : Int) = 1 := by omega
              have HJ3 : Hid (∀ q, q < j + 1 → (2 * q + 1) * T % (2 * N) ≠ 1) := HJ2.out hm
              clear KB1 HJ2
              go_wp2_with fail
              have hij := HI.out
              exact ⟨⟨j + 1, by omega, by show Value.int _ _ = Value.int _ _; congr 1; omega, HJ3, HGj⟩, by simp [intOf]; omega⟩
          · exfalso
            obtain ⟨q, h1, h2, h3⟩ := KE.out
            have hij := HI.out
            refine HJ.out (q / 2) (by omega) ?_
            rw [show 2 * (q / 2) + 1 = q by omega]
            exact h2
end Go.Proofs.YtpoogglplaeooaaDoor
