/- Proved: the doors of the functions on rings: none where the ring, a list or a turn is not as said; what the function within answers otherwise. -/
import Derived.Test.YtplaaglckbfklaaDoorPoly
namespace Go.Proofs.YtplaaglckbfklaaDoor
open Go.ChangeShapes Go.WideShapes Go.ChangeAt Go.RowKit
set_option linter.unusedVariables false
theorem own_nil (w : World) (base : Nat) : Own w base (.slice none 0 0) [] := ⟨rfl, Or.inl ⟨rfl, rfl⟩⟩
/-- an odd number in 1..2 n - 1 -/
def turnB (n t : Int) : Bool := decide (1 ≤ t) && decide (t < 2 * n) && (t % 2 == 1)
theorem impl_isTurn (t n : Int) (w : World) (ht : -9223372036854775808 ≤ t ∧ t ≤ 9223372036854775807) (hn : 2 ≤ n ∧ n ≤ 16) :
    Calls Tryd.prog 104 #[.int .i64 t, .int .i64 n] w fun e w' => e = .returned (.bool (turnB n t)) ∧ w' = w := by
  by_cases h1 : 1 ≤ t
  · have d1 : decide (1 ≤ t) = true := by simp; omega
    by_cases h2 : t < 2 * n
    · have d2 : decide (t < 2 * n) = true := by simp; omega
      go_enter Tryd.func104, Tryd.ntmps104
      go_wp2_with fail
      go_ret
      exact ⟨by simp [turnB, d1, d2], rfl⟩
    · have d2 : decide (t < 2 * n) = false := by simp; omega
      go_enter Tryd.func104, Tryd.ntmps104
      go_wp2_with fail
      go_ret
      exact ⟨by simp [turnB, d1, d2], rfl⟩
  · have d1 : decide (1 ≤ t) = false := by simp; omega
    go_enter Tryd.func104, Tryd.ntmps104
    go_wp2_with fail
    go_ret
    exact ⟨by simp [turnB, d1], rfl⟩
theorem spec_odd (n t : Int) (w : World) (ht : -9223372036854775808 ≤ t ∧ t ≤ 9223372036854775807) (hn : 2 ≤ n ∧ n ≤ 16) :
    Calls Tryd.prog 106 #[.int .i64 n, .int .i64 t] w fun e w' => e = .returned (.bool (turnB n t)) ∧ w' = w := by
  have c := fun W => spec_in t 1 (2 * n - 1) W
  have e : turnB n t = (inB t 1 (2 * n - 1) && (t % 2 == 1)) := by
    rw [Bool.eq_iff_iff]
    simp [turnB, inB]
    omega
  rw [e]
  cases hi : inB t 1 (2 * n - 1)
  · rw [hi] at c
    clear hi e
    go_enter Tryd.func106, Tryd.ntmps106
    go_wp2_with fail
    refine (c _).mono ?_
    rintro e w1 ⟨rfl, rfl⟩
    go_wp2_with fail
    go_ret
    exact ⟨rfl, rfl⟩
  · rw [hi] at c
    obtain ⟨h1, h2⟩ := inB_out hi
    clear hi e
    go_enter Tryd.func106, Tryd.ntmps106
    go_wp2_with fail
    refine (c _).mono ?_
    rintro e w1 ⟨rfl, rfl⟩
    go_wp2_with fail
    go_ret
    exact ⟨rfl, rfl⟩
set_option maxHeartbeats 2000000 in
theorem impl_Forward_of (p n r : Int) (xs : List Int) (g ok : Bool) (zs : List Int) (hgp : g = true → (2 ≤ p ∧ p ≤ 268435456) ∧ (2 ≤ n ∧ n ≤ 16)) (hlv : xs.length ≤ 9223372036854775807) (hok : (g && polyB p n xs) = ok) (hz : ok = false → zs = [])
    (cg : ∀ W, PrsW W → TabW W → Calls Tryd.prog 95 #[.agg #[.int .i64 p, .int .i64 n, .int .i64 r]] W fun e w' => e = .returned (.bool g) ∧ Old W w')
    (inn : ok = true → ∀ v W, TabW W → Row W v xs → Calls Tryd.prog 99 #[.agg #[.int .i64 p, .int .i64 n, .int .i64 r], v] W fun e w' => ∃ v', e = .returned v' ∧ Old W w' ∧ Own w' W.heap.size v' zs) (v : Value) (w : World) (hP : PrsW w) (hT : TabW w) (hv : Row w v xs) :
    Calls Tryd.prog 32 #[.agg #[.int .i64 p, .int .i64 n, .int .i64 r], v] w fun e w' => ∃ v', e = .returned (.tuple #[v', .bool ok]) ∧ Old w w' ∧ Own w' w.heap.size v' zs := by
  have HP : Hid (PrsW w) := hP
  have HT : Hid (TabW w) := hT
  clear hP hT
  have Rv : Hid (Row w v xs) := hv
  obtain ⟨cv, capv, rfl⟩ := hv.slice
  clear hv
  have HG0 : Hid (Old w (w.alloc (.cells #[.int .i64 p, .int .i64 n, .int .i64 r] 39))) := (Old.refl w).alloc _
  have RC0 : Hid (Rc (w.alloc (.cells #[.int .i64 p, .int .i64 n, .int .i64 r] 39)) w.heap.size p n r) := Rc.new w p n r
  cases g
  · obtain rfl : ok = false := by simpa using hok.symm
    obtain rfl := hz rfl
    clear inn hok hz hgp
    go_enter Tryd.func32, Tryd.ntmps32
    go_wp2_with fail
    refine (cg _ (HP.out.old HG0.out) (HT.out.old HG0.out)).mono ?_
    rintro e w1 ⟨rfl, g1⟩
    have HG1 : Hid (Old w w1) := Old.trans HG0.out g1
    have RC1 : Hid (Rc w1 w.heap.size p n r) := RC0.out.old g1
    clear g1
    go_wp2_with fail
    go_ret2
    exact ⟨_, rfl, HG1.out, own_nil _ _⟩
  · obtain ⟨⟨p1, p2⟩, n1, n2⟩ := hgp rfl
    have c1 := fun v W (h : Row W v xs) => impl_poly p n r xs v W h hlv ⟨p1, p2⟩
    cases e1 : polyB p n xs
    · rw [e1] at c1
      obtain rfl : ok = false := by rw [← hok]; simp [e1]
      obtain rfl := hz rfl
      clear inn hok hz hgp e1
      go_enter Tryd.func32, Tryd.ntmps32
      go_wp2_with fail
      refine (cg _ (HP.out.old HG0.out) (HT.out.old HG0.out)).mono ?_
      rintro e w1 ⟨rfl, g1⟩
      have HG1 : Hid (Old w w1) := Old.trans HG0.out g1
      have RC1 : Hid (Rc w1 w.heap.size p n r) := RC0.out.old g1
      clear g1
      have z10 := RC1.out.c0
      have z11 := RC1.out.c1
      have z12 := RC1.out.c2
      go_wp2_with fail
      refine (c1 _ _ (Rv.out.old HG1.out)).mono ?_
      rintro e w2 ⟨rfl, g2⟩
      clear z10 z11 z12
      have HG2 : Hid (Old w w2) := Old.trans HG1.out g2
      have RC2 : Hid (Rc w2 w.heap.size p n r) := RC1.out.old g2
      clear g2
      go_wp2_with fail
      go_ret2
      exact ⟨_, rfl, HG2.out, own_nil _ _⟩
    rw [e1] at c1
    obtain rfl : ok = true := by rw [← hok]; simp [e1]
    have IN := inn rfl
    clear inn hok hz hgp e1
    go_enter Tryd.func32, Tryd.ntmps32
    go_wp2_with fail
    refine (cg _ (HP.out.old HG0.out) (HT.out.old HG0.out)).mono ?_
    rintro e w1 ⟨rfl, g1⟩
    have HG1 : Hid (Old w w1) := Old.trans HG0.out g1
    have RC1 : Hid (Rc w1 w.heap.size p n r) := RC0.out.old g1
    clear g1
    have z10 := RC1.out.c0
    have z11 := RC1.out.c1
    have z12 := RC1.out.c2
    go_wp2_with fail
    refine (c1 _ _ (Rv.out.old HG1.out)).mono ?_
    rintro e w2 ⟨rfl, g2⟩
    clear z10 z11 z12
    have HG2 : Hid (Old w w2) := Old.trans HG1.out g2
    have RC2 : Hid (Rc w2 w.heap.size p n r) := RC1.out.old g2
    clear g2
    have z20 := RC2.out.c0
    have z21 := RC2.out.c1
    have z22 := RC2.out.c2
    go_wp2_with fail
    refine (IN _ _ (HT.out.old HG2.out) (Rv.out.old HG2.out)).mono ?_
    rintro e w3 ⟨v', rfl, g, o⟩
    obtain ⟨a', cap', rfl⟩ := (Own.row o).slice
    have HO : Hid (Own w3 w.heap.size (.slice a' zs.length cap') zs) := Own.low o HG2.out.size
    have HG : Hid (Old w w3) := Old.trans HG2.out g
    clear g o
    go_wp2_with fail
    go_ret2
    exact ⟨_, rfl, HG.out, HO.out⟩
set_option maxHeartbeats 2000000 in
theorem spec_Forward_of (p n r : Int) (xs : List Int) (g ok : Bool) (zs : List Int) (hgp : g = true → (2 ≤ p ∧ p ≤ 268435456) ∧ (2 ≤ n ∧ n ≤ 16)) (hlv : xs.length ≤ 9223372036854775807) (hok : (g && polyB p n xs) = ok) (hz : ok = false → zs = [])
    (cg : ∀ W, Calls Tryd.prog 100 #[.agg #[.int .i64 p, .int .i64 n, .int .i64 r]] W fun e w' => e = .returned (.bool g) ∧ Old W w')
    (inn : ok = true → ∀ v W, Row W v xs → Calls Tryd.prog 112 #[.agg #[.int .i64 p, .int .i64 n, .int .i64 r], v] W fun e w' => ∃ v', e = .returned v' ∧ Old W w' ∧ Own w' W.heap.size v' zs) (v : Value) (w : World) (hv : Row w v xs) :
    Calls Tryd.prog 42 #[.agg #[.int .i64 p, .int .i64 n, .int .i64 r], v] w fun e w' => ∃ v', e = .returned (.tuple #[v', .bool ok]) ∧ Old w w' ∧ Own w' w.heap.size v' zs := by
  have Rv : Hid (Row w v xs) := hv
  obtain ⟨cv, capv, rfl⟩ := hv.slice
  clear hv
  have HG0 : Hid (Old w (w.alloc (.cells #[.int .i64 p, .int .i64 n, .int .i64 r] 39))) := (Old.refl w).alloc _
  have RC0 : Hid (Rc (w.alloc (.cells #[.int .i64 p, .int .i64 n, .int .i64 r] 39)) w.heap.size p n r) := Rc.new w p n r
  cases g
  · obtain rfl : ok = false := by simpa using hok.symm
    obtain rfl := hz rfl
    clear inn hok hz hgp
    go_enter Tryd.func42, Tryd.ntmps42
    go_wp2_with fail
    refine (cg _).mono ?_
    rintro e w1 ⟨rfl, g1⟩
    have HG1 : Hid (Old w w1) := Old.trans HG0.out g1
    have RC1 : Hid (Rc w1 w.heap.size p n r) := RC0.out.old g1
    clear g1
    go_wp2_with fail
    go_ret2
    exact ⟨_, rfl, HG1.out, own_nil _ _⟩
  · obtain ⟨⟨p1, p2⟩, n1, n2⟩ := hgp rfl
    have c1 := fun v W (h : Row W v xs) => spec_poly p n r xs v W h hlv ⟨p1, p2⟩
    cases e1 : polyB p n xs
    · rw [e1] at c1
      obtain rfl : ok = false := by rw [← hok]; simp [e1]
      obtain rfl := hz rfl
      clear inn hok hz hgp e1
      go_enter Tryd.func42, Tryd.ntmps42
      go_wp2_with fail
      refine (cg _).mono ?_
      rintro e w1 ⟨rfl, g1⟩
      have HG1 : Hid (Old w w1) := Old.trans HG0.out g1
      have RC1 : Hid (Rc w1 w.heap.size p n r) := RC0.out.old g1
      clear g1
      have z10 := RC1.out.c0
      have z11 := RC1.out.c1
      have z12 := RC1.out.c2
      go_wp2_with fail
      refine (c1 _ _ (Rv.out.old HG1.out)).mono ?_
      rintro e w2 ⟨rfl, g2⟩
      clear z10 z11 z12
      have HG2 : Hid (Old w w2) := Old.trans HG1.out g2
      have RC2 : Hid (Rc w2 w.heap.size p n r) := RC1.out.old g2
      clear g2
      go_wp2_with fail
      go_ret2
      exact ⟨_, rfl, HG2.out, own_nil _ _⟩
    rw [e1] at c1
    obtain rfl : ok = true := by rw [← hok]; simp [e1]
    have IN := inn rfl
    clear inn hok hz hgp e1
    go_enter Tryd.func42, Tryd.ntmps42
    go_wp2_with fail
    refine (cg _).mono ?_
    rintro e w1 ⟨rfl, g1⟩
    have HG1 : Hid (Old w w1) := Old.trans HG0.out g1
    have RC1 : Hid (Rc w1 w.heap.size p n r) := RC0.out.old g1
    clear g1
    have z10 := RC1.out.c0
    have z11 := RC1.out.c1
    have z12 := RC1.out.c2
    go_wp2_with fail
    refine (c1 _ _ (Rv.out.old HG1.out)).mono ?_
    rintro e w2 ⟨rfl, g2⟩
    clear z10 z11 z12
    have HG2 : Hid (Old w w2) := Old.trans HG1.out g2
    have RC2 : Hid (Rc w2 w.heap.size p n r) := RC1.out.old g2
    clear g2
    have z20 := RC2.out.c0
    have z21 := RC2.out.c1
    have z22 := RC2.out.c2
    go_wp2_with fail
    refine (IN _ _ (Rv.out.old HG2.out)).mono ?_
    rintro e w3 ⟨v', rfl, g, o⟩
    obtain ⟨a', cap', rfl⟩ := (Own.row o).slice
    have HO : Hid (Own w3 w.heap.size (.slice a' zs.length cap') zs) := Own.low o HG2.out.size
    have HG : Hid (Old w w3) := Old.trans HG2.out g
    clear g o
    go_wp2_with fail
    go_ret2
    exact ⟨_, rfl, HG.out, HO.out⟩
set_option maxHeartbeats 2000000 in
theorem impl_Inverse_of (p n r : Int) (xs : List Int) (g ok : Bool) (zs : List Int) (hgp : g = true → (2 ≤ p ∧ p ≤ 268435456) ∧ (2 ≤ n ∧ n ≤ 16)) (hlv : xs.length ≤ 9223372036854775807) (hok : (g && polyB p n xs) = ok) (hz : ok = false → zs = [])
    (cg : ∀ W, PrsW W → TabW W → Calls Tryd.prog 95 #[.agg #[.int .i64 p, .int .i64 n, .int .i64 r]] W fun e w' => e = .returned (.bool g) ∧ Old W w')
    (inn : ok = true → ∀ v W, TabW W → Row W v xs → Calls Tryd.prog 97 #[.agg #[.int .i64 p, .int .i64 n, .int .i64 r], v] W fun e w' => ∃ v', e = .returned v' ∧ Old W w' ∧ Own w' W.heap.size v' zs) (v : Value) (w : World) (hP : PrsW w) (hT : TabW w) (hv : Row w v xs) :
    Calls Tryd.prog 34 #[.agg #[.int .i64 p, .int .i64 n, .int .i64 r], v] w fun e w' => ∃ v', e = .returned (.tuple #[v', .bool ok]) ∧ Old w w' ∧ Own w' w.heap.size v' zs := by
  have HP : Hid (PrsW w) := hP
  have HT : Hid (TabW w) := hT
  clear hP hT
  have Rv : Hid (Row w v xs) := hv
  obtain ⟨cv, capv, rfl⟩ := hv.slice
  clear hv
  have HG0 : Hid (Old w (w.alloc (.cells #[.int .i64 p, .int .i64 n, .int .i64 r] 39))) := (Old.refl w).alloc _
  have RC0 : Hid (Rc (w.alloc (.cells #[.int .i64 p, .int .i64 n, .int .i64 r] 39)) w.heap.size p n r) := Rc.new w p n r
  cases g
  · obtain rfl : ok = false := by simpa using hok.symm
    obtain rfl := hz rfl
    clear inn hok hz hgp
    go_enter Tryd.func34, Tryd.ntmps34
    go_wp2_with fail
    refine (cg _ (HP.out.old HG0.out) (HT.out.old HG0.out)).mono ?_
    rintro e w1 ⟨rfl, g1⟩
    have HG1 : Hid (Old w w1) := Old.trans HG0.out g1
    have RC1 : Hid (Rc w1 w.heap.size p n r) := RC0.out.old g1
    clear g1
    go_wp2_with fail
    go_ret2
    exact ⟨_, rfl, HG1.out, own_nil _ _⟩
  · obtain ⟨⟨p1, p2⟩, n1, n2⟩ := hgp rfl
    have c1 := fun v W (h : Row W v xs) => impl_poly p n r xs v W h hlv ⟨p1, p2⟩
    cases e1 : polyB p n xs
    · rw [e1] at c1
      obtain rfl : ok = false := by rw [← hok]; simp [e1]
      obtain rfl := hz rfl
      clear inn hok hz hgp e1
      go_enter Tryd.func34, Tryd.ntmps34
      go_wp2_with fail
      refine (cg _ (HP.out.old HG0.out) (HT.out.old HG0.out)).mono ?_
      rintro e w1 ⟨rfl, g1⟩
      have HG1 : Hid (Old w w1) := Old.trans HG0.out g1
      have RC1 : Hid (Rc w1 w.heap.size p n r) := RC0.out.old g1
      clear g1
      have z10 := RC1.out.c0
      have z11 := RC1.out.c1
      have z12 := RC1.out.c2
      go_wp2_with fail
      refine (c1 _ _ (Rv.out.old HG1.out)).mono ?_
      rintro e w2 ⟨rfl, g2⟩
      clear z10 z11 z12
      have HG2 : Hid (Old w w2) := Old.trans HG1.out g2
      have RC2 : Hid (Rc w2 w.heap.size p n r) := RC1.out.old g2
      clear g2
      go_wp2_with fail
      go_ret2
      exact ⟨_, rfl, HG2.out, own_nil _ _⟩
    rw [e1] at c1
    obtain rfl : ok = true := by rw [← hok]; simp [e1]
    have IN := inn rfl
    clear inn hok hz hgp e1
    go_enter Tryd.func34, Tryd.ntmps34
    go_wp2_with fail
    refine (cg _ (HP.out.old HG0.out) (HT.out.old HG0.out)).mono ?_
    rintro e w1 ⟨rfl, g1⟩
    have HG1 : Hid (Old w w1) := Old.trans HG0.out g1
    have RC1 : Hid (Rc w1 w.heap.size p n r) := RC0.out.old g1
    clear g1
    have z10 := RC1.out.c0
    have z11 := RC1.out.c1
    have z12 := RC1.out.c2
    go_wp2_with fail
    refine (c1 _ _ (Rv.out.old HG1.out)).mono ?_
    rintro e w2 ⟨rfl, g2⟩
    clear z10 z11 z12
    have HG2 : Hid (Old w w2) := Old.trans HG1.out g2
    have RC2 : Hid (Rc w2 w.heap.size p n r) := RC1.out.old g2
    clear g2
    have z20 := RC2.out.c0
    have z21 := RC2.out.c1
    have z22 := RC2.out.c2
    go_wp2_with fail
    refine (IN _ _ (HT.out.old HG2.out) (Rv.out.old HG2.out)).mono ?_
    rintro e w3 ⟨v', rfl, g, o⟩
    obtain ⟨a', cap', rfl⟩ := (Own.row o).slice
    have HO : Hid (Own w3 w.heap.size (.slice a' zs.length cap') zs) := Own.low o HG2.out.size
    have HG : Hid (Old w w3) := Old.trans HG2.out g
    clear g o
    go_wp2_with fail
    go_ret2
    exact ⟨_, rfl, HG.out, HO.out⟩
set_option maxHeartbeats 2000000 in
theorem spec_Inverse_of (p n r : Int) (xs : List Int) (g ok : Bool) (zs : List Int) (hgp : g = true → (2 ≤ p ∧ p ≤ 268435456) ∧ (2 ≤ n ∧ n ≤ 16)) (hlv : xs.length ≤ 9223372036854775807) (hok : (g && polyB p n xs) = ok) (hz : ok = false → zs = [])
    (cg : ∀ W, Calls Tryd.prog 100 #[.agg #[.int .i64 p, .int .i64 n, .int .i64 r]] W fun e w' => e = .returned (.bool g) ∧ Old W w')
    (inn : ok = true → ∀ v W, Row W v xs → Calls Tryd.prog 113 #[.agg #[.int .i64 p, .int .i64 n, .int .i64 r], v] W fun e w' => ∃ v', e = .returned v' ∧ Old W w' ∧ Own w' W.heap.size v' zs) (v : Value) (w : World) (hv : Row w v xs) :
    Calls Tryd.prog 48 #[.agg #[.int .i64 p, .int .i64 n, .int .i64 r], v] w fun e w' => ∃ v', e = .returned (.tuple #[v', .bool ok]) ∧ Old w w' ∧ Own w' w.heap.size v' zs := by
  have Rv : Hid (Row w v xs) := hv
  obtain ⟨cv, capv, rfl⟩ := hv.slice
  clear hv
  have HG0 : Hid (Old w (w.alloc (.cells #[.int .i64 p, .int .i64 n, .int .i64 r] 39))) := (Old.refl w).alloc _
  have RC0 : Hid (Rc (w.alloc (.cells #[.int .i64 p, .int .i64 n, .int .i64 r] 39)) w.heap.size p n r) := Rc.new w p n r
  cases g
  · obtain rfl : ok = false := by simpa using hok.symm
    obtain rfl := hz rfl
    clear inn hok hz hgp
    go_enter Tryd.func48, Tryd.ntmps48
    go_wp2_with fail
    refine (cg _).mono ?_
    rintro e w1 ⟨rfl, g1⟩
    have HG1 : Hid (Old w w1) := Old.trans HG0.out g1
    have RC1 : Hid (Rc w1 w.heap.size p n r) := RC0.out.old g1
    clear g1
    go_wp2_with fail
    go_ret2
    exact ⟨_, rfl, HG1.out, own_nil _ _⟩
  · obtain ⟨⟨p1, p2⟩, n1, n2⟩ := hgp rfl
    have c1 := fun v W (h : Row W v xs) => spec_poly p n r xs v W h hlv ⟨p1, p2⟩
    cases e1 : polyB p n xs
    · rw [e1] at c1
      obtain rfl : ok = false := by rw [← hok]; simp [e1]
      obtain rfl := hz rfl
      clear inn hok hz hgp e1
      go_enter Tryd.func48, Tryd.ntmps48
      go_wp2_with fail
      refine (cg _).mono ?_
      rintro e w1 ⟨rfl, g1⟩
      have HG1 : Hid (Old w w1) := Old.trans HG0.out g1
      have RC1 : Hid (Rc w1 w.heap.size p n r) := RC0.out.old g1
      clear g1
      have z10 := RC1.out.c0
      have z11 := RC1.out.c1
      have z12 := RC1.out.c2
      go_wp2_with fail
      refine (c1 _ _ (Rv.out.old HG1.out)).mono ?_
      rintro e w2 ⟨rfl, g2⟩
      clear z10 z11 z12
      have HG2 : Hid (Old w w2) := Old.trans HG1.out g2
      have RC2 : Hid (Rc w2 w.heap.size p n r) := RC1.out.old g2
      clear g2
      go_wp2_with fail
      go_ret2
      exact ⟨_, rfl, HG2.out, own_nil _ _⟩
    rw [e1] at c1
    obtain rfl : ok = true := by rw [← hok]; simp [e1]
    have IN := inn rfl
    clear inn hok hz hgp e1
    go_enter Tryd.func48, Tryd.ntmps48
    go_wp2_with fail
    refine (cg _).mono ?_
    rintro e w1 ⟨rfl, g1⟩
    have HG1 : Hid (Old w w1) := Old.trans HG0.out g1
    have RC1 : Hid (Rc w1 w.heap.size p n r) := RC0.out.old g1
    clear g1
    have z10 := RC1.out.c0
    have z11 := RC1.out.c1
    have z12 := RC1.out.c2
    go_wp2_with fail
    refine (c1 _ _ (Rv.out.old HG1.out)).mono ?_
    rintro e w2 ⟨rfl, g2⟩
    clear z10 z11 z12
    have HG2 : Hid (Old w w2) := Old.trans HG1.out g2
    have RC2 : Hid (Rc w2 w.heap.size p n r) := RC1.out.old g2
    clear g2
    have z20 := RC2.out.c0
    have z21 := RC2.out.c1
    have z22 := RC2.out.c2
    go_wp2_with fail
    refine (IN _ _ (Rv.out.old HG2.out)).mono ?_
    rintro e w3 ⟨v', rfl, g, o⟩
    obtain ⟨a', cap', rfl⟩ := (Own.row o).slice
    have HO : Hid (Own w3 w.heap.size (.slice a' zs.length cap') zs) := Own.low o HG2.out.size
    have HG : Hid (Old w w3) := Old.trans HG2.out g
    clear g o
    go_wp2_with fail
    go_ret2
    exact ⟨_, rfl, HG.out, HO.out⟩
end Go.Proofs.YtplaaglckbfklaaDoor
