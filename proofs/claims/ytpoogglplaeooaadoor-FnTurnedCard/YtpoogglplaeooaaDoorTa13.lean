/- Proved: several texts in one: what each proves is said ahead of it. -/
import Derived.Test.YtpoogglplaeooaaDoorTa04
import Derived.Test.YtpoogglplaeooaaDoorTa02
import Derived.Test.YtpoogglplaeooaaDoorTa23
/- Proved: the door of the program's MulRing: what it asks ahead of the product. -/
namespace Go.Proofs.YtpoogglplaeooaaDoor
open Go.ChangeShapes Go.WideShapes Go.ChangeAt Go.RowKit
set_option linter.unusedVariables false
set_option maxHeartbeats 2000000 in
theorem impl_MulRing_of (p n r : Int) (xs ys : List Int) (g ok : Bool) (zs : List Int) (hgp : g = true → (2 ≤ p ∧ p ≤ 268435456) ∧ (2 ≤ n ∧ n ≤ 16)) (hlv : xs.length ≤ 9223372036854775807) (hlu : ys.length ≤ 9223372036854775807) (hok : (g && polyB p n xs && polyB p n ys) = ok) (hz : ok = false → zs = [])
    (cg : ∀ W, PrsW W → TabW W → Calls Tryd.prog 18 #[.agg #[.int .i64 p, .int .i64 n, .int .i64 r]] W fun e w' => e = .returned (.bool g) ∧ Old W w')
    (inn : ok = true → ∀ v u W, TabW W → Row W v xs → Row W u ys → Calls Tryd.prog 20 #[.agg #[.int .i64 p, .int .i64 n, .int .i64 r], v, u] W fun e w' => ∃ v', e = .returned v' ∧ Old W w' ∧ Own w' W.heap.size v' zs) (v u : Value) (w : World) (hP : PrsW w) (hT : TabW w) (hv : Row w v xs) (hu : Row w u ys) :
    Calls Tryd.prog 6 #[.agg #[.int .i64 p, .int .i64 n, .int .i64 r], v, u] w fun e w' => ∃ v', e = .returned (.tuple #[v', .bool ok]) ∧ Old w w' ∧ Own w' w.heap.size v' zs := by
  have HP : Hid (PrsW w) := hP
  have HT : Hid (TabW w) := hT
  clear hP hT
  have Rv : Hid (Row w v xs) := hv
  obtain ⟨cv, capv, rfl⟩ := hv.slice
  clear hv
  have Ru : Hid (Row w u ys) := hu
  obtain ⟨cu, capu, rfl⟩ := hu.slice
  clear hu
  have HG0 : Hid (Old w (w.alloc (.cells #[.int .i64 p, .int .i64 n, .int .i64 r] 24))) := (Old.refl w).alloc _
  have RC0 : Hid (Rc (w.alloc (.cells #[.int .i64 p, .int .i64 n, .int .i64 r] 24)) w.heap.size p n r) := Rc.new w p n r
  cases g
  · obtain rfl : ok = false := by simpa using hok.symm
    obtain rfl := hz rfl
    clear inn hok hz hgp
    go_enter Tryd.func6, Tryd.ntmps6
    go_wp2_with fail
    refine (cg _ (HP.out.old HG0.out) (HT.out.old HG0.out)).mono ?_
    rintro e w1 ⟨rfl, g1⟩
    have HG1 : Hid (Old w w1) := Old.trans HG0.out g1
    have RC1 : Hid (Rc w1 w.heap.size p n r) := RC0.out.old g1
    clear g1
    go_wp2_with fail
    go_ret2
    exact ⟨_, rfl, HG1.out, own_nil _ _⟩
  · obtain ⟨⟨p1, p2⟩, n1, n2⟩ := hgp rfl
    have c1 := fun v W (h : Row W v xs) => impl_poly p n r xs v W h hlv ⟨p1, p2⟩
    cases e1 : polyB p n xs
    · rw [e1] at c1
      obtain rfl : ok = false := by rw [← hok]; simp [e1]
      obtain rfl := hz rfl
      clear inn hok hz hgp e1
      go_enter Tryd.func6, Tryd.ntmps6
      go_wp2_with fail
      refine (cg _ (HP.out.old HG0.out) (HT.out.old HG0.out)).mono ?_
      rintro e w1 ⟨rfl, g1⟩
      have HG1 : Hid (Old w w1) := Old.trans HG0.out g1
      have RC1 : Hid (Rc w1 w.heap.size p n r) := RC0.out.old g1
      clear g1
      have z10 := RC1.out.c0
      have z11 := RC1.out.c1
      have z12 := RC1.out.c2
      go_wp2_with fail
      refine (c1 _ _ (Rv.out.old HG1.out)).mono ?_
      rintro e w2 ⟨rfl, g2⟩
      clear z10 z11 z12
      have HG2 : Hid (Old w w2) := Old.trans HG1.out g2
      have RC2 : Hid (Rc w2 w.heap.size p n r) := RC1.out.old g2
      clear g2
      go_wp2_with fail
      go_ret2
      exact ⟨_, rfl, HG2.out, own_nil _ _⟩
    rw [e1] at c1
    have c2 := fun v W (h : Row W v ys) => impl_poly p n r ys v W h hlu ⟨p1, p2⟩
    cases e2 : polyB p n ys
    · rw [e2] at c2
      obtain rfl : ok = false := by rw [← hok]; simp [e1, e2]
      obtain rfl := hz rfl
      clear inn hok hz hgp e1 e2
      go_enter Tryd.func6, Tryd.ntmps6
      go_wp2_with fail
      refine (cg _ (HP.out.old HG0.out) (HT.out.old HG0.out)).mono ?_
      rintro e w1 ⟨rfl, g1⟩
      have HG1 : Hid (Old w w1) := Old.trans HG0.out g1
      have RC1 : Hid (Rc w1 w.heap.size p n r) := RC0.out.old g1
      clear g1
      have z10 := RC1.out.c0
      have z11 := RC1.out.c1
      have z12 := RC1.out.c2
      go_wp2_with fail
      refine (c1 _ _ (Rv.out.old HG1.out)).mono ?_
      rintro e w2 ⟨rfl, g2⟩
      clear z10 z11 z12
      have HG2 : Hid (Old w w2) := Old.trans HG1.out g2
      have RC2 : Hid (Rc w2 w.heap.size p n r) := RC1.out.old g2
      clear g2
      have z20 := RC2.out.c0
      have z21 := RC2.out.c1
      have z22 := RC2.out.c2
      go_wp2_with fail
      refine (c2 _ _ (Ru.out.old HG2.out)).mono ?_
      rintro e w3 ⟨rfl, g3⟩
      clear z20 z21 z22
      have HG3 : Hid (Old w w3) := Old.trans HG2.out g3
      have RC3 : Hid (Rc w3 w.heap.size p n r) := RC2.out.old g3
      clear g3
      go_wp2_with fail
      go_ret2
      exact ⟨_, rfl, HG3.out, own_nil _ _⟩
    rw [e2] at c2
    obtain rfl : ok = true := by rw [← hok]; simp [e1, e2]
    have IN := inn rfl
    clear inn hok hz hgp e1 e2
    go_enter Tryd.func6, Tryd.ntmps6
    go_wp2_with fail
    refine (cg _ (HP.out.old HG0.out) (HT.out.old HG0.out)).mono ?_
    rintro e w1 ⟨rfl, g1⟩
    have HG1 : Hid (Old w w1) := Old.trans HG0.out g1
    have RC1 : Hid (Rc w1 w.heap.size p n r) := RC0.out.old g1
    clear g1
    have z10 := RC1.out.c0
    have z11 := RC1.out.c1
    have z12 := RC1.out.c2
    go_wp2_with fail
    refine (c1 _ _ (Rv.out.old HG1.out)).mono ?_
    rintro e w2 ⟨rfl, g2⟩
    clear z10 z11 z12
    have HG2 : Hid (Old w w2) := Old.trans HG1.out g2
    have RC2 : Hid (Rc w2 w.heap.size p n r) := RC1.out.old g2
    clear g2
    have z20 := RC2.out.c0
    have z21 := RC2.out.c1
    have z22 := RC2.out.c2
    go_wp2_with fail
    refine (c2 _ _ (Ru.out.old HG2.out)).mono ?_
    rintro e w3 ⟨rfl, g3⟩
    clear z20 z21 z22
    have HG3 : Hid (Old w w3) := Old.trans HG2.out g3
    have RC3 : Hid (Rc w3 w.heap.size p n r) := RC2.out.old g3
    clear g3
    have z30 := RC3.out.c0
    have z31 := RC3.out.c1
    have z32 := RC3.out.c2
    go_wp2_with fail
    refine (IN _ _ _ (HT.out.old HG3.out) (Rv.out.old HG3.out) (Ru.out.old HG3.out)).mono ?_
    rintro e w4 ⟨v', rfl, g, o⟩
    obtain ⟨a', cap', rfl⟩ := (Own.row o).slice
    have HO : Hid (Own w4 w.heap.size (.slice a' zs.length cap') zs) := Own.low o HG3.out.size
    have HG : Hid (Old w w4) := Old.trans HG3.out g
    clear g o
    go_wp2_with fail
    go_ret2
    exact ⟨_, rfl, HG.out, HO.out⟩
end Go.Proofs.YtpoogglplaeooaaDoor
/- Proved: the modulus of a good ring is a prime. -/
namespace Go.Proofs.YtpoogglplaeooaaDoor
open Go.ChangeShapes Go.WideShapes Go.ChangeAt Go.RowKit
set_option linter.unusedVariables false
theorem no_28 : isP 268435456 = false := by decide +kernel
theorem ring_pr {P N : Nat} (h : RingOk P N) : F1.Pr P := by
  have h1 := modB_yes h.md
  have h2 := h.pr
  rw [Int.toNat_natCast] at h2
  refine F1.pr_of_isP P h2 ?_
  have hn : P ≠ 268435456 := fun e => by
    rw [e, no_28] at h2
    cases h2
  omega
end Go.Proofs.YtpoogglplaeooaaDoor
