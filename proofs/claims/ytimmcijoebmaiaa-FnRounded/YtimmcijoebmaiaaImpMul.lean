/- Proved: the contract of the program's MulWholes: it answers what the model does, as a function of the numbers. -/
import Derived.Test.YtimmcijoebmaiaaR07
import Derived.Test.YtimmcijoebmaiaaR00
import Derived.Test.YtimmcijoebmaiaaSzIn
import Derived.Test.YtimmcijoebmaiaaR10
import Derived.Test.YtimmcijoebmaiaaR11
import Derived.Deep.RegionHeld3
namespace Go.Proofs.Ytimmcijoebmaiaa
open Go.ChangeShapes Go.WideShapes Go.ChangeAt Go.RowKit
open M2
set_option linter.unusedVariables false
set_option linter.unusedSimpArgs false
theorem cell_other (W : World) (p : Addr) (v : Value) (q : Addr) (h : q.block ≠ p.block) : (W.setCell p v).cell? q = W.cell? q := World.cell?_of_block (heap_setCell_other W p q.block v h)
theorem told_of (neg : Bool) (n : Nat) (z : Int) (h1 : z.natAbs = n) (h2 : n ≠ 0 → (neg = true ↔ z < 0)) : toldN neg n = told z := by
  have e1 : dg z = dig n := by unfold dg; rw [h1]
  have e2 : (neg && decide (n ≠ 0)) = ng z := by
    by_cases h0 : n = 0
    · have : z = 0 := by omega
      subst this
      simp [h0, ng]
    · have := h2 h0
      unfold ng
      by_cases hz : z < 0
      · simp [h0, hz, this.2 hz]
      · have hn : neg = false := by
          cases hneg : neg with
          | false => rfl
          | true => exact absurd (this.1 hneg) hz
        simp [hn, hz]
  unfold toldN told
  rw [e1, e2]
  rfl
theorem len_told (z : Int) : (told z).2.1.length ≤ 1000 := by
  unfold told
  split
  · rename_i h; exact Nat.le_trans h (by decide)
  · simp
theorem len_mul (n m : Bool) (xs ys : List Int) : (mulW n m xs ys).2.1.length ≤ 1000 := by
  unfold mulW
  split
  · exact len_told _
  · simp [nought]
end Go.Proofs.Ytimmcijoebmaiaa
