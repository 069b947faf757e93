/- Proved: several texts in one: what each proves is said ahead of it. -/
import Derived.Orders
import Derived.Tactics2
import Derived.Laws.Rows
import Derived.Laws.Tables
import Derived.Test.YtpoogglplaeooaaDoorTb00
import Derived.BigCall
/- Proved: a region that draws its order, by what holds between its operations, whatever the order; no function of the program. -/
namespace Go.Proofs.YtpoogglplaeooaaDoor
open Go
set_option linter.unusedSimpArgs false
set_option linter.unusedVariables false
def upd (d : Nat → Bool) (i : Nat) : Nat → Bool := fun j => if j = i then true else d j
/-- each operation, once those that it waits for are done, keeps what holds -/
def Steps (P : Program) (Q : Exit → Act → World → Prop) (I : (Nat → Bool) → Act → World → Prop) : Nat → List Oper → Prop
  | _, [] => True
  | i, o :: os => (∀ d a w, I d a w → d i = false → (∀ e ∈ o.after.toList, Region.binds .any e = true → d e.on = true) → o.wp P a w (I (upd d i)) Q) ∧ Steps P Q I (i + 1) os
theorem Steps.at {P : Program} {Q : Exit → Act → World → Prop} {I : (Nat → Bool) → Act → World → Prop} : ∀ (l : List Oper) (k i : Nat) (o : Oper), Steps P Q I k l → l[i]? = some o → ∀ d a w, I d a w → d (k + i) = false → (∀ e ∈ o.after.toList, Region.binds .any e = true → d e.on = true) → o.wp P a w (I (upd d (k + i))) Q
  | [], k, i, o, _, h => by simp at h
  | x :: l, k, 0, o, hs, h => by
    simp at h
    subst h
    exact hs.1
  | x :: l, k, i + 1, o, hs, h => by
    have h2 : l[i]? = some o := by simpa using h
    have := Steps.at l (k + 1) i o hs.2 h2
    rw [show k + 1 + i = k + (i + 1) by omega] at this
    exact this
end Go.Proofs.YtpoogglplaeooaaDoor
