/- Proved: several texts in one: what each proves is said ahead of it. -/
import Derived.Test.YtglbegbhekcddaaDoorRw13
import Derived.Test.YtglbegbhekcddaaDoorRw10
import Derived.Test.YtglbegbhekcddaaDoorCux
import Derived.Test.YtglbegbhekcddaaDoorDcu
/- Proved: spaces as a law carries them: what its functions on them do. -/
namespace Go.Proofs.YtglbegbhekcddaaDoor
open Go.ChangeShapes Go.WideShapes Go.ChangeAt Go.RowKit
set_option linter.unusedVariables false
set_option linter.unusedSimpArgs false
def XS (n : Int) (xs : List Int) (W : World) (lo hi : Nat) (g : Array Value) : Prop := ∃ a c, g = #[.int .i64 n, .slice a xs.length c] ∧ OwI xs W lo hi (.slice a xs.length c) ∧ xs.length ≤ c
end Go.Proofs.YtglbegbhekcddaaDoor
/- Proved: contracts of what is drawn for chapter 3: a ring with a modulus in range, polynomials of at most 17 numbers; nothing that was there changes but the cursor. -/
namespace Go.Proofs.YtglbegbhekcddaaDoor
open Go.ChangeShapes Go.WideShapes Go.ChangeAt Go.RowKit
set_option linter.unusedVariables false
set_option linter.unusedSimpArgs false
def sz4I (n : Int) : Prop := n = 2 ∨ n = 4 ∨ n = 8 ∨ n = 16
set_option maxRecDepth 100000 in
set_option maxHeartbeats 2000000 in
theorem size_c {w : World} {code : Value} {len c B : Nat} (h : Cu w code len c B) (hB : B ≤ 137438953472) (hl : len ≤ 9223372036854775807) :
    Calls Tryd.prog 39 #[.pointer (some ⟨c, 0, none⟩)] w fun e w' => CuP sz4I w code len c (B + 2) e w' := by
  have c1 := among_lit3 h (by omega) hl [2, 4, 8, 16] (by decide) (by decide) 3
  go_enter Tryd.func39, Tryd.ntmps39
  go_wp2_with fail
  refine c1.mono ?_
  rintro e w1 ⟨⟨v, hv, rfl⟩, g1, C1⟩
  have HV : Hid (sz4I v) := by show sz4I v; simpa [sz4I] using hv
  have HG : Hid (Chg w w1 c (c + 1)) := g1
  have HC : Hid (Cu w1 code len c (B + 2)) := C1
  clear g1 C1 c1 hv h
  go_wp2_with fail
  go_ret
  exact ⟨⟨v, HV.out, rfl⟩, HG.out, HC.out⟩
end Go.Proofs.YtglbegbhekcddaaDoor
