/- Proved: several texts in one: what each proves is said ahead of it. -/
import Derived.Test.YtpebikjckhcgfaaDoorZ15
import Derived.Test.YtpebikjckhcgfaaDoorZ04
import Derived.Test.YtpebikjckhcgfaaDoorZ28
/- Proved: the drawn region of the program's reckonerOf: params, rings and their product laid in a box. -/
namespace Go.Proofs.YtpebikjckhcgfaaDoor
open Go.ChangeShapes Go.WideShapes Go.ChangeAt Go.RowKit
set_option linter.unusedVariables false
set_option linter.unusedSimpArgs false
/-- the cells of the zero reckoner -/
abbrev rk0 : Array Value := #[.int .i64 0, .int .i64 0, .int .i64 0, .slice none 0 0, .slice none 0 0, .bool false, .slice none 0 0]
def slotRk (i : Nat) : Nat := [14, 15, 16, 17, 18, 19, 20].getD i 0
theorem slotRk_lt : ∀ i, i < 7 → slotRk i < 21 := by decide
theorem slotRk_inj : ∀ i, i < 7 → ∀ j, j < 7 → slotRk i = slotRk j → i = j := by decide
theorem slotRk_no : ∀ s, s < 14 → ∀ i, i < 7 → slotRk i ≠ s := by decide
def qRk (N T E : Int) (v3 R : Value) (SZ : Array Value) (ds : List Int) (k base : Nat) (i : Nat) (W : World) (x : Value) : Prop :=
  match i with
  | 0 => x = .agg #[.int .i64 N, .int .i64 T, .int .i64 E, v3]
  | 1 => x = R
  | 2 => x = .pointer (some ⟨k, 3, none⟩)
  | 3 => x = v3
  | 4 => x = .agg SZ
  | 5 => ∃ a c, x = .agg #[.bool false, .slice a ds.length c] ∧ Own W base (.slice a ds.length c) ds
  | 6 => ∃ a c, x = .agg #[.int .i64 N, .int .i64 T, .int .i64 E, v3, R, .bool false, .slice a ds.length c] ∧ Own W base (.slice a ds.length c) ds
  | _ => True
theorem qRk_old (N T E : Int) (v3 R : Value) (SZ : Array Value) (ds : List Int) (k base : Nat) (i : Nat) (W W' : World) (x : Value) (h : qRk N T E v3 R SZ ds k base i W x) (q : Old W W') : qRk N T E v3 R SZ ds k base i W' x := by
  unfold qRk at h ⊢
  split at h
  case h_6 =>
    obtain ⟨a, c, e, o⟩ := h
    exact ⟨a, c, e, o.old q⟩
  case h_7 =>
    obtain ⟨a, c, e, o⟩ := h
    exact ⟨a, c, e, o.old q⟩
  all_goals first | exact h | trivial
end Go.Proofs.YtpebikjckhcgfaaDoor
