/- Proved: contracts of the model's l5Of and RowsOf. -/
import Derived.Test.YtkggfljdbdfonaaGreatDoorWo04
import Derived.Test.YtkggfljdbdfonaaGreatDoorWo15
import Derived.Test.YtkggfljdbdfonaaGreatDoorWo10
import Derived.Test.YtkggfljdbdfonaaGreatDoorWo07
import Derived.Test.YtkggfljdbdfonaaGreatDoorWo20
import Derived.Deep.RegionHeld3
import Derived.Test.YtkggfljdbdfonaaGreatDoorWo08
import Derived.Test.YtkggfljdbdfonaaGreatDoorWo37
import Derived.Test.YtkggfljdbdfonaaGreatDoorWo13
namespace Go.Proofs.YtkggfljdbdfonaaGreatDoor
open Go.ChangeShapes Go.WideShapes Go.ChangeAt Go.RowKit
open M2
set_option linter.unusedVariables false
set_option linter.unusedSimpArgs false
theorem Tryz.infoL2W : (Tryz.prog.info? 86).map (fun i => (i.zero, i.size, i.bytes)) = some (some (.agg #[.bool false, .slice none 0 0]), 2, 32) := by kernel_rfl
theorem two_newR (w : World) (x y : Value) (t : TypeId) {k : Nat} (hk : w.heap.size = k) (j : Nat) (u : Value) (h : [x, y][j]? = some u) : (w.alloc (.cells #[x, y] t)).cell? ((⟨k, 0, none⟩ : Addr).add j) = some u := by
  have hb : Bk (w.alloc (.cells #[x, y] t)) k #[x, y] t := Bk.new' w _ _ hk
  match j with
  | 0 =>
    simp at h
    subst h
    exact hb.c (i := 0) rfl
  | 1 =>
    simp at h
    subst h
    exact hb.c (i := 1) rfl
  | j + 2 => simp at h
/-- cells that are known, and own no block -/
def TC (cs0 : List Value) : Thing := fun W B cs => cs = cs0 ∧ ∀ b, ¬ B b
theorem TC.rowW {T : TypeId} {bs : List Bool} {xss : List (List Int)} {us : Nat → Value} {W : World} {lo hi : Nat} {v : Value} (hb : bs.length = xss.length) (hu : ∀ j, j < xss.length → Row W (us j) (xss.getD j [])) (h : Ows (TS T 2 xss.length (fun j => TC [.bool (bs.getD j false), us j])) W lo hi [v]) : RowW W v bs xss := by
  obtain ⟨_, B, hT, _⟩ := h
  refine ⟨hb, ?_⟩
  rcases hT with ⟨h0, h1, _⟩ | ⟨p, cap, vs, Bs, e, hc, _⟩
  · simp at h1
    exact .inl ⟨none, 0, h1, List.length_eq_zero_iff.1 h0⟩
  · simp at e
    subst e
    rcases Nat.eq_zero_or_pos xss.length with h0 | h0
    · rw [h0]
      exact .inl ⟨_, _, rfl, List.length_eq_zero_iff.1 h0⟩
    · refine .inr ⟨p, 0, cap, us, rfl, ownsRow_lt hc.row, h0, fun j hj => ?_⟩
      have e1 := (hc.el j hj).1
      have c0 := hc.cell j 0 hj (by omega)
      have c1 := hc.cell j 1 hj (by omega)
      rw [e1] at c0 c1
      rw [Nat.zero_add]
      exact ⟨c0, c1, hu j hj⟩
end Go.Proofs.YtkggfljdbdfonaaGreatDoor
