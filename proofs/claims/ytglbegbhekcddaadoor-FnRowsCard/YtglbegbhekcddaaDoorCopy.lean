/- Proved: a row copied whole into a row of the call's own. -/
import Derived.Test.YtglbegbhekcddaaDoorRw25
import Derived.Test.YtglbegbhekcddaaDoorPows
import Derived.Test.YtglbegbhekcddaaDoorRw16
import Derived.Laws.CopyOwn
namespace Go.Proofs.YtglbegbhekcddaaDoor
open Go.ChangeShapes Go.WideShapes Go.ChangeAt Go.RowKit
set_option linter.unusedVariables false
set_option linter.unusedSimpArgs false
theorem infoIntSize : (Tryd.prog.info? 3).map (·.size) = some 1 := by kernel_rfl
theorem splice_full (cur cs : List Value) (h : cur.length = cs.length) : splice cur 0 cs = cs := by
  simp [splice, h]
theorem copy_row {ops : Array Oper} {rest : List Oper} {a : Act} {w : World} {Q : Exit → Act → World → Prop} {ty : TypeId} {pos : String} {d : Option Tmp} {x y : Operand} {af : Array Edge}
    (g base N b o cap : Nat) (us xs : List Int) (hx : a.eval x = .slice (some ⟨g, 0, none⟩) N N) (hy : a.eval y = .slice (some ⟨b, o, none⟩) N cap) (hO : OwnI w base g N us) (hu : us.length = N) (hl : xs.length = N)
    (hsrc : ∀ j, j < N → w.cell? ⟨b, o + j, none⟩ = some (.int .i64 (xs.getD j 0)))
    (h : ∀ w', OwnI w' base g N xs → Below g w w' → wpList Tryd.prog ops Q rest (a.put d (goInt N)) w') :
    wpList Tryd.prog ops Q (⟨d, .call { callee := .builtin .copy, args := #[x, y], argTypes := #[23, 23] }, ty, pos, af, none⟩ :: rest) a w := by
  rcases hO.2 with ⟨e, _⟩ | ⟨g', cap', cur, e, hb, hg, h1, h2, h3, h4⟩
  · cases e
  · injection e with e1 e2 e3
    injection e1 with e4
    injection e4 with e5
    subst e5 e3
    have hcl : cur.toList.length = (xs.map (Value.int .i64)).length := by simp [h3, hl]
    refine wpList_copy_splice rfl x y 23 23 rfl 3 Tryd.underlying23 infoIntSize _ _ _ _ _ _ hx hy g 0 cur.toList 3 (by rw [Array.toArray_toList]; exact hg) (xs.map (Value.int .i64)) (by simp [hl]) (fun _ => ⟨rfl, _, rfl, ?_⟩) (by rw [hcl]; omega) (by simp [Value.oneCell']) g w (Below.refl _ _) (Nat.le_refl _) ?_
    · intro j v hj
      have hjl : j < N := by
        have := (List.getElem?_eq_some_iff.1 hj).1
        simpa [hl] using this
      have e1 : v = .int .i64 (xs.getD j 0) := by
        have hjx : j < xs.length := by omega
        simp [List.getElem?_map, hjx] at hj
        rw [← hj]
        simp [List.getD, hjx]
      have e2 : (⟨b, o, none⟩ : Addr).add j = ⟨b, o + j, none⟩ := by
        unfold Addr.add
        split
        · rename_i h; simp [h]
        · rfl
      rw [e2, e1]
      exact hsrc j hjl
    · intro w' hg' hb'
      rw [show (xs.map (Value.int .i64)).length = N by simp [hl]]
      refine h w' ⟨by simp [hl], Or.inr ⟨g, N, _, rfl, hb, hg'.out, Nat.le_refl _, h2, ?_, ?_⟩⟩ hb'
      · rw [splice_full _ _ hcl]; simp [hl]
      · rw [splice_full _ _ hcl, List.toList_toArray, Nat.mul_one]
        exact List.take_of_length_le (by simp [hl])
end Go.Proofs.YtglbegbhekcddaaDoor
