/- Proved: the drawn region of AddWholes in which the sizes of both numbers are made, in whatever order. -/
import Derived.Test.YtakleianimcmdaaGreatDoorP30
import Derived.Test.YtakleianimcmdaaGreatDoorP19
import Derived.Deep.DeepCutAuto
namespace Go.Proofs.YtakleianimcmdaaGreatDoor
open Go.ChangeShapes Go.WideShapes Go.ChangeAt Go.RowKit
open M2
set_option linter.unusedVariables false
set_option linter.unusedSimpArgs false

theorem Old.drw {a b : World} (h : Old a b) : Old a b.drew := Below.drew h
theorem Sz.drw {w : World} {g : Nat} {ls : List Nat} {c : Nat} (h : Sz w g ls c) : Sz w.drew g ls c := ⟨h.blk, h.len⟩
theorem Sz.zero0 (w : World) : Sz (w.alloc (.cells Tryz.zeroCells78 78)) w.heap.size (ext []) 0 := Sz.zero w _ rfl
theorem Sz.zero1 (w : World) (o : Obj) : Sz ((w.alloc o).alloc (.cells Tryz.zeroCells78 78)) (w.heap.size + 1) (ext []) 0 := Sz.zero _ _ (by simp)
theorem run_loadCells_sz {W : World} {g : Nat} {A : Array Value} (h : W.heap[g]? = some (.cells A 78 (0, 0))) (hs : A.size = 81) : (loadCellsFrom ⟨g, 0, none⟩ 0 81 #[]).run Tryz.prog W = .ok A W := by
  have := run_loadCells_list (P := Tryz.prog) W ⟨g, 0, none⟩ A.toList (fun j v hv => by
    have hadd : (⟨g, 0, none⟩ : Addr).add j = ⟨g, j, none⟩ := by unfold Addr.add; split <;> simp_all
    rw [hadd, cell_of_row W g j A _ _ h]
    simpa using hv)
  simpa [loadCells, hs] using this
theorem cnt_add (a b : Nat) (ha : cnt a ≤ 40) (hb : cnt b ≤ 40) : cnt (a + b) ≤ 41 := by
  refine cnt_le ?_
  have h1 := cnt_lt a
  have h2 := cnt_lt b
  have h3 : LB ^ cnt a ≤ LB ^ 40 := Nat.pow_le_pow_right LB_pos ha
  have h4 : LB ^ cnt b ≤ LB ^ 40 := Nat.pow_le_pow_right LB_pos hb
  have h5 : LB ^ 41 = LB ^ 40 * LB := Nat.pow_succ ..
  have h6 : LB ^ 40 * 2 ≤ LB ^ 40 * LB := Nat.mul_le_mul_left _ (by decide)
  omega
theorem run_storeCells_sz {W : World} {g n : Nat} {ls : List Nat} {c : Nat} (hs : Sz W g ls c) (hl : (szV n).size = 81) : (storeCells ⟨g, 0, none⟩ (szV n).toList 0).run Tryz.prog W = .ok () (W.setRow g (szV n)) := by
  have := run_storeVar_row (P := Tryz.prog) W g 78 78 (szA ls c) (szV n) hs.blk (by rw [hl]; exact infoSz) (by rw [szA_size hs.len, hl]) (szA_one _ _)
  cases hq : Tryz.prog.info? 78 with
  | none => have h2 := infoSz; rw [hq] at h2; cases h2
  | some i =>
    have h2 := infoSz
    rw [hq] at h2
    have h3 : i.size = 81 := by simpa using h2
    simpa [storeVar, Go.sizeOf, typeInfo, hq, Value.cells, hl, h3] using this
theorem upon_st {o : Oper} {a : Act} {K : Act → World → Prop} {Q : Exit → Act → World → Prop} {f : Unit → World → Result Next} {W : World} {g n : Nat} {ls : List Nat} {c : Nat} (hs : Sz W g ls c) (hl : (szV n).size = 81)
    (h : Oper.upon Tryz.prog o a K Q (f () (W.setRow g (szV n)))) : Oper.upon Tryz.prog o a K Q ((Sem.run Tryz.prog (storeCells ⟨g, 0, none⟩ (szV n).toList 0) W).andThen f) := by
  rw [run_storeCells_sz hs hl]
  exact h
end Go.Proofs.YtakleianimcmdaaGreatDoor
