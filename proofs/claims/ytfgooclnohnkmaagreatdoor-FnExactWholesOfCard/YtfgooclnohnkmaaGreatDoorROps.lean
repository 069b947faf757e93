/- Proved: single operations, each as a step of a region that draws its order; no function of the program. -/
import Derived.Test.YtfgooclnohnkmaaGreatDoorRInv
import Derived.Laws.Rows
import Derived.Laws.Tables
import Derived.Test.YtfgooclnohnkmaaGreatDoorK0
import Derived.BigCall
namespace Go.Proofs.YtfgooclnohnkmaaGreatDoor
open Go.ChangeShapes Go.WideShapes Go.ChangeAt Go.RowKit
set_option linter.unusedVariables false
set_option linter.unusedSimpArgs false
section
variable {P : Program} {d : Option Tmp} {ty : TypeId} {pos : String} {af : Array Edge} {a : Act} {W : World} {K : Act → World → Prop} {Q : Exit → Act → World → Prop}
theorem op_load {T : TypeId} {x : Operand} {k : Nat} {cs : Array Value} {t : TypeId} {fr : Nat × Nat} {D : TypeDesc} (ha : a.eval x = .pointer (some ⟨k, 0, none⟩)) (hb : W.heap[k]? = some (.cells cs t fr))
    (hu : P.underlying T = some D) (hD : (match D with | .struct _ | .array _ _ => true | _ => false) = true) (hi : (P.info? T).map (·.size) = some cs.size) (hK : K (a.put d (.agg cs)) W) : Oper.wp P ⟨d, .load T x, ty, pos, af, none⟩ a W K Q := by
  have h := run_loadVar_row (P := P) W k t T cs fr D hb hu hD hi
  unfold Oper.wp
  simp [execOp, ha, Instr.loadAt, Instr.sureAddr, h, Result.andThen]
  exact hK
theorem op_store {T : TypeId} {p x : Operand} {k : Nat} {cs old : Array Value} {t : TypeId} (ha : a.eval p = .pointer (some ⟨k, 0, none⟩)) (hv : a.eval x = .agg cs) (hb : W.heap[k]? = some (.cells old t (0, 0)))
    (hi : (P.info? T).map (·.size) = some cs.size) (ho : old.size = cs.size) (h1 : cs.all (·.oneCell') = true) (hK : K (a.put d undef) (W.setRow k cs)) : Oper.wp P ⟨d, .store T p x, ty, pos, af, none⟩ a W K Q := by
  have h := run_storeVar_row (P := P) W k t T old cs hb hi ho h1
  unfold Oper.wp
  simp [execOp, ha, hv, Instr.storeAt, Instr.sureAddr, h, Result.andThen]
  exact hK
theorem op_call {f : FuncId} {args : Array Operand} {tys : Array TypeId} (hc : ∀ (vs : Array Value) (w : World), Sem.run P (callFunc f vs) w = .ok (.enter f vs) w) (hK : Calls P f (args.map a.eval) W (fun | .returned v, w'' => K (a.put d v) w'' | .panicked c, w'' => Q (.panic c) a w'' | .outgrown, _ => LetsOut Q)) :
    Oper.wp P ⟨d, .call { callee := .value (.func f), args := args, argTypes := tys }, ty, pos, af, none⟩ a W K Q := by
  unfold Oper.wp
  rw [execOp_call_go, hc]
  rw [show (#[] ++ args.map a.eval ++ #[] : Array Value) = args.map a.eval by simp]
  exact hK
/-- a call by a contract that tells what comes back -/
theorem op_call_ret {f : FuncId} {args : Array Operand} {tys : Array TypeId} {vs : Array Value} {R : Value → World → Prop} (hc : ∀ (vs : Array Value) (w : World), Sem.run P (callFunc f vs) w = .ok (.enter f vs) w) (hv : args.map a.eval = vs)
    (hC : Calls P f vs W (fun e w' => ∃ v, e = .returned v ∧ R v w')) (hK : ∀ v w', R v w' → K (a.put d v) w') :
    Oper.wp P ⟨d, .call { callee := .value (.func f), args := args, argTypes := tys }, ty, pos, af, none⟩ a W K Q := by
  refine op_call hc ?_
  rw [hv]
  refine hC.mono ?_
  rintro e w' ⟨v, rfl, h⟩
  exact hK v w' h
theorem op_move {x : Operand} (hK : K (a.put d (a.eval x)) W) : Oper.wp P ⟨d, .move x, ty, pos, af, none⟩ a W K Q := by
  unfold Oper.wp
  simp [execOp]
  exact hK
theorem op_assign {x : Operand} (hK : K (a.put d (a.eval x)) W) : Oper.wp P ⟨d, .assign x, ty, pos, af, none⟩ a W K Q := by
  unfold Oper.wp
  simp [execOp]
  exact hK
theorem op_extract {x : Operand} {i : Nat} {vs : Array Value} {v : Value} (ha : a.eval x = .tuple vs) (hv : vs[i]? = some v) (hK : K (a.put d v) W) : Oper.wp P ⟨d, .extract x i, ty, pos, af, none⟩ a W K Q := by
  unfold Oper.wp
  simp [execOp, ha, Instr.extract, hv, Result.andThen]
  exact hK
theorem op_alloc {T : TypeId} {z : Value} (hz : (P.info? T).bind (·.zero) = some z) (hK : K (a.put d (.pointer (some ⟨W.heap.size, 0, none⟩))) (W.alloc (.cells z.cells T))) : Oper.wp P ⟨d, .alloc T, ty, pos, af, none⟩ a W K Q := by
  obtain ⟨i, h2, h3⟩ := Option.bind_eq_some_iff.1 hz
  unfold Oper.wp
  simp [execOp, h2, h3, typeInfo, Instr.alloc, zeroValue, newVar, Result.andThen]
  exact hK
end
theorem lt_of_some {W : World} {k : Nat} {o : Obj} (h : W.heap[k]? = some o) : k < W.heap.size := (Array.getElem?_eq_some_iff.1 h).1
theorem size_setRow (W : World) (k : Nat) (cs : Array Value) : (W.setRow k cs).heap.size = W.heap.size := by
  simp [World.setRow]
theorem heap_setRow_other (W : World) (k : Nat) (cs : Array Value) (b : Nat) (h : b ≠ k) : (W.setRow k cs).heap[b]? = W.heap[b]? := by
  simp [World.setRow, Array.getElem?_modify, Ne.symm h]
theorem heap_setRow_same {W : World} {k : Nat} {cs old : Array Value} {t : TypeId} {fr : Nat × Nat} (h : W.heap[k]? = some (.cells old t fr)) : (W.setRow k cs).heap[k]? = some (.cells cs t fr) :=
  setRow_heap W k old cs t fr h
theorem old_setRow {w W : World} (g : Old w W) {k : Nat} (hk : w.heap.size ≤ k) (cs : Array Value) : Old w (W.setRow k cs) := by
  refine ⟨g.os, g.tape, g.output, ?_, ?_⟩
  · rw [size_setRow]; exact g.size
  · intro b hb
    rw [heap_setRow_other _ _ _ _ (by omega)]
    exact g.block b hb
end Go.Proofs.YtfgooclnohnkmaaGreatDoor
