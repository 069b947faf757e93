/- Proved: a call of a function of the program as one step of a region that draws its order. -/
import Derived.Test.YtejkejfhahmhcaaDoorROps
namespace Go.Proofs.YtejkejfhahmhcaaDoor
open Go.ChangeShapes Go.WideShapes Go.ChangeAt Go.RowKit
set_option linter.unusedVariables false
theorem step_call {P : Program} {ops : Array Oper} {o : Oper} {a : Act} {W : World} {K : Act → World → Prop} {Q : Exit → Act → World → Prop} {E : Prop} {f : FuncId} {args : Array Operand} {tys : Array TypeId} {R : Ending → World → Prop} (vs : Array Value) (hgd : o.guard = none) (hop : o.op = .call { callee := .value (.func f), args := args, argTypes := tys })
    (hc : ∀ (vs : Array Value) (w : World), Sem.run P (callFunc f vs) w = .ok (.enter f vs) w) (hC : Calls P f vs W R) (hv : args.map a.eval = vs) (S : Value → World → Prop) (hR : ∀ e w', R e w' → ∃ v, e = .returned v ∧ S v w') (hK : ∀ v w', S v w' → K (a.put o.dst v) w') :
    if Region.wanted o (yielded ops a.tmps) = true then Oper.wp P o a W K Q else E := by
  have hw : Region.wanted o (yielded ops a.tmps) = true := by simp [Region.wanted, hgd]
  rw [if_pos hw]
  cases o with
  | mk d op ty pos af g =>
    simp only at hgd hop
    subst hgd hop
    exact op_call_ret hc hv (hC.mono hR) hK
end Go.Proofs.YtejkejfhahmhcaaDoor
