/- Proved: several texts in one: what each proves is said ahead of it. -/
import Derived.Orders
import Derived.Tactics2
import Derived.Laws.Rows
import Derived.Laws.Tables
import Derived.BigCall
import Derived.Test.YtfgooclnohnkmaaGreatDoorWo00
/- Proved: a region that draws its order, by what holds between its operations, whatever the order; no function of the program. -/
namespace Go.Proofs.YtfgooclnohnkmaaGreatDoor
open Go
set_option linter.unusedSimpArgs false
set_option linter.unusedVariables false
theorem count_set (l : Array Bool) (i : Nat) (h : l.getD i true = false) : (l.setIfInBounds i true).toList.count false + 1 = l.toList.count false := by
  have hi : i < l.size := by
    rcases Nat.lt_or_ge i l.size with h1 | h1
    · exact h1
    · simp [Array.getD, Nat.not_lt.2 h1] at h
  have he : l[i] = false := by simpa [Array.getD, hi] using h
  rw [Array.toList_setIfInBounds, List.count_set (by simpa using hi)]
  have h0 : l.toList[i]'(by simpa using hi) = false := by simpa using he
  have hp : 0 < l.toList.count false := List.count_pos_iff.2 (by rw [← h0]; exact List.getElem_mem _)
  rw [h0]
  have e1 : (false == false) = true := rfl
  have e2 : (true == false) = false := rfl
  rw [e1, e2]
  simp only [if_true, Bool.false_eq_true, if_false]
  omega
theorem wpAny_inv {P : Program} {ops : Array Oper} {Q : Exit → Act → World → Prop} {md : Region.Mode} (I : Array Bool → Act → World → Prop)
    (hstep : ∀ l a w i, I l a w → i ∈ Region.ready md ops l → wpOp P ops Q i (I (l.setIfInBounds i true)) a w)
    (hdone : ∀ l a w, I l a w → Region.ready md ops l = [] → Q .normal a w) :
    ∀ fuel l a w, l.toList.count false ≤ fuel → I l a w → wpAny P md ops Q fuel l a w := by
  intro fuel
  have hr : ∀ (l : Array Bool) i, i ∈ Region.ready md ops l → l.getD i true = false := by
    intro l i hi
    unfold Region.ready at hi
    rw [List.mem_filter] at hi
    have := hi.2
    simp only [Bool.and_eq_true] at this
    simpa using this.1
  induction fuel with
  | zero =>
    intro l a w hc hI
    have : Region.ready md ops l = [] := by
      cases h : Region.ready md ops l with
      | nil => rfl
      | cons i t =>
        have h1 := hr l i (by rw [h]; simp)
        have := count_set l i h1
        omega
    exact ⟨this, hdone l a w hI this⟩
  | succ n ih =>
    intro l a w hc hI
    refine ⟨hdone l a w hI, fun i hi => ?_⟩
    have h1 := count_set l i (hr l i hi)
    exact wpOp_mono (fun a w h => ih _ a w (by omega) h) (hstep l a w i hI hi)
def upd (d : Nat → Bool) (i : Nat) : Nat → Bool := fun j => if j = i then true else d j
theorem upd_same (d : Nat → Bool) (i : Nat) : upd d i i = true := if_pos rfl
theorem upd_other (d : Nat → Bool) {i j : Nat} (h : j ≠ i) : upd d i j = d j := if_neg h
theorem wp_region_inv {P : Program} {id : Nat} {ops : Array Oper} {Q : Exit → Act → World → Prop} {a : Act} {w : World} (hm : P.follows .mixedOrders = true) (I : (Nat → Bool) → Act → World → Prop)
    (hord : (List.range ops.size).all (fun i => ((ops[i]?).map (fun o => o.after.all fun e => !Region.binds .any e || decide (e.on < i))).getD true) = true)
    (h0 : I (fun _ => false) a { w with drawn := w.drawn + 1 })
    (hstep : ∀ i o, ops[i]? = some o → ∀ d a w, I d a w → d i = false → (∀ e ∈ o.after.toList, Region.binds .any e = true → d e.on = true) → if Region.wanted o (yielded ops a.tmps) = true then o.wp P a w (I (upd d i)) Q else I (upd d i) (a.put o.dst undef) w)
    (hdone : ∀ d a w, (∀ i, i < ops.size → d i = true) → I d a w → Q .normal a w) :
    (Code.region id ops true).wp P Q a w := by
  refine wp_region_any hm ?_
  refine wpAny_inv (fun l a w => l.size = ops.size ∧ I (fun i => l.getD i false) a w) ?_ ?_ _ _ _ _ ?_ ⟨by simp, ?_⟩
  · rintro l a w i ⟨hl, hI⟩ hi
    unfold Region.ready at hi
    rw [List.mem_filter] at hi
    obtain ⟨hir, hi⟩ := hi
    have hlt : i < ops.size := by simpa using hir
    simp only [Bool.and_eq_true] at hi
    have ho : ops[i]? = some ops[i] := Array.getElem?_eq_getElem hlt
    have hf : l.getD i false = false := by
      have := hi.1
      simp only [Bool.not_eq_true'] at this
      simpa [Array.getD, hl, hlt] using this
    have ha := hi.2
    rw [ho] at ha
    simp only [Option.map_some, Option.getD_some] at ha
    rw [Array.all_eq_true'] at ha
    have hs := hstep i _ ho _ a w hI hf (fun e he hb => by
      have := ha e (by simpa using he)
      rw [hb] at this
      simpa using this)
    have hu : (fun j => (l.setIfInBounds i true).getD j false) = upd (fun j => l.getD j false) i := by
      funext j
      unfold upd
      by_cases hj : j = i
      · subst hj
        simp [Array.getD, hl, hlt]
      · rw [if_neg hj]
        simp only [Array.getD, Array.size_setIfInBounds]
        split
        · rename_i h
          simp [h, Ne.symm hj]
        · rfl
    unfold wpOp
    rw [ho]
    simp only
    split
    · rename_i hw
      rw [if_pos hw] at hs
      exact Or.inl (Oper.wp_mono (fun a w h => ⟨by simp [hl], by rw [hu]; exact h⟩) hs)
    · rename_i hw
      rw [if_neg hw] at hs
      exact ⟨by simp [hl], by rw [hu]; exact hs⟩
  · rintro l a w ⟨hl, hI⟩ hr
    refine hdone _ a w ?_ hI
    have key : ∀ n i, i < n → i < ops.size → l.getD i false = true := by
      intro n
      induction n with
      | zero => intro i h; omega
      | succ n ih =>
        intro i hi hlt
        cases hv : l.getD i false with
        | true => rfl
        | false =>
          exfalso
          have hmem : i ∈ Region.ready .any ops l := by
            unfold Region.ready
            rw [List.mem_filter]
            refine ⟨by simpa using hlt, ?_⟩
            have ho : ops[i]? = some ops[i] := Array.getElem?_eq_getElem hlt
            rw [ho]
            simp only [Bool.and_eq_true, Option.map_some, Option.getD_some]
            refine ⟨?_, ?_⟩
            · have : l.getD i true = false := by simpa [Array.getD, hl, hlt] using hv
              rw [this]; rfl
            · rw [Array.all_eq_true']
              intro e he
              have h1 := List.all_eq_true.1 hord i (by simpa using hlt)
              rw [ho] at h1
              simp only [Option.map_some, Option.getD_some] at h1
              rw [Array.all_eq_true'] at h1
              have h2 := h1 e he
              cases hb : Region.binds .any e with
              | false => rfl
              | true =>
                rw [hb] at h2
                have h3 : e.on < i := by simpa using h2
                rw [ih e.on (by omega) (by omega)]
                rfl
          rw [hr] at hmem
          cases hmem
    intro i hi
    exact key (i + 1) i (Nat.lt_succ_self i) hi
  · simp
  · have : (fun i => (Array.replicate ops.size false).getD i false) = fun _ => false := by
      funext i
      simp [Array.getD]
    rw [this]
    exact h0
/-- each operation, once those that it waits for are done, keeps what holds -/
def Steps (P : Program) (Q : Exit → Act → World → Prop) (I : (Nat → Bool) → Act → World → Prop) : Nat → List Oper → Prop
  | _, [] => True
  | i, o :: os => (∀ d a w, I d a w → d i = false → (∀ e ∈ o.after.toList, Region.binds .any e = true → d e.on = true) → o.wp P a w (I (upd d i)) Q) ∧ Steps P Q I (i + 1) os
theorem Steps.at {P : Program} {Q : Exit → Act → World → Prop} {I : (Nat → Bool) → Act → World → Prop} : ∀ (l : List Oper) (k i : Nat) (o : Oper), Steps P Q I k l → l[i]? = some o → ∀ d a w, I d a w → d (k + i) = false → (∀ e ∈ o.after.toList, Region.binds .any e = true → d e.on = true) → o.wp P a w (I (upd d (k + i))) Q
  | [], k, i, o, _, h => by simp at h
  | x :: l, k, 0, o, hs, h => by
    simp at h
    subst h
    exact hs.1
  | x :: l, k, i + 1, o, hs, h => by
    have h2 : l[i]? = some o := by simpa using h
    have := Steps.at l (k + 1) i o hs.2 h2
    rw [show k + 1 + i = k + (i + 1) by omega] at this
    exact this
theorem wp_region_steps {P : Program} {id : Nat} {ops : Array Oper} {Q : Exit → Act → World → Prop} {a : Act} {w : World} (I : (Nat → Bool) → Act → World → Prop) (hm : P.follows .mixedOrders = true)
    (hord : (List.range ops.size).all (fun i => ((ops[i]?).map (fun o => o.after.all fun e => !Region.binds .any e || decide (e.on < i))).getD true) = true)
    (hg : ops.toList.all (fun o => o.guard.isNone) = true)
    (h0 : I (fun _ => false) a { w with drawn := w.drawn + 1 })
    (hstep : Steps P Q I 0 ops.toList)
    (hdone : ∀ d a w, (∀ i, i < ops.size → d i = true) → I d a w → Q .normal a w) :
    (Code.region id ops true).wp P Q a w := by
  refine wp_region_inv hm I hord h0 ?_ hdone
  intro i o ho d a w hI hi hd
  have hl : ops.toList[i]? = some o := by simpa using ho
  have hgn := List.all_eq_true.1 hg o (List.mem_of_getElem? hl)
  have hw : Region.wanted o (yielded ops a.tmps) = true := by
    cases h : o.guard with
    | none => simp [Region.wanted, h]
    | some g => rw [h] at hgn; cases hgn
  rw [if_pos hw]
  have := Steps.at ops.toList 0 i o hstep hl d a w hI
  rw [Nat.zero_add] at this
  exact this hi hd
/-- a frame with some slots written anew -/
def putAll (a : Act) : List (Nat × Value) → Act
  | [] => a
  | (s, v) :: l => (putAll a l).put (some s) v
def setKey : List (Nat × Value) → Nat → Value → List (Nat × Value)
  | [], _, _ => []
  | (t, u) :: l, s, v => if t = s then (t, v) :: l else (t, u) :: setKey l s v
def getKey : List (Nat × Value) → Nat → Option Value
  | [], _ => none
  | (t, u) :: l, s => if t = s then some u else getKey l s
theorem putAll_put (a : Act) : ∀ (l : List (Nat × Value)) (s : Nat) (v : Value), (getKey l s).isSome = true → (putAll a l).put (some s) v = putAll a (setKey l s v)
  | [], s, v, h => by cases h
  | (t, u) :: l, s, v, h => by
    unfold setKey
    by_cases hts : t = s
    · subst hts
      rw [if_pos rfl]
      simp [putAll, Act.put, Array.setIfInBounds_setIfInBounds]
    · rw [if_neg hts]
      have h2 : (getKey l s).isSome = true := by
        unfold getKey at h
        rw [if_neg hts] at h
        exact h
      have ih := putAll_put a l s v h2
      show ((putAll a l).put (some t) u).put (some s) v = (putAll a (setKey l s v)).put (some t) u
      rw [← ih]
      simp [Act.put, Array.setIfInBounds_comm _ _ hts]
theorem putAll_size (a : Act) : ∀ (l : List (Nat × Value)), (putAll a l).tmps.size = a.tmps.size
  | [] => rfl
  | (t, u) :: l => by
    simp [putAll, Act.put, putAll_size a l]
theorem eval_putAll (a : Act) (s : Nat) (hs : s < a.tmps.size) : ∀ (l : List (Nat × Value)), (putAll a l).eval (.tmp s) = (getKey l s).getD (a.eval (.tmp s))
  | [] => rfl
  | (t, u) :: l => by
    unfold getKey
    by_cases hts : t = s
    · subst hts
      rw [if_pos rfl]
      have := putAll_size a l
      simp [putAll, Act.put, Act.eval, Array.getD, this, hs]
    · rw [if_neg hts, ← eval_putAll a s hs l]
      have := putAll_size a l
      simp [putAll, Act.put, Act.eval, Array.getD, this, hs, hts]
theorem putAll_self (a : Act) : ∀ (ws : List Nat), (∀ s ∈ ws, s < a.tmps.size) → putAll a (ws.map fun s => (s, a.eval (.tmp s))) = a
  | [], _ => rfl
  | s :: ws, h => by
    have ih := putAll_self a ws (fun t ht => h t (by simp [ht]))
    show (putAll a (ws.map fun s => (s, a.eval (.tmp s)))).put (some s) (a.eval (.tmp s)) = a
    rw [ih]
    have hs := h s (by simp)
    cases a with
    | mk tmps defers =>
      simp only [Act.put, Act.eval]
      congr 1
      apply Array.ext
      · simp
      · intro i h1 h2
        rw [Array.getElem_setIfInBounds]
        split
        · rename_i e
          subst e
          simp [Array.getD]
        · rfl
end Go.Proofs.YtfgooclnohnkmaaGreatDoor
/- Proved: single operations, each as a step of a region that draws its order; no function of the program. -/
namespace Go.Proofs.YtfgooclnohnkmaaGreatDoor
open Go.ChangeShapes Go.WideShapes Go.ChangeAt Go.RowKit
set_option linter.unusedVariables false
set_option linter.unusedSimpArgs false
section
variable {P : Program} {d : Option Tmp} {ty : TypeId} {pos : String} {af : Array Edge} {a : Act} {W : World} {K : Act → World → Prop} {Q : Exit → Act → World → Prop}
theorem op_load {T : TypeId} {x : Operand} {k : Nat} {cs : Array Value} {t : TypeId} {fr : Nat × Nat} {D : TypeDesc} (ha : a.eval x = .pointer (some ⟨k, 0, none⟩)) (hb : W.heap[k]? = some (.cells cs t fr))
    (hu : P.underlying T = some D) (hD : (match D with | .struct _ | .array _ _ => true | _ => false) = true) (hi : (P.info? T).map (·.size) = some cs.size) (hK : K (a.put d (.agg cs)) W) : Oper.wp P ⟨d, .load T x, ty, pos, af, none⟩ a W K Q := by
  have h := run_loadVar_row (P := P) W k t T cs fr D hb hu hD hi
  unfold Oper.wp
  simp [execOp, ha, Instr.loadAt, Instr.sureAddr, h, Result.andThen]
  exact hK
theorem op_call {f : FuncId} {args : Array Operand} {tys : Array TypeId} (hc : ∀ (vs : Array Value) (w : World), Sem.run P (callFunc f vs) w = .ok (.enter f vs) w) (hK : Calls P f (args.map a.eval) W (fun | .returned v, w'' => K (a.put d v) w'' | .panicked c, w'' => Q (.panic c) a w'' | .outgrown, _ => LetsOut Q)) :
    Oper.wp P ⟨d, .call { callee := .value (.func f), args := args, argTypes := tys }, ty, pos, af, none⟩ a W K Q := by
  unfold Oper.wp
  rw [execOp_call_go, hc]
  rw [show (#[] ++ args.map a.eval ++ #[] : Array Value) = args.map a.eval by simp]
  exact hK
/-- a call by a contract that tells what comes back -/
theorem op_call_ret {f : FuncId} {args : Array Operand} {tys : Array TypeId} {vs : Array Value} {R : Value → World → Prop} (hc : ∀ (vs : Array Value) (w : World), Sem.run P (callFunc f vs) w = .ok (.enter f vs) w) (hv : args.map a.eval = vs)
    (hC : Calls P f vs W (fun e w' => ∃ v, e = .returned v ∧ R v w')) (hK : ∀ v w', R v w' → K (a.put d v) w') :
    Oper.wp P ⟨d, .call { callee := .value (.func f), args := args, argTypes := tys }, ty, pos, af, none⟩ a W K Q := by
  refine op_call hc ?_
  rw [hv]
  refine hC.mono ?_
  rintro e w' ⟨v, rfl, h⟩
  exact hK v w' h
theorem op_move {x : Operand} (hK : K (a.put d (a.eval x)) W) : Oper.wp P ⟨d, .move x, ty, pos, af, none⟩ a W K Q := by
  unfold Oper.wp
  simp [execOp]
  exact hK
theorem op_assign {x : Operand} (hK : K (a.put d (a.eval x)) W) : Oper.wp P ⟨d, .assign x, ty, pos, af, none⟩ a W K Q := by
  unfold Oper.wp
  simp [execOp]
  exact hK
theorem op_extract {x : Operand} {i : Nat} {vs : Array Value} {v : Value} (ha : a.eval x = .tuple vs) (hv : vs[i]? = some v) (hK : K (a.put d v) W) : Oper.wp P ⟨d, .extract x i, ty, pos, af, none⟩ a W K Q := by
  unfold Oper.wp
  simp [execOp, ha, Instr.extract, hv, Result.andThen]
  exact hK
end
theorem lt_of_some {W : World} {k : Nat} {o : Obj} (h : W.heap[k]? = some o) : k < W.heap.size := (Array.getElem?_eq_some_iff.1 h).1
end Go.Proofs.YtfgooclnohnkmaaGreatDoor
/- Proved: a drawn region of the statement FnExactWholesOf, by what holds between its operations, in whatever order. -/
namespace Go.Proofs.YtfgooclnohnkmaaGreatDoor
open Go.ChangeShapes Go.WideShapes Go.ChangeAt Go.RowKit
set_option linter.unusedVariables false
set_option linter.unusedSimpArgs false
def regionAtreg9_WholesOfA (n : Nat) : Code → Option Code
  | .region i ops b => if i = n then some (.region i ops b) else none
  | .seq a b => match regionAtreg9_WholesOfA n a with
    | some c => some c
    | none => regionAtreg9_WholesOfA n b
  | .block _ c => regionAtreg9_WholesOfA n c
  | _ => none
set_option maxRecDepth 100000 in
set_option maxHeartbeats 8000000 in
theorem reg9_WholesOfA (w2 : World) (x0_0 x0_1 : Value) (kb0 : Nat) (x1_0 x1_1 : Value) (kb1 : Nat) 
    (CR0 : World → Value → Prop) (hCR0 : ∀ W W' v, CR0 W v → Old W W' → CR0 W' v)
    (c0 : ∀ W, Old w2 W → Calls Tryz.prog 26 #[.agg #[x0_0, x0_1]] W fun e w' => ∃ v, e = .returned v ∧ Old W w' ∧ CR0 w' v)
    (b0 : w2.heap[kb0]? = some (.cells #[x0_0, x0_1] 47 (0, 0)))
    (CR1 : World → Value → Prop) (hCR1 : ∀ W W' v, CR1 W v → Old W W' → CR1 W' v)
    (c1 : ∀ W, Old w2 W → Calls Tryz.prog 27 #[.agg #[x1_0, x1_1]] W fun e w' => ∃ v, e = .returned v ∧ Old W w' ∧ CR1 w' v)
    (b1 : w2.heap[kb1]? = some (.cells #[x1_0, x1_1] 50 (0, 0)))
    (RES : World → Nat → Nat → Value → Value → Prop) (far : ∀ W W' lo hi (g0 : Value) (g1 : Value), RES W lo hi g0 g1 → (∀ b, lo ≤ b → b < hi → W'.heap[b]? = W.heap[b]?) → W.heap.size ≤ W'.heap.size → RES W' lo hi g0 g1)
    (cf : ∀ W v0 v1, Old w2 W → CR0 W v0 → CR1 W v1 → Calls Tryz.prog 25 #[v0, v1] W fun e w' => ∃ (g0 : Value) (g1 : Value), e = .returned (.tuple #[g0, g1]) ∧ Old W w' ∧ RES w' W.heap.size w'.heap.size g0 g1)
    (Q : Exit → Act → World → Prop) (K : Act → World → Prop) (a0 : Act) (hsz : 119 ≤ a0.tmps.size) (ha2 : a0.eval (.tmp 2) = .pointer (some ⟨kb0, 0, none⟩)) (ha3 : a0.eval (.tmp 3) = .pointer (some ⟨kb1, 0, none⟩))
    (HK : Hid (∀ ( lo hi : Nat) (g0 : Value) (g1 : Value) (u27 u28 u29 u30 u31 u32 u33 u34 : Value) (W : World), Old w2 W → w2.heap.size ≤ lo → hi ≤ W.heap.size → RES W lo hi g0 g1 → K (putAll a0 [(6, g0), (7, g1), (27, u27), (28, u28), (29, u29), (30, u30), (31, u31), (32, u32), (33, u33), (34, u34)]) W)) :
    Code.wp Tryz.prog ((Tryz.f5.body.bind (regionAtreg9_WholesOfA 8)).getD .skip) (Exit.then K Q) a0 w2 := by
  conv => arg 2; whnf
  have e2 : ∀ l, (putAll a0 l).eval (.tmp 2) = (getKey l 2).getD (a0.eval (.tmp 2)) := eval_putAll a0 2 (by omega)
  have e3 : ∀ l, (putAll a0 l).eval (.tmp 3) = (getKey l 3).getD (a0.eval (.tmp 3)) := eval_putAll a0 3 (by omega)
  have e6 : ∀ l, (putAll a0 l).eval (.tmp 6) = (getKey l 6).getD (a0.eval (.tmp 6)) := eval_putAll a0 6 (by omega)
  have e7 : ∀ l, (putAll a0 l).eval (.tmp 7) = (getKey l 7).getD (a0.eval (.tmp 7)) := eval_putAll a0 7 (by omega)
  have e27 : ∀ l, (putAll a0 l).eval (.tmp 27) = (getKey l 27).getD (a0.eval (.tmp 27)) := eval_putAll a0 27 (by omega)
  have e28 : ∀ l, (putAll a0 l).eval (.tmp 28) = (getKey l 28).getD (a0.eval (.tmp 28)) := eval_putAll a0 28 (by omega)
  have e29 : ∀ l, (putAll a0 l).eval (.tmp 29) = (getKey l 29).getD (a0.eval (.tmp 29)) := eval_putAll a0 29 (by omega)
  have e30 : ∀ l, (putAll a0 l).eval (.tmp 30) = (getKey l 30).getD (a0.eval (.tmp 30)) := eval_putAll a0 30 (by omega)
  have e31 : ∀ l, (putAll a0 l).eval (.tmp 31) = (getKey l 31).getD (a0.eval (.tmp 31)) := eval_putAll a0 31 (by omega)
  have e32 : ∀ l, (putAll a0 l).eval (.tmp 32) = (getKey l 32).getD (a0.eval (.tmp 32)) := eval_putAll a0 32 (by omega)
  have e33 : ∀ l, (putAll a0 l).eval (.tmp 33) = (getKey l 33).getD (a0.eval (.tmp 33)) := eval_putAll a0 33 (by omega)
  have e34 : ∀ l, (putAll a0 l).eval (.tmp 34) = (getKey l 34).getD (a0.eval (.tmp 34)) := eval_putAll a0 34 (by omega)
  refine wp_region_steps (fun d a W => ∃ (u6 u7 u27 u28 u29 u30 u31 u32 u33 u34 : Value) ( lo hi : Nat) (g0 : Value) (g1 : Value), a = (putAll a0 [(6, u6), (7, u7), (27, u27), (28, u28), (29, u29), (30, u30), (31, u31), (32, u32), (33, u33), (34, u34)]) ∧ (Old w2 W) ∧ (d 0 = true → u28 = .agg #[x0_0, x0_1]) ∧ (d 1 = true → d 4 = false → CR0 W u29) ∧ (d 2 = true → u30 = .agg #[x1_0, x1_1]) ∧ (d 3 = true → d 4 = false → CR1 W u31) ∧ (d 4 = true → u32 = .tuple #[g0, g1] ∧ w2.heap.size ≤ lo ∧ hi ≤ W.heap.size ∧ RES W lo hi g0 g1) ∧ (d 5 = true → u27 = .tuple #[g0, g1]) ∧ (d 6 = true → u33 = g0) ∧ (d 7 = true → u34 = g1) ∧ (d 8 = true → u6 = g0) ∧ (d 9 = true → u7 = g1) ∧ (d 5 = true → d 4 = true) ∧ (d 6 = true → d 4 = true) ∧ (d 8 = true → d 4 = true) ∧ (d 7 = true → d 4 = true) ∧ (d 9 = true → d 4 = true)) rfl (by decide +kernel) (by decide +kernel) ?_ ⟨?_, ?_, ?_, ?_, ?_, ?_, ?_, ?_, ?_, ?_, trivial⟩ ?_
  · exact ⟨_, _, _, _, _, _, _, _, _, _, 0, 0, undef, undef, (putAll_self a0 [6, 7, 27, 28, 29, 30, 31, 32, 33, 34] (by intro s hs; simp at hs; omega)).symm, Below.drew (Old.refl w2), (fun h => by cases h), (fun h => by cases h), (fun h => by cases h), (fun h => by cases h), (fun h => by cases h), (fun h => by cases h), (fun h => by cases h), (fun h => by cases h), (fun h => by cases h), (fun h => by cases h), (fun h => by cases h), (fun h => by cases h), (fun h => by cases h), (fun h => by cases h), (fun h => by cases h)⟩
  · rintro d a W ⟨u6, u7, u27, u28, u29, u30, u31, u32, u33, u34, lo, hi, g0, g1, hfr, fold, fL0, fC0, fL1, fC1, fF, fM, fE0, fE1, fA0, fA1, fO5_4, fO6_4, fO8_4, fO7_4, fO9_4⟩ hi_ hd
    simp [Region.binds] at hd
    refine op_load (k := kb0) (by rw [hfr, e2]; exact ha2) (fold.block _ (lt_of_some b0) |>.trans b0) Tryz.underlying47 rfl (by kernel_rfl) ?_
    exact ⟨u6, u7, u27, .agg #[x0_0, x0_1], u29, u30, u31, u32, u33, u34, lo, hi, g0, g1, (by rw [hfr]; exact putAll_put a0 _ _ _ rfl), (fold),
      (fun _ => rfl),
      (fun h0 h1 => fC0 h0 h1),
      (fun h0 => fL1 h0),
      (fun h0 h1 => fC1 h0 h1),
      (fun h0 => fF h0),
      (fun h0 => fM h0),
      (fun h0 => fE0 h0),
      (fun h0 => fE1 h0),
      (fun h0 => fA0 h0),
      (fun h0 => fA1 h0),
      (fun h => fO5_4 h),
      (fun h => fO6_4 h),
      (fun h => fO8_4 h),
      (fun h => fO7_4 h),
      (fun h => fO9_4 h)⟩
  · rintro d a W ⟨u6, u7, u27, u28, u29, u30, u31, u32, u33, u34, lo, hi, g0, g1, hfr, fold, fL0, fC0, fL1, fC1, fF, fM, fE0, fE1, fA0, fA1, fO5_4, fO6_4, fO8_4, fO7_4, fO9_4⟩ hi_ hd
    simp [Region.binds] at hd
    have HD0 : d 0 = true := by simp only [hd]
    clear hd
    have hv := fL0 HD0
    refine op_call_ret Tryz.call26 (vs := #[.agg #[x0_0, x0_1]]) (by simp [hfr, e28, getKey, hv]) (c0 W fold) ?_
    rintro v W' ⟨g, hcr⟩
    exact ⟨u6, u7, u27, u28, v, u30, u31, u32, u33, u34, lo, hi, g0, g1, (by rw [hfr]; exact putAll_put a0 _ _ _ rfl), (Old.trans fold g),
      (fun h0 => fL0 h0),
      (fun _ _ => hcr),
      (fun h0 => fL1 h0),
      (fun h0 h1 => hCR1 _ _ _ (fC1 h0 h1) g),
      (fun h0 => by obtain ⟨e1, e2, e3, e9⟩ := fF h0; exact ⟨e1, e2, Nat.le_trans e3 g.size, far _ _ _ _ _ _ e9 (fun b _ hb => g.block b (by omega)) g.size⟩),
      (fun h0 => fM h0),
      (fun h0 => fE0 h0),
      (fun h0 => fE1 h0),
      (fun h0 => fA0 h0),
      (fun h0 => fA1 h0),
      (fun h => fO5_4 h),
      (fun h => fO6_4 h),
      (fun h => fO8_4 h),
      (fun h => fO7_4 h),
      (fun h => fO9_4 h)⟩
  · rintro d a W ⟨u6, u7, u27, u28, u29, u30, u31, u32, u33, u34, lo, hi, g0, g1, hfr, fold, fL0, fC0, fL1, fC1, fF, fM, fE0, fE1, fA0, fA1, fO5_4, fO6_4, fO8_4, fO7_4, fO9_4⟩ hi_ hd
    simp [Region.binds] at hd
    refine op_load (k := kb1) (by rw [hfr, e3]; exact ha3) (fold.block _ (lt_of_some b1) |>.trans b1) Tryz.underlying50 rfl (by kernel_rfl) ?_
    exact ⟨u6, u7, u27, u28, u29, .agg #[x1_0, x1_1], u31, u32, u33, u34, lo, hi, g0, g1, (by rw [hfr]; exact putAll_put a0 _ _ _ rfl), (fold),
      (fun h0 => fL0 h0),
      (fun h0 h1 => fC0 h0 h1),
      (fun _ => rfl),
      (fun h0 h1 => fC1 h0 h1),
      (fun h0 => fF h0),
      (fun h0 => fM h0),
      (fun h0 => fE0 h0),
      (fun h0 => fE1 h0),
      (fun h0 => fA0 h0),
      (fun h0 => fA1 h0),
      (fun h => fO5_4 h),
      (fun h => fO6_4 h),
      (fun h => fO8_4 h),
      (fun h => fO7_4 h),
      (fun h => fO9_4 h)⟩
  · rintro d a W ⟨u6, u7, u27, u28, u29, u30, u31, u32, u33, u34, lo, hi, g0, g1, hfr, fold, fL0, fC0, fL1, fC1, fF, fM, fE0, fE1, fA0, fA1, fO5_4, fO6_4, fO8_4, fO7_4, fO9_4⟩ hi_ hd
    simp [Region.binds] at hd
    have HD2 : d 2 = true := by simp only [hd]
    clear hd
    have hv := fL1 HD2
    refine op_call_ret Tryz.call27 (vs := #[.agg #[x1_0, x1_1]]) (by simp [hfr, e30, getKey, hv]) (c1 W fold) ?_
    rintro v W' ⟨g, hcr⟩
    exact ⟨u6, u7, u27, u28, u29, u30, v, u32, u33, u34, lo, hi, g0, g1, (by rw [hfr]; exact putAll_put a0 _ _ _ rfl), (Old.trans fold g),
      (fun h0 => fL0 h0),
      (fun h0 h1 => hCR0 _ _ _ (fC0 h0 h1) g),
      (fun h0 => fL1 h0),
      (fun _ _ => hcr),
      (fun h0 => by obtain ⟨e1, e2, e3, e9⟩ := fF h0; exact ⟨e1, e2, Nat.le_trans e3 g.size, far _ _ _ _ _ _ e9 (fun b _ hb => g.block b (by omega)) g.size⟩),
      (fun h0 => fM h0),
      (fun h0 => fE0 h0),
      (fun h0 => fE1 h0),
      (fun h0 => fA0 h0),
      (fun h0 => fA1 h0),
      (fun h => fO5_4 h),
      (fun h => fO6_4 h),
      (fun h => fO8_4 h),
      (fun h => fO7_4 h),
      (fun h => fO9_4 h)⟩
  · rintro d a W ⟨u6, u7, u27, u28, u29, u30, u31, u32, u33, u34, lo, hi, g0, g1, hfr, fold, fL0, fC0, fL1, fC1, fF, fM, fE0, fE1, fA0, fA1, fO5_4, fO6_4, fO8_4, fO7_4, fO9_4⟩ hi_ hd
    simp [Region.binds] at hd
    have HD1 : d 1 = true := by simp only [hd]
    have HD3 : d 3 = true := by simp only [hd]
    clear hd
    refine op_call_ret (R := fun v w' => ∃ (g0 : Value) (g1 : Value), v = .tuple #[g0, g1] ∧ Old W w' ∧ RES w' W.heap.size w'.heap.size g0 g1) Tryz.call25 (vs := #[u29, u31]) (by simp [hfr, e29, e31, getKey]) ((cf W _ _ fold (fC0 HD1 hi_) (fC1 HD3 hi_)).mono (fun e w' h => by obtain ⟨g0, g1, rfl, h⟩ := h; exact ⟨_, rfl, g0, g1, rfl, h⟩)) ?_
    rintro v W' ⟨r0, r1, rfl, g, hres⟩
    exact ⟨u6, u7, u27, u28, u29, u30, u31, .tuple #[r0, r1], u33, u34, W.heap.size, W'.heap.size, r0, r1, (by rw [hfr]; exact putAll_put a0 _ _ _ rfl), (Old.trans fold g),
      (fun h0 => fL0 h0),
      (fun h0 h1 => by cases h1),
      (fun h0 => fL1 h0),
      (fun h0 h1 => by cases h1),
      (fun _ => ⟨rfl, (fold.size), Nat.le_refl _, hres⟩),
      (fun h0 => by have hx_ := fO5_4 h0; rw [hi_] at hx_; cases hx_),
      (fun h0 => by have hx_ := fO6_4 h0; rw [hi_] at hx_; cases hx_),
      (fun h0 => by have hx_ := fO7_4 h0; rw [hi_] at hx_; cases hx_),
      (fun h0 => by have hx_ := fO8_4 h0; rw [hi_] at hx_; cases hx_),
      (fun h0 => by have hx_ := fO9_4 h0; rw [hi_] at hx_; cases hx_),
      (fun _ => rfl),
      (fun _ => rfl),
      (fun _ => rfl),
      (fun _ => rfl),
      (fun _ => rfl)⟩
  · rintro d a W ⟨u6, u7, u27, u28, u29, u30, u31, u32, u33, u34, lo, hi, g0, g1, hfr, fold, fL0, fC0, fL1, fC1, fF, fM, fE0, fE1, fA0, fA1, fO5_4, fO6_4, fO8_4, fO7_4, fO9_4⟩ hi_ hd
    simp [Region.binds] at hd
    have HD4 : d 4 = true := by simp only [hd]
    clear hd
    have hv := (fF HD4).1
    refine op_move ?_
    rw [show a.eval (.tmp 32) = .tuple #[g0, g1] by rw [hfr, e32]; exact hv]
    exact ⟨u6, u7, .tuple #[g0, g1], u28, u29, u30, u31, u32, u33, u34, lo, hi, g0, g1, (by rw [hfr]; exact putAll_put a0 _ _ _ rfl), (fold),
      (fun h0 => fL0 h0),
      (fun h0 h1 => fC0 h0 h1),
      (fun h0 => fL1 h0),
      (fun h0 h1 => fC1 h0 h1),
      (fun h0 => fF h0),
      (fun _ => rfl),
      (fun h0 => fE0 h0),
      (fun h0 => fE1 h0),
      (fun h0 => fA0 h0),
      (fun h0 => fA1 h0),
      (fun _ => HD4),
      (fun h => fO6_4 h),
      (fun h => fO8_4 h),
      (fun h => fO7_4 h),
      (fun h => fO9_4 h)⟩
  · rintro d a W ⟨u6, u7, u27, u28, u29, u30, u31, u32, u33, u34, lo, hi, g0, g1, hfr, fold, fL0, fC0, fL1, fC1, fF, fM, fE0, fE1, fA0, fA1, fO5_4, fO6_4, fO8_4, fO7_4, fO9_4⟩ hi_ hd
    simp [Region.binds] at hd
    have HD5 : d 5 = true := by simp only [hd]
    have HD4 : d 4 = true := fO5_4 HD5
    clear hd
    have hv := fM HD5
    refine op_extract (by rw [hfr, e27]; exact hv) rfl ?_
    exact ⟨u6, u7, u27, u28, u29, u30, u31, u32, g0, u34, lo, hi, g0, g1, (by rw [hfr]; exact putAll_put a0 _ _ _ rfl), (fold),
      (fun h0 => fL0 h0),
      (fun h0 h1 => fC0 h0 h1),
      (fun h0 => fL1 h0),
      (fun h0 h1 => fC1 h0 h1),
      (fun h0 => fF h0),
      (fun h0 => fM h0),
      (fun _ => rfl),
      (fun h0 => fE1 h0),
      (fun h0 => fA0 h0),
      (fun h0 => fA1 h0),
      (fun h => fO5_4 h),
      (fun _ => HD4),
      (fun h => fO8_4 h),
      (fun h => fO7_4 h),
      (fun h => fO9_4 h)⟩
  · rintro d a W ⟨u6, u7, u27, u28, u29, u30, u31, u32, u33, u34, lo, hi, g0, g1, hfr, fold, fL0, fC0, fL1, fC1, fF, fM, fE0, fE1, fA0, fA1, fO5_4, fO6_4, fO8_4, fO7_4, fO9_4⟩ hi_ hd
    simp [Region.binds] at hd
    have HD5 : d 5 = true := by simp only [hd]
    have HD4 : d 4 = true := fO5_4 HD5
    clear hd
    have hv := fM HD5
    refine op_extract (by rw [hfr, e27]; exact hv) rfl ?_
    exact ⟨u6, u7, u27, u28, u29, u30, u31, u32, u33, g1, lo, hi, g0, g1, (by rw [hfr]; exact putAll_put a0 _ _ _ rfl), (fold),
      (fun h0 => fL0 h0),
      (fun h0 h1 => fC0 h0 h1),
      (fun h0 => fL1 h0),
      (fun h0 h1 => fC1 h0 h1),
      (fun h0 => fF h0),
      (fun h0 => fM h0),
      (fun h0 => fE0 h0),
      (fun _ => rfl),
      (fun h0 => fA0 h0),
      (fun h0 => fA1 h0),
      (fun h => fO5_4 h),
      (fun h => fO6_4 h),
      (fun h => fO8_4 h),
      (fun _ => HD4),
      (fun h => fO9_4 h)⟩
  · rintro d a W ⟨u6, u7, u27, u28, u29, u30, u31, u32, u33, u34, lo, hi, g0, g1, hfr, fold, fL0, fC0, fL1, fC1, fF, fM, fE0, fE1, fA0, fA1, fO5_4, fO6_4, fO8_4, fO7_4, fO9_4⟩ hi_ hd
    simp [Region.binds] at hd
    have HD4 : d 4 = true := by simp only [hd]
    have HD6 : d 6 = true := by simp only [hd]
    clear hd
    have hv := fE0 HD6
    refine op_assign ?_
    rw [show a.eval (.tmp 33) = g0 by rw [hfr, e33]; exact hv]
    exact ⟨g0, u7, u27, u28, u29, u30, u31, u32, u33, u34, lo, hi, g0, g1, (by rw [hfr]; exact putAll_put a0 _ _ _ rfl), (fold),
      (fun h0 => fL0 h0),
      (fun h0 h1 => fC0 h0 h1),
      (fun h0 => fL1 h0),
      (fun h0 h1 => fC1 h0 h1),
      (fun h0 => fF h0),
      (fun h0 => fM h0),
      (fun h0 => fE0 h0),
      (fun h0 => fE1 h0),
      (fun _ => rfl),
      (fun h0 => fA1 h0),
      (fun h => fO5_4 h),
      (fun h => fO6_4 h),
      (fun _ => HD4),
      (fun h => fO7_4 h),
      (fun h => fO9_4 h)⟩
  · rintro d a W ⟨u6, u7, u27, u28, u29, u30, u31, u32, u33, u34, lo, hi, g0, g1, hfr, fold, fL0, fC0, fL1, fC1, fF, fM, fE0, fE1, fA0, fA1, fO5_4, fO6_4, fO8_4, fO7_4, fO9_4⟩ hi_ hd
    simp [Region.binds] at hd
    have HD4 : d 4 = true := by simp only [hd]
    have HD7 : d 7 = true := by simp only [hd]
    clear hd
    have hv := fE1 HD7
    refine op_assign ?_
    rw [show a.eval (.tmp 34) = g1 by rw [hfr, e34]; exact hv]
    exact ⟨u6, g1, u27, u28, u29, u30, u31, u32, u33, u34, lo, hi, g0, g1, (by rw [hfr]; exact putAll_put a0 _ _ _ rfl), (fold),
      (fun h0 => fL0 h0),
      (fun h0 h1 => fC0 h0 h1),
      (fun h0 => fL1 h0),
      (fun h0 h1 => fC1 h0 h1),
      (fun h0 => fF h0),
      (fun h0 => fM h0),
      (fun h0 => fE0 h0),
      (fun h0 => fE1 h0),
      (fun h0 => fA0 h0),
      (fun _ => rfl),
      (fun h => fO5_4 h),
      (fun h => fO6_4 h),
      (fun h => fO8_4 h),
      (fun h => fO7_4 h),
      (fun _ => HD4)⟩
  · rintro d a W hd ⟨u6, u7, u27, u28, u29, u30, u31, u32, u33, u34, lo, hi, g0, g1, hfr, fold, fL0, fC0, fL1, fC1, fF, fM, fE0, fE1, fA0, fA1, fO5_4, fO6_4, fO8_4, fO7_4, fO9_4⟩
    have hd2 : ∀ i, i < 10 → d i = true := hd
    clear hd
    have HD0 : d 0 = true := hd2 0 (by omega)
    have HD1 : d 1 = true := hd2 1 (by omega)
    have HD2 : d 2 = true := hd2 2 (by omega)
    have HD3 : d 3 = true := hd2 3 (by omega)
    have HD4 : d 4 = true := hd2 4 (by omega)
    have HD5 : d 5 = true := hd2 5 (by omega)
    have HD6 : d 6 = true := hd2 6 (by omega)
    have HD7 : d 7 = true := hd2 7 (by omega)
    have HD8 : d 8 = true := hd2 8 (by omega)
    have HD9 : d 9 = true := hd2 9 (by omega)
    obtain ⟨eF, lF, hF, rF⟩ := fF HD4
    have ha_0 := fA0 HD8
    rw [ha_0] at hfr
    have ha_1 := fA1 HD9
    rw [ha_1] at hfr
    show K a W
    rw [hfr]
    exact HK.out  lo hi g0 g1 u27 u28 u29 u30 u31 u32 u33 u34 W fold lF hF rF
end Go.Proofs.YtfgooclnohnkmaaGreatDoor
/- Proved: a drawn region of the statement FnExactWholesOf, by what holds between its operations, in whatever order. -/
namespace Go.Proofs.YtfgooclnohnkmaaGreatDoor
open Go.ChangeShapes Go.WideShapes Go.ChangeAt Go.RowKit
set_option linter.unusedVariables false
set_option linter.unusedSimpArgs false
def regionAtreg9_WholesOfB (n : Nat) : Code → Option Code
  | .region i ops b => if i = n then some (.region i ops b) else none
  | .seq a b => match regionAtreg9_WholesOfB n a with
    | some c => some c
    | none => regionAtreg9_WholesOfB n b
  | .block _ c => regionAtreg9_WholesOfB n c
  | _ => none
set_option maxRecDepth 100000 in
set_option maxHeartbeats 8000000 in
theorem reg9_WholesOfB (w2 : World) (x0_0 x0_1 : Value) (kb0 : Nat) (x1_0 x1_1 : Value) (kb1 : Nat) 
    (CR0 : World → Value → Prop) (hCR0 : ∀ W W' v, CR0 W v → Old W W' → CR0 W' v)
    (c0 : ∀ W, Old w2 W → Calls Tryz.prog 26 #[.agg #[x0_0, x0_1]] W fun e w' => ∃ v, e = .returned v ∧ Old W w' ∧ CR0 w' v)
    (b0 : w2.heap[kb0]? = some (.cells #[x0_0, x0_1] 47 (0, 0)))
    (CR1 : World → Value → Prop) (hCR1 : ∀ W W' v, CR1 W v → Old W W' → CR1 W' v)
    (c1 : ∀ W, Old w2 W → Calls Tryz.prog 27 #[.agg #[x1_0, x1_1]] W fun e w' => ∃ v, e = .returned v ∧ Old W w' ∧ CR1 w' v)
    (b1 : w2.heap[kb1]? = some (.cells #[x1_0, x1_1] 50 (0, 0)))
    (RES : World → Nat → Nat → Value → Value → Prop) (far : ∀ W W' lo hi (g0 : Value) (g1 : Value), RES W lo hi g0 g1 → (∀ b, lo ≤ b → b < hi → W'.heap[b]? = W.heap[b]?) → W.heap.size ≤ W'.heap.size → RES W' lo hi g0 g1)
    (cf : ∀ W v0 v1, Old w2 W → CR0 W v0 → CR1 W v1 → Calls Tryz.prog 28 #[v0, v1] W fun e w' => ∃ (g0 : Value) (g1 : Value), e = .returned (.tuple #[g0, g1]) ∧ Old W w' ∧ RES w' W.heap.size w'.heap.size g0 g1)
    (Q : Exit → Act → World → Prop) (K : Act → World → Prop) (a0 : Act) (hsz : 119 ≤ a0.tmps.size) (ha2 : a0.eval (.tmp 2) = .pointer (some ⟨kb0, 0, none⟩)) (ha3 : a0.eval (.tmp 3) = .pointer (some ⟨kb1, 0, none⟩))
    (HK : Hid (∀ ( lo hi : Nat) (g0 : Value) (g1 : Value) (u94 u95 u96 u97 u98 u99 u100 u101 : Value) (W : World), Old w2 W → w2.heap.size ≤ lo → hi ≤ W.heap.size → RES W lo hi g0 g1 → K (putAll a0 [(15, g0), (16, g1), (94, u94), (95, u95), (96, u96), (97, u97), (98, u98), (99, u99), (100, u100), (101, u101)]) W)) :
    Code.wp Tryz.prog ((Tryz.f5.body.bind (regionAtreg9_WholesOfB 31)).getD .skip) (Exit.then K Q) a0 w2 := by
  conv => arg 2; whnf
  have e2 : ∀ l, (putAll a0 l).eval (.tmp 2) = (getKey l 2).getD (a0.eval (.tmp 2)) := eval_putAll a0 2 (by omega)
  have e3 : ∀ l, (putAll a0 l).eval (.tmp 3) = (getKey l 3).getD (a0.eval (.tmp 3)) := eval_putAll a0 3 (by omega)
  have e15 : ∀ l, (putAll a0 l).eval (.tmp 15) = (getKey l 15).getD (a0.eval (.tmp 15)) := eval_putAll a0 15 (by omega)
  have e16 : ∀ l, (putAll a0 l).eval (.tmp 16) = (getKey l 16).getD (a0.eval (.tmp 16)) := eval_putAll a0 16 (by omega)
  have e94 : ∀ l, (putAll a0 l).eval (.tmp 94) = (getKey l 94).getD (a0.eval (.tmp 94)) := eval_putAll a0 94 (by omega)
  have e95 : ∀ l, (putAll a0 l).eval (.tmp 95) = (getKey l 95).getD (a0.eval (.tmp 95)) := eval_putAll a0 95 (by omega)
  have e96 : ∀ l, (putAll a0 l).eval (.tmp 96) = (getKey l 96).getD (a0.eval (.tmp 96)) := eval_putAll a0 96 (by omega)
  have e97 : ∀ l, (putAll a0 l).eval (.tmp 97) = (getKey l 97).getD (a0.eval (.tmp 97)) := eval_putAll a0 97 (by omega)
  have e98 : ∀ l, (putAll a0 l).eval (.tmp 98) = (getKey l 98).getD (a0.eval (.tmp 98)) := eval_putAll a0 98 (by omega)
  have e99 : ∀ l, (putAll a0 l).eval (.tmp 99) = (getKey l 99).getD (a0.eval (.tmp 99)) := eval_putAll a0 99 (by omega)
  have e100 : ∀ l, (putAll a0 l).eval (.tmp 100) = (getKey l 100).getD (a0.eval (.tmp 100)) := eval_putAll a0 100 (by omega)
  have e101 : ∀ l, (putAll a0 l).eval (.tmp 101) = (getKey l 101).getD (a0.eval (.tmp 101)) := eval_putAll a0 101 (by omega)
  refine wp_region_steps (fun d a W => ∃ (u15 u16 u94 u95 u96 u97 u98 u99 u100 u101 : Value) ( lo hi : Nat) (g0 : Value) (g1 : Value), a = (putAll a0 [(15, u15), (16, u16), (94, u94), (95, u95), (96, u96), (97, u97), (98, u98), (99, u99), (100, u100), (101, u101)]) ∧ (Old w2 W) ∧ (d 0 = true → u95 = .agg #[x0_0, x0_1]) ∧ (d 1 = true → d 4 = false → CR0 W u96) ∧ (d 2 = true → u97 = .agg #[x1_0, x1_1]) ∧ (d 3 = true → d 4 = false → CR1 W u98) ∧ (d 4 = true → u99 = .tuple #[g0, g1] ∧ w2.heap.size ≤ lo ∧ hi ≤ W.heap.size ∧ RES W lo hi g0 g1) ∧ (d 5 = true → u94 = .tuple #[g0, g1]) ∧ (d 6 = true → u100 = g0) ∧ (d 7 = true → u101 = g1) ∧ (d 8 = true → u15 = g0) ∧ (d 9 = true → u16 = g1) ∧ (d 5 = true → d 4 = true) ∧ (d 6 = true → d 4 = true) ∧ (d 8 = true → d 4 = true) ∧ (d 7 = true → d 4 = true) ∧ (d 9 = true → d 4 = true)) rfl (by decide +kernel) (by decide +kernel) ?_ ⟨?_, ?_, ?_, ?_, ?_, ?_, ?_, ?_, ?_, ?_, trivial⟩ ?_
  · exact ⟨_, _, _, _, _, _, _, _, _, _, 0, 0, undef, undef, (putAll_self a0 [15, 16, 94, 95, 96, 97, 98, 99, 100, 101] (by intro s hs; simp at hs; omega)).symm, Below.drew (Old.refl w2), (fun h => by cases h), (fun h => by cases h), (fun h => by cases h), (fun h => by cases h), (fun h => by cases h), (fun h => by cases h), (fun h => by cases h), (fun h => by cases h), (fun h => by cases h), (fun h => by cases h), (fun h => by cases h), (fun h => by cases h), (fun h => by cases h), (fun h => by cases h), (fun h => by cases h)⟩
  · rintro d a W ⟨u15, u16, u94, u95, u96, u97, u98, u99, u100, u101, lo, hi, g0, g1, hfr, fold, fL0, fC0, fL1, fC1, fF, fM, fE0, fE1, fA0, fA1, fO5_4, fO6_4, fO8_4, fO7_4, fO9_4⟩ hi_ hd
    simp [Region.binds] at hd
    refine op_load (k := kb0) (by rw [hfr, e2]; exact ha2) (fold.block _ (lt_of_some b0) |>.trans b0) Tryz.underlying47 rfl (by kernel_rfl) ?_
    exact ⟨u15, u16, u94, .agg #[x0_0, x0_1], u96, u97, u98, u99, u100, u101, lo, hi, g0, g1, (by rw [hfr]; exact putAll_put a0 _ _ _ rfl), (fold),
      (fun _ => rfl),
      (fun h0 h1 => fC0 h0 h1),
      (fun h0 => fL1 h0),
      (fun h0 h1 => fC1 h0 h1),
      (fun h0 => fF h0),
      (fun h0 => fM h0),
      (fun h0 => fE0 h0),
      (fun h0 => fE1 h0),
      (fun h0 => fA0 h0),
      (fun h0 => fA1 h0),
      (fun h => fO5_4 h),
      (fun h => fO6_4 h),
      (fun h => fO8_4 h),
      (fun h => fO7_4 h),
      (fun h => fO9_4 h)⟩
  · rintro d a W ⟨u15, u16, u94, u95, u96, u97, u98, u99, u100, u101, lo, hi, g0, g1, hfr, fold, fL0, fC0, fL1, fC1, fF, fM, fE0, fE1, fA0, fA1, fO5_4, fO6_4, fO8_4, fO7_4, fO9_4⟩ hi_ hd
    simp [Region.binds] at hd
    have HD0 : d 0 = true := by simp only [hd]
    clear hd
    have hv := fL0 HD0
    refine op_call_ret Tryz.call26 (vs := #[.agg #[x0_0, x0_1]]) (by simp [hfr, e95, getKey, hv]) (c0 W fold) ?_
    rintro v W' ⟨g, hcr⟩
    exact ⟨u15, u16, u94, u95, v, u97, u98, u99, u100, u101, lo, hi, g0, g1, (by rw [hfr]; exact putAll_put a0 _ _ _ rfl), (Old.trans fold g),
      (fun h0 => fL0 h0),
      (fun _ _ => hcr),
      (fun h0 => fL1 h0),
      (fun h0 h1 => hCR1 _ _ _ (fC1 h0 h1) g),
      (fun h0 => by obtain ⟨e1, e2, e3, e9⟩ := fF h0; exact ⟨e1, e2, Nat.le_trans e3 g.size, far _ _ _ _ _ _ e9 (fun b _ hb => g.block b (by omega)) g.size⟩),
      (fun h0 => fM h0),
      (fun h0 => fE0 h0),
      (fun h0 => fE1 h0),
      (fun h0 => fA0 h0),
      (fun h0 => fA1 h0),
      (fun h => fO5_4 h),
      (fun h => fO6_4 h),
      (fun h => fO8_4 h),
      (fun h => fO7_4 h),
      (fun h => fO9_4 h)⟩
  · rintro d a W ⟨u15, u16, u94, u95, u96, u97, u98, u99, u100, u101, lo, hi, g0, g1, hfr, fold, fL0, fC0, fL1, fC1, fF, fM, fE0, fE1, fA0, fA1, fO5_4, fO6_4, fO8_4, fO7_4, fO9_4⟩ hi_ hd
    simp [Region.binds] at hd
    refine op_load (k := kb1) (by rw [hfr, e3]; exact ha3) (fold.block _ (lt_of_some b1) |>.trans b1) Tryz.underlying50 rfl (by kernel_rfl) ?_
    exact ⟨u15, u16, u94, u95, u96, .agg #[x1_0, x1_1], u98, u99, u100, u101, lo, hi, g0, g1, (by rw [hfr]; exact putAll_put a0 _ _ _ rfl), (fold),
      (fun h0 => fL0 h0),
      (fun h0 h1 => fC0 h0 h1),
      (fun _ => rfl),
      (fun h0 h1 => fC1 h0 h1),
      (fun h0 => fF h0),
      (fun h0 => fM h0),
      (fun h0 => fE0 h0),
      (fun h0 => fE1 h0),
      (fun h0 => fA0 h0),
      (fun h0 => fA1 h0),
      (fun h => fO5_4 h),
      (fun h => fO6_4 h),
      (fun h => fO8_4 h),
      (fun h => fO7_4 h),
      (fun h => fO9_4 h)⟩
  · rintro d a W ⟨u15, u16, u94, u95, u96, u97, u98, u99, u100, u101, lo, hi, g0, g1, hfr, fold, fL0, fC0, fL1, fC1, fF, fM, fE0, fE1, fA0, fA1, fO5_4, fO6_4, fO8_4, fO7_4, fO9_4⟩ hi_ hd
    simp [Region.binds] at hd
    have HD2 : d 2 = true := by simp only [hd]
    clear hd
    have hv := fL1 HD2
    refine op_call_ret Tryz.call27 (vs := #[.agg #[x1_0, x1_1]]) (by simp [hfr, e97, getKey, hv]) (c1 W fold) ?_
    rintro v W' ⟨g, hcr⟩
    exact ⟨u15, u16, u94, u95, u96, u97, v, u99, u100, u101, lo, hi, g0, g1, (by rw [hfr]; exact putAll_put a0 _ _ _ rfl), (Old.trans fold g),
      (fun h0 => fL0 h0),
      (fun h0 h1 => hCR0 _ _ _ (fC0 h0 h1) g),
      (fun h0 => fL1 h0),
      (fun _ _ => hcr),
      (fun h0 => by obtain ⟨e1, e2, e3, e9⟩ := fF h0; exact ⟨e1, e2, Nat.le_trans e3 g.size, far _ _ _ _ _ _ e9 (fun b _ hb => g.block b (by omega)) g.size⟩),
      (fun h0 => fM h0),
      (fun h0 => fE0 h0),
      (fun h0 => fE1 h0),
      (fun h0 => fA0 h0),
      (fun h0 => fA1 h0),
      (fun h => fO5_4 h),
      (fun h => fO6_4 h),
      (fun h => fO8_4 h),
      (fun h => fO7_4 h),
      (fun h => fO9_4 h)⟩
  · rintro d a W ⟨u15, u16, u94, u95, u96, u97, u98, u99, u100, u101, lo, hi, g0, g1, hfr, fold, fL0, fC0, fL1, fC1, fF, fM, fE0, fE1, fA0, fA1, fO5_4, fO6_4, fO8_4, fO7_4, fO9_4⟩ hi_ hd
    simp [Region.binds] at hd
    have HD1 : d 1 = true := by simp only [hd]
    have HD3 : d 3 = true := by simp only [hd]
    clear hd
    refine op_call_ret (R := fun v w' => ∃ (g0 : Value) (g1 : Value), v = .tuple #[g0, g1] ∧ Old W w' ∧ RES w' W.heap.size w'.heap.size g0 g1) Tryz.call28 (vs := #[u96, u98]) (by simp [hfr, e96, e98, getKey]) ((cf W _ _ fold (fC0 HD1 hi_) (fC1 HD3 hi_)).mono (fun e w' h => by obtain ⟨g0, g1, rfl, h⟩ := h; exact ⟨_, rfl, g0, g1, rfl, h⟩)) ?_
    rintro v W' ⟨r0, r1, rfl, g, hres⟩
    exact ⟨u15, u16, u94, u95, u96, u97, u98, .tuple #[r0, r1], u100, u101, W.heap.size, W'.heap.size, r0, r1, (by rw [hfr]; exact putAll_put a0 _ _ _ rfl), (Old.trans fold g),
      (fun h0 => fL0 h0),
      (fun h0 h1 => by cases h1),
      (fun h0 => fL1 h0),
      (fun h0 h1 => by cases h1),
      (fun _ => ⟨rfl, (fold.size), Nat.le_refl _, hres⟩),
      (fun h0 => by have hx_ := fO5_4 h0; rw [hi_] at hx_; cases hx_),
      (fun h0 => by have hx_ := fO6_4 h0; rw [hi_] at hx_; cases hx_),
      (fun h0 => by have hx_ := fO7_4 h0; rw [hi_] at hx_; cases hx_),
      (fun h0 => by have hx_ := fO8_4 h0; rw [hi_] at hx_; cases hx_),
      (fun h0 => by have hx_ := fO9_4 h0; rw [hi_] at hx_; cases hx_),
      (fun _ => rfl),
      (fun _ => rfl),
      (fun _ => rfl),
      (fun _ => rfl),
      (fun _ => rfl)⟩
  · rintro d a W ⟨u15, u16, u94, u95, u96, u97, u98, u99, u100, u101, lo, hi, g0, g1, hfr, fold, fL0, fC0, fL1, fC1, fF, fM, fE0, fE1, fA0, fA1, fO5_4, fO6_4, fO8_4, fO7_4, fO9_4⟩ hi_ hd
    simp [Region.binds] at hd
    have HD4 : d 4 = true := by simp only [hd]
    clear hd
    have hv := (fF HD4).1
    refine op_move ?_
    rw [show a.eval (.tmp 99) = .tuple #[g0, g1] by rw [hfr, e99]; exact hv]
    exact ⟨u15, u16, .tuple #[g0, g1], u95, u96, u97, u98, u99, u100, u101, lo, hi, g0, g1, (by rw [hfr]; exact putAll_put a0 _ _ _ rfl), (fold),
      (fun h0 => fL0 h0),
      (fun h0 h1 => fC0 h0 h1),
      (fun h0 => fL1 h0),
      (fun h0 h1 => fC1 h0 h1),
      (fun h0 => fF h0),
      (fun _ => rfl),
      (fun h0 => fE0 h0),
      (fun h0 => fE1 h0),
      (fun h0 => fA0 h0),
      (fun h0 => fA1 h0),
      (fun _ => HD4),
      (fun h => fO6_4 h),
      (fun h => fO8_4 h),
      (fun h => fO7_4 h),
      (fun h => fO9_4 h)⟩
  · rintro d a W ⟨u15, u16, u94, u95, u96, u97, u98, u99, u100, u101, lo, hi, g0, g1, hfr, fold, fL0, fC0, fL1, fC1, fF, fM, fE0, fE1, fA0, fA1, fO5_4, fO6_4, fO8_4, fO7_4, fO9_4⟩ hi_ hd
    simp [Region.binds] at hd
    have HD5 : d 5 = true := by simp only [hd]
    have HD4 : d 4 = true := fO5_4 HD5
    clear hd
    have hv := fM HD5
    refine op_extract (by rw [hfr, e94]; exact hv) rfl ?_
    exact ⟨u15, u16, u94, u95, u96, u97, u98, u99, g0, u101, lo, hi, g0, g1, (by rw [hfr]; exact putAll_put a0 _ _ _ rfl), (fold),
      (fun h0 => fL0 h0),
      (fun h0 h1 => fC0 h0 h1),
      (fun h0 => fL1 h0),
      (fun h0 h1 => fC1 h0 h1),
      (fun h0 => fF h0),
      (fun h0 => fM h0),
      (fun _ => rfl),
      (fun h0 => fE1 h0),
      (fun h0 => fA0 h0),
      (fun h0 => fA1 h0),
      (fun h => fO5_4 h),
      (fun _ => HD4),
      (fun h => fO8_4 h),
      (fun h => fO7_4 h),
      (fun h => fO9_4 h)⟩
  · rintro d a W ⟨u15, u16, u94, u95, u96, u97, u98, u99, u100, u101, lo, hi, g0, g1, hfr, fold, fL0, fC0, fL1, fC1, fF, fM, fE0, fE1, fA0, fA1, fO5_4, fO6_4, fO8_4, fO7_4, fO9_4⟩ hi_ hd
    simp [Region.binds] at hd
    have HD5 : d 5 = true := by simp only [hd]
    have HD4 : d 4 = true := fO5_4 HD5
    clear hd
    have hv := fM HD5
    refine op_extract (by rw [hfr, e94]; exact hv) rfl ?_
    exact ⟨u15, u16, u94, u95, u96, u97, u98, u99, u100, g1, lo, hi, g0, g1, (by rw [hfr]; exact putAll_put a0 _ _ _ rfl), (fold),
      (fun h0 => fL0 h0),
      (fun h0 h1 => fC0 h0 h1),
      (fun h0 => fL1 h0),
      (fun h0 h1 => fC1 h0 h1),
      (fun h0 => fF h0),
      (fun h0 => fM h0),
      (fun h0 => fE0 h0),
      (fun _ => rfl),
      (fun h0 => fA0 h0),
      (fun h0 => fA1 h0),
      (fun h => fO5_4 h),
      (fun h => fO6_4 h),
      (fun h => fO8_4 h),
      (fun _ => HD4),
      (fun h => fO9_4 h)⟩
  · rintro d a W ⟨u15, u16, u94, u95, u96, u97, u98, u99, u100, u101, lo, hi, g0, g1, hfr, fold, fL0, fC0, fL1, fC1, fF, fM, fE0, fE1, fA0, fA1, fO5_4, fO6_4, fO8_4, fO7_4, fO9_4⟩ hi_ hd
    simp [Region.binds] at hd
    have HD4 : d 4 = true := by simp only [hd]
    have HD6 : d 6 = true := by simp only [hd]
    clear hd
    have hv := fE0 HD6
    refine op_assign ?_
    rw [show a.eval (.tmp 100) = g0 by rw [hfr, e100]; exact hv]
    exact ⟨g0, u16, u94, u95, u96, u97, u98, u99, u100, u101, lo, hi, g0, g1, (by rw [hfr]; exact putAll_put a0 _ _ _ rfl), (fold),
      (fun h0 => fL0 h0),
      (fun h0 h1 => fC0 h0 h1),
      (fun h0 => fL1 h0),
      (fun h0 h1 => fC1 h0 h1),
      (fun h0 => fF h0),
      (fun h0 => fM h0),
      (fun h0 => fE0 h0),
      (fun h0 => fE1 h0),
      (fun _ => rfl),
      (fun h0 => fA1 h0),
      (fun h => fO5_4 h),
      (fun h => fO6_4 h),
      (fun _ => HD4),
      (fun h => fO7_4 h),
      (fun h => fO9_4 h)⟩
  · rintro d a W ⟨u15, u16, u94, u95, u96, u97, u98, u99, u100, u101, lo, hi, g0, g1, hfr, fold, fL0, fC0, fL1, fC1, fF, fM, fE0, fE1, fA0, fA1, fO5_4, fO6_4, fO8_4, fO7_4, fO9_4⟩ hi_ hd
    simp [Region.binds] at hd
    have HD4 : d 4 = true := by simp only [hd]
    have HD7 : d 7 = true := by simp only [hd]
    clear hd
    have hv := fE1 HD7
    refine op_assign ?_
    rw [show a.eval (.tmp 101) = g1 by rw [hfr, e101]; exact hv]
    exact ⟨u15, g1, u94, u95, u96, u97, u98, u99, u100, u101, lo, hi, g0, g1, (by rw [hfr]; exact putAll_put a0 _ _ _ rfl), (fold),
      (fun h0 => fL0 h0),
      (fun h0 h1 => fC0 h0 h1),
      (fun h0 => fL1 h0),
      (fun h0 h1 => fC1 h0 h1),
      (fun h0 => fF h0),
      (fun h0 => fM h0),
      (fun h0 => fE0 h0),
      (fun h0 => fE1 h0),
      (fun h0 => fA0 h0),
      (fun _ => rfl),
      (fun h => fO5_4 h),
      (fun h => fO6_4 h),
      (fun h => fO8_4 h),
      (fun h => fO7_4 h),
      (fun _ => HD4)⟩
  · rintro d a W hd ⟨u15, u16, u94, u95, u96, u97, u98, u99, u100, u101, lo, hi, g0, g1, hfr, fold, fL0, fC0, fL1, fC1, fF, fM, fE0, fE1, fA0, fA1, fO5_4, fO6_4, fO8_4, fO7_4, fO9_4⟩
    have hd2 : ∀ i, i < 10 → d i = true := hd
    clear hd
    have HD0 : d 0 = true := hd2 0 (by omega)
    have HD1 : d 1 = true := hd2 1 (by omega)
    have HD2 : d 2 = true := hd2 2 (by omega)
    have HD3 : d 3 = true := hd2 3 (by omega)
    have HD4 : d 4 = true := hd2 4 (by omega)
    have HD5 : d 5 = true := hd2 5 (by omega)
    have HD6 : d 6 = true := hd2 6 (by omega)
    have HD7 : d 7 = true := hd2 7 (by omega)
    have HD8 : d 8 = true := hd2 8 (by omega)
    have HD9 : d 9 = true := hd2 9 (by omega)
    obtain ⟨eF, lF, hF, rF⟩ := fF HD4
    have ha_0 := fA0 HD8
    rw [ha_0] at hfr
    have ha_1 := fA1 HD9
    rw [ha_1] at hfr
    show K a W
    rw [hfr]
    exact HK.out  lo hi g0 g1 u94 u95 u96 u97 u98 u99 u100 u101 W fold lF hF rF
end Go.Proofs.YtfgooclnohnkmaaGreatDoor
