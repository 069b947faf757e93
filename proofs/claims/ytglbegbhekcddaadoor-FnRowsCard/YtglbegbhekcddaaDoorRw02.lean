/- Proved: several texts in one: what each proves is said ahead of it. -/
import Derived.Test.YtglbegbhekcddaaDoorRInv
import Derived.Laws.Rows
import Derived.Laws.Tables
import Derived.Test.YtglbegbhekcddaaDoorRw01
import Derived.BigCall
/- Proved: single operations, each as a step of a region that draws its order; no function of the program. -/
namespace Go.Proofs.YtglbegbhekcddaaDoor
open Go.ChangeShapes Go.WideShapes Go.ChangeAt Go.RowKit
set_option linter.unusedVariables false
set_option linter.unusedSimpArgs false
section
variable {P : Program} {d : Option Tmp} {ty : TypeId} {pos : String} {af : Array Edge} {a : Act} {W : World} {K : Act → World → Prop} {Q : Exit → Act → World → Prop}
theorem op_load {T : TypeId} {x : Operand} {k : Nat} {cs : Array Value} {t : TypeId} {fr : Nat × Nat} {D : TypeDesc} (ha : a.eval x = .pointer (some ⟨k, 0, none⟩)) (hb : W.heap[k]? = some (.cells cs t fr))
    (hu : P.underlying T = some D) (hD : (match D with | .struct _ | .array _ _ => true | _ => false) = true) (hi : (P.info? T).map (·.size) = some cs.size) (hK : K (a.put d (.agg cs)) W) : Oper.wp P ⟨d, .load T x, ty, pos, af, none⟩ a W K Q := by
  have h := run_loadVar_row (P := P) W k t T cs fr D hb hu hD hi
  unfold Oper.wp
  simp [execOp, ha, Instr.loadAt, Instr.sureAddr, h, Result.andThen]
  exact hK
theorem op_store {T : TypeId} {p x : Operand} {k : Nat} {cs old : Array Value} {t : TypeId} (ha : a.eval p = .pointer (some ⟨k, 0, none⟩)) (hv : a.eval x = .agg cs) (hb : W.heap[k]? = some (.cells old t (0, 0)))
    (hi : (P.info? T).map (·.size) = some cs.size) (ho : old.size = cs.size) (h1 : cs.all (·.oneCell') = true) (hK : K (a.put d undef) (W.setRow k cs)) : Oper.wp P ⟨d, .store T p x, ty, pos, af, none⟩ a W K Q := by
  have h := run_storeVar_row (P := P) W k t T old cs hb hi ho h1
  unfold Oper.wp
  simp [execOp, ha, hv, Instr.storeAt, Instr.sureAddr, h, Result.andThen]
  exact hK
theorem op_call {f : FuncId} {args : Array Operand} {tys : Array TypeId} (hc : ∀ (vs : Array Value) (w : World), Sem.run P (callFunc f vs) w = .ok (.enter f vs) w) (hK : Calls P f (args.map a.eval) W (fun | .returned v, w'' => K (a.put d v) w'' | .panicked c, w'' => Q (.panic c) a w'' | .outgrown, _ => LetsOut Q)) :
    Oper.wp P ⟨d, .call { callee := .value (.func f), args := args, argTypes := tys }, ty, pos, af, none⟩ a W K Q := by
  unfold Oper.wp
  rw [execOp_call_go, hc]
  rw [show (#[] ++ args.map a.eval ++ #[] : Array Value) = args.map a.eval by simp]
  exact hK
theorem op_call_ret {f : FuncId} {args : Array Operand} {tys : Array TypeId} {vs : Array Value} {R : Value → World → Prop} (hc : ∀ (vs : Array Value) (w : World), Sem.run P (callFunc f vs) w = .ok (.enter f vs) w) (hv : args.map a.eval = vs)
    (hC : Calls P f vs W (fun e w' => ∃ v, e = .returned v ∧ R v w')) (hK : ∀ v w', R v w' → K (a.put d v) w') :
    Oper.wp P ⟨d, .call { callee := .value (.func f), args := args, argTypes := tys }, ty, pos, af, none⟩ a W K Q := by
  refine op_call hc ?_
  rw [hv]
  refine hC.mono ?_
  rintro e w' ⟨v, rfl, h⟩
  exact hK v w' h
theorem op_move {x : Operand} (hK : K (a.put d (a.eval x)) W) : Oper.wp P ⟨d, .move x, ty, pos, af, none⟩ a W K Q := by
  unfold Oper.wp
  simp [execOp]
  exact hK
theorem op_assign {x : Operand} (hK : K (a.put d (a.eval x)) W) : Oper.wp P ⟨d, .assign x, ty, pos, af, none⟩ a W K Q := by
  unfold Oper.wp
  simp [execOp]
  exact hK
end
theorem lt_of_some {W : World} {k : Nat} {o : Obj} (h : W.heap[k]? = some o) : k < W.heap.size := (Array.getElem?_eq_some_iff.1 h).1
theorem size_setRow (W : World) (k : Nat) (cs : Array Value) : (W.setRow k cs).heap.size = W.heap.size := by
  simp [World.setRow]
theorem heap_setRow_other (W : World) (k : Nat) (cs : Array Value) (b : Nat) (h : b ≠ k) : (W.setRow k cs).heap[b]? = W.heap[b]? := by
  simp [World.setRow, Array.getElem?_modify, Ne.symm h]
theorem heap_setRow_same {W : World} {k : Nat} {cs old : Array Value} {t : TypeId} {fr : Nat × Nat} (h : W.heap[k]? = some (.cells old t fr)) : (W.setRow k cs).heap[k]? = some (.cells cs t fr) :=
  setRow_heap W k old cs t fr h
theorem old_setRow {w W : World} (g : Old w W) {k : Nat} (hk : w.heap.size ≤ k) (cs : Array Value) : Old w (W.setRow k cs) := by
  refine ⟨g.os, g.tape, g.output, ?_, ?_⟩
  · rw [size_setRow]; exact g.size
  · intro b hb
    rw [heap_setRow_other _ _ _ _ (by omega)]
    exact g.block b hb
end Go.Proofs.YtglbegbhekcddaaDoor
/- Proved: a region that draws its order and of which every operation writes a slot of its own and nothing that was there: what each operation is worth once those that it waits for are done; no function of the program. -/
namespace Go.Proofs.YtglbegbhekcddaaDoor
open Go.ChangeShapes Go.WideShapes Go.ChangeAt Go.RowKit
set_option linter.unusedSimpArgs false
set_option linter.unusedVariables false
structure Fram (n : Nat) (slot : Nat → Nat) (a0 a : Act) : Prop where
  size : a.tmps.size = a0.tmps.size
  defers : a.defers = a0.defers
  same : ∀ s, (∀ i, i < n → slot i ≠ s) → a.eval (.tmp s) = a0.eval (.tmp s)
def StepsO (P : Program) (Q : Exit → Act → World → Prop) (w0 : World) (n : Nat) (slot : Nat → Nat) (a0 : Act) (Qs : Nat → World → Value → Prop) : Nat → List Oper → Prop
  | _, [] => True
  | i, o :: os => (∀ a W, Old w0 W → Fram n slot a0 a → (∀ e ∈ o.after.toList, Region.binds .any e = true → Qs e.on W (a.eval (.tmp (slot e.on)))) → o.wp P a W (fun a' W' => ∃ v, a' = a.put (some (slot i)) v ∧ Old W W' ∧ Qs i W' v) Q) ∧ StepsO P Q w0 n slot a0 Qs (i + 1) os
theorem eval_put_same (a : Act) (s : Nat) (v : Value) (h : s < a.tmps.size) : (a.put (some s) v).eval (.tmp s) = v := by
  simp [Act.put, Act.eval, Array.getD, h]
theorem eval_put_other (a : Act) (s t : Nat) (v : Value) (h : s ≠ t) : (a.put (some s) v).eval (.tmp t) = a.eval (.tmp t) := by
  have e : (a.tmps.setIfInBounds s v)[t]? = a.tmps[t]? := Array.getElem?_setIfInBounds_ne h
  simp only [Act.put, Act.eval]
  rw [Array.getD_eq_getD_getElem?, Array.getD_eq_getD_getElem?, e]
theorem wp_region_old {P : Program} {id : Nat} {ops : Array Oper} {Q : Exit → Act → World → Prop} {a0 : Act} {w0 : World} (hm : P.follows .mixedOrders = true)
    (hord : (List.range ops.size).all (fun i => ((ops[i]?).map (fun o => o.after.all fun e => !Region.binds .any e || decide (e.on < i))).getD true) = true)
    (hg : ops.toList.all (fun o => o.guard.isNone) = true)
    (slot : Nat → Nat) (hslot : ∀ i, i < ops.size → slot i < a0.tmps.size) (hinj : ∀ i j, i < ops.size → j < ops.size → slot i = slot j → i = j)
    (Qs : Nat → World → Value → Prop) (hQ : ∀ i W W' v, Qs i W v → Old W W' → Qs i W' v)
    (hstep : StepsO P Q w0 ops.size slot a0 Qs 0 ops.toList)
    (hdone : ∀ a W, Old w0 W → Fram ops.size slot a0 a → (∀ i, i < ops.size → Qs i W (a.eval (.tmp (slot i)))) → Q .normal a W) :
    (Code.region id ops true).wp P Q a0 w0 := by
  have hon : ∀ i o, ops[i]? = some o → ∀ e ∈ o.after.toList, Region.binds .any e = true → e.on < i := by
    intro i o ho e he hb
    have hi : i < ops.size := (Array.getElem?_eq_some_iff.1 ho).1
    have h1 := List.all_eq_true.1 hord i (by simpa using hi)
    rw [ho] at h1
    simp only [Option.map_some, Option.getD_some] at h1
    rw [Array.all_eq_true'] at h1
    have h2 := h1 e (by simpa using he)
    rw [hb] at h2
    simpa using h2
  refine wp_region_steps (fun d a W => Old w0 W ∧ Fram ops.size slot a0 a ∧ ∀ i, i < ops.size → d i = true → Qs i W (a.eval (.tmp (slot i)))) hm hord hg ⟨Below.drew (Old.refl w0), ⟨rfl, rfl, fun _ _ => rfl⟩, fun i _ h => by cases h⟩ ?_ (fun d a W hd h => hdone a W h.1 h.2.1 (fun i hi => h.2.2 i hi (hd i hi)))
  have key : ∀ (l : List Oper) (k : Nat), (∀ j, l[j]? = ops[k + j]?) → StepsO P Q w0 ops.size slot a0 Qs k l → Steps P Q (fun d a W => Old w0 W ∧ Fram ops.size slot a0 a ∧ ∀ i, i < ops.size → d i = true → Qs i W (a.eval (.tmp (slot i)))) k l := by
    intro l
    induction l with
    | nil => intro k _ _; exact trivial
    | cons o l ih =>
      intro k hk hs
      refine ⟨?_, ih (k + 1) (fun j => by have := hk (j + 1); simpa [Nat.add_assoc, Nat.add_comm 1 j] using this) hs.2⟩
      have ho : ops[k]? = some o := by simpa using (hk 0).symm
      have hklt : k < ops.size := (Array.getElem?_eq_some_iff.1 ho).1
      rintro d a W ⟨g, hF, hI⟩ hdk hdep
      refine Oper.wp_mono ?_ (hs.1 a W g hF (fun e he hb => hI e.on (by have := hon k o ho e he hb; omega) (hdep e he hb)))
      rintro a' W' ⟨v, rfl, g', hq⟩
      refine ⟨Old.trans g g', ⟨by simp [Act.put, hF.size], by simp [Act.put, hF.defers], fun s hs => ?_⟩, fun i hi hd => ?_⟩
      · rw [eval_put_other _ _ _ _ (hs k hklt)]
        exact hF.same s hs
      · by_cases hik : i = k
        · subst hik
          rw [eval_put_same _ _ _ (by rw [hF.size]; exact hslot i hi)]
          exact hq
        · rw [eval_put_other _ _ _ _ (fun e => hik (hinj k i hklt hi e).symm)]
          unfold upd at hd
          rw [if_neg hik] at hd
          exact hQ i W W' _ (hI i hi hd) g'
  exact key ops.toList 0 (by simp) hstep
theorem op_val {P : Program} {a : Act} {W : World} {K : Act → World → Prop} {Q : Exit → Act → World → Prop} {o : Oper} (ρ : Operand → Value) (hρ : a.eval = ρ) (v : Value) (hr : (execOp ρ o).run P W = .ok (.value v) W) (hK : K (a.put o.dst v) W) : o.wp P a W K Q := by
  unfold Oper.wp
  rw [hρ, hr]
  exact hK
theorem op_skp {P : Program} {a : Act} {W W' : World} {K : Act → World → Prop} {Q : Exit → Act → World → Prop} {o : Oper} (ρ : Operand → Value) (hρ : a.eval = ρ) (hr : (execOp ρ o).run P W = .ok .skip W') (hK : K (a.put o.dst undef) W') : o.wp P a W K Q := by
  unfold Oper.wp
  rw [hρ, hr]
  exact hK
end Go.Proofs.YtglbegbhekcddaaDoor
/- Proved: a region that draws its order and ends in one operation that waits for all others; and a frame told by its slots; no function of the program. -/
namespace Go.Proofs.YtglbegbhekcddaaDoor
open Go.ChangeShapes Go.WideShapes Go.ChangeAt Go.RowKit
set_option linter.unusedSimpArgs false
set_option linter.unusedVariables false
theorem getKey_map (slot : Nat → Nat) (us : Nat → Value) (s : Nat) : ∀ (l : List Nat), (∀ i j, i ∈ l → j ∈ l → slot i = slot j → i = j) → (∀ i, i ∈ l → slot i = s → getKey (l.map fun i => (slot i, us i)) s = some (us i)) ∧ ((∀ i, i ∈ l → slot i ≠ s) → getKey (l.map fun i => (slot i, us i)) s = none)
  | [], _ => ⟨fun i h => by simp at h, fun _ => rfl⟩
  | x :: l, hinj => by
    obtain ⟨h1, h2⟩ := getKey_map slot us s l (fun i j hi hj => hinj i j (by simp [hi]) (by simp [hj]))
    refine ⟨fun i hi hs => ?_, fun h => ?_⟩
    · show (if slot x = s then some (us x) else getKey (l.map fun i => (slot i, us i)) s) = _
      by_cases hx : slot x = s
      · rw [if_pos hx]
        have : i = x := hinj i x hi (by simp) (hs.trans hx.symm)
        rw [this]
      · rw [if_neg hx]
        rcases List.mem_cons.1 hi with h3 | h3
        · subst h3; exact absurd hs hx
        · exact h1 i h3 hs
    · show (if slot x = s then some (us x) else getKey (l.map fun i => (slot i, us i)) s) = none
      rw [if_neg (h x (by simp))]
      exact h2 (fun i hi => h i (by simp [hi]))
theorem act_ext {a b : Act} (hs : a.tmps.size = b.tmps.size) (hd : a.defers = b.defers) (h : ∀ s, s < a.tmps.size → a.eval (.tmp s) = b.eval (.tmp s)) : a = b := by
  cases a with
  | mk ta da =>
    cases b with
    | mk tb db =>
      simp only at hs hd h
      subst hd
      congr 1
      apply Array.ext hs
      intro i h1 h2
      have := h i h1
      simpa [Act.eval, Array.getD, h1, h2] using this
theorem putAll_defers (a : Act) : ∀ l, (putAll a l).defers = a.defers
  | [] => rfl
  | (t, u) :: l => by simp [putAll, Act.put, putAll_defers a l]
theorem fram_put {n : Nat} {slot : Nat → Nat} {a0 a : Act} (hF : Fram n slot a0 a) (hinj : ∀ i j, i < n → j < n → slot i = slot j → i = j) : a = putAll a0 ((List.range n).map fun i => (slot i, a.eval (.tmp (slot i)))) := by
  refine act_ext (by rw [putAll_size]; exact hF.size) (by rw [putAll_defers]; exact hF.defers) (fun s hs => ?_)
  rw [eval_putAll a0 s (by rw [← hF.size]; exact hs)]
  obtain ⟨h1, h2⟩ := getKey_map slot (fun i => a.eval (.tmp (slot i))) s (List.range n) (fun i j hi hj => hinj i j (by simpa using hi) (by simpa using hj))
  by_cases hx : ∃ i, i < n ∧ slot i = s
  · obtain ⟨i, hi, rfl⟩ := hx
    rw [h1 i (by simpa using hi) rfl]
    rfl
  · have hn : ∀ i, i < n → slot i ≠ s := fun i hi e => hx ⟨i, hi, e⟩
    rw [h2 (fun i hi => hn i (by simpa using hi))]
    exact hF.same s hn
theorem wp_region_last {P : Program} {id : Nat} {pre : List Oper} {st : Oper} {Q : Exit → Act → World → Prop} {a0 : Act} {w0 : World} (hm : P.follows .mixedOrders = true)
    (hord : (List.range (pre ++ [st]).toArray.size).all (fun i => (((pre ++ [st]).toArray[i]?).map (fun o => o.after.all fun e => !Region.binds .any e || decide (e.on < i))).getD true) = true)
    (hg : (pre ++ [st]).all (fun o => o.guard.isNone) = true)
    (hlast : (List.range pre.length).all (fun i => st.after.any fun e => Region.binds .any e && decide (e.on = i)) = true)
    (slot : Nat → Nat) (hslot : ∀ i, i < pre.length → slot i < a0.tmps.size) (hinj : ∀ i j, i < pre.length → j < pre.length → slot i = slot j → i = j)
    (Qs : Nat → World → Value → Prop) (hQ : ∀ i W W' v, Qs i W v → Old W W' → Qs i W' v)
    (hstep : StepsO P Q w0 pre.length slot a0 Qs 0 pre)
    (hdone : ∀ a W, Old w0 W → Fram pre.length slot a0 a → (∀ i, i < pre.length → Qs i W (a.eval (.tmp (slot i)))) → st.wp P a W (fun a' W' => Q .normal a' W') Q) :
    (Code.region id (pre ++ [st]).toArray true).wp P Q a0 w0 := by
  have hsz : (pre ++ [st]).toArray.size = pre.length + 1 := by simp
  have hon : ∀ i o, (pre ++ [st]).toArray[i]? = some o → ∀ e ∈ o.after.toList, Region.binds .any e = true → e.on < i := by
    intro i o ho e he hb
    have hi : i < (pre ++ [st]).toArray.size := (Array.getElem?_eq_some_iff.1 ho).1
    have h1 := List.all_eq_true.1 hord i (by simpa using hi)
    rw [ho] at h1
    simp only [Option.map_some, Option.getD_some] at h1
    rw [Array.all_eq_true'] at h1
    have h2 := h1 e (by simpa using he)
    rw [hb] at h2
    simpa using h2
  have hdep : ∀ i, i < pre.length → ∃ e ∈ st.after.toList, Region.binds .any e = true ∧ e.on = i := by
    intro i hi
    have h1 := List.all_eq_true.1 hlast i (by simpa using hi)
    rw [Array.any_eq_true'] at h1
    obtain ⟨e, he, h2⟩ := h1
    rw [Bool.and_eq_true] at h2
    exact ⟨e, by simpa using he, h2.1, of_decide_eq_true h2.2⟩
  let I : (Nat → Bool) → Act → World → Prop := fun d a W => (d pre.length = true → (∀ i, i < pre.length → d i = true) ∧ Q .normal a W) ∧ (d pre.length = false → Old w0 W ∧ Fram pre.length slot a0 a ∧ ∀ i, i < pre.length → d i = true → Qs i W (a.eval (.tmp (slot i))))
  refine wp_region_steps I hm hord hg ⟨(fun h => by cases h), (fun _ => ⟨Below.drew (Old.refl w0), ⟨rfl, rfl, fun _ _ => rfl⟩, (fun i _ h => by cases h)⟩)⟩ ?_ (fun d a W hd h => (h.1 (hd _ (by rw [hsz]; omega))).2)
  have key : ∀ (l : List Oper) (k : Nat), (∀ j, (l ++ [st])[j]? = (pre ++ [st]).toArray[k + j]?) → k + l.length = pre.length → StepsO P Q w0 pre.length slot a0 Qs k l → Steps P Q I k (l ++ [st]) := by
    intro l
    induction l with
    | nil =>
      intro k hk hkl _
      refine ⟨?_, trivial⟩
      have hkp : k = pre.length := by simpa using hkl
      subst hkp
      rintro d a W ⟨_, hI⟩ hdk hd
      obtain ⟨g, hF, hq⟩ := hI hdk
      have hall : ∀ i, i < pre.length → d i = true := fun i hi => by
        obtain ⟨e, he, hb, hon⟩ := hdep i hi
        rw [← hon]
        exact hd e he hb
      refine Oper.wp_mono ?_ (hdone a W g hF (fun i hi => hq i hi (hall i hi)))
      intro a' W' h
      refine ⟨fun _ => ⟨fun i hi => ?_, h⟩, fun hf => ?_⟩
      · rw [upd_other d (by omega)]
        exact hall i hi
      · rw [upd_same] at hf
        cases hf
    | cons o l ih =>
      intro k hk hkl hs
      have hklt : k < pre.length := by simp at hkl; omega
      refine ⟨?_, ih (k + 1) (fun j => by have := hk (j + 1); simpa [Nat.add_assoc, Nat.add_comm 1 j] using this) (by simp at hkl; omega) hs.2⟩
      have ho : (pre ++ [st]).toArray[k]? = some o := by simpa using (hk 0).symm
      rintro d a W ⟨hT, hI⟩ hdk hd
      cases hl : d pre.length with
      | true =>
        have := (hT hl).1 k hklt
        rw [this] at hdk
        cases hdk
      | false =>
        obtain ⟨g, hF, hq⟩ := hI hl
        refine Oper.wp_mono ?_ (hs.1 a W g hF (fun e he hb => hq e.on (by have := hon k o ho e he hb; omega) (hd e he hb)))
        rintro a' W' ⟨v, rfl, g', hv⟩
        refine ⟨fun h => ?_, fun _ => ⟨Old.trans g g', ⟨by simp [Act.put, hF.size], by simp [Act.put, hF.defers], fun s hs => ?_⟩, fun i hi hdi => ?_⟩⟩
        · rw [upd_other d (by omega), hl] at h
          cases h
        · rw [eval_put_other _ _ _ _ (hs k hklt)]
          exact hF.same s hs
        · by_cases hik : i = k
          · subst hik
            rw [eval_put_same _ _ _ (by rw [hF.size]; exact hslot i hi)]
            exact hv
          · rw [eval_put_other _ _ _ _ (fun e => hik (hinj k i hklt hi e).symm)]
            rw [upd_other d hik] at hdi
            exact hQ i W W' _ (hq i hi hdi) g'
  exact key pre 0 (by simp) (by simp) hstep
theorem wp_region_end {P : Program} {id : Nat} {l : List Oper} {st : Oper} {Q : Exit → Act → World → Prop} {a0 : Act} {w0 : World} (n : Nat) (hl : l = l.dropLast ++ [st]) (hn : l.dropLast.length = n) (hm : P.follows .mixedOrders = true)
    (hord : (List.range l.toArray.size).all (fun i => ((l.toArray[i]?).map (fun o => o.after.all fun e => !Region.binds .any e || decide (e.on < i))).getD true) = true)
    (hg : l.all (fun o => o.guard.isNone) = true)
    (hlast : (List.range n).all (fun i => st.after.any fun e => Region.binds .any e && decide (e.on = i)) = true)
    (slot : Nat → Nat) (hslot : ∀ i, i < n → slot i < a0.tmps.size) (hinj : ∀ i j, i < n → j < n → slot i = slot j → i = j)
    (Qs : Nat → World → Value → Prop) (hQ : ∀ i W W' v, Qs i W v → Old W W' → Qs i W' v)
    (hstep : StepsO P Q w0 n slot a0 Qs 0 l.dropLast)
    (hdone : ∀ a W, Old w0 W → Fram n slot a0 a → (∀ i, i < n → Qs i W (a.eval (.tmp (slot i)))) → st.wp P a W (fun a' W' => Q .normal a' W') Q) :
    (Code.region id l.toArray true).wp P Q a0 w0 := by
  subst hn
  generalize l.dropLast = pre at *
  subst hl
  exact wp_region_last hm hord hg hlast slot hslot hinj Qs hQ hstep hdone
end Go.Proofs.YtglbegbhekcddaaDoor
/- Proved: a region that draws its order, of which one operation turns what was there (an append) once all others are done, and one more hands on what it told; no function of the program. -/
namespace Go.Proofs.YtglbegbhekcddaaDoor
open Go.ChangeShapes Go.WideShapes Go.ChangeAt Go.RowKit
set_option linter.unusedSimpArgs false
set_option linter.unusedVariables false
def depsO (ops : Array Oper) (i : Nat) : List Nat := match ops[i]? with
  | some o => (o.after.toList.filter (fun e => Region.binds .any e)).map (·.on)
  | none => []
def nextS (ops : Array Oper) (n : Nat) (S : List Nat) : List Nat := (List.range n).filter (fun i => S.contains i || S.any (fun s => (depsO ops s).contains i))
def closS (ops : Array Oper) (n : Nat) : Nat → List Nat → List Nat
  | 0, S => S
  | k + 1, S => closS ops n k (nextS ops n S)
def Done (ops : Array Oper) (d : Nat → Bool) : Prop := ∀ i, d i = true → ∀ j ∈ depsO ops i, d j = true
theorem nextS_done {ops : Array Oper} {n : Nat} {d : Nat → Bool} (h : Done ops d) {S : List Nat} (hS : ∀ i ∈ S, d i = true) : ∀ i ∈ nextS ops n S, d i = true := by
  intro i hi
  unfold nextS at hi
  have h2 := (List.mem_filter.1 hi).2
  rw [Bool.or_eq_true] at h2
  rcases h2 with h3 | h3
  · exact hS i (by simpa using h3)
  · obtain ⟨s, hs, h4⟩ := List.any_eq_true.1 h3
    exact h s (hS s hs) i (by simpa using h4)
theorem closS_done {ops : Array Oper} {n : Nat} {d : Nat → Bool} (h : Done ops d) : ∀ k S, (∀ i ∈ S, d i = true) → ∀ i ∈ closS ops n k S, d i = true
  | 0, S, hS => hS
  | k + 1, S, hS => closS_done h k _ (nextS_done h hS)
theorem mem_depsO {ops : Array Oper} {i : Nat} {o : Oper} (ho : ops[i]? = some o) (j : Nat) : j ∈ depsO ops i ↔ ∃ e ∈ o.after.toList, Region.binds .any e = true ∧ e.on = j := by
  unfold depsO
  rw [ho]
  simp only [List.mem_map, List.mem_filter]
  constructor
  · rintro ⟨e, ⟨h1, h2⟩, h3⟩; exact ⟨e, h1, h2, h3⟩
  · rintro ⟨e, h1, h2, h3⟩; exact ⟨e, ⟨h1, h2⟩, h3⟩
theorem Done.upd {ops : Array Oper} {d : Nat → Bool} (h : Done ops d) {i : Nat} {o : Oper} (ho : ops[i]? = some o) (hd : ∀ e ∈ o.after.toList, Region.binds .any e = true → d e.on = true) : Done ops (upd d i) := by
  intro k hk j hj
  by_cases hji : j = i
  · subst hji; exact upd_same d j
  · rw [upd_other d hji]
    by_cases hki : k = i
    · subst hki
      obtain ⟨e, h1, h2, h3⟩ := (mem_depsO ho j).1 hj
      rw [← h3]
      exact hd e h1 h2
    · rw [upd_other d hki] at hk
      exact h k hk j hj
theorem wp_region_turn {P : Program} {id : Nat} {l : List Oper} {Q : Exit → Act → World → Prop} {a0 : Act} {w0 : World} (n : Nat) {t f : Oper} (hn : l.length = n + 2) (ht : l[n]? = some t) (hf : l[n + 1]? = some f) (hm : P.follows .mixedOrders = true)
    (hord : (List.range l.toArray.size).all (fun i => ((l.toArray[i]?).map (fun o => o.after.all fun e => !Region.binds .any e || decide (e.on < i))).getD true) = true)
    (hg : l.all (fun o => o.guard.isNone) = true)
    (hall : (List.range n).all (fun i => (closS l.toArray n n (depsO l.toArray n)).contains i) = true)
    (hft : (depsO l.toArray (n + 1)).contains n = true)
    (slot : Nat → Nat) (hslot : ∀ i, i < n + 2 → slot i < a0.tmps.size) (hinj : ∀ i j, i < n + 2 → j < n + 2 → slot i = slot j → i = j)
    (Qs : Nat → World → Value → Prop) (hQ : ∀ i W W' v, Qs i W v → Old W W' → Qs i W' v)
    (QT : World → Value → Prop)
    (hstep : StepsO P Q w0 (n + 1) slot a0 Qs 0 (l.take n))
    (hturn : ∀ a W, Old w0 W → Fram (n + 1) slot a0 a → (∀ i, i < n → Qs i W (a.eval (.tmp (slot i)))) → t.wp P a W (fun a' W' => ∃ v, a' = a.put (some (slot n)) v ∧ QT W' v) Q)
    (hlast : ∀ a W v, a.eval (.tmp (slot n)) = v → f.wp P a W (fun a' W' => a' = a.put (some (slot (n + 1))) v ∧ W' = W) Q)
    (hdone : ∀ a W, Fram (n + 2) slot a0 a → QT W (a.eval (.tmp (slot (n + 1)))) → Q .normal a W) :
    (Code.region id l.toArray true).wp P Q a0 w0 := by
  have hsz : l.toArray.size = n + 2 := by simpa using hn
  have hon : ∀ i o, l.toArray[i]? = some o → ∀ e ∈ o.after.toList, Region.binds .any e = true → e.on < i := by
    intro i o ho e he hb
    have hi : i < l.toArray.size := (Array.getElem?_eq_some_iff.1 ho).1
    have h1 := List.all_eq_true.1 hord i (by simpa using hi)
    rw [ho] at h1
    simp only [Option.map_some, Option.getD_some] at h1
    rw [Array.all_eq_true'] at h1
    have h2 := h1 e (by simpa using he)
    rw [hb] at h2
    simpa using h2
  let I : (Nat → Bool) → Act → World → Prop := fun d a W => Fram (n + 2) slot a0 a ∧ (d (n + 1) = false → Fram (n + 1) slot a0 a) ∧ Done l.toArray d ∧
    (d n = false → Old w0 W ∧ d (n + 1) = false ∧ ∀ i, i < n → d i = true → Qs i W (a.eval (.tmp (slot i)))) ∧
    (d n = true → (∀ i, i < n → d i = true) ∧ QT W (a.eval (.tmp (slot n))) ∧ (d (n + 1) = true → a.eval (.tmp (slot (n + 1))) = a.eval (.tmp (slot n))))
  have fput : ∀ a v i, i < n + 2 → Fram (n + 2) slot a0 a → Fram (n + 2) slot a0 (a.put (some (slot i)) v) := fun a v i hi hF =>
    ⟨by simp [Act.put, hF.size], by simp [Act.put, hF.defers], fun s hs => by rw [eval_put_other _ _ _ _ (hs i hi)]; exact hF.same s hs⟩
  have fput1 : ∀ a v i, i < n + 1 → Fram (n + 1) slot a0 a → Fram (n + 1) slot a0 (a.put (some (slot i)) v) := fun a v i hi hF =>
    ⟨by simp [Act.put, hF.size], by simp [Act.put, hF.defers], fun s hs => by rw [eval_put_other _ _ _ _ (hs i hi)]; exact hF.same s hs⟩
  refine wp_region_inv hm I hord ⟨⟨rfl, rfl, fun _ _ => rfl⟩, (fun _ => ⟨rfl, rfl, fun _ _ => rfl⟩), (fun i h => by cases h), (fun _ => ⟨Below.drew (Old.refl w0), rfl, (fun i _ h => by cases h)⟩), (fun h => by cases h)⟩ ?_ ?_
  · intro i o ho d a W hI hdi hd
    have hgn := List.all_eq_true.1 hg o (List.mem_of_getElem? (by simpa using ho))
    have hw : Region.wanted o (yielded l.toArray a.tmps) = true := by
      cases h : o.guard with
      | none => simp [Region.wanted, h]
      | some g => rw [h] at hgn; cases hgn
    rw [if_pos hw]
    have hi : i < n + 2 := by
      have := (Array.getElem?_eq_some_iff.1 ho).1
      omega
    obtain ⟨hF, hE, hC, hA, hB⟩ := hI
    have hC' := hC.upd ho hd
    rcases Nat.lt_trichotomy i n with h1 | h1 | h1
    · -- ahead of the turn
      cases hdn : d n with
      | true =>
        have := (hB hdn).1 i h1
        rw [this] at hdi
        cases hdi
      | false =>
        obtain ⟨g, hf0, hq⟩ := hA hdn
        have key : ∀ (m : List Oper) (k : Nat), StepsO P Q w0 (n + 1) slot a0 Qs k m → ∀ (j : Nat) (o : Oper), m[j]? = some o → ∀ (a : Act) (W : World), Old w0 W → Fram (n + 1) slot a0 a → (∀ e ∈ o.after.toList, Region.binds .any e = true → Qs e.on W (a.eval (.tmp (slot e.on)))) → o.wp P a W (fun a' W' => ∃ v, a' = a.put (some (slot (k + j))) v ∧ Old W W' ∧ Qs (k + j) W' v) Q := by
          intro m
          induction m with
          | nil => intro k _ j o h; simp at h
          | cons x m ih =>
            intro k hs j o hj
            cases j with
            | zero =>
              simp at hj
              subst hj
              exact hs.1
            | succ j =>
              have := ih (k + 1) hs.2 j o (by simpa using hj)
              rw [show k + 1 + j = k + (j + 1) by omega] at this
              exact this
        have hst := key (l.take n) 0 hstep i o (by rw [List.getElem?_take, if_pos h1]; simpa using ho) a W g (hE hf0) (fun e he hb => hq e.on (by have := hon i o ho e he hb; omega) (hd e he hb))
        rw [Nat.zero_add] at hst
        refine Oper.wp_mono ?_ hst
        rintro a' W' ⟨v, rfl, g', hv⟩
        refine ⟨fput a v i hi hF, (fun _ => fput1 a v i (by omega) (hE hf0)), hC', (fun _ => ⟨Old.trans g g', (by rw [upd_other d (by omega)]; exact hf0), (fun j hj hdj => ?_)⟩), (fun h => by rw [upd_other d (by omega), hdn] at h; cases h)⟩
        by_cases hji : j = i
        · subst hji
          rw [eval_put_same _ _ _ (by rw [hF.size]; exact hslot j hi)]
          exact hv
        · rw [eval_put_other _ _ _ _ (fun e => hji (hinj i j hi (by omega) e).symm)]
          rw [upd_other d hji] at hdj
          exact hQ j W W' _ (hq j hj hdj) g'
    · subst h1
      have hot : o = t := by
        have : l[i]? = some o := by simpa using ho
        rw [ht] at this
        exact (Option.some.inj this).symm
      subst hot
      obtain ⟨g, hf0, hq⟩ := hA hdi
      have hpre : ∀ j, j < i → d j = true := fun j hj => by
        have h2 := List.all_eq_true.1 hall j (by simpa using hj)
        exact closS_done hC i _ (fun s hs => by
          obtain ⟨e, e1, e2, e3⟩ := (mem_depsO ho s).1 hs
          rw [← e3]
          exact hd e e1 e2) j (by simpa using h2)
      refine Oper.wp_mono ?_ (hturn a W g (hE hf0) (fun j hj => hq j hj (hpre j hj)))
      rintro a' W' ⟨v, rfl, hv⟩
      refine ⟨fput a v i hi hF, (fun _ => fput1 a v i (by omega) (hE hf0)), hC', (fun h => by rw [upd_same] at h; cases h), (fun _ => ⟨(fun j hj => by rw [upd_other d (by omega)]; exact hpre j hj), ?_, (fun h => ?_)⟩)⟩
      · rw [eval_put_same _ _ _ (by rw [hF.size]; exact hslot i hi)]
        exact hv
      · rw [upd_other d (by omega), hf0] at h
        cases h
    · obtain rfl : i = n + 1 := by omega
      have hof : o = f := by
        have : l[n + 1]? = some o := by simpa using ho
        rw [hf] at this
        exact (Option.some.inj this).symm
      subst hof
      have hdn : d n = true := by
        obtain ⟨e, e1, e2, e3⟩ := (mem_depsO ho n).1 (by simpa using hft)
        rw [← e3]
        exact hd e e1 e2
      obtain ⟨b1, b2, _⟩ := hB hdn
      refine Oper.wp_mono ?_ (hlast a W _ rfl)
      rintro a' W' ⟨rfl, rfl⟩
      have hne : slot (n + 1) ≠ slot n := fun e => by have := hinj (n + 1) n (by omega) (by omega) e; omega
      refine ⟨fput a _ (n + 1) hi hF, (fun h => by rw [upd_same] at h; cases h), hC', (fun h => by rw [upd_other d (by omega), hdn] at h; cases h), (fun _ => ⟨(fun j hj => by rw [upd_other d (by omega)]; exact b1 j hj), ?_, (fun _ => ?_)⟩)⟩
      · rw [eval_put_other _ _ _ _ hne]
        exact b2
      · rw [eval_put_same _ _ _ (by rw [hF.size]; exact hslot (n + 1) hi), eval_put_other _ _ _ _ hne]
  · intro d a W hd hI
    obtain ⟨hF, _, hC, hA, hB⟩ := hI
    obtain ⟨b1, b2, b3⟩ := hB (hd n (by omega))
    refine hdone a W hF ?_
    rw [b3 (hd (n + 1) (by omega))]
    exact b2
end Go.Proofs.YtglbegbhekcddaaDoor
/- Proved: a region that draws its order, of which the last but one operation (a store) waits for all ahead of it, and the last one for that; no function of the program. -/
namespace Go.Proofs.YtglbegbhekcddaaDoor
open Go.ChangeShapes Go.WideShapes Go.ChangeAt Go.RowKit
set_option linter.unusedSimpArgs false
set_option linter.unusedVariables false
theorem wp_region_stas {P : Program} {id : Nat} {l : List Oper} {Q : Exit → Act → World → Prop} {a0 : Act} {w0 : World} (n : Nat) {t f : Oper} (hn : l.length = n + 2) (ht : l[n]? = some t) (hf : l[n + 1]? = some f) (hm : P.follows .mixedOrders = true)
    (hord : (List.range l.toArray.size).all (fun i => ((l.toArray[i]?).map (fun o => o.after.all fun e => !Region.binds .any e || decide (e.on < i))).getD true) = true)
    (hg : l.all (fun o => o.guard.isNone) = true)
    (hall : (List.range n).all (fun i => (closS l.toArray n n (depsO l.toArray n)).contains i) = true)
    (hft : (depsO l.toArray (n + 1)).contains n = true)
    (slot : Nat → Nat) (hslot : ∀ i, i < n → slot i < a0.tmps.size) (hinj : ∀ i j, i < n → j < n → slot i = slot j → i = j)
    (Qs : Nat → World → Value → Prop) (hQ : ∀ i W W' v, Qs i W v → Old W W' → Qs i W' v)
    (hstep : StepsO P Q w0 n slot a0 Qs 0 (l.take n))
    (hturn : ∀ a W, Old w0 W → Fram n slot a0 a → (∀ i, i < n → Qs i W (a.eval (.tmp (slot i)))) → t.wp P a W (fun a' W' => f.wp P a' W' (fun a2 W2 => Q .normal a2 W2) Q) Q) :
    (Code.region id l.toArray true).wp P Q a0 w0 := by
  have hsz : l.toArray.size = n + 2 := by simpa using hn
  have hon : ∀ i o, l.toArray[i]? = some o → ∀ e ∈ o.after.toList, Region.binds .any e = true → e.on < i := by
    intro i o ho e he hb
    have hi : i < l.toArray.size := (Array.getElem?_eq_some_iff.1 ho).1
    have h1 := List.all_eq_true.1 hord i (by simpa using hi)
    rw [ho] at h1
    simp only [Option.map_some, Option.getD_some] at h1
    rw [Array.all_eq_true'] at h1
    have h2 := h1 e (by simpa using he)
    rw [hb] at h2
    simpa using h2
  let I : (Nat → Bool) → Act → World → Prop := fun d a W => Done l.toArray d ∧
    (d n = false → d (n + 1) = false ∧ Old w0 W ∧ Fram n slot a0 a ∧ ∀ i, i < n → d i = true → Qs i W (a.eval (.tmp (slot i)))) ∧
    (d n = true → (∀ i, i < n → d i = true) ∧ (d (n + 1) = false → f.wp P a W (fun a2 W2 => Q .normal a2 W2) Q) ∧ (d (n + 1) = true → Q .normal a W))
  refine wp_region_inv hm I hord ⟨(fun i h => by cases h), (fun _ => ⟨rfl, Below.drew (Old.refl w0), ⟨rfl, rfl, fun _ _ => rfl⟩, (fun i _ h => by cases h)⟩), (fun h => by cases h)⟩ ?_ ?_
  · intro i o ho d a W hI hdi hd
    have hgn := List.all_eq_true.1 hg o (List.mem_of_getElem? (by simpa using ho))
    have hw : Region.wanted o (yielded l.toArray a.tmps) = true := by
      cases h : o.guard with
      | none => simp [Region.wanted, h]
      | some g => rw [h] at hgn; cases hgn
    rw [if_pos hw]
    have hi : i < n + 2 := by
      have := (Array.getElem?_eq_some_iff.1 ho).1
      omega
    obtain ⟨hC, hA, hB⟩ := hI
    have hC' := hC.upd ho hd
    rcases Nat.lt_trichotomy i n with h1 | h1 | h1
    · cases hdn : d n with
      | true =>
        have := (hB hdn).1 i h1
        rw [this] at hdi
        cases hdi
      | false =>
        obtain ⟨hf0, g, hF, hq⟩ := hA hdn
        have key : ∀ (m : List Oper) (k : Nat), StepsO P Q w0 n slot a0 Qs k m → ∀ (j : Nat) (o : Oper), m[j]? = some o → ∀ (a : Act) (W : World), Old w0 W → Fram n slot a0 a → (∀ e ∈ o.after.toList, Region.binds .any e = true → Qs e.on W (a.eval (.tmp (slot e.on)))) → o.wp P a W (fun a' W' => ∃ v, a' = a.put (some (slot (k + j))) v ∧ Old W W' ∧ Qs (k + j) W' v) Q := by
          intro m
          induction m with
          | nil => intro k _ j o h; simp at h
          | cons x m ih =>
            intro k hs j o hj
            cases j with
            | zero =>
              simp at hj
              subst hj
              exact hs.1
            | succ j =>
              have := ih (k + 1) hs.2 j o (by simpa using hj)
              rw [show k + 1 + j = k + (j + 1) by omega] at this
              exact this
        have hst := key (l.take n) 0 hstep i o (by rw [List.getElem?_take, if_pos h1]; simpa using ho) a W g hF (fun e he hb => hq e.on (by have := hon i o ho e he hb; omega) (hd e he hb))
        rw [Nat.zero_add] at hst
        refine Oper.wp_mono ?_ hst
        rintro a' W' ⟨v, rfl, g', hv⟩
        refine ⟨hC', (fun _ => ⟨(by rw [upd_other d (by omega)]; exact hf0), Old.trans g g', ⟨by simp [Act.put, hF.size], by simp [Act.put, hF.defers], fun s hs => by rw [eval_put_other _ _ _ _ (hs i h1)]; exact hF.same s hs⟩, (fun j hj hdj => ?_)⟩), (fun h => by rw [upd_other d (by omega), hdn] at h; cases h)⟩
        by_cases hji : j = i
        · subst hji
          rw [eval_put_same _ _ _ (by rw [hF.size]; exact hslot j h1)]
          exact hv
        · rw [eval_put_other _ _ _ _ (fun e => hji (hinj i j h1 hj e).symm)]
          rw [upd_other d hji] at hdj
          exact hQ j W W' _ (hq j hj hdj) g'
    · subst h1
      have hot : o = t := by
        have : l[i]? = some o := by simpa using ho
        rw [ht] at this
        exact (Option.some.inj this).symm
      subst hot
      obtain ⟨hf0, g, hF, hq⟩ := hA hdi
      have hpre : ∀ j, j < i → d j = true := fun j hj => by
        have h2 := List.all_eq_true.1 hall j (by simpa using hj)
        exact closS_done hC i _ (fun s hs => by
          obtain ⟨e, e1, e2, e3⟩ := (mem_depsO ho s).1 hs
          rw [← e3]
          exact hd e e1 e2) j (by simpa using h2)
      refine Oper.wp_mono ?_ (hturn a W g hF (fun j hj => hq j hj (hpre j hj)))
      intro a' W' hv
      refine ⟨hC', (fun h => by rw [upd_same] at h; cases h), (fun _ => ⟨(fun j hj => by rw [upd_other d (by omega)]; exact hpre j hj), (fun _ => hv), (fun h => ?_)⟩)⟩
      rw [upd_other d (by omega), hf0] at h
      cases h
    · obtain rfl : i = n + 1 := by omega
      have hof : o = f := by
        have : l[n + 1]? = some o := by simpa using ho
        rw [hf] at this
        exact (Option.some.inj this).symm
      subst hof
      have hdn : d n = true := by
        obtain ⟨e, e1, e2, e3⟩ := (mem_depsO ho n).1 (by simpa using hft)
        rw [← e3]
        exact hd e e1 e2
      obtain ⟨b1, b2, _⟩ := hB hdn
      refine Oper.wp_mono ?_ (b2 hdi)
      intro a' W' hv
      exact ⟨hC', (fun h => by rw [upd_other d (by omega), hdn] at h; cases h), (fun _ => ⟨(fun j hj => by rw [upd_other d (by omega)]; exact b1 j hj), (fun h => by rw [upd_same] at h; cases h), (fun _ => hv)⟩)⟩
  · intro d a W hd hI
    obtain ⟨_, _, hB⟩ := hI
    exact (hB (hd n (by omega))).2.2 (hd (n + 1) (by omega))
end Go.Proofs.YtglbegbhekcddaaDoor
/- Proved: a region that draws its order but for its last operations, which wait for all ahead of them; no function of the program. -/
namespace Go.Proofs.YtglbegbhekcddaaDoor
open Go.ChangeShapes Go.WideShapes Go.ChangeAt Go.RowKit
set_option linter.unusedSimpArgs false
set_option linter.unusedVariables false
def tailWp (P : Program) (Q : Exit → Act → World → Prop) : List Oper → Act → World → Prop
  | [], a, W => Q .normal a W
  | o :: os, a, W => o.wp P a W (fun a' W' => tailWp P Q os a' W') Q
theorem wp_region_tail {P : Program} {id : Nat} {l : List Oper} {Q : Exit → Act → World → Prop} {a0 : Act} {w0 : World} (n : Nat) (hn : n < l.length) (hm : P.follows .mixedOrders = true)
    (hord : (List.range l.toArray.size).all (fun i => ((l.toArray[i]?).map (fun o => o.after.all fun e => !Region.binds .any e || decide (e.on < i))).getD true) = true)
    (hg : l.all (fun o => o.guard.isNone) = true)
    (hall : (List.range n).all (fun i => (closS l.toArray n n (depsO l.toArray n)).contains i) = true)
    (hch : (List.range l.length).all (fun k => decide (k ≤ n) || (depsO l.toArray k).contains (k - 1)) = true)
    (slot : Nat → Nat) (hslot : ∀ i, i < n → slot i < a0.tmps.size) (hinj : ∀ i j, i < n → j < n → slot i = slot j → i = j)
    (Qs : Nat → World → Value → Prop) (hQ : ∀ i W W' v, Qs i W v → Old W W' → Qs i W' v)
    (hstep : StepsO P Q w0 n slot a0 Qs 0 (l.take n))
    (hturn : ∀ a W, Old w0 W → Fram n slot a0 a → (∀ i, i < n → Qs i W (a.eval (.tmp (slot i)))) → tailWp P Q (l.drop n) a W) :
    (Code.region id l.toArray true).wp P Q a0 w0 := by
  have hsz : l.toArray.size = l.length := by simp
  have hon : ∀ i o, l.toArray[i]? = some o → ∀ e ∈ o.after.toList, Region.binds .any e = true → e.on < i := by
    intro i o ho e he hb
    have hi : i < l.toArray.size := (Array.getElem?_eq_some_iff.1 ho).1
    have h1 := List.all_eq_true.1 hord i (by simpa using hi)
    rw [ho] at h1
    simp only [Option.map_some, Option.getD_some] at h1
    rw [Array.all_eq_true'] at h1
    have h2 := h1 e (by simpa using he)
    rw [hb] at h2
    simpa using h2
  have hdrop : ∀ k o, l.toArray[k]? = some o → l.drop k = o :: l.drop (k + 1) := fun k o ho => by
    have h1 : k < l.length := by have := (Array.getElem?_eq_some_iff.1 ho).1; omega
    rw [List.drop_eq_getElem_cons h1]
    have : l[k]? = some o := by simpa using ho
    rw [List.getElem?_eq_getElem h1] at this
    rw [Option.some.inj this]
  let I : (Nat → Bool) → Act → World → Prop := fun d a W => Done l.toArray d ∧
    (d n = false → (∀ k, n < k → d k = false) ∧ Old w0 W ∧ Fram n slot a0 a ∧ ∀ i, i < n → d i = true → Qs i W (a.eval (.tmp (slot i)))) ∧
    (d n = true → ∃ k, n < k ∧ k ≤ l.length ∧ (∀ i, i < k → d i = true) ∧ (∀ i, k ≤ i → d i = false) ∧ tailWp P Q (l.drop k) a W)
  refine wp_region_inv hm I hord ⟨(fun i h => by cases h), (fun _ => ⟨(fun k _ => rfl), Below.drew (Old.refl w0), ⟨rfl, rfl, fun _ _ => rfl⟩, (fun i _ h => by cases h)⟩), (fun h => by cases h)⟩ ?_ ?_
  · intro i o ho d a W hI hdi hd
    have hgn := List.all_eq_true.1 hg o (List.mem_of_getElem? (by simpa using ho))
    have hw : Region.wanted o (yielded l.toArray a.tmps) = true := by
      cases h : o.guard with
      | none => simp [Region.wanted, h]
      | some g => rw [h] at hgn; cases hgn
    rw [if_pos hw]
    have hi : i < l.length := by
      have := (Array.getElem?_eq_some_iff.1 ho).1
      omega
    obtain ⟨hC, hA, hB⟩ := hI
    have hC' := hC.upd ho hd
    rcases Nat.lt_trichotomy i n with h1 | h1 | h1
    · cases hdn : d n with
      | true =>
        obtain ⟨k, k1, k2, k3, k4, _⟩ := hB hdn
        have := k3 i (by omega)
        rw [this] at hdi
        cases hdi
      | false =>
        obtain ⟨hf0, g, hF, hq⟩ := hA hdn
        have key : ∀ (m : List Oper) (k : Nat), StepsO P Q w0 n slot a0 Qs k m → ∀ (j : Nat) (o : Oper), m[j]? = some o → ∀ (a : Act) (W : World), Old w0 W → Fram n slot a0 a → (∀ e ∈ o.after.toList, Region.binds .any e = true → Qs e.on W (a.eval (.tmp (slot e.on)))) → o.wp P a W (fun a' W' => ∃ v, a' = a.put (some (slot (k + j))) v ∧ Old W W' ∧ Qs (k + j) W' v) Q := by
          intro m
          induction m with
          | nil => intro k _ j o h; simp at h
          | cons x m ih =>
            intro k hs j o hj
            cases j with
            | zero =>
              simp at hj
              subst hj
              exact hs.1
            | succ j =>
              have := ih (k + 1) hs.2 j o (by simpa using hj)
              rw [show k + 1 + j = k + (j + 1) by omega] at this
              exact this
        have hst := key (l.take n) 0 hstep i o (by rw [List.getElem?_take, if_pos h1]; simpa using ho) a W g hF (fun e he hb => hq e.on (by have := hon i o ho e he hb; omega) (hd e he hb))
        rw [Nat.zero_add] at hst
        refine Oper.wp_mono ?_ hst
        rintro a' W' ⟨v, rfl, g', hv⟩
        refine ⟨hC', (fun _ => ⟨(fun k hk => by rw [upd_other d (by omega)]; exact hf0 k hk), Old.trans g g', ⟨by simp [Act.put, hF.size], by simp [Act.put, hF.defers], fun s hs => by rw [eval_put_other _ _ _ _ (hs i h1)]; exact hF.same s hs⟩, (fun j hj hdj => ?_)⟩), (fun h => by rw [upd_other d (by omega), hdn] at h; cases h)⟩
        by_cases hji : j = i
        · subst hji
          rw [eval_put_same _ _ _ (by rw [hF.size]; exact hslot j h1)]
          exact hv
        · rw [eval_put_other _ _ _ _ (fun e => hji (hinj i j h1 hj e).symm)]
          rw [upd_other d hji] at hdj
          exact hQ j W W' _ (hq j hj hdj) g'
    · subst h1
      obtain ⟨hf0, g, hF, hq⟩ := hA hdi
      have hpre : ∀ j, j < i → d j = true := fun j hj => by
        have h2 := List.all_eq_true.1 hall j (by simpa using hj)
        exact closS_done hC i _ (fun s hs => by
          obtain ⟨e, e1, e2, e3⟩ := (mem_depsO ho s).1 hs
          rw [← e3]
          exact hd e e1 e2) j (by simpa using h2)
      have ht := hturn a W g hF (fun j hj => hq j hj (hpre j hj))
      rw [hdrop i o ho] at ht
      refine Oper.wp_mono ?_ ht
      intro a' W' hv
      refine ⟨hC', (fun h => by rw [upd_same] at h; cases h), (fun _ => ⟨i + 1, by omega, by omega, (fun j hj => ?_), (fun j hj => ?_), hv⟩)⟩
      · by_cases hji : j = i
        · subst hji; exact upd_same d j
        · rw [upd_other d hji]; exact hpre j (by omega)
      · rw [upd_other d (by omega)]; exact hf0 j (by omega)
    · have hprev : d (i - 1) = true := by
        have h2 := List.all_eq_true.1 hch i (by simpa using hi)
        rw [Bool.or_eq_true] at h2
        rcases h2 with h2 | h2
        · have := of_decide_eq_true h2; omega
        · obtain ⟨e, e1, e2, e3⟩ := (mem_depsO ho (i - 1)).1 (by simpa using h2)
          rw [← e3]
          exact hd e e1 e2
      have hdn : d n = true := by
        cases hdn : d n with
        | true => rfl
        | false =>
          rcases Nat.lt_or_ge n (i - 1) with h3 | h3
          · have := (hA hdn).1 (i - 1) h3
            rw [this] at hprev
            cases hprev
          · have : i - 1 = n := by omega
            rw [this, hdn] at hprev
            cases hprev
      obtain ⟨k, k1, k2, k3, k4, k5⟩ := hB hdn
      have hik : i = k := by
        rcases Nat.lt_trichotomy i k with h3 | h3 | h3
        · have := k3 i h3
          rw [this] at hdi
          cases hdi
        · exact h3
        · have := k4 (i - 1) (by omega)
          rw [this] at hprev
          cases hprev
      subst hik
      rw [hdrop i o ho] at k5
      refine Oper.wp_mono ?_ k5
      intro a' W' hv
      refine ⟨hC', (fun h => by rw [upd_other d (by omega), hdn] at h; cases h), (fun _ => ⟨i + 1, by omega, by omega, (fun j hj => ?_), (fun j hj => ?_), hv⟩)⟩
      · by_cases hji : j = i
        · subst hji; exact upd_same d j
        · rw [upd_other d hji]; exact k3 j (by omega)
      · rw [upd_other d (by omega)]; exact k4 j (by omega)
  · intro d a W hd hI
    obtain ⟨_, _, hB⟩ := hI
    obtain ⟨k, k1, k2, k3, k4, k5⟩ := hB (hd n (by omega))
    have hk : k = l.length := by
      rcases Nat.lt_or_ge k l.length with h | h
      · have h1 := k4 k (Nat.le_refl _)
        rw [hd k (by omega)] at h1
        cases h1
      · omega
    rw [hk, List.drop_length] at k5
    exact k5
end Go.Proofs.YtglbegbhekcddaaDoor
/- Proved: a region that draws its order but for its last operations, one of whose operations changes what lies in one block; no function of the program. -/
namespace Go.Proofs.YtglbegbhekcddaaDoor
open Go.ChangeShapes Go.WideShapes Go.ChangeAt Go.RowKit
set_option linter.unusedSimpArgs false
set_option linter.unusedVariables false
def StepsM (P : Program) (Q : Exit → Act → World → Prop) (w0 : World) (c m n : Nat) (slot : Nat → Nat) (a0 : Act) (PW : World → Prop) (Qs : Nat → World → Value → Prop) : Nat → List Oper → Prop
  | _, [] => True
  | i, o :: os => (∀ a W, (i = m → Old w0 W) → Chg w0 W c (c + 1) → Fram n slot a0 a → (∀ e ∈ o.after.toList, Region.binds .any e = true → Qs e.on W (a.eval (.tmp (slot e.on)))) → o.wp P a W (fun a' W' => ∃ v, a' = a.put (some (slot i)) v ∧ Chg W W' c (c + 1) ∧ (i = m → PW W') ∧ (i ≠ m → Old W W') ∧ Qs i W' v) Q) ∧ StepsM P Q w0 c m n slot a0 PW Qs (i + 1) os
theorem wp_region_tailM {P : Program} {id : Nat} {l : List Oper} {Q : Exit → Act → World → Prop} {a0 : Act} {w0 : World} (c m n : Nat) (hmn : m < n) (PW : World → Prop) (hPC : ∀ W, PW W → Chg w0 W c (c + 1)) (hPO : ∀ W W', PW W → Old W W' → PW W') (hn : n < l.length) (hm : P.follows .mixedOrders = true)
    (hord : (List.range l.toArray.size).all (fun i => ((l.toArray[i]?).map (fun o => o.after.all fun e => !Region.binds .any e || decide (e.on < i))).getD true) = true)
    (hg : l.all (fun o => o.guard.isNone) = true)
    (hall : (List.range n).all (fun i => (closS l.toArray n n (depsO l.toArray n)).contains i) = true)
    (hch : (List.range l.length).all (fun k => decide (k ≤ n) || (depsO l.toArray k).contains (k - 1)) = true)
    (slot : Nat → Nat) (hslot : ∀ i, i < n → slot i < a0.tmps.size) (hinj : ∀ i j, i < n → j < n → slot i = slot j → i = j)
    (Qs : Nat → World → Value → Prop) (hQ : ∀ i W W' v, Qs i W v → Chg W W' c (c + 1) → Qs i W' v)
    (hstep : StepsM P Q w0 c m n slot a0 PW Qs 0 (l.take n))
    (hturn : ∀ a W, PW W → Fram n slot a0 a → (∀ i, i < n → Qs i W (a.eval (.tmp (slot i)))) → tailWp P Q (l.drop n) a W) :
    (Code.region id l.toArray true).wp P Q a0 w0 := by
  have hsz : l.toArray.size = l.length := by simp
  have hon : ∀ i o, l.toArray[i]? = some o → ∀ e ∈ o.after.toList, Region.binds .any e = true → e.on < i := by
    intro i o ho e he hb
    have hi : i < l.toArray.size := (Array.getElem?_eq_some_iff.1 ho).1
    have h1 := List.all_eq_true.1 hord i (by simpa using hi)
    rw [ho] at h1
    simp only [Option.map_some, Option.getD_some] at h1
    rw [Array.all_eq_true'] at h1
    have h2 := h1 e (by simpa using he)
    rw [hb] at h2
    simpa using h2
  have hdrop : ∀ k o, l.toArray[k]? = some o → l.drop k = o :: l.drop (k + 1) := fun k o ho => by
    have h1 : k < l.length := by have := (Array.getElem?_eq_some_iff.1 ho).1; omega
    rw [List.drop_eq_getElem_cons h1]
    have : l[k]? = some o := by simpa using ho
    rw [List.getElem?_eq_getElem h1] at this
    rw [Option.some.inj this]
  let I : (Nat → Bool) → Act → World → Prop := fun d a W => Done l.toArray d ∧
    (d n = false → (∀ k, n < k → d k = false) ∧ (d m = false → Old w0 W) ∧ (d m = true → PW W) ∧ Fram n slot a0 a ∧ ∀ i, i < n → d i = true → Qs i W (a.eval (.tmp (slot i)))) ∧
    (d n = true → ∃ k, n < k ∧ k ≤ l.length ∧ (∀ i, i < k → d i = true) ∧ (∀ i, k ≤ i → d i = false) ∧ tailWp P Q (l.drop k) a W)
  refine wp_region_inv hm I hord ⟨(fun i h => by cases h), (fun _ => ⟨(fun k _ => rfl), (fun _ => Below.drew (Old.refl w0)), (fun h => by cases h), ⟨rfl, rfl, fun _ _ => rfl⟩, (fun i _ h => by cases h)⟩), (fun h => by cases h)⟩ ?_ ?_
  · intro i o ho d a W hI hdi hd
    have hgn := List.all_eq_true.1 hg o (List.mem_of_getElem? (by simpa using ho))
    have hw : Region.wanted o (yielded l.toArray a.tmps) = true := by
      cases h : o.guard with
      | none => simp [Region.wanted, h]
      | some g => rw [h] at hgn; cases hgn
    rw [if_pos hw]
    have hi : i < l.length := by
      have := (Array.getElem?_eq_some_iff.1 ho).1
      omega
    obtain ⟨hC, hA, hB⟩ := hI
    have hC' := hC.upd ho hd
    rcases Nat.lt_trichotomy i n with h1 | h1 | h1
    · cases hdn : d n with
      | true =>
        obtain ⟨k, k1, k2, k3, k4, _⟩ := hB hdn
        have := k3 i (by omega)
        rw [this] at hdi
        cases hdi
      | false =>
        obtain ⟨hf0, g0, g1, hF, hq⟩ := hA hdn
        have gC : Chg w0 W c (c + 1) := by
          cases hdm : d m with
          | false => exact (g0 hdm).toChg _ _
          | true => exact hPC W (g1 hdm)
        have key : ∀ (ml : List Oper) (k : Nat), StepsM P Q w0 c m n slot a0 PW Qs k ml → ∀ (j : Nat) (o : Oper), ml[j]? = some o → ∀ (a : Act) (W : World), (k + j = m → Old w0 W) → Chg w0 W c (c + 1) → Fram n slot a0 a → (∀ e ∈ o.after.toList, Region.binds .any e = true → Qs e.on W (a.eval (.tmp (slot e.on)))) → o.wp P a W (fun a' W' => ∃ v, a' = a.put (some (slot (k + j))) v ∧ Chg W W' c (c + 1) ∧ (k + j = m → PW W') ∧ (k + j ≠ m → Old W W') ∧ Qs (k + j) W' v) Q := by
          intro ml
          induction ml with
          | nil => intro k _ j o h; simp at h
          | cons x ml ih =>
            intro k hs j o hj
            cases j with
            | zero =>
              simp at hj
              subst hj
              exact hs.1
            | succ j =>
              have := ih (k + 1) hs.2 j o (by simpa using hj)
              rw [show k + 1 + j = k + (j + 1) by omega] at this
              exact this
        have hst := key (l.take n) 0 hstep i o (by rw [List.getElem?_take, if_pos h1]; simpa using ho) a W (fun h => g0 (by rw [← h, Nat.zero_add]; exact hdi)) gC hF (fun e he hb => hq e.on (by have := hon i o ho e he hb; omega) (hd e he hb))
        rw [Nat.zero_add] at hst
        refine Oper.wp_mono ?_ hst
        rintro a' W' ⟨v, rfl, g', gm, gn, hv⟩
        refine ⟨hC', (fun _ => ⟨(fun k hk => by rw [upd_other d (by omega)]; exact hf0 k hk), (fun h => by
          by_cases him : m = i
          · subst him
            rw [upd_same] at h
            cases h
          · rw [upd_other d him] at h
            exact Old.trans (g0 h) (gn (fun e => him (Eq.symm e)))), (fun h => by
          by_cases him : m = i
          · exact gm him.symm
          · rw [upd_other d him] at h
            exact hPO _ _ (g1 h) (gn (fun e => him (Eq.symm e)))), ⟨by simp [Act.put, hF.size], by simp [Act.put, hF.defers], fun s hs => by rw [eval_put_other _ _ _ _ (hs i h1)]; exact hF.same s hs⟩, (fun j hj hdj => ?_)⟩), (fun h => by rw [upd_other d (by omega), hdn] at h; cases h)⟩
        by_cases hji : j = i
        · subst hji
          rw [eval_put_same _ _ _ (by rw [hF.size]; exact hslot j h1)]
          exact hv
        · rw [eval_put_other _ _ _ _ (fun e => hji (hinj i j h1 hj e).symm)]
          rw [upd_other d hji] at hdj
          exact hQ j W W' _ (hq j hj hdj) g'
    · subst h1
      obtain ⟨hf0, g0, g1, hF, hq⟩ := hA hdi
      have hpre : ∀ j, j < i → d j = true := fun j hj => by
        have h2 := List.all_eq_true.1 hall j (by simpa using hj)
        exact closS_done hC i _ (fun s hs => by
          obtain ⟨e, e1, e2, e3⟩ := (mem_depsO ho s).1 hs
          rw [← e3]
          exact hd e e1 e2) j (by simpa using h2)
      have ht := hturn a W (g1 (hpre m hmn)) hF (fun j hj => hq j hj (hpre j hj))
      rw [hdrop i o ho] at ht
      refine Oper.wp_mono ?_ ht
      intro a' W' hv
      refine ⟨hC', (fun h => by rw [upd_same] at h; cases h), (fun _ => ⟨i + 1, by omega, by omega, (fun j hj => ?_), (fun j hj => ?_), hv⟩)⟩
      · by_cases hji : j = i
        · subst hji; exact upd_same d j
        · rw [upd_other d hji]; exact hpre j (by omega)
      · rw [upd_other d (by omega)]; exact hf0 j (by omega)
    · have hprev : d (i - 1) = true := by
        have h2 := List.all_eq_true.1 hch i (by simpa using hi)
        rw [Bool.or_eq_true] at h2
        rcases h2 with h2 | h2
        · have := of_decide_eq_true h2; omega
        · obtain ⟨e, e1, e2, e3⟩ := (mem_depsO ho (i - 1)).1 (by simpa using h2)
          rw [← e3]
          exact hd e e1 e2
      have hdn : d n = true := by
        cases hdn : d n with
        | true => rfl
        | false =>
          rcases Nat.lt_or_ge n (i - 1) with h3 | h3
          · have := (hA hdn).1 (i - 1) h3
            rw [this] at hprev
            cases hprev
          · have : i - 1 = n := by omega
            rw [this, hdn] at hprev
            cases hprev
      obtain ⟨k, k1, k2, k3, k4, k5⟩ := hB hdn
      have hik : i = k := by
        rcases Nat.lt_trichotomy i k with h3 | h3 | h3
        · have := k3 i h3
          rw [this] at hdi
          cases hdi
        · exact h3
        · have := k4 (i - 1) (by omega)
          rw [this] at hprev
          cases hprev
      subst hik
      rw [hdrop i o ho] at k5
      refine Oper.wp_mono ?_ k5
      intro a' W' hv
      refine ⟨hC', (fun h => by rw [upd_other d (by omega), hdn] at h; cases h), (fun _ => ⟨i + 1, by omega, by omega, (fun j hj => ?_), (fun j hj => ?_), hv⟩)⟩
      · by_cases hji : j = i
        · subst hji; exact upd_same d j
        · rw [upd_other d hji]; exact k3 j (by omega)
      · rw [upd_other d (by omega)]; exact k4 j (by omega)
  · intro d a W hd hI
    obtain ⟨_, _, hB⟩ := hI
    obtain ⟨k, k1, k2, k3, k4, k5⟩ := hB (hd n (by omega))
    have hk : k = l.length := by
      rcases Nat.lt_or_ge k l.length with h | h
      · have h1 := k4 k (Nat.le_refl _)
        rw [hd k (by omega)] at h1
        cases h1
      · omega
    rw [hk, List.drop_length] at k5
    exact k5
end Go.Proofs.YtglbegbhekcddaaDoor
