/- Proved: several texts in one: what each proves is said ahead of it. -/
import Derived.Test.YtfcdfielbpdloaaGreatDoorRInv
import Derived.Laws.Rows
import Derived.Laws.Tables
import Derived.Test.YtfcdfielbpdloaaGreatDoorC200
import Derived.BigCall
/- Proved: single operations, each as a step of a region that draws its order; no function of the program. -/
namespace Go.Proofs.YtfcdfielbpdloaaGreatDoor
open Go.ChangeShapes Go.WideShapes Go.ChangeAt Go.RowKit
set_option linter.unusedVariables false
set_option linter.unusedSimpArgs false
section
variable {P : Program} {d : Option Tmp} {ty : TypeId} {pos : String} {af : Array Edge} {a : Act} {W : World} {K : Act → World → Prop} {Q : Exit → Act → World → Prop}
theorem op_load {T : TypeId} {x : Operand} {k : Nat} {cs : Array Value} {t : TypeId} {fr : Nat × Nat} {D : TypeDesc} (ha : a.eval x = .pointer (some ⟨k, 0, none⟩)) (hb : W.heap[k]? = some (.cells cs t fr))
    (hu : P.underlying T = some D) (hD : (match D with | .struct _ | .array _ _ => true | _ => false) = true) (hi : (P.info? T).map (·.size) = some cs.size) (hK : K (a.put d (.agg cs)) W) : Oper.wp P ⟨d, .load T x, ty, pos, af, none⟩ a W K Q := by
  have h := run_loadVar_row (P := P) W k t T cs fr D hb hu hD hi
  unfold Oper.wp
  simp [execOp, ha, Instr.loadAt, Instr.sureAddr, h, Result.andThen]
  exact hK
theorem op_call {f : FuncId} {args : Array Operand} {tys : Array TypeId} (hc : ∀ (vs : Array Value) (w : World), Sem.run P (callFunc f vs) w = .ok (.enter f vs) w) (hK : Calls P f (args.map a.eval) W (fun | .returned v, w'' => K (a.put d v) w'' | .panicked c, w'' => Q (.panic c) a w'' | .outgrown, _ => LetsOut Q)) :
    Oper.wp P ⟨d, .call { callee := .value (.func f), args := args, argTypes := tys }, ty, pos, af, none⟩ a W K Q := by
  unfold Oper.wp
  rw [execOp_call_go, hc]
  rw [show (#[] ++ args.map a.eval ++ #[] : Array Value) = args.map a.eval by simp]
  exact hK
theorem op_call_ret {f : FuncId} {args : Array Operand} {tys : Array TypeId} {vs : Array Value} {R : Value → World → Prop} (hc : ∀ (vs : Array Value) (w : World), Sem.run P (callFunc f vs) w = .ok (.enter f vs) w) (hv : args.map a.eval = vs)
    (hC : Calls P f vs W (fun e w' => ∃ v, e = .returned v ∧ R v w')) (hK : ∀ v w', R v w' → K (a.put d v) w') :
    Oper.wp P ⟨d, .call { callee := .value (.func f), args := args, argTypes := tys }, ty, pos, af, none⟩ a W K Q := by
  refine op_call hc ?_
  rw [hv]
  refine hC.mono ?_
  rintro e w' ⟨v, rfl, h⟩
  exact hK v w' h
end
theorem lt_of_some {W : World} {k : Nat} {o : Obj} (h : W.heap[k]? = some o) : k < W.heap.size := (Array.getElem?_eq_some_iff.1 h).1
end Go.Proofs.YtfcdfielbpdloaaGreatDoor
/- Proved: a region that draws its order and of which every operation writes a slot of its own and nothing that was there: what each operation is worth once those that it waits for are done; no function of the program. -/
namespace Go.Proofs.YtfcdfielbpdloaaGreatDoor
open Go.ChangeShapes Go.WideShapes Go.ChangeAt Go.RowKit
set_option linter.unusedSimpArgs false
set_option linter.unusedVariables false
structure Fram (n : Nat) (slot : Nat → Nat) (a0 a : Act) : Prop where
  size : a.tmps.size = a0.tmps.size
  defers : a.defers = a0.defers
  same : ∀ s, (∀ i, i < n → slot i ≠ s) → a.eval (.tmp s) = a0.eval (.tmp s)
def StepsO (P : Program) (Q : Exit → Act → World → Prop) (w0 : World) (n : Nat) (slot : Nat → Nat) (a0 : Act) (Qs : Nat → World → Value → Prop) : Nat → List Oper → Prop
  | _, [] => True
  | i, o :: os => (∀ a W, Old w0 W → Fram n slot a0 a → (∀ e ∈ o.after.toList, Region.binds .any e = true → Qs e.on W (a.eval (.tmp (slot e.on)))) → o.wp P a W (fun a' W' => ∃ v, a' = a.put (some (slot i)) v ∧ Old W W' ∧ Qs i W' v) Q) ∧ StepsO P Q w0 n slot a0 Qs (i + 1) os
theorem eval_put_same (a : Act) (s : Nat) (v : Value) (h : s < a.tmps.size) : (a.put (some s) v).eval (.tmp s) = v := by
  simp [Act.put, Act.eval, Array.getD, h]
theorem eval_put_other (a : Act) (s t : Nat) (v : Value) (h : s ≠ t) : (a.put (some s) v).eval (.tmp t) = a.eval (.tmp t) := by
  have e : (a.tmps.setIfInBounds s v)[t]? = a.tmps[t]? := Array.getElem?_setIfInBounds_ne h
  simp only [Act.put, Act.eval]
  rw [Array.getD_eq_getD_getElem?, Array.getD_eq_getD_getElem?, e]
theorem wp_region_old {P : Program} {id : Nat} {ops : Array Oper} {Q : Exit → Act → World → Prop} {a0 : Act} {w0 : World} (hm : P.follows .mixedOrders = true)
    (hord : (List.range ops.size).all (fun i => ((ops[i]?).map (fun o => o.after.all fun e => !Region.binds .any e || decide (e.on < i))).getD true) = true)
    (hg : ops.toList.all (fun o => o.guard.isNone) = true)
    (slot : Nat → Nat) (hslot : ∀ i, i < ops.size → slot i < a0.tmps.size) (hinj : ∀ i j, i < ops.size → j < ops.size → slot i = slot j → i = j)
    (Qs : Nat → World → Value → Prop) (hQ : ∀ i W W' v, Qs i W v → Old W W' → Qs i W' v)
    (hstep : StepsO P Q w0 ops.size slot a0 Qs 0 ops.toList)
    (hdone : ∀ a W, Old w0 W → Fram ops.size slot a0 a → (∀ i, i < ops.size → Qs i W (a.eval (.tmp (slot i)))) → Q .normal a W) :
    (Code.region id ops true).wp P Q a0 w0 := by
  have hon : ∀ i o, ops[i]? = some o → ∀ e ∈ o.after.toList, Region.binds .any e = true → e.on < i := by
    intro i o ho e he hb
    have hi : i < ops.size := (Array.getElem?_eq_some_iff.1 ho).1
    have h1 := List.all_eq_true.1 hord i (by simpa using hi)
    rw [ho] at h1
    simp only [Option.map_some, Option.getD_some] at h1
    rw [Array.all_eq_true'] at h1
    have h2 := h1 e (by simpa using he)
    rw [hb] at h2
    simpa using h2
  refine wp_region_steps (fun d a W => Old w0 W ∧ Fram ops.size slot a0 a ∧ ∀ i, i < ops.size → d i = true → Qs i W (a.eval (.tmp (slot i)))) hm hord hg ⟨Below.drew (Old.refl w0), ⟨rfl, rfl, fun _ _ => rfl⟩, fun i _ h => by cases h⟩ ?_ (fun d a W hd h => hdone a W h.1 h.2.1 (fun i hi => h.2.2 i hi (hd i hi)))
  have key : ∀ (l : List Oper) (k : Nat), (∀ j, l[j]? = ops[k + j]?) → StepsO P Q w0 ops.size slot a0 Qs k l → Steps P Q (fun d a W => Old w0 W ∧ Fram ops.size slot a0 a ∧ ∀ i, i < ops.size → d i = true → Qs i W (a.eval (.tmp (slot i)))) k l := by
    intro l
    induction l with
    | nil => intro k _ _; exact trivial
    | cons o l ih =>
      intro k hk hs
      refine ⟨?_, ih (k + 1) (fun j => by have := hk (j + 1); simpa [Nat.add_assoc, Nat.add_comm 1 j] using this) hs.2⟩
      have ho : ops[k]? = some o := by simpa using (hk 0).symm
      have hklt : k < ops.size := (Array.getElem?_eq_some_iff.1 ho).1
      rintro d a W ⟨g, hF, hI⟩ hdk hdep
      refine Oper.wp_mono ?_ (hs.1 a W g hF (fun e he hb => hI e.on (by have := hon k o ho e he hb; omega) (hdep e he hb)))
      rintro a' W' ⟨v, rfl, g', hq⟩
      refine ⟨Old.trans g g', ⟨by simp [Act.put, hF.size], by simp [Act.put, hF.defers], fun s hs => ?_⟩, fun i hi hd => ?_⟩
      · rw [eval_put_other _ _ _ _ (hs k hklt)]
        exact hF.same s hs
      · by_cases hik : i = k
        · subst hik
          rw [eval_put_same _ _ _ (by rw [hF.size]; exact hslot i hi)]
          exact hq
        · rw [eval_put_other _ _ _ _ (fun e => hik (hinj k i hklt hi e).symm)]
          unfold upd at hd
          rw [if_neg hik] at hd
          exact hQ i W W' _ (hI i hi hd) g'
  exact key ops.toList 0 (by simp) hstep
theorem op_val {P : Program} {a : Act} {W : World} {K : Act → World → Prop} {Q : Exit → Act → World → Prop} {o : Oper} (ρ : Operand → Value) (hρ : a.eval = ρ) (v : Value) (hr : (execOp ρ o).run P W = .ok (.value v) W) (hK : K (a.put o.dst v) W) : o.wp P a W K Q := by
  unfold Oper.wp
  rw [hρ, hr]
  exact hK
end Go.Proofs.YtfcdfielbpdloaaGreatDoor
/- Proved: a region that draws its order and ends in one operation that waits for all others; and a frame told by its slots; no function of the program. -/
namespace Go.Proofs.YtfcdfielbpdloaaGreatDoor
open Go.ChangeShapes Go.WideShapes Go.ChangeAt Go.RowKit
set_option linter.unusedSimpArgs false
set_option linter.unusedVariables false
theorem getKey_map (slot : Nat → Nat) (us : Nat → Value) (s : Nat) : ∀ (l : List Nat), (∀ i j, i ∈ l → j ∈ l → slot i = slot j → i = j) → (∀ i, i ∈ l → slot i = s → getKey (l.map fun i => (slot i, us i)) s = some (us i)) ∧ ((∀ i, i ∈ l → slot i ≠ s) → getKey (l.map fun i => (slot i, us i)) s = none)
  | [], _ => ⟨fun i h => by simp at h, fun _ => rfl⟩
  | x :: l, hinj => by
    obtain ⟨h1, h2⟩ := getKey_map slot us s l (fun i j hi hj => hinj i j (by simp [hi]) (by simp [hj]))
    refine ⟨fun i hi hs => ?_, fun h => ?_⟩
    · show (if slot x = s then some (us x) else getKey (l.map fun i => (slot i, us i)) s) = _
      by_cases hx : slot x = s
      · rw [if_pos hx]
        have : i = x := hinj i x hi (by simp) (hs.trans hx.symm)
        rw [this]
      · rw [if_neg hx]
        rcases List.mem_cons.1 hi with h3 | h3
        · subst h3; exact absurd hs hx
        · exact h1 i h3 hs
    · show (if slot x = s then some (us x) else getKey (l.map fun i => (slot i, us i)) s) = none
      rw [if_neg (h x (by simp))]
      exact h2 (fun i hi => h i (by simp [hi]))
theorem act_ext {a b : Act} (hs : a.tmps.size = b.tmps.size) (hd : a.defers = b.defers) (h : ∀ s, s < a.tmps.size → a.eval (.tmp s) = b.eval (.tmp s)) : a = b := by
  cases a with
  | mk ta da =>
    cases b with
    | mk tb db =>
      simp only at hs hd h
      subst hd
      congr 1
      apply Array.ext hs
      intro i h1 h2
      have := h i h1
      simpa [Act.eval, Array.getD, h1, h2] using this
theorem putAll_defers (a : Act) : ∀ l, (putAll a l).defers = a.defers
  | [] => rfl
  | (t, u) :: l => by simp [putAll, Act.put, putAll_defers a l]
theorem fram_put {n : Nat} {slot : Nat → Nat} {a0 a : Act} (hF : Fram n slot a0 a) (hinj : ∀ i j, i < n → j < n → slot i = slot j → i = j) : a = putAll a0 ((List.range n).map fun i => (slot i, a.eval (.tmp (slot i)))) := by
  refine act_ext (by rw [putAll_size]; exact hF.size) (by rw [putAll_defers]; exact hF.defers) (fun s hs => ?_)
  rw [eval_putAll a0 s (by rw [← hF.size]; exact hs)]
  obtain ⟨h1, h2⟩ := getKey_map slot (fun i => a.eval (.tmp (slot i))) s (List.range n) (fun i j hi hj => hinj i j (by simpa using hi) (by simpa using hj))
  by_cases hx : ∃ i, i < n ∧ slot i = s
  · obtain ⟨i, hi, rfl⟩ := hx
    rw [h1 i (by simpa using hi) rfl]
    rfl
  · have hn : ∀ i, i < n → slot i ≠ s := fun i hi e => hx ⟨i, hi, e⟩
    rw [h2 (fun i hi => hn i (by simpa using hi))]
    exact hF.same s hn
end Go.Proofs.YtfcdfielbpdloaaGreatDoor
