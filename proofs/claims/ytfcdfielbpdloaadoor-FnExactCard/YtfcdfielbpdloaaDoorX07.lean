/- Proved: several texts in one: what each proves is said ahead of it. -/
import Derived.Test.YtfcdfielbpdloaaDoorRInv
import Derived.Laws.Rows
import Derived.Laws.Tables
import Derived.Test.YtfcdfielbpdloaaDoorX00
import Derived.BigCall
/- Proved: single operations, each as a step of a region that draws its order; no function of the program. -/
namespace Go.Proofs.YtfcdfielbpdloaaDoor
open Go.ChangeShapes Go.WideShapes Go.ChangeAt Go.RowKit
set_option linter.unusedVariables false
set_option linter.unusedSimpArgs false
section
variable {P : Program} {d : Option Tmp} {ty : TypeId} {pos : String} {af : Array Edge} {a : Act} {W : World} {K : Act → World → Prop} {Q : Exit → Act → World → Prop}
theorem op_call {f : FuncId} {args : Array Operand} {tys : Array TypeId} (hc : ∀ (vs : Array Value) (w : World), Sem.run P (callFunc f vs) w = .ok (.enter f vs) w) (hK : Calls P f (args.map a.eval) W (fun | .returned v, w'' => K (a.put d v) w'' | .panicked c, w'' => Q (.panic c) a w'' | .outgrown, _ => LetsOut Q)) :
    Oper.wp P ⟨d, .call { callee := .value (.func f), args := args, argTypes := tys }, ty, pos, af, none⟩ a W K Q := by
  unfold Oper.wp
  rw [execOp_call_go, hc]
  rw [show (#[] ++ args.map a.eval ++ #[] : Array Value) = args.map a.eval by simp]
  exact hK
theorem op_call_ret {f : FuncId} {args : Array Operand} {tys : Array TypeId} {vs : Array Value} {R : Value → World → Prop} (hc : ∀ (vs : Array Value) (w : World), Sem.run P (callFunc f vs) w = .ok (.enter f vs) w) (hv : args.map a.eval = vs)
    (hC : Calls P f vs W (fun e w' => ∃ v, e = .returned v ∧ R v w')) (hK : ∀ v w', R v w' → K (a.put d v) w') :
    Oper.wp P ⟨d, .call { callee := .value (.func f), args := args, argTypes := tys }, ty, pos, af, none⟩ a W K Q := by
  refine op_call hc ?_
  rw [hv]
  refine hC.mono ?_
  rintro e w' ⟨v, rfl, h⟩
  exact hK v w' h
theorem op_move {x : Operand} (hK : K (a.put d (a.eval x)) W) : Oper.wp P ⟨d, .move x, ty, pos, af, none⟩ a W K Q := by
  unfold Oper.wp
  simp [execOp]
  exact hK
theorem op_assign {x : Operand} (hK : K (a.put d (a.eval x)) W) : Oper.wp P ⟨d, .assign x, ty, pos, af, none⟩ a W K Q := by
  unfold Oper.wp
  simp [execOp]
  exact hK
end
end Go.Proofs.YtfcdfielbpdloaaDoor
/- Proved: a region that draws its order and of which every operation writes a slot of its own and nothing that was there: what each operation is worth once those that it waits for are done; no function of the program. -/
namespace Go.Proofs.YtfcdfielbpdloaaDoor
open Go.ChangeShapes Go.WideShapes Go.ChangeAt Go.RowKit
set_option linter.unusedSimpArgs false
set_option linter.unusedVariables false
structure Fram (n : Nat) (slot : Nat → Nat) (a0 a : Act) : Prop where
  size : a.tmps.size = a0.tmps.size
  defers : a.defers = a0.defers
  same : ∀ s, (∀ i, i < n → slot i ≠ s) → a.eval (.tmp s) = a0.eval (.tmp s)
def StepsO (P : Program) (Q : Exit → Act → World → Prop) (w0 : World) (n : Nat) (slot : Nat → Nat) (a0 : Act) (Qs : Nat → World → Value → Prop) : Nat → List Oper → Prop
  | _, [] => True
  | i, o :: os => (∀ a W, Old w0 W → Fram n slot a0 a → (∀ e ∈ o.after.toList, Region.binds .any e = true → Qs e.on W (a.eval (.tmp (slot e.on)))) → o.wp P a W (fun a' W' => ∃ v, a' = a.put (some (slot i)) v ∧ Old W W' ∧ Qs i W' v) Q) ∧ StepsO P Q w0 n slot a0 Qs (i + 1) os
theorem eval_put_same (a : Act) (s : Nat) (v : Value) (h : s < a.tmps.size) : (a.put (some s) v).eval (.tmp s) = v := by
  simp [Act.put, Act.eval, Array.getD, h]
theorem eval_put_other (a : Act) (s t : Nat) (v : Value) (h : s ≠ t) : (a.put (some s) v).eval (.tmp t) = a.eval (.tmp t) := by
  have e : (a.tmps.setIfInBounds s v)[t]? = a.tmps[t]? := Array.getElem?_setIfInBounds_ne h
  simp only [Act.put, Act.eval]
  rw [Array.getD_eq_getD_getElem?, Array.getD_eq_getD_getElem?, e]
theorem op_val {P : Program} {a : Act} {W : World} {K : Act → World → Prop} {Q : Exit → Act → World → Prop} {o : Oper} (ρ : Operand → Value) (hρ : a.eval = ρ) (v : Value) (hr : (execOp ρ o).run P W = .ok (.value v) W) (hK : K (a.put o.dst v) W) : o.wp P a W K Q := by
  unfold Oper.wp
  rw [hρ, hr]
  exact hK
end Go.Proofs.YtfcdfielbpdloaaDoor
/- Proved: a region that draws its order and ends in one operation that waits for all others; and a frame told by its slots; no function of the program. -/
namespace Go.Proofs.YtfcdfielbpdloaaDoor
open Go.ChangeShapes Go.WideShapes Go.ChangeAt Go.RowKit
set_option linter.unusedSimpArgs false
set_option linter.unusedVariables false
theorem getKey_map (slot : Nat → Nat) (us : Nat → Value) (s : Nat) : ∀ (l : List Nat), (∀ i j, i ∈ l → j ∈ l → slot i = slot j → i = j) → (∀ i, i ∈ l → slot i = s → getKey (l.map fun i => (slot i, us i)) s = some (us i)) ∧ ((∀ i, i ∈ l → slot i ≠ s) → getKey (l.map fun i => (slot i, us i)) s = none)
  | [], _ => ⟨fun i h => by simp at h, fun _ => rfl⟩
  | x :: l, hinj => by
    obtain ⟨h1, h2⟩ := getKey_map slot us s l (fun i j hi hj => hinj i j (by simp [hi]) (by simp [hj]))
    refine ⟨fun i hi hs => ?_, fun h => ?_⟩
    · show (if slot x = s then some (us x) else getKey (l.map fun i => (slot i, us i)) s) = _
      by_cases hx : slot x = s
      · rw [if_pos hx]
        have : i = x := hinj i x hi (by simp) (hs.trans hx.symm)
        rw [this]
      · rw [if_neg hx]
        rcases List.mem_cons.1 hi with h3 | h3
        · subst h3; exact absurd hs hx
        · exact h1 i h3 hs
    · show (if slot x = s then some (us x) else getKey (l.map fun i => (slot i, us i)) s) = none
      rw [if_neg (h x (by simp))]
      exact h2 (fun i hi => h i (by simp [hi]))
theorem act_ext {a b : Act} (hs : a.tmps.size = b.tmps.size) (hd : a.defers = b.defers) (h : ∀ s, s < a.tmps.size → a.eval (.tmp s) = b.eval (.tmp s)) : a = b := by
  cases a with
  | mk ta da =>
    cases b with
    | mk tb db =>
      simp only at hs hd h
      subst hd
      congr 1
      apply Array.ext hs
      intro i h1 h2
      have := h i h1
      simpa [Act.eval, Array.getD, h1, h2] using this
theorem putAll_defers (a : Act) : ∀ l, (putAll a l).defers = a.defers
  | [] => rfl
  | (t, u) :: l => by simp [putAll, Act.put, putAll_defers a l]
theorem fram_put {n : Nat} {slot : Nat → Nat} {a0 a : Act} (hF : Fram n slot a0 a) (hinj : ∀ i j, i < n → j < n → slot i = slot j → i = j) : a = putAll a0 ((List.range n).map fun i => (slot i, a.eval (.tmp (slot i)))) := by
  refine act_ext (by rw [putAll_size]; exact hF.size) (by rw [putAll_defers]; exact hF.defers) (fun s hs => ?_)
  rw [eval_putAll a0 s (by rw [← hF.size]; exact hs)]
  obtain ⟨h1, h2⟩ := getKey_map slot (fun i => a.eval (.tmp (slot i))) s (List.range n) (fun i j hi hj => hinj i j (by simpa using hi) (by simpa using hj))
  by_cases hx : ∃ i, i < n ∧ slot i = s
  · obtain ⟨i, hi, rfl⟩ := hx
    rw [h1 i (by simpa using hi) rfl]
    rfl
  · have hn : ∀ i, i < n → slot i ≠ s := fun i hi e => hx ⟨i, hi, e⟩
    rw [h2 (fun i hi => hn i (by simpa using hi))]
    exact hF.same s hn
end Go.Proofs.YtfcdfielbpdloaaDoor
/- Proved: a region that draws its order, of which one operation turns what was there (an append) once all others are done, and one more hands on what it told; no function of the program. -/
namespace Go.Proofs.YtfcdfielbpdloaaDoor
open Go.ChangeShapes Go.WideShapes Go.ChangeAt Go.RowKit
set_option linter.unusedSimpArgs false
set_option linter.unusedVariables false
def depsO (ops : Array Oper) (i : Nat) : List Nat := match ops[i]? with
  | some o => (o.after.toList.filter (fun e => Region.binds .any e)).map (·.on)
  | none => []
def nextS (ops : Array Oper) (n : Nat) (S : List Nat) : List Nat := (List.range n).filter (fun i => S.contains i || S.any (fun s => (depsO ops s).contains i))
def closS (ops : Array Oper) (n : Nat) : Nat → List Nat → List Nat
  | 0, S => S
  | k + 1, S => closS ops n k (nextS ops n S)
def Done (ops : Array Oper) (d : Nat → Bool) : Prop := ∀ i, d i = true → ∀ j ∈ depsO ops i, d j = true
theorem nextS_done {ops : Array Oper} {n : Nat} {d : Nat → Bool} (h : Done ops d) {S : List Nat} (hS : ∀ i ∈ S, d i = true) : ∀ i ∈ nextS ops n S, d i = true := by
  intro i hi
  unfold nextS at hi
  have h2 := (List.mem_filter.1 hi).2
  rw [Bool.or_eq_true] at h2
  rcases h2 with h3 | h3
  · exact hS i (by simpa using h3)
  · obtain ⟨s, hs, h4⟩ := List.any_eq_true.1 h3
    exact h s (hS s hs) i (by simpa using h4)
theorem closS_done {ops : Array Oper} {n : Nat} {d : Nat → Bool} (h : Done ops d) : ∀ k S, (∀ i ∈ S, d i = true) → ∀ i ∈ closS ops n k S, d i = true
  | 0, S, hS => hS
  | k + 1, S, hS => closS_done h k _ (nextS_done h hS)
theorem mem_depsO {ops : Array Oper} {i : Nat} {o : Oper} (ho : ops[i]? = some o) (j : Nat) : j ∈ depsO ops i ↔ ∃ e ∈ o.after.toList, Region.binds .any e = true ∧ e.on = j := by
  unfold depsO
  rw [ho]
  simp only [List.mem_map, List.mem_filter]
  constructor
  · rintro ⟨e, ⟨h1, h2⟩, h3⟩; exact ⟨e, h1, h2, h3⟩
  · rintro ⟨e, h1, h2, h3⟩; exact ⟨e, ⟨h1, h2⟩, h3⟩
theorem Done.upd {ops : Array Oper} {d : Nat → Bool} (h : Done ops d) {i : Nat} {o : Oper} (ho : ops[i]? = some o) (hd : ∀ e ∈ o.after.toList, Region.binds .any e = true → d e.on = true) : Done ops (upd d i) := by
  intro k hk j hj
  by_cases hji : j = i
  · subst hji; exact upd_same d j
  · rw [upd_other d hji]
    by_cases hki : k = i
    · subst hki
      obtain ⟨e, h1, h2, h3⟩ := (mem_depsO ho j).1 hj
      rw [← h3]
      exact hd e h1 h2
    · rw [upd_other d hki] at hk
      exact h k hk j hj
end Go.Proofs.YtfcdfielbpdloaaDoor
/- Proved: a region that draws its order but for its last operations, which wait for all ahead of them; no function of the program. -/
namespace Go.Proofs.YtfcdfielbpdloaaDoor
open Go.ChangeShapes Go.WideShapes Go.ChangeAt Go.RowKit
set_option linter.unusedSimpArgs false
set_option linter.unusedVariables false
def tailWp (P : Program) (Q : Exit → Act → World → Prop) : List Oper → Act → World → Prop
  | [], a, W => Q .normal a W
  | o :: os, a, W => o.wp P a W (fun a' W' => tailWp P Q os a' W') Q
theorem wp_region_tail {P : Program} {id : Nat} {l : List Oper} {Q : Exit → Act → World → Prop} {a0 : Act} {w0 : World} (n : Nat) (hn : n < l.length) (hm : P.follows .mixedOrders = true)
    (hord : (List.range l.toArray.size).all (fun i => ((l.toArray[i]?).map (fun o => o.after.all fun e => !Region.binds .any e || decide (e.on < i))).getD true) = true)
    (hg : l.all (fun o => o.guard.isNone) = true)
    (hall : (List.range n).all (fun i => (closS l.toArray n n (depsO l.toArray n)).contains i) = true)
    (hch : (List.range l.length).all (fun k => decide (k ≤ n) || (depsO l.toArray k).contains (k - 1)) = true)
    (slot : Nat → Nat) (hslot : ∀ i, i < n → slot i < a0.tmps.size) (hinj : ∀ i j, i < n → j < n → slot i = slot j → i = j)
    (Qs : Nat → World → Value → Prop) (hQ : ∀ i W W' v, Qs i W v → Old W W' → Qs i W' v)
    (hstep : StepsO P Q w0 n slot a0 Qs 0 (l.take n))
    (hturn : ∀ a W, Old w0 W → Fram n slot a0 a → (∀ i, i < n → Qs i W (a.eval (.tmp (slot i)))) → tailWp P Q (l.drop n) a W) :
    (Code.region id l.toArray true).wp P Q a0 w0 := by
  have hsz : l.toArray.size = l.length := by simp
  have hon : ∀ i o, l.toArray[i]? = some o → ∀ e ∈ o.after.toList, Region.binds .any e = true → e.on < i := by
    intro i o ho e he hb
    have hi : i < l.toArray.size := (Array.getElem?_eq_some_iff.1 ho).1
    have h1 := List.all_eq_true.1 hord i (by simpa using hi)
    rw [ho] at h1
    simp only [Option.map_some, Option.getD_some] at h1
    rw [Array.all_eq_true'] at h1
    have h2 := h1 e (by simpa using he)
    rw [hb] at h2
    simpa using h2
  have hdrop : ∀ k o, l.toArray[k]? = some o → l.drop k = o :: l.drop (k + 1) := fun k o ho => by
    have h1 : k < l.length := by have := (Array.getElem?_eq_some_iff.1 ho).1; omega
    rw [List.drop_eq_getElem_cons h1]
    have : l[k]? = some o := by simpa using ho
    rw [List.getElem?_eq_getElem h1] at this
    rw [Option.some.inj this]
  let I : (Nat → Bool) → Act → World → Prop := fun d a W => Done l.toArray d ∧
    (d n = false → (∀ k, n < k → d k = false) ∧ Old w0 W ∧ Fram n slot a0 a ∧ ∀ i, i < n → d i = true → Qs i W (a.eval (.tmp (slot i)))) ∧
    (d n = true → ∃ k, n < k ∧ k ≤ l.length ∧ (∀ i, i < k → d i = true) ∧ (∀ i, k ≤ i → d i = false) ∧ tailWp P Q (l.drop k) a W)
  refine wp_region_inv hm I hord ⟨(fun i h => by cases h), (fun _ => ⟨(fun k _ => rfl), Below.drew (Old.refl w0), ⟨rfl, rfl, fun _ _ => rfl⟩, (fun i _ h => by cases h)⟩), (fun h => by cases h)⟩ ?_ ?_
  · intro i o ho d a W hI hdi hd
    have hgn := List.all_eq_true.1 hg o (List.mem_of_getElem? (by simpa using ho))
    have hw : Region.wanted o (yielded l.toArray a.tmps) = true := by
      cases h : o.guard with
      | none => simp [Region.wanted, h]
      | some g => rw [h] at hgn; cases hgn
    rw [if_pos hw]
    have hi : i < l.length := by
      have := (Array.getElem?_eq_some_iff.1 ho).1
      omega
    obtain ⟨hC, hA, hB⟩ := hI
    have hC' := hC.upd ho hd
    rcases Nat.lt_trichotomy i n with h1 | h1 | h1
    · cases hdn : d n with
      | true =>
        obtain ⟨k, k1, k2, k3, k4, _⟩ := hB hdn
        have := k3 i (by omega)
        rw [this] at hdi
        cases hdi
      | false =>
        obtain ⟨hf0, g, hF, hq⟩ := hA hdn
        have key : ∀ (m : List Oper) (k : Nat), StepsO P Q w0 n slot a0 Qs k m → ∀ (j : Nat) (o : Oper), m[j]? = some o → ∀ (a : Act) (W : World), Old w0 W → Fram n slot a0 a → (∀ e ∈ o.after.toList, Region.binds .any e = true → Qs e.on W (a.eval (.tmp (slot e.on)))) → o.wp P a W (fun a' W' => ∃ v, a' = a.put (some (slot (k + j))) v ∧ Old W W' ∧ Qs (k + j) W' v) Q := by
          intro m
          induction m with
          | nil => intro k _ j o h; simp at h
          | cons x m ih =>
            intro k hs j o hj
            cases j with
            | zero =>
              simp at hj
              subst hj
              exact hs.1
            | succ j =>
              have := ih (k + 1) hs.2 j o (by simpa using hj)
              rw [show k + 1 + j = k + (j + 1) by omega] at this
              exact this
        have hst := key (l.take n) 0 hstep i o (by rw [List.getElem?_take, if_pos h1]; simpa using ho) a W g hF (fun e he hb => hq e.on (by have := hon i o ho e he hb; omega) (hd e he hb))
        rw [Nat.zero_add] at hst
        refine Oper.wp_mono ?_ hst
        rintro a' W' ⟨v, rfl, g', hv⟩
        refine ⟨hC', (fun _ => ⟨(fun k hk => by rw [upd_other d (by omega)]; exact hf0 k hk), Old.trans g g', ⟨by simp [Act.put, hF.size], by simp [Act.put, hF.defers], fun s hs => by rw [eval_put_other _ _ _ _ (hs i h1)]; exact hF.same s hs⟩, (fun j hj hdj => ?_)⟩), (fun h => by rw [upd_other d (by omega), hdn] at h; cases h)⟩
        by_cases hji : j = i
        · subst hji
          rw [eval_put_same _ _ _ (by rw [hF.size]; exact hslot j h1)]
          exact hv
        · rw [eval_put_other _ _ _ _ (fun e => hji (hinj i j h1 hj e).symm)]
          rw [upd_other d hji] at hdj
          exact hQ j W W' _ (hq j hj hdj) g'
    · subst h1
      obtain ⟨hf0, g, hF, hq⟩ := hA hdi
      have hpre : ∀ j, j < i → d j = true := fun j hj => by
        have h2 := List.all_eq_true.1 hall j (by simpa using hj)
        exact closS_done hC i _ (fun s hs => by
          obtain ⟨e, e1, e2, e3⟩ := (mem_depsO ho s).1 hs
          rw [← e3]
          exact hd e e1 e2) j (by simpa using h2)
      have ht := hturn a W g hF (fun j hj => hq j hj (hpre j hj))
      rw [hdrop i o ho] at ht
      refine Oper.wp_mono ?_ ht
      intro a' W' hv
      refine ⟨hC', (fun h => by rw [upd_same] at h; cases h), (fun _ => ⟨i + 1, by omega, by omega, (fun j hj => ?_), (fun j hj => ?_), hv⟩)⟩
      · by_cases hji : j = i
        · subst hji; exact upd_same d j
        · rw [upd_other d hji]; exact hpre j (by omega)
      · rw [upd_other d (by omega)]; exact hf0 j (by omega)
    · have hprev : d (i - 1) = true := by
        have h2 := List.all_eq_true.1 hch i (by simpa using hi)
        rw [Bool.or_eq_true] at h2
        rcases h2 with h2 | h2
        · have := of_decide_eq_true h2; omega
        · obtain ⟨e, e1, e2, e3⟩ := (mem_depsO ho (i - 1)).1 (by simpa using h2)
          rw [← e3]
          exact hd e e1 e2
      have hdn : d n = true := by
        cases hdn : d n with
        | true => rfl
        | false =>
          rcases Nat.lt_or_ge n (i - 1) with h3 | h3
          · have := (hA hdn).1 (i - 1) h3
            rw [this] at hprev
            cases hprev
          · have : i - 1 = n := by omega
            rw [this, hdn] at hprev
            cases hprev
      obtain ⟨k, k1, k2, k3, k4, k5⟩ := hB hdn
      have hik : i = k := by
        rcases Nat.lt_trichotomy i k with h3 | h3 | h3
        · have := k3 i h3
          rw [this] at hdi
          cases hdi
        · exact h3
        · have := k4 (i - 1) (by omega)
          rw [this] at hprev
          cases hprev
      subst hik
      rw [hdrop i o ho] at k5
      refine Oper.wp_mono ?_ k5
      intro a' W' hv
      refine ⟨hC', (fun h => by rw [upd_other d (by omega), hdn] at h; cases h), (fun _ => ⟨i + 1, by omega, by omega, (fun j hj => ?_), (fun j hj => ?_), hv⟩)⟩
      · by_cases hji : j = i
        · subst hji; exact upd_same d j
        · rw [upd_other d hji]; exact k3 j (by omega)
      · rw [upd_other d (by omega)]; exact k4 j (by omega)
  · intro d a W hd hI
    obtain ⟨_, _, hB⟩ := hI
    obtain ⟨k, k1, k2, k3, k4, k5⟩ := hB (hd n (by omega))
    have hk : k = l.length := by
      rcases Nat.lt_or_ge k l.length with h | h
      · have h1 := k4 k (Nat.le_refl _)
        rw [hd k (by omega)] at h1
        cases h1
      · omega
    rw [hk, List.drop_length] at k5
    exact k5
end Go.Proofs.YtfcdfielbpdloaaDoor
/- Proved: a call of a function of the program as one step of a region that draws its order. -/
namespace Go.Proofs.YtfcdfielbpdloaaDoor
open Go.ChangeShapes Go.WideShapes Go.ChangeAt Go.RowKit
set_option linter.unusedVariables false
theorem step_call {P : Program} {ops : Array Oper} {o : Oper} {a : Act} {W : World} {K : Act → World → Prop} {Q : Exit → Act → World → Prop} {E : Prop} {f : FuncId} {args : Array Operand} {tys : Array TypeId} {R : Ending → World → Prop} (vs : Array Value) (hgd : o.guard = none) (hop : o.op = .call { callee := .value (.func f), args := args, argTypes := tys })
    (hc : ∀ (vs : Array Value) (w : World), Sem.run P (callFunc f vs) w = .ok (.enter f vs) w) (hC : Calls P f vs W R) (hv : args.map a.eval = vs) (S : Value → World → Prop) (hR : ∀ e w', R e w' → ∃ v, e = .returned v ∧ S v w') (hK : ∀ v w', S v w' → K (a.put o.dst v) w') :
    if Region.wanted o (yielded ops a.tmps) = true then Oper.wp P o a W K Q else E := by
  have hw : Region.wanted o (yielded ops a.tmps) = true := by simp [Region.wanted, hgd]
  rw [if_pos hw]
  cases o with
  | mk d op ty pos af g =>
    simp only at hgd hop
    subst hgd hop
    exact op_call_ret hc hv (hC.mono hR) hK
end Go.Proofs.YtfcdfielbpdloaaDoor
