/- Proved: a region that draws its order, by what holds between its operations, whatever the order; no function of the program. -/
import Derived.Orders
import Derived.Tactics2
namespace Go.Proofs.YtglbegbhekcddaaDoor
open Go
set_option linter.unusedSimpArgs false
set_option linter.unusedVariables false
theorem count_set (l : Array Bool) (i : Nat) (h : l.getD i true = false) : (l.setIfInBounds i true).toList.count false + 1 = l.toList.count false := by
  have hi : i < l.size := by
    rcases Nat.lt_or_ge i l.size with h1 | h1
    · exact h1
    · simp [Array.getD, Nat.not_lt.2 h1] at h
  have he : l[i] = false := by simpa [Array.getD, hi] using h
  rw [Array.toList_setIfInBounds, List.count_set (by simpa using hi)]
  have h0 : l.toList[i]'(by simpa using hi) = false := by simpa using he
  have hp : 0 < l.toList.count false := List.count_pos_iff.2 (by rw [← h0]; exact List.getElem_mem _)
  rw [h0]
  have e1 : (false == false) = true := rfl
  have e2 : (true == false) = false := rfl
  rw [e1, e2]
  simp only [if_true, Bool.false_eq_true, if_false]
  omega
theorem wpAny_inv {P : Program} {ops : Array Oper} {Q : Exit → Act → World → Prop} {md : Region.Mode} (I : Array Bool → Act → World → Prop)
    (hstep : ∀ l a w i, I l a w → i ∈ Region.ready md ops l → wpOp P ops Q i (I (l.setIfInBounds i true)) a w)
    (hdone : ∀ l a w, I l a w → Region.ready md ops l = [] → Q .normal a w) :
    ∀ fuel l a w, l.toList.count false ≤ fuel → I l a w → wpAny P md ops Q fuel l a w := by
  intro fuel
  have hr : ∀ (l : Array Bool) i, i ∈ Region.ready md ops l → l.getD i true = false := by
    intro l i hi
    unfold Region.ready at hi
    rw [List.mem_filter] at hi
    have := hi.2
    simp only [Bool.and_eq_true] at this
    simpa using this.1
  induction fuel with
  | zero =>
    intro l a w hc hI
    have : Region.ready md ops l = [] := by
      cases h : Region.ready md ops l with
      | nil => rfl
      | cons i t =>
        have h1 := hr l i (by rw [h]; simp)
        have := count_set l i h1
        omega
    exact ⟨this, hdone l a w hI this⟩
  | succ n ih =>
    intro l a w hc hI
    refine ⟨hdone l a w hI, fun i hi => ?_⟩
    have h1 := count_set l i (hr l i hi)
    exact wpOp_mono (fun a w h => ih _ a w (by omega) h) (hstep l a w i hI hi)
def upd (d : Nat → Bool) (i : Nat) : Nat → Bool := fun j => if j = i then true else d j
theorem upd_same (d : Nat → Bool) (i : Nat) : upd d i i = true := if_pos rfl
theorem upd_other (d : Nat → Bool) {i j : Nat} (h : j ≠ i) : upd d i j = d j := if_neg h
theorem wp_region_inv {P : Program} {id : Nat} {ops : Array Oper} {Q : Exit → Act → World → Prop} {a : Act} {w : World} (hm : P.follows .mixedOrders = true) (I : (Nat → Bool) → Act → World → Prop)
    (hord : (List.range ops.size).all (fun i => ((ops[i]?).map (fun o => o.after.all fun e => !Region.binds .any e || decide (e.on < i))).getD true) = true)
    (h0 : I (fun _ => false) a { w with drawn := w.drawn + 1 })
    (hstep : ∀ i o, ops[i]? = some o → ∀ d a w, I d a w → d i = false → (∀ e ∈ o.after.toList, Region.binds .any e = true → d e.on = true) → if Region.wanted o (yielded ops a.tmps) = true then o.wp P a w (I (upd d i)) Q else I (upd d i) (a.put o.dst undef) w)
    (hdone : ∀ d a w, (∀ i, i < ops.size → d i = true) → I d a w → Q .normal a w) :
    (Code.region id ops true).wp P Q a w := by
  refine wp_region_any hm ?_
  refine wpAny_inv (fun l a w => l.size = ops.size ∧ I (fun i => l.getD i false) a w) ?_ ?_ _ _ _ _ ?_ ⟨by simp, ?_⟩
  · rintro l a w i ⟨hl, hI⟩ hi
    unfold Region.ready at hi
    rw [List.mem_filter] at hi
    obtain ⟨hir, hi⟩ := hi
    have hlt : i < ops.size := by simpa using hir
    simp only [Bool.and_eq_true] at hi
    have ho : ops[i]? = some ops[i] := Array.getElem?_eq_getElem hlt
    have hf : l.getD i false = false := by
      have := hi.1
      simp only [Bool.not_eq_true'] at this
      simpa [Array.getD, hl, hlt] using this
    have ha := hi.2
    rw [ho] at ha
    simp only [Option.map_some, Option.getD_some] at ha
    rw [Array.all_eq_true'] at ha
    have hs := hstep i _ ho _ a w hI hf (fun e he hb => by
      have := ha e (by simpa using he)
      rw [hb] at this
      simpa using this)
    have hu : (fun j => (l.setIfInBounds i true).getD j false) = upd (fun j => l.getD j false) i := by
      funext j
      unfold upd
      by_cases hj : j = i
      · subst hj
        simp [Array.getD, hl, hlt]
      · rw [if_neg hj]
        simp only [Array.getD, Array.size_setIfInBounds]
        split
        · rename_i h
          simp [h, Ne.symm hj]
        · rfl
    unfold wpOp
    rw [ho]
    simp only
    split
    · rename_i hw
      rw [if_pos hw] at hs
      exact Or.inl (Oper.wp_mono (fun a w h => ⟨by simp [hl], by rw [hu]; exact h⟩) hs)
    · rename_i hw
      rw [if_neg hw] at hs
      exact ⟨by simp [hl], by rw [hu]; exact hs⟩
  · rintro l a w ⟨hl, hI⟩ hr
    refine hdone _ a w ?_ hI
    have key : ∀ n i, i < n → i < ops.size → l.getD i false = true := by
      intro n
      induction n with
      | zero => intro i h; omega
      | succ n ih =>
        intro i hi hlt
        cases hv : l.getD i false with
        | true => rfl
        | false =>
          exfalso
          have hmem : i ∈ Region.ready .any ops l := by
            unfold Region.ready
            rw [List.mem_filter]
            refine ⟨by simpa using hlt, ?_⟩
            have ho : ops[i]? = some ops[i] := Array.getElem?_eq_getElem hlt
            rw [ho]
            simp only [Bool.and_eq_true, Option.map_some, Option.getD_some]
            refine ⟨?_, ?_⟩
            · have : l.getD i true = false := by simpa [Array.getD, hl, hlt] using hv
              rw [this]; rfl
            · rw [Array.all_eq_true']
              intro e he
              have h1 := List.all_eq_true.1 hord i (by simpa using hlt)
              rw [ho] at h1
              simp only [Option.map_some, Option.getD_some] at h1
              rw [Array.all_eq_true'] at h1
              have h2 := h1 e he
              cases hb : Region.binds .any e with
              | false => rfl
              | true =>
                rw [hb] at h2
                have h3 : e.on < i := by simpa using h2
                rw [ih e.on (by omega) (by omega)]
                rfl
          rw [hr] at hmem
          cases hmem
    intro i hi
    exact key (i + 1) i (Nat.lt_succ_self i) hi
  · simp
  · have : (fun i => (Array.replicate ops.size false).getD i false) = fun _ => false := by
      funext i
      simp [Array.getD]
    rw [this]
    exact h0
def Steps (P : Program) (Q : Exit → Act → World → Prop) (I : (Nat → Bool) → Act → World → Prop) : Nat → List Oper → Prop
  | _, [] => True
  | i, o :: os => (∀ d a w, I d a w → d i = false → (∀ e ∈ o.after.toList, Region.binds .any e = true → d e.on = true) → o.wp P a w (I (upd d i)) Q) ∧ Steps P Q I (i + 1) os
theorem Steps.at {P : Program} {Q : Exit → Act → World → Prop} {I : (Nat → Bool) → Act → World → Prop} : ∀ (l : List Oper) (k i : Nat) (o : Oper), Steps P Q I k l → l[i]? = some o → ∀ d a w, I d a w → d (k + i) = false → (∀ e ∈ o.after.toList, Region.binds .any e = true → d e.on = true) → o.wp P a w (I (upd d (k + i))) Q
  | [], k, i, o, _, h => by simp at h
  | x :: l, k, 0, o, hs, h => by
    simp at h
    subst h
    exact hs.1
  | x :: l, k, i + 1, o, hs, h => by
    have h2 : l[i]? = some o := by simpa using h
    have := Steps.at l (k + 1) i o hs.2 h2
    rw [show k + 1 + i = k + (i + 1) by omega] at this
    exact this
theorem wp_region_steps {P : Program} {id : Nat} {ops : Array Oper} {Q : Exit → Act → World → Prop} {a : Act} {w : World} (I : (Nat → Bool) → Act → World → Prop) (hm : P.follows .mixedOrders = true)
    (hord : (List.range ops.size).all (fun i => ((ops[i]?).map (fun o => o.after.all fun e => !Region.binds .any e || decide (e.on < i))).getD true) = true)
    (hg : ops.toList.all (fun o => o.guard.isNone) = true)
    (h0 : I (fun _ => false) a { w with drawn := w.drawn + 1 })
    (hstep : Steps P Q I 0 ops.toList)
    (hdone : ∀ d a w, (∀ i, i < ops.size → d i = true) → I d a w → Q .normal a w) :
    (Code.region id ops true).wp P Q a w := by
  refine wp_region_inv hm I hord h0 ?_ hdone
  intro i o ho d a w hI hi hd
  have hl : ops.toList[i]? = some o := by simpa using ho
  have hgn := List.all_eq_true.1 hg o (List.mem_of_getElem? hl)
  have hw : Region.wanted o (yielded ops a.tmps) = true := by
    cases h : o.guard with
    | none => simp [Region.wanted, h]
    | some g => rw [h] at hgn; cases hgn
  rw [if_pos hw]
  have := Steps.at ops.toList 0 i o hstep hl d a w hI
  rw [Nat.zero_add] at this
  exact this hi hd
def putAll (a : Act) : List (Nat × Value) → Act
  | [] => a
  | (s, v) :: l => (putAll a l).put (some s) v
def getKey : List (Nat × Value) → Nat → Option Value
  | [], _ => none
  | (t, u) :: l, s => if t = s then some u else getKey l s
theorem putAll_size (a : Act) : ∀ (l : List (Nat × Value)), (putAll a l).tmps.size = a.tmps.size
  | [] => rfl
  | (t, u) :: l => by
    simp [putAll, Act.put, putAll_size a l]
theorem eval_putAll (a : Act) (s : Nat) (hs : s < a.tmps.size) : ∀ (l : List (Nat × Value)), (putAll a l).eval (.tmp s) = (getKey l s).getD (a.eval (.tmp s))
  | [] => rfl
  | (t, u) :: l => by
    unfold getKey
    by_cases hts : t = s
    · subst hts
      rw [if_pos rfl]
      have := putAll_size a l
      simp [putAll, Act.put, Act.eval, Array.getD, this, hs]
    · rw [if_neg hts, ← eval_putAll a s hs l]
      have := putAll_size a l
      simp [putAll, Act.put, Act.eval, Array.getD, this, hs, hts]
end Go.Proofs.YtglbegbhekcddaaDoor
