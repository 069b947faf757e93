/- Proved: several texts in one: what each proves is said ahead of it. -/
import Derived.Test.YtpebikjckhcgfaaDoorZ04
/- Proved: a region that draws its order and stores twice: the second store is its last operation, the first one waits for the calls; all else is told by its value; no function of the program. -/
namespace Go.Proofs.YtpebikjckhcgfaaDoor
open Go.ChangeShapes Go.WideShapes Go.ChangeAt Go.RowKit
set_option linter.unusedSimpArgs false
set_option linter.unusedVariables false
/-- the world that an operation may meet -/
def okU (w0 : World) (S1 : World → World) (calls : List Nat) (i : Nat) (W : World) : Prop := Old w0 W ∨ (calls.contains i = false ∧ ∃ W0, Old w0 W0 ∧ W = S1 W0)
def relU (calls : List Nat) (i : Nat) (W W' : World) : Prop := if calls.contains i then Old W W' else W' = W
/-- each operation but the stores leaves its value in its slot -/
def StepsU (P : Program) (Q : Exit → Act → World → Prop) (w0 : World) (S1 : World → World) (calls : List Nat) (s1 n : Nat) (slot : Nat → Nat) (a0 : Act) (vals : Nat → Value) : Nat → List Oper → Prop
  | _, [] => True
  | i, o :: os => (i = s1 ∨ ∀ a W, okU w0 S1 calls i W → Fram n slot a0 a → (∀ e ∈ o.after.toList, Region.binds .any e = true → e.on ≠ s1 → a.eval (.tmp (slot e.on)) = vals e.on) → o.wp P a W (fun a' W' => a' = a.put (some (slot i)) (vals i) ∧ relU calls i W W') Q) ∧ StepsU P Q w0 S1 calls s1 n slot a0 vals (i + 1) os
theorem wp_region_sts {P : Program} {id : Nat} {l : List Oper} {Q : Exit → Act → World → Prop} {a0 : Act} {w0 : World} (n s1 : Nat) {t f : Oper} (hn : l.length = n + 1) (h1n : s1 < n) (ht : l[s1]? = some t) (hf : l[n]? = some f) (hm : P.follows .mixedOrders = true)
    (hord : (List.range l.toArray.size).all (fun i => ((l.toArray[i]?).map (fun o => o.after.all fun e => !Region.binds .any e || decide (e.on < i))).getD true) = true)
    (hg : l.all (fun o => o.guard.isNone) = true)
    (calls : List Nat) (hcl : calls.all (fun i => (closS l.toArray n n (depsO l.toArray s1)).contains i) = true)
    (hall : (List.range n).all (fun i => (closS l.toArray n n (depsO l.toArray n)).contains i) = true)
    (slot : Nat → Nat) (hslot : ∀ i, i < n → slot i < a0.tmps.size) (hinj : ∀ i j, i < n → j < n → slot i = slot j → i = j)
    (vals : Nat → Value) (S1 S2 : World → World) (hd0 : Old w0 { w0 with drawn := w0.drawn + 1 })
    (hstep : StepsU P Q w0 S1 calls s1 n slot a0 vals 0 (l.take n))
    (hst1 : ∀ a W, Old w0 W → Fram n slot a0 a → (∀ e ∈ t.after.toList, Region.binds .any e = true → a.eval (.tmp (slot e.on)) = vals e.on) → t.wp P a W (fun a' W' => a' = a ∧ W' = S1 W) Q)
    (hst2 : ∀ a W, Old w0 W → Fram n slot a0 a → (∀ i, i < n → i ≠ s1 → a.eval (.tmp (slot i)) = vals i) → f.wp P a (S1 W) (fun a' W' => Q .normal a' W') Q) :
    (Code.region id l.toArray true).wp P Q a0 w0 := by
  have hsz : l.toArray.size = n + 1 := by simpa using hn
  have hon : ∀ i o, l.toArray[i]? = some o → ∀ e ∈ o.after.toList, Region.binds .any e = true → e.on < i := by
    intro i o ho e he hb
    have hi : i < l.toArray.size := (Array.getElem?_eq_some_iff.1 ho).1
    have h1 := List.all_eq_true.1 hord i (by simpa using hi)
    rw [ho] at h1
    simp only [Option.map_some, Option.getD_some] at h1
    rw [Array.all_eq_true'] at h1
    have h2 := h1 e (by simpa using he)
    rw [hb] at h2
    simpa using h2
  let I : (Nat → Bool) → Act → World → Prop := fun d a W => Done l.toArray d ∧
    (d n = false → (d s1 = false → Old w0 W) ∧ (d s1 = true → ∃ W0, Old w0 W0 ∧ W = S1 W0) ∧ Fram n slot a0 a ∧ ∀ i, i < n → i ≠ s1 → d i = true → a.eval (.tmp (slot i)) = vals i) ∧
    (d n = true → (∀ i, i < n → d i = true) ∧ Q .normal a W)
  refine wp_region_inv hm I hord ⟨(fun i h => by cases h), (fun _ => ⟨(fun _ => hd0), (fun h => by cases h), ⟨rfl, rfl, fun _ _ => rfl⟩, (fun i _ _ h => by cases h)⟩), (fun h => by cases h)⟩ ?_ ?_
  · intro i o ho d a W hI hdi hd
    have hgn := List.all_eq_true.1 hg o (List.mem_of_getElem? (by simpa using ho))
    have hw : Region.wanted o (yielded l.toArray a.tmps) = true := by
      cases h : o.guard with
      | none => simp [Region.wanted, h]
      | some g => rw [h] at hgn; cases hgn
    rw [if_pos hw]
    have hi : i < n + 1 := by
      have := (Array.getElem?_eq_some_iff.1 ho).1
      omega
    obtain ⟨hC, hA, hB⟩ := hI
    have hC' := hC.upd ho hd
    rcases Nat.lt_or_ge i n with h1 | h1
    · cases hdn : d n with
      | true =>
        have := (hB hdn).1 i h1
        rw [this] at hdi
        cases hdi
      | false =>
        obtain ⟨hW0, hW1, hF, hq⟩ := hA hdn
        by_cases his : i = s1
        · subst his
          have hot : o = t := by
            have : l[i]? = some o := by simpa using ho
            rw [ht] at this
            exact (Option.some.inj this).symm
          subst hot
          refine Oper.wp_mono ?_ (hst1 a W (hW0 hdi) hF (fun e he hb => hq e.on (by have := hon i o ho e he hb; omega) (by have := hon i o ho e he hb; omega) (hd e he hb)))
          rintro a' W' ⟨rfl, rfl⟩
          refine ⟨hC', (fun _ => ⟨(fun h => by rw [upd_same] at h; cases h), (fun _ => ⟨W, hW0 hdi, rfl⟩), hF, (fun j hj hji hdj => ?_)⟩), (fun h => by rw [upd_other d (by omega), hdn] at h; cases h)⟩
          rw [upd_other d hji] at hdj
          exact hq j hj hji hdj
        · have key : ∀ (m : List Oper) (k : Nat), StepsU P Q w0 S1 calls s1 n slot a0 vals k m → ∀ (j : Nat) (o : Oper), m[j]? = some o → k + j ≠ s1 → ∀ a W, okU w0 S1 calls (k + j) W → Fram n slot a0 a → (∀ e ∈ o.after.toList, Region.binds .any e = true → e.on ≠ s1 → a.eval (.tmp (slot e.on)) = vals e.on) → o.wp P a W (fun a' W' => a' = a.put (some (slot (k + j))) (vals (k + j)) ∧ relU calls (k + j) W W') Q := by
            intro m
            induction m with
            | nil => intro k _ j o h; simp at h
            | cons x m ih =>
              intro k hs j o hj hne
              cases j with
              | zero =>
                simp at hj
                subst hj
                rcases hs.1 with h | h
                · exact absurd h hne
                · exact h
              | succ j =>
                have := ih (k + 1) hs.2 j o (by simpa using hj)
                rw [show k + 1 + j = k + (j + 1) by omega] at this
                exact this hne
          have hok : okU w0 S1 calls i W := by
            cases hd1 : d s1 with
            | false => exact Or.inl (hW0 hd1)
            | true =>
              refine Or.inr ⟨?_, hW1 hd1⟩
              cases hci : calls.contains i with
              | false => rfl
              | true =>
                exfalso
                have h2 := List.all_eq_true.1 hcl i (by simpa using hci)
                have h3 := closS_done (n := n) hC n (depsO l.toArray s1) (fun s hs => hC s1 hd1 s hs) i (by simpa using h2)
                rw [h3] at hdi
                cases hdi
          have hst := key (l.take n) 0 hstep i o (by rw [List.getElem?_take, if_pos h1]; simpa using ho) (by omega) a W (by rw [Nat.zero_add]; exact hok) hF (fun e he hb hes => hq e.on (by have := hon i o ho e he hb; omega) hes (hd e he hb))
          rw [Nat.zero_add] at hst
          refine Oper.wp_mono ?_ hst
          rintro a' W' ⟨rfl, hr⟩
          refine ⟨hC', (fun _ => ⟨(fun h => ?_), (fun h => ?_), ⟨by simp [Act.put, hF.size], by simp [Act.put, hF.defers], fun s hs => by rw [eval_put_other _ _ _ _ (hs i h1)]; exact hF.same s hs⟩, (fun j hj hjs hdj => ?_)⟩), (fun h => by rw [upd_other d (by omega), hdn] at h; cases h)⟩
          · rw [upd_other d (fun e => his e.symm)] at h
            unfold relU at hr
            split at hr
            · exact Old.trans (hW0 h) hr
            · rw [hr]; exact hW0 h
          · rw [upd_other d (fun e => his e.symm)] at h
            unfold relU at hr
            split at hr
            · rename_i hci
              rcases hok with hok | ⟨hok, _⟩
              · exfalso
                have h2 := List.all_eq_true.1 hcl i (by simpa using hci)
                have h3 := closS_done (n := n) hC n (depsO l.toArray s1) (fun s hs => hC s1 h s hs) i (by simpa using h2)
                rw [h3] at hdi
                cases hdi
              · rw [hok] at hci
                cases hci
            · rw [hr]; exact hW1 h
          · by_cases hji : j = i
            · subst hji
              rw [eval_put_same _ _ _ (by rw [hF.size]; exact hslot j h1)]
            · rw [eval_put_other _ _ _ _ (fun e => hji (hinj i j h1 hj e).symm)]
              rw [upd_other d hji] at hdj
              exact hq j hj hjs hdj
    · obtain rfl : i = n := by omega
      have hof : o = f := by
        have : l[i]? = some o := by simpa using ho
        rw [hf] at this
        exact (Option.some.inj this).symm
      subst hof
      obtain ⟨hW0, hW1, hF, hq⟩ := hA hdi
      have hpre : ∀ j, j < i → d j = true := fun j hj => by
        have h2 := List.all_eq_true.1 hall j (by simpa using hj)
        exact closS_done (n := i) hC i _ (fun s hs => by
          obtain ⟨e, e1, e2, e3⟩ := (mem_depsO ho s).1 hs
          rw [← e3]
          exact hd e e1 e2) j (by simpa using h2)
      obtain ⟨W0, g0, rfl⟩ := hW1 (hpre s1 h1n)
      refine Oper.wp_mono ?_ (hst2 a W0 g0 hF (fun j hj hjs => hq j hj hjs (hpre j hj)))
      intro a' W' hv
      refine ⟨hC', (fun h => by rw [upd_same] at h; cases h), (fun _ => ⟨(fun j hj => ?_), hv⟩)⟩
      rw [upd_other d (by omega)]
      exact hpre j hj
  · intro d a W hd hI
    exact (hI.2.2 (hd n (by omega))).2
end Go.Proofs.YtpebikjckhcgfaaDoor
