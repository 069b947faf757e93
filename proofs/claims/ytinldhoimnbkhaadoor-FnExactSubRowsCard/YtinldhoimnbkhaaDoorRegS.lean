/- Proved: a region that draws its order, of which the last but one operation (a store) waits for all ahead of it, and the last one for that; no function of the program. -/
import Derived.Test.YtinldhoimnbkhaaDoorDb12
namespace Go.Proofs.YtinldhoimnbkhaaDoor
open Go.ChangeShapes Go.WideShapes Go.ChangeAt Go.RowKit
set_option linter.unusedSimpArgs false
set_option linter.unusedVariables false
theorem wp_region_stas {P : Program} {id : Nat} {l : List Oper} {Q : Exit → Act → World → Prop} {a0 : Act} {w0 : World} (n : Nat) {t f : Oper} (hn : l.length = n + 2) (ht : l[n]? = some t) (hf : l[n + 1]? = some f) (hm : P.follows .mixedOrders = true)
    (hord : (List.range l.toArray.size).all (fun i => ((l.toArray[i]?).map (fun o => o.after.all fun e => !Region.binds .any e || decide (e.on < i))).getD true) = true)
    (hg : l.all (fun o => o.guard.isNone) = true)
    (hall : (List.range n).all (fun i => (closS l.toArray n n (depsO l.toArray n)).contains i) = true)
    (hft : (depsO l.toArray (n + 1)).contains n = true)
    (slot : Nat → Nat) (hslot : ∀ i, i < n → slot i < a0.tmps.size) (hinj : ∀ i j, i < n → j < n → slot i = slot j → i = j)
    (Qs : Nat → World → Value → Prop) (hQ : ∀ i W W' v, Qs i W v → Old W W' → Qs i W' v)
    (hstep : StepsO P Q w0 n slot a0 Qs 0 (l.take n))
    (hturn : ∀ a W, Old w0 W → Fram n slot a0 a → (∀ i, i < n → Qs i W (a.eval (.tmp (slot i)))) → t.wp P a W (fun a' W' => f.wp P a' W' (fun a2 W2 => Q .normal a2 W2) Q) Q) :
    (Code.region id l.toArray true).wp P Q a0 w0 := by
  have hsz : l.toArray.size = n + 2 := by simpa using hn
  have hon : ∀ i o, l.toArray[i]? = some o → ∀ e ∈ o.after.toList, Region.binds .any e = true → e.on < i := by
    intro i o ho e he hb
    have hi : i < l.toArray.size := (Array.getElem?_eq_some_iff.1 ho).1
    have h1 := List.all_eq_true.1 hord i (by simpa using hi)
    rw [ho] at h1
    simp only [Option.map_some, Option.getD_some] at h1
    rw [Array.all_eq_true'] at h1
    have h2 := h1 e (by simpa using he)
    rw [hb] at h2
    simpa using h2
  let I : (Nat → Bool) → Act → World → Prop := fun d a W => Done l.toArray d ∧
    (d n = false → d (n + 1) = false ∧ Old w0 W ∧ Fram n slot a0 a ∧ ∀ i, i < n → d i = true → Qs i W (a.eval (.tmp (slot i)))) ∧
    (d n = true → (∀ i, i < n → d i = true) ∧ (d (n + 1) = false → f.wp P a W (fun a2 W2 => Q .normal a2 W2) Q) ∧ (d (n + 1) = true → Q .normal a W))
  refine wp_region_inv hm I hord ⟨(fun i h => by cases h), (fun _ => ⟨rfl, Below.drew (Old.refl w0), ⟨rfl, rfl, fun _ _ => rfl⟩, (fun i _ h => by cases h)⟩), (fun h => by cases h)⟩ ?_ ?_
  · intro i o ho d a W hI hdi hd
    have hgn := List.all_eq_true.1 hg o (List.mem_of_getElem? (by simpa using ho))
    have hw : Region.wanted o (yielded l.toArray a.tmps) = true := by
      cases h : o.guard with
      | none => simp [Region.wanted, h]
      | some g => rw [h] at hgn; cases hgn
    rw [if_pos hw]
    have hi : i < n + 2 := by
      have := (Array.getElem?_eq_some_iff.1 ho).1
      omega
    obtain ⟨hC, hA, hB⟩ := hI
    have hC' := hC.upd ho hd
    rcases Nat.lt_trichotomy i n with h1 | h1 | h1
    · cases hdn : d n with
      | true =>
        have := (hB hdn).1 i h1
        rw [this] at hdi
        cases hdi
      | false =>
        obtain ⟨hf0, g, hF, hq⟩ := hA hdn
        have key : ∀ (m : List Oper) (k : Nat), StepsO P Q w0 n slot a0 Qs k m → ∀ (j : Nat) (o : Oper), m[j]? = some o → ∀ (a : Act) (W : World), Old w0 W → Fram n slot a0 a → (∀ e ∈ o.after.toList, Region.binds .any e = true → Qs e.on W (a.eval (.tmp (slot e.on)))) → o.wp P a W (fun a' W' => ∃ v, a' = a.put (some (slot (k + j))) v ∧ Old W W' ∧ Qs (k + j) W' v) Q := by
          intro m
          induction m with
          | nil => intro k _ j o h; simp at h
          | cons x m ih =>
            intro k hs j o hj
            cases j with
            | zero =>
              simp at hj
              subst hj
              exact hs.1
            | succ j =>
              have := ih (k + 1) hs.2 j o (by simpa using hj)
              rw [show k + 1 + j = k + (j + 1) by omega] at this
              exact this
        have hst := key (l.take n) 0 hstep i o (by rw [List.getElem?_take, if_pos h1]; simpa using ho) a W g hF (fun e he hb => hq e.on (by have := hon i o ho e he hb; omega) (hd e he hb))
        rw [Nat.zero_add] at hst
        refine Oper.wp_mono ?_ hst
        rintro a' W' ⟨v, rfl, g', hv⟩
        refine ⟨hC', (fun _ => ⟨(by rw [upd_other d (by omega)]; exact hf0), Old.trans g g', ⟨by simp [Act.put, hF.size], by simp [Act.put, hF.defers], fun s hs => by rw [eval_put_other _ _ _ _ (hs i h1)]; exact hF.same s hs⟩, (fun j hj hdj => ?_)⟩), (fun h => by rw [upd_other d (by omega), hdn] at h; cases h)⟩
        by_cases hji : j = i
        · subst hji
          rw [eval_put_same _ _ _ (by rw [hF.size]; exact hslot j h1)]
          exact hv
        · rw [eval_put_other _ _ _ _ (fun e => hji (hinj i j h1 hj e).symm)]
          rw [upd_other d hji] at hdj
          exact hQ j W W' _ (hq j hj hdj) g'
    · subst h1
      have hot : o = t := by
        have : l[i]? = some o := by simpa using ho
        rw [ht] at this
        exact (Option.some.inj this).symm
      subst hot
      obtain ⟨hf0, g, hF, hq⟩ := hA hdi
      have hpre : ∀ j, j < i → d j = true := fun j hj => by
        have h2 := List.all_eq_true.1 hall j (by simpa using hj)
        exact closS_done hC i _ (fun s hs => by
          obtain ⟨e, e1, e2, e3⟩ := (mem_depsO ho s).1 hs
          rw [← e3]
          exact hd e e1 e2) j (by simpa using h2)
      refine Oper.wp_mono ?_ (hturn a W g hF (fun j hj => hq j hj (hpre j hj)))
      intro a' W' hv
      refine ⟨hC', (fun h => by rw [upd_same] at h; cases h), (fun _ => ⟨(fun j hj => by rw [upd_other d (by omega)]; exact hpre j hj), (fun _ => hv), (fun h => ?_)⟩)⟩
      rw [upd_other d (by omega), hf0] at h
      cases h
    · obtain rfl : i = n + 1 := by omega
      have hof : o = f := by
        have : l[n + 1]? = some o := by simpa using ho
        rw [hf] at this
        exact (Option.some.inj this).symm
      subst hof
      have hdn : d n = true := by
        obtain ⟨e, e1, e2, e3⟩ := (mem_depsO ho n).1 (by simpa using hft)
        rw [← e3]
        exact hd e e1 e2
      obtain ⟨b1, b2, _⟩ := hB hdn
      refine Oper.wp_mono ?_ (b2 hdi)
      intro a' W' hv
      exact ⟨hC', (fun h => by rw [upd_other d (by omega), hdn] at h; cases h), (fun _ => ⟨(fun j hj => by rw [upd_other d (by omega)]; exact b1 j hj), (fun h => by rw [upd_same] at h; cases h), (fun _ => hv)⟩)⟩
  · intro d a W hd hI
    obtain ⟨_, _, hB⟩ := hI
    exact (hB (hd n (by omega))).2.2 (hd (n + 1) (by omega))
end Go.Proofs.YtinldhoimnbkhaaDoor
