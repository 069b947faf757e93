/- Proved: a region that draws its order and ends in one operation that waits for all others; and a frame told by its slots; no function of the program. -/
import Derived.Test.YtfgooclnohnkmaaGreatDoorRegO
namespace Go.Proofs.YtfgooclnohnkmaaGreatDoor
open Go.ChangeShapes Go.WideShapes Go.ChangeAt Go.RowKit
set_option linter.unusedSimpArgs false
set_option linter.unusedVariables false
theorem getKey_map (slot : Nat → Nat) (us : Nat → Value) (s : Nat) : ∀ (l : List Nat), (∀ i j, i ∈ l → j ∈ l → slot i = slot j → i = j) → (∀ i, i ∈ l → slot i = s → getKey (l.map fun i => (slot i, us i)) s = some (us i)) ∧ ((∀ i, i ∈ l → slot i ≠ s) → getKey (l.map fun i => (slot i, us i)) s = none)
  | [], _ => ⟨fun i h => by simp at h, fun _ => rfl⟩
  | x :: l, hinj => by
    obtain ⟨h1, h2⟩ := getKey_map slot us s l (fun i j hi hj => hinj i j (by simp [hi]) (by simp [hj]))
    refine ⟨fun i hi hs => ?_, fun h => ?_⟩
    · show (if slot x = s then some (us x) else getKey (l.map fun i => (slot i, us i)) s) = _
      by_cases hx : slot x = s
      · rw [if_pos hx]
        have : i = x := hinj i x hi (by simp) (hs.trans hx.symm)
        rw [this]
      · rw [if_neg hx]
        rcases List.mem_cons.1 hi with h3 | h3
        · subst h3; exact absurd hs hx
        · exact h1 i h3 hs
    · show (if slot x = s then some (us x) else getKey (l.map fun i => (slot i, us i)) s) = none
      rw [if_neg (h x (by simp))]
      exact h2 (fun i hi => h i (by simp [hi]))
theorem act_ext {a b : Act} (hs : a.tmps.size = b.tmps.size) (hd : a.defers = b.defers) (h : ∀ s, s < a.tmps.size → a.eval (.tmp s) = b.eval (.tmp s)) : a = b := by
  cases a with
  | mk ta da =>
    cases b with
    | mk tb db =>
      simp only at hs hd h
      subst hd
      congr 1
      apply Array.ext hs
      intro i h1 h2
      have := h i h1
      simpa [Act.eval, Array.getD, h1, h2] using this
theorem putAll_defers (a : Act) : ∀ l, (putAll a l).defers = a.defers
  | [] => rfl
  | (t, u) :: l => by simp [putAll, Act.put, putAll_defers a l]
/-- a frame that differs in some slots alone is the old one with those written anew -/
theorem fram_put {n : Nat} {slot : Nat → Nat} {a0 a : Act} (hF : Fram n slot a0 a) (hinj : ∀ i j, i < n → j < n → slot i = slot j → i = j) : a = putAll a0 ((List.range n).map fun i => (slot i, a.eval (.tmp (slot i)))) := by
  refine act_ext (by rw [putAll_size]; exact hF.size) (by rw [putAll_defers]; exact hF.defers) (fun s hs => ?_)
  rw [eval_putAll a0 s (by rw [← hF.size]; exact hs)]
  obtain ⟨h1, h2⟩ := getKey_map slot (fun i => a.eval (.tmp (slot i))) s (List.range n) (fun i j hi hj => hinj i j (by simpa using hi) (by simpa using hj))
  by_cases hx : ∃ i, i < n ∧ slot i = s
  · obtain ⟨i, hi, rfl⟩ := hx
    rw [h1 i (by simpa using hi) rfl]
    rfl
  · have hn : ∀ i, i < n → slot i ≠ s := fun i hi e => hx ⟨i, hi, e⟩
    rw [h2 (fun i hi => hn i (by simpa using hi))]
    exact hF.same s hn
theorem wp_region_last {P : Program} {id : Nat} {pre : List Oper} {st : Oper} {Q : Exit → Act → World → Prop} {a0 : Act} {w0 : World} (hm : P.follows .mixedOrders = true)
    (hord : (List.range (pre ++ [st]).toArray.size).all (fun i => (((pre ++ [st]).toArray[i]?).map (fun o => o.after.all fun e => !Region.binds .any e || decide (e.on < i))).getD true) = true)
    (hg : (pre ++ [st]).all (fun o => o.guard.isNone) = true)
    (hlast : (List.range pre.length).all (fun i => st.after.any fun e => Region.binds .any e && decide (e.on = i)) = true)
    (slot : Nat → Nat) (hslot : ∀ i, i < pre.length → slot i < a0.tmps.size) (hinj : ∀ i j, i < pre.length → j < pre.length → slot i = slot j → i = j)
    (Qs : Nat → World → Value → Prop) (hQ : ∀ i W W' v, Qs i W v → Old W W' → Qs i W' v)
    (hstep : StepsO P Q w0 pre.length slot a0 Qs 0 pre)
    (hdone : ∀ a W, Old w0 W → Fram pre.length slot a0 a → (∀ i, i < pre.length → Qs i W (a.eval (.tmp (slot i)))) → st.wp P a W (fun a' W' => Q .normal a' W') Q) :
    (Code.region id (pre ++ [st]).toArray true).wp P Q a0 w0 := by
  have hsz : (pre ++ [st]).toArray.size = pre.length + 1 := by simp
  have hon : ∀ i o, (pre ++ [st]).toArray[i]? = some o → ∀ e ∈ o.after.toList, Region.binds .any e = true → e.on < i := by
    intro i o ho e he hb
    have hi : i < (pre ++ [st]).toArray.size := (Array.getElem?_eq_some_iff.1 ho).1
    have h1 := List.all_eq_true.1 hord i (by simpa using hi)
    rw [ho] at h1
    simp only [Option.map_some, Option.getD_some] at h1
    rw [Array.all_eq_true'] at h1
    have h2 := h1 e (by simpa using he)
    rw [hb] at h2
    simpa using h2
  have hdep : ∀ i, i < pre.length → ∃ e ∈ st.after.toList, Region.binds .any e = true ∧ e.on = i := by
    intro i hi
    have h1 := List.all_eq_true.1 hlast i (by simpa using hi)
    rw [Array.any_eq_true'] at h1
    obtain ⟨e, he, h2⟩ := h1
    rw [Bool.and_eq_true] at h2
    exact ⟨e, by simpa using he, h2.1, of_decide_eq_true h2.2⟩
  let I : (Nat → Bool) → Act → World → Prop := fun d a W => (d pre.length = true → (∀ i, i < pre.length → d i = true) ∧ Q .normal a W) ∧ (d pre.length = false → Old w0 W ∧ Fram pre.length slot a0 a ∧ ∀ i, i < pre.length → d i = true → Qs i W (a.eval (.tmp (slot i))))
  refine wp_region_steps I hm hord hg ⟨(fun h => by cases h), (fun _ => ⟨Below.drew (Old.refl w0), ⟨rfl, rfl, fun _ _ => rfl⟩, (fun i _ h => by cases h)⟩)⟩ ?_ (fun d a W hd h => (h.1 (hd _ (by rw [hsz]; omega))).2)
  have key : ∀ (l : List Oper) (k : Nat), (∀ j, (l ++ [st])[j]? = (pre ++ [st]).toArray[k + j]?) → k + l.length = pre.length → StepsO P Q w0 pre.length slot a0 Qs k l → Steps P Q I k (l ++ [st]) := by
    intro l
    induction l with
    | nil =>
      intro k hk hkl _
      refine ⟨?_, trivial⟩
      have hkp : k = pre.length := by simpa using hkl
      subst hkp
      rintro d a W ⟨_, hI⟩ hdk hd
      obtain ⟨g, hF, hq⟩ := hI hdk
      have hall : ∀ i, i < pre.length → d i = true := fun i hi => by
        obtain ⟨e, he, hb, hon⟩ := hdep i hi
        rw [← hon]
        exact hd e he hb
      refine Oper.wp_mono ?_ (hdone a W g hF (fun i hi => hq i hi (hall i hi)))
      intro a' W' h
      refine ⟨fun _ => ⟨fun i hi => ?_, h⟩, fun hf => ?_⟩
      · rw [upd_other d (by omega)]
        exact hall i hi
      · rw [upd_same] at hf
        cases hf
    | cons o l ih =>
      intro k hk hkl hs
      have hklt : k < pre.length := by simp at hkl; omega
      refine ⟨?_, ih (k + 1) (fun j => by have := hk (j + 1); simpa [Nat.add_assoc, Nat.add_comm 1 j] using this) (by simp at hkl; omega) hs.2⟩
      have ho : (pre ++ [st]).toArray[k]? = some o := by simpa using (hk 0).symm
      rintro d a W ⟨hT, hI⟩ hdk hd
      cases hl : d pre.length with
      | true =>
        have := (hT hl).1 k hklt
        rw [this] at hdk
        cases hdk
      | false =>
        obtain ⟨g, hF, hq⟩ := hI hl
        refine Oper.wp_mono ?_ (hs.1 a W g hF (fun e he hb => hq e.on (by have := hon k o ho e he hb; omega) (hd e he hb)))
        rintro a' W' ⟨v, rfl, g', hv⟩
        refine ⟨fun h => ?_, fun _ => ⟨Old.trans g g', ⟨by simp [Act.put, hF.size], by simp [Act.put, hF.defers], fun s hs => ?_⟩, fun i hi hdi => ?_⟩⟩
        · rw [upd_other d (by omega), hl] at h
          cases h
        · rw [eval_put_other _ _ _ _ (hs k hklt)]
          exact hF.same s hs
        · by_cases hik : i = k
          · subst hik
            rw [eval_put_same _ _ _ (by rw [hF.size]; exact hslot i hi)]
            exact hv
          · rw [eval_put_other _ _ _ _ (fun e => hik (hinj k i hklt hi e).symm)]
            rw [upd_other d hik] at hdi
            exact hQ i W W' _ (hq i hi hdi) g'
  exact key pre 0 (by simp) (by simp) hstep
theorem wp_region_end {P : Program} {id : Nat} {l : List Oper} {st : Oper} {Q : Exit → Act → World → Prop} {a0 : Act} {w0 : World} (n : Nat) (hl : l = l.dropLast ++ [st]) (hn : l.dropLast.length = n) (hm : P.follows .mixedOrders = true)
    (hord : (List.range l.toArray.size).all (fun i => ((l.toArray[i]?).map (fun o => o.after.all fun e => !Region.binds .any e || decide (e.on < i))).getD true) = true)
    (hg : l.all (fun o => o.guard.isNone) = true)
    (hlast : (List.range n).all (fun i => st.after.any fun e => Region.binds .any e && decide (e.on = i)) = true)
    (slot : Nat → Nat) (hslot : ∀ i, i < n → slot i < a0.tmps.size) (hinj : ∀ i j, i < n → j < n → slot i = slot j → i = j)
    (Qs : Nat → World → Value → Prop) (hQ : ∀ i W W' v, Qs i W v → Old W W' → Qs i W' v)
    (hstep : StepsO P Q w0 n slot a0 Qs 0 l.dropLast)
    (hdone : ∀ a W, Old w0 W → Fram n slot a0 a → (∀ i, i < n → Qs i W (a.eval (.tmp (slot i)))) → st.wp P a W (fun a' W' => Q .normal a' W') Q) :
    (Code.region id l.toArray true).wp P Q a0 w0 := by
  subst hn
  generalize l.dropLast = pre at *
  subst hl
  exact wp_region_last hm hord hg hlast slot hslot hinj Qs hQ hstep hdone
end Go.Proofs.YtfgooclnohnkmaaGreatDoor
