/- Proved: several texts in one: what each proves is said ahead of it. -/
import Derived.KernelRfl
import Derived.Deep.AppendLies
import Derived.Maps.AppendAt
import Derived.OwnWalk
import Derived.Test.YtfgooclnohnkmaaGreatDoorWo12
/- Proved: a region that draws its order, of which one operation turns what was there (an append) once all others are done, and one more hands on what it told; no function of the program. -/
namespace Go.Proofs.YtfgooclnohnkmaaGreatDoor
open Go.ChangeShapes Go.WideShapes Go.ChangeAt Go.RowKit
set_option linter.unusedSimpArgs false
set_option linter.unusedVariables false
/-- what an operation waits for -/
def depsO (ops : Array Oper) (i : Nat) : List Nat := match ops[i]? with
  | some o => (o.after.toList.filter (fun e => Region.binds .any e)).map (·.on)
  | none => []
def nextS (ops : Array Oper) (n : Nat) (S : List Nat) : List Nat := (List.range n).filter (fun i => S.contains i || S.any (fun s => (depsO ops s).contains i))
def closS (ops : Array Oper) (n : Nat) : Nat → List Nat → List Nat
  | 0, S => S
  | k + 1, S => closS ops n k (nextS ops n S)
/-- what is done has all done that it waits for -/
def Done (ops : Array Oper) (d : Nat → Bool) : Prop := ∀ i, d i = true → ∀ j ∈ depsO ops i, d j = true
theorem nextS_done {ops : Array Oper} {n : Nat} {d : Nat → Bool} (h : Done ops d) {S : List Nat} (hS : ∀ i ∈ S, d i = true) : ∀ i ∈ nextS ops n S, d i = true := by
  intro i hi
  unfold nextS at hi
  have h2 := (List.mem_filter.1 hi).2
  rw [Bool.or_eq_true] at h2
  rcases h2 with h3 | h3
  · exact hS i (by simpa using h3)
  · obtain ⟨s, hs, h4⟩ := List.any_eq_true.1 h3
    exact h s (hS s hs) i (by simpa using h4)
theorem closS_done {ops : Array Oper} {n : Nat} {d : Nat → Bool} (h : Done ops d) : ∀ k S, (∀ i ∈ S, d i = true) → ∀ i ∈ closS ops n k S, d i = true
  | 0, S, hS => hS
  | k + 1, S, hS => closS_done h k _ (nextS_done h hS)
theorem mem_depsO {ops : Array Oper} {i : Nat} {o : Oper} (ho : ops[i]? = some o) (j : Nat) : j ∈ depsO ops i ↔ ∃ e ∈ o.after.toList, Region.binds .any e = true ∧ e.on = j := by
  unfold depsO
  rw [ho]
  simp only [List.mem_map, List.mem_filter]
  constructor
  · rintro ⟨e, ⟨h1, h2⟩, h3⟩; exact ⟨e, h1, h2, h3⟩
  · rintro ⟨e, h1, h2, h3⟩; exact ⟨e, ⟨h1, h2⟩, h3⟩
theorem Done.upd {ops : Array Oper} {d : Nat → Bool} (h : Done ops d) {i : Nat} {o : Oper} (ho : ops[i]? = some o) (hd : ∀ e ∈ o.after.toList, Region.binds .any e = true → d e.on = true) : Done ops (upd d i) := by
  intro k hk j hj
  by_cases hji : j = i
  · subst hji; exact upd_same d j
  · rw [upd_other d hji]
    by_cases hki : k = i
    · subst hki
      obtain ⟨e, h1, h2, h3⟩ := (mem_depsO ho j).1 hj
      rw [← h3]
      exact hd e h1 h2
    · rw [upd_other d hki] at hk
      exact h k hk j hj
theorem wp_region_turn {P : Program} {id : Nat} {l : List Oper} {Q : Exit → Act → World → Prop} {a0 : Act} {w0 : World} (n : Nat) {t f : Oper} (hn : l.length = n + 2) (ht : l[n]? = some t) (hf : l[n + 1]? = some f) (hm : P.follows .mixedOrders = true)
    (hord : (List.range l.toArray.size).all (fun i => ((l.toArray[i]?).map (fun o => o.after.all fun e => !Region.binds .any e || decide (e.on < i))).getD true) = true)
    (hg : l.all (fun o => o.guard.isNone) = true)
    (hall : (List.range n).all (fun i => (closS l.toArray n n (depsO l.toArray n)).contains i) = true)
    (hft : (depsO l.toArray (n + 1)).contains n = true)
    (slot : Nat → Nat) (hslot : ∀ i, i < n + 2 → slot i < a0.tmps.size) (hinj : ∀ i j, i < n + 2 → j < n + 2 → slot i = slot j → i = j)
    (Qs : Nat → World → Value → Prop) (hQ : ∀ i W W' v, Qs i W v → Old W W' → Qs i W' v)
    (QT : World → Value → Prop)
    (hstep : StepsO P Q w0 (n + 1) slot a0 Qs 0 (l.take n))
    (hturn : ∀ a W, Old w0 W → Fram (n + 1) slot a0 a → (∀ i, i < n → Qs i W (a.eval (.tmp (slot i)))) → t.wp P a W (fun a' W' => ∃ v, a' = a.put (some (slot n)) v ∧ QT W' v) Q)
    (hlast : ∀ a W v, a.eval (.tmp (slot n)) = v → f.wp P a W (fun a' W' => a' = a.put (some (slot (n + 1))) v ∧ W' = W) Q)
    (hdone : ∀ a W, Fram (n + 2) slot a0 a → QT W (a.eval (.tmp (slot (n + 1)))) → Q .normal a W) :
    (Code.region id l.toArray true).wp P Q a0 w0 := by
  have hsz : l.toArray.size = n + 2 := by simpa using hn
  have hon : ∀ i o, l.toArray[i]? = some o → ∀ e ∈ o.after.toList, Region.binds .any e = true → e.on < i := by
    intro i o ho e he hb
    have hi : i < l.toArray.size := (Array.getElem?_eq_some_iff.1 ho).1
    have h1 := List.all_eq_true.1 hord i (by simpa using hi)
    rw [ho] at h1
    simp only [Option.map_some, Option.getD_some] at h1
    rw [Array.all_eq_true'] at h1
    have h2 := h1 e (by simpa using he)
    rw [hb] at h2
    simpa using h2
  let I : (Nat → Bool) → Act → World → Prop := fun d a W => Fram (n + 2) slot a0 a ∧ (d (n + 1) = false → Fram (n + 1) slot a0 a) ∧ Done l.toArray d ∧
    (d n = false → Old w0 W ∧ d (n + 1) = false ∧ ∀ i, i < n → d i = true → Qs i W (a.eval (.tmp (slot i)))) ∧
    (d n = true → (∀ i, i < n → d i = true) ∧ QT W (a.eval (.tmp (slot n))) ∧ (d (n + 1) = true → a.eval (.tmp (slot (n + 1))) = a.eval (.tmp (slot n))))
  have fput : ∀ a v i, i < n + 2 → Fram (n + 2) slot a0 a → Fram (n + 2) slot a0 (a.put (some (slot i)) v) := fun a v i hi hF =>
    ⟨by simp [Act.put, hF.size], by simp [Act.put, hF.defers], fun s hs => by rw [eval_put_other _ _ _ _ (hs i hi)]; exact hF.same s hs⟩
  have fput1 : ∀ a v i, i < n + 1 → Fram (n + 1) slot a0 a → Fram (n + 1) slot a0 (a.put (some (slot i)) v) := fun a v i hi hF =>
    ⟨by simp [Act.put, hF.size], by simp [Act.put, hF.defers], fun s hs => by rw [eval_put_other _ _ _ _ (hs i hi)]; exact hF.same s hs⟩
  refine wp_region_inv hm I hord ⟨⟨rfl, rfl, fun _ _ => rfl⟩, (fun _ => ⟨rfl, rfl, fun _ _ => rfl⟩), (fun i h => by cases h), (fun _ => ⟨Below.drew (Old.refl w0), rfl, (fun i _ h => by cases h)⟩), (fun h => by cases h)⟩ ?_ ?_
  · intro i o ho d a W hI hdi hd
    have hgn := List.all_eq_true.1 hg o (List.mem_of_getElem? (by simpa using ho))
    have hw : Region.wanted o (yielded l.toArray a.tmps) = true := by
      cases h : o.guard with
      | none => simp [Region.wanted, h]
      | some g => rw [h] at hgn; cases hgn
    rw [if_pos hw]
    have hi : i < n + 2 := by
      have := (Array.getElem?_eq_some_iff.1 ho).1
      omega
    obtain ⟨hF, hE, hC, hA, hB⟩ := hI
    have hC' := hC.upd ho hd
    rcases Nat.lt_trichotomy i n with h1 | h1 | h1
    · -- ahead of the turn
      cases hdn : d n with
      | true =>
        have := (hB hdn).1 i h1
        rw [this] at hdi
        cases hdi
      | false =>
        obtain ⟨g, hf0, hq⟩ := hA hdn
        have key : ∀ (m : List Oper) (k : Nat), StepsO P Q w0 (n + 1) slot a0 Qs k m → ∀ (j : Nat) (o : Oper), m[j]? = some o → ∀ (a : Act) (W : World), Old w0 W → Fram (n + 1) slot a0 a → (∀ e ∈ o.after.toList, Region.binds .any e = true → Qs e.on W (a.eval (.tmp (slot e.on)))) → o.wp P a W (fun a' W' => ∃ v, a' = a.put (some (slot (k + j))) v ∧ Old W W' ∧ Qs (k + j) W' v) Q := by
          intro m
          induction m with
          | nil => intro k _ j o h; simp at h
          | cons x m ih =>
            intro k hs j o hj
            cases j with
            | zero =>
              simp at hj
              subst hj
              exact hs.1
            | succ j =>
              have := ih (k + 1) hs.2 j o (by simpa using hj)
              rw [show k + 1 + j = k + (j + 1) by omega] at this
              exact this
        have hst := key (l.take n) 0 hstep i o (by rw [List.getElem?_take, if_pos h1]; simpa using ho) a W g (hE hf0) (fun e he hb => hq e.on (by have := hon i o ho e he hb; omega) (hd e he hb))
        rw [Nat.zero_add] at hst
        refine Oper.wp_mono ?_ hst
        rintro a' W' ⟨v, rfl, g', hv⟩
        refine ⟨fput a v i hi hF, (fun _ => fput1 a v i (by omega) (hE hf0)), hC', (fun _ => ⟨Old.trans g g', (by rw [upd_other d (by omega)]; exact hf0), (fun j hj hdj => ?_)⟩), (fun h => by rw [upd_other d (by omega), hdn] at h; cases h)⟩
        by_cases hji : j = i
        · subst hji
          rw [eval_put_same _ _ _ (by rw [hF.size]; exact hslot j hi)]
          exact hv
        · rw [eval_put_other _ _ _ _ (fun e => hji (hinj i j hi (by omega) e).symm)]
          rw [upd_other d hji] at hdj
          exact hQ j W W' _ (hq j hj hdj) g'
    · subst h1
      have hot : o = t := by
        have : l[i]? = some o := by simpa using ho
        rw [ht] at this
        exact (Option.some.inj this).symm
      subst hot
      obtain ⟨g, hf0, hq⟩ := hA hdi
      have hpre : ∀ j, j < i → d j = true := fun j hj => by
        have h2 := List.all_eq_true.1 hall j (by simpa using hj)
        exact closS_done hC i _ (fun s hs => by
          obtain ⟨e, e1, e2, e3⟩ := (mem_depsO ho s).1 hs
          rw [← e3]
          exact hd e e1 e2) j (by simpa using h2)
      refine Oper.wp_mono ?_ (hturn a W g (hE hf0) (fun j hj => hq j hj (hpre j hj)))
      rintro a' W' ⟨v, rfl, hv⟩
      refine ⟨fput a v i hi hF, (fun _ => fput1 a v i (by omega) (hE hf0)), hC', (fun h => by rw [upd_same] at h; cases h), (fun _ => ⟨(fun j hj => by rw [upd_other d (by omega)]; exact hpre j hj), ?_, (fun h => ?_)⟩)⟩
      · rw [eval_put_same _ _ _ (by rw [hF.size]; exact hslot i hi)]
        exact hv
      · rw [upd_other d (by omega), hf0] at h
        cases h
    · obtain rfl : i = n + 1 := by omega
      have hof : o = f := by
        have : l[n + 1]? = some o := by simpa using ho
        rw [hf] at this
        exact (Option.some.inj this).symm
      subst hof
      have hdn : d n = true := by
        obtain ⟨e, e1, e2, e3⟩ := (mem_depsO ho n).1 (by simpa using hft)
        rw [← e3]
        exact hd e e1 e2
      obtain ⟨b1, b2, _⟩ := hB hdn
      refine Oper.wp_mono ?_ (hlast a W _ rfl)
      rintro a' W' ⟨rfl, rfl⟩
      have hne : slot (n + 1) ≠ slot n := fun e => by have := hinj (n + 1) n (by omega) (by omega) e; omega
      refine ⟨fput a _ (n + 1) hi hF, (fun h => by rw [upd_same] at h; cases h), hC', (fun h => by rw [upd_other d (by omega), hdn] at h; cases h), (fun _ => ⟨(fun j hj => by rw [upd_other d (by omega)]; exact b1 j hj), ?_, (fun _ => ?_)⟩)⟩
      · rw [eval_put_other _ _ _ _ hne]
        exact b2
      · rw [eval_put_same _ _ _ (by rw [hF.size]; exact hslot (n + 1) hi), eval_put_other _ _ _ _ hne]
  · intro d a W hd hI
    obtain ⟨hF, _, hC, hA, hB⟩ := hI
    obtain ⟨b1, b2, b3⟩ := hB (hd n (by omega))
    refine hdone a W hF ?_
    rw [b3 (hd (n + 1) (by omega))]
    exact b2
end Go.Proofs.YtfgooclnohnkmaaGreatDoor
/- Proved: the two drawn regions of the model's product in a ring: a number is added to one place, or taken away. -/
namespace Go.Proofs.YtfgooclnohnkmaaGreatDoor
open Go.ChangeShapes Go.WideShapes Go.ChangeAt Go.RowKit
set_option linter.unusedVariables false
set_option linter.unusedSimpArgs false
def regionAtmul (n : Nat) : Code → Option Code
  | .region i ops b => if i = n then some (.region i ops b) else none
  | .seq a b => match regionAtmul n a with
    | some c => some c
    | none => regionAtmul n b
  | .block _ c => regionAtmul n c
  | .loop c => regionAtmul n c
  | .cond _ a b => match regionAtmul n a with
    | some c => some c
    | none => regionAtmul n b
  | _ => none
end Go.Proofs.YtfgooclnohnkmaaGreatDoor
/- Proved: whether a space is as it should be, as the model tells it. -/
namespace Go.Proofs.YtfgooclnohnkmaaGreatDoor
open Go.ChangeShapes Go.WideShapes Go.ChangeAt Go.RowKit
open M1
set_option linter.unusedVariables false
set_option linter.unusedSimpArgs false
/-- from place k on 2 N divides each prime less 1 -/
def spA (N : Int) (xs : List Int) (k : Nat) : Bool := decide (∀ i, i < xs.length → k ≤ i → (xs.getD i 0 - 1) % (2 * N) = 0)
theorem spA_end {N : Int} {xs : List Int} {k : Nat} (h : xs.length ≤ k) : spA N xs k = true := decide_eq_true (fun i h1 h2 => by omega)
theorem spA_no {N : Int} {xs : List Int} {k : Nat} (h : k < xs.length) (hk : ¬ (xs.getD k 0 - 1) % (2 * N) = 0) : spA N xs k = false :=
  decide_eq_false (fun f => hk (f k h (Nat.le_refl _)))
theorem spA_yes {N : Int} {xs : List Int} {k : Nat} (hk : (xs.getD k 0 - 1) % (2 * N) = 0) : spA N xs k = spA N xs (k + 1) := by
  unfold spA
  apply decide_eq_decide.2
  constructor
  · exact fun f i h1 h2 => f i h1 (by omega)
  · intro f i h1 h2
    rcases Nat.eq_or_lt_of_le h2 with e | e
    · subst e
      exact hk
    · exact f i h1 e
/-- a space is as it should be -/
def spB (N : Int) (xs : List Int) : Bool := rgB N && (basB xs && spA N xs 0)
theorem bas_at {xs : List Int} (h : basB xs = true) : (1 ≤ xs.length ∧ xs.length ≤ 6) ∧ ∀ k, k < xs.length → pmB (xs.getD k 0) = true := by
  unfold basB at h
  rw [Bool.and_eq_true] at h
  refine ⟨of_decide_eq_true h.1, fun k hk => ?_⟩
  have := of_decide_eq_true h.2 k hk (Nat.zero_le _)
  unfold gbAt at this
  rw [Bool.and_eq_true] at this
  exact this.1
theorem pm_bd {p : Int} (h : pmB p = true) : 2 ≤ p ∧ p ≤ 268435456 := by
  unfold pmB at h
  rw [Bool.and_eq_true] at h
  exact modB_yes h.1
theorem sp_ring {N : Int} {xs : List Int} (h : spB N xs = true) : (N = 2 ∨ N = 4 ∨ N = 8 ∨ N = 16) ∧ basB xs = true ∧ ∀ k, k < xs.length → RingOk (xs.getD k 0) N := by
  unfold spB at h
  rw [Bool.and_eq_true, Bool.and_eq_true] at h
  obtain ⟨h1, h2, h3⟩ := h
  have hz := rgB_yes h1
  refine ⟨hz, h2, fun k hk => ?_⟩
  have hp := (bas_at h2).2 k hk
  unfold pmB at hp
  rw [Bool.and_eq_true] at hp
  exact ⟨hz, hp.1, hp.2, of_decide_eq_true h3 k hk (Nat.zero_le _)⟩
theorem sp_not {N : Int} {xs : List Int} {k : Nat} (hb : basB xs = true) (hk : k < xs.length) (h : ¬ RingOk (xs.getD k 0) N) : spB N xs = false := by
  cases hs : spB N xs with
  | false => rfl
  | true => exact absurd ((sp_ring hs).2.2 k hk) h
theorem sp_all {N : Int} {xs : List Int} (hb : basB xs = true) (h : ∀ k, k < xs.length → RingOk (xs.getD k 0) N) : spB N xs = true := by
  have h1 := (bas_at hb).1
  unfold spB
  rw [hb, rgB_mk (h 0 (by omega)).sz]
  simp only [Bool.true_and]
  exact decide_eq_true (fun i hi _ => (h i hi).dv)
set_option maxRecDepth 100000 in
set_option maxHeartbeats 2000000 in
theorem spec_goodSpace (N : Int) (xs : List Int) (v : Value) (w : World) (hv : Row w v xs) (hf : Fit v) (hl : xs.length ≤ 9223372036854775807) (hx : ∀ x ∈ xs, -9223372036854775808 ≤ x ∧ x ≤ 9223372036854775807) :
    Calls Tryz.prog 151 #[.agg #[.int .i64 N, v]] w fun e w' => e = .returned (.bool (spB N xs)) ∧ Old w w' := by
  have cb := fun W v (h : Row W v xs) (f : Fit v) => spec_goodBasis xs v W h f hl hx
  have cs := fun W => spec_isSize N W
  have HV : Hid (Row w v xs) := hv
  have HF : Hid (Fit v) := hf
  obtain ⟨a0, cap0, ev⟩ := hv.slice
  subst ev
  have HN : Hid (Old w (w.alloc (.cells #[.int .i64 N, .slice a0 xs.length cap0] 56))) := (Old.refl w).alloc _
  obtain ⟨B, hB⟩ : ∃ B, spB N xs = B := ⟨_, rfl⟩
  rw [hB]
  clear hv hf hx
  cases hs : rgB N
  · rw [hs] at cs
    have HB : Hid (false = B) := by show false = B; rw [← hB]; unfold spB; rw [hs]; rfl
    clear hB hs
    go_enter Tryz.func151, Tryz.ntmps151
    go_wp2_with (go_at_call 183; refine (cs _).mono ?_; rintro e w' ⟨rfl, rfl⟩)
    go_ret
    exact ⟨ret_bb HB.out, (Old.refl w).alloc _⟩
  · rw [hs] at cs
    have hz := rgB_yes hs
    have hb16 : 2 ≤ N ∧ N ≤ 16 := by omega
    cases hb : basB xs
    · have HB : Hid (false = B) := by show false = B; rw [← hB]; unfold spB; rw [hs, hb]; rfl
      rw [hb] at cb
      clear hB hs hb hz
      go_enter Tryz.func151, Tryz.ntmps151
      go_wp2_with (go_at_call 183; refine (cs _).mono ?_; rintro e w' ⟨rfl, rfl⟩)
      refine (cb _ _ (HV.out.old HN.out) HF.out).mono ?_
      rintro e w1 ⟨rfl, g1⟩
      have HG1 : Hid (Old w w1) := Old.trans HN.out g1
      clear g1
      go_wp2_with fail
      go_ret
      exact ⟨ret_bb HB.out, HG1.out⟩
    · have HB0 : Hid (spA N xs 0 = B) := by show _ = B; rw [← hB]; unfold spB; rw [hs, hb]; rfl
      have HPM : Hid (∀ k, k < xs.length → pmB (xs.getD k 0) = true) := (bas_at hb).2
      have hlen := (bas_at hb).1
      rw [hb] at cb
      clear hB hs hb hz
      go_enter Tryz.func151, Tryz.ntmps151
      go_wp2_with (go_at_call 183; refine (cs _).mono ?_; rintro e w' ⟨rfl, rfl⟩)
      refine (cb _ _ (HV.out.old HN.out) HF.out).mono ?_
      rintro e w1 ⟨rfl, g1⟩
      have HG1 : Hid (Old w w1) := Old.trans HN.out g1
      have HS1 : Hid (w1.cell? ⟨w.heap.size, 0, none⟩ = some (.int .i64 N) ∧ w1.cell? ⟨w.heap.size, 1, none⟩ = some (.slice a0 xs.length cap0)) := ⟨(g1.cell (p := ⟨w.heap.size, 0, none⟩) (by simp)).trans (cell_at _ _ _ _ _ rfl), (g1.cell (p := ⟨w.heap.size, 1, none⟩) (by simp)).trans (cell_at _ _ _ _ _ rfl)⟩
      have hs1 : w.heap.size < w1.heap.size := by have := g1.size; simp at this; omega
      clear g1 cb cs
      rcases (HV.out) with ⟨a, cap, e, e2⟩ | ⟨b, o, cap, e, hb, h1, hc⟩
      · subst e2
        simp at hlen
      simp only [Value.slice.injEq, true_and] at e
      obtain ⟨rfl, rfl⟩ := e
      have HC : Hid (∀ j, j < xs.length → w.cell? ⟨b, o + j, none⟩ = some (.int .i64 (xs.getD j 0))) := hc
      clear hc
      have s0 := HS1.out.1
      have s1 := HS1.out.2
      go_wp2_with fail
      go_loopw [18] (fun i W => ∃ k : Nat, k ≤ xs.length ∧ i = .int .i64 k ∧ Hid (spA N xs k = B) ∧ W = w1) (fun i _ => xs.length - (intOf i).toNat)
      case atStart => exact ⟨0, by omega, rfl, HB0, rfl⟩
      case round =>
        obtain ⟨k, hk, rfl, H1, hW⟩ := hrel
        obtain rfl : w1 = wr := hW.symm
        clear HB0 hW
        by_cases hlt : k < xs.length
        · have d1 : decide ((k : Int) < (xs.length : Int)) = true := by simp; omega
          have c1 : w1.cell? ⟨b, o + k, none⟩ = some (.int .i64 (xs.getD k 0)) := (HG1.out.cell (p := ⟨b, o + k, none⟩) hb).trans (HC.out k hlt)
          have hp := pm_bd (HPM.out k hlt)
          have hnn : ¬ N = 0 := by omega
          have hnn2 : ¬ 2 * N = 0 := by omega
          by_cases hd : (xs.getD k 0 - 1) % (2 * N) = 0
          · have H2 : Hid (spA N xs (k + 1) = B) := by have := H1.out; rw [spA_yes hd] at this; exact this
            have hd2 : ((xs.getD k 0 - 1) % (2 * N) != 0) = false := by rw [hd]; rfl
            clear H1 hd
            generalize xs.getD k 0 = p at *
            go_wp2_with fail
            exact ⟨⟨k + 1, by omega, by go_num, H2, by first | rfl | trivial⟩, by simp [intOf]; omega⟩
          · have H2 : Hid (false = B) := by have := H1.out; rw [spA_no hlt hd] at this; exact this
            have hd2 : ((xs.getD k 0 - 1) % (2 * N) != 0) = true := bne_iff_ne.2 hd
            clear H1 hd
            generalize xs.getD k 0 = p at *
            go_wp2_with fail
            go_ret
            exact ⟨ret_bb H2.out, HG1.out⟩
        · have d1 : decide ((k : Int) < (xs.length : Int)) = false := by simp; omega
          have H2 : Hid (true = B) := by have := H1.out; rw [spA_end (by omega)] at this; exact this
          clear H1
          go_wp2_with fail
          go_ret
          exact ⟨ret_bb H2.out, HG1.out⟩
end Go.Proofs.YtfgooclnohnkmaaGreatDoor
/- Proved: whether rows are as they should be, as the model tells it. -/
namespace Go.Proofs.YtfgooclnohnkmaaGreatDoor
open Go.ChangeShapes Go.WideShapes Go.ChangeAt Go.RowKit
open M1
set_option linter.unusedVariables false
set_option linter.unusedSimpArgs false
/-- from place k on each row is a polynomial of its ring -/
def rwA (N : Int) (ps : List Int) (xss : List (List Int)) (k : Nat) : Bool := decide (∀ i, i < ps.length → k ≤ i → polyB (ps.getD i 0) N (xss.getD i []) = true)
theorem rwA_end {N : Int} {ps : List Int} {xss : List (List Int)} {k : Nat} (h : ps.length ≤ k) : rwA N ps xss k = true := decide_eq_true (fun i h1 h2 => by omega)
theorem rwA_no {N : Int} {ps : List Int} {xss : List (List Int)} {k : Nat} (h : k < ps.length) (hk : polyB (ps.getD k 0) N (xss.getD k []) = false) : rwA N ps xss k = false :=
  decide_eq_false (fun f => by rw [f k h (Nat.le_refl _)] at hk; cases hk)
theorem rwA_yes {N : Int} {ps : List Int} {xss : List (List Int)} {k : Nat} (hk : polyB (ps.getD k 0) N (xss.getD k []) = true) : rwA N ps xss k = rwA N ps xss (k + 1) := by
  unfold rwA
  apply decide_eq_decide.2
  constructor
  · exact fun f i h1 h2 => f i h1 (by omega)
  · intro f i h1 h2
    rcases Nat.eq_or_lt_of_le h2 with e | e
    · subst e
      exact hk
    · exact f i h1 e
/-- rows are as they should be beside a good space -/
def rwB (N : Int) (ps : List Int) (xss : List (List Int)) : Bool := decide (xss.length = ps.length) && rwA N ps xss 0
def grB (N : Int) (ps : List Int) (xss : List (List Int)) : Bool := spB N ps && rwB N ps xss
set_option maxRecDepth 100000 in
set_option maxHeartbeats 2000000 in
theorem spec_l5Rows (N : Int) (ps : List Int) (xss : List (List Int)) (v u : Value) (w : World) (hv : Row w v ps) (hu : RowS w u xss) (hl : xss.length ≤ 1048576) (hr : ∀ r ∈ xss, r.length ≤ 1048576) (hs : spB N ps = true) :
    Calls Tryz.prog 152 #[.agg #[.int .i64 N, v], u] w fun e w' => e = .returned (.bool (rwB N ps xss)) ∧ Old w w' := by
  obtain ⟨hz, hbb, hring⟩ := sp_ring hs
  have hlen := (bas_at hbb).1
  have HPM : Hid (∀ k, k < ps.length → pmB (ps.getD k 0) = true) := (bas_at hbb).2
  have HR : Hid (∀ r ∈ xss, r.length ≤ 1048576) := hr
  obtain ⟨a0, cap0, ev⟩ := hv.slice
  obtain ⟨a1, cap1, eu⟩ := hu.slice
  subst ev eu
  have HV : Hid (Row w (.slice a0 ps.length cap0) ps) := hv
  have HU : Hid (RowS w (.slice a1 xss.length cap1) xss) := hu
  have hN : 2 ≤ N ∧ N ≤ 16 := by omega
  clear hv hu hr hring hbb hz hs
  by_cases hn : xss.length = ps.length
  · have HB : Hid (rwA N ps xss 0 = rwB N ps xss) := by show _ = _; unfold rwB; rw [decide_eq_true hn]; rfl
    have dn : ((xss.length : Int) != (ps.length : Int)) = false := by simp; omega
    generalize rwB N ps xss = B at *
    rcases HV.out with ⟨a, cap, e, e2⟩ | ⟨b, o, cap, e, hb, h1, hc⟩
    · subst e2
      simp at hlen
    simp only [Value.slice.injEq, true_and] at e
    obtain ⟨rfl, rfl⟩ := e
    rcases HU.out with ⟨a, cap, e, e2⟩ | ⟨b', o', cap, us, e, hb', h1', hc'⟩
    · subst e2
      simp at hn
      omega
    simp only [Value.slice.injEq, true_and] at e
    obtain ⟨rfl, rfl⟩ := e
    have HC : Hid (∀ j, j < ps.length → w.cell? ⟨b, o + j, none⟩ = some (.int .i64 (ps.getD j 0))) := hc
    have HC' : Hid (∀ j, j < xss.length → w.cell? ⟨b', o' + j, none⟩ = some (us j) ∧ Row w (us j) (xss.getD j [])) := hc'
    have HNN : Hid (xss.length = ps.length) := hn
    clear hc hc' hn
    have HN : Hid (Old w (w.alloc (.cells #[.int .i64 N, .slice (some ⟨b, o, none⟩) ps.length cap0] 56))) := (Old.refl w).alloc _
    go_enter Tryz.func152, Tryz.ntmps152
    go_wp2_with fail
    go_loopw [16] (fun i W => ∃ k : Nat, k ≤ ps.length ∧ i = .int .i64 k ∧ Hid (rwA N ps xss k = B) ∧ Hid (Old (w.alloc (.cells #[.int .i64 N, .slice (some ⟨b, o, none⟩) ps.length cap0] 56)) W)) (fun i _ => ps.length - (intOf i).toNat)
    case atStart => exact ⟨0, by omega, rfl, HB, Old.refl _⟩
    case round =>
      obtain ⟨k, hk, rfl, H1, HG⟩ := hrel
      clear HB
      have HGw : Hid (Old w wr) := Old.trans HN.out HG.out
      have hsw : w.heap.size < wr.heap.size := by have := HG.out.size; simp at this; omega
      by_cases hlt : k < ps.length
      · have d1 : decide ((k : Int) < (ps.length : Int)) = true := by simp; omega
        have hx := HNN.out
        have d2 : decide ((k : Int) < (xss.length : Int)) = true := by simp; omega
        have hkx : k < xss.length := by omega
        have c1 : wr.cell? ⟨b, o + k, none⟩ = some (.int .i64 (ps.getD k 0)) := (HGw.out.cell (p := ⟨b, o + k, none⟩) hb).trans (HC.out k hlt)
        obtain ⟨c2, r2⟩ := HC'.out k hkx
        obtain ⟨x1, y1, e1⟩ := r2.slice
        rw [e1] at c2 r2
        have hp := pm_bd (HPM.out k hlt)
        have hm : xss.getD k [] ∈ xss := by simp [List.getD, hkx]
        have hrl := HR.out _ hm
        have c3 : wr.cell? ⟨b', o' + k, none⟩ = some (.slice x1 (xss.getD k []).length y1) := (HGw.out.cell (p := ⟨b', o' + k, none⟩) hb').trans c2
        have R3 : Hid (Row wr (.slice x1 (xss.getD k []).length y1) (xss.getD k [])) := r2.old HGw.out
        have s0 : wr.cell? ⟨w.heap.size, 0, none⟩ = some (.int .i64 N) := (HG.out.cell (p := ⟨w.heap.size, 0, none⟩) (by simp)).trans (cell_at _ _ _ _ _ rfl)
        have HY : Hid (polyB (ps.getD k 0) N (xss.getD k []) = true → rwA N ps xss (k + 1) = B) := fun h => by have := H1.out; rw [rwA_yes h] at this; exact this
        have HNo : Hid (polyB (ps.getD k 0) N (xss.getD k []) = false → false = B) := fun h => by have := H1.out; rw [rwA_no hlt h] at this; exact this
        generalize xss.getD k [] = xs at *
        generalize ps.getD k 0 = p at *
        have cp := fun W (h : Row W (.slice x1 xs.length y1) xs) => spec_poly p N 0 xs _ W h (by omega) hp
        obtain ⟨q, hq⟩ : ∃ q, polyB p N xs = q := ⟨_, rfl⟩
        rw [hq] at cp HY HNo
        have hbr : b < wr.heap.size := Nat.lt_of_lt_of_le hb HGw.out.size
        have hbr' : b' < wr.heap.size := Nat.lt_of_lt_of_le hb' HGw.out.size
        have HAS : Hid (∀ W' : World, Old wr W' → (W'.cell? ⟨w.heap.size, 0, none⟩ = some (.int .i64 N) ∧ W'.cell? ⟨b', o' + k, none⟩ = some (.slice x1 xs.length y1))) := fun W' g => ⟨(g.cell (p := ⟨w.heap.size, 0, none⟩) hsw).trans s0, (g.cell (p := ⟨b', o' + k, none⟩) hbr').trans c3⟩
        clear H1 c2 r2 e1 hm hq hx
        cases q
        · have H3 : Hid (false = B) := HNo.out rfl
          clear HY HNo
          go_wp2_with fail
          go_region_held3 (fun W' => W'.cell? ⟨w.heap.size, 0, none⟩ = some (.int .i64 N) ∧ W'.cell? ⟨b', o' + k, none⟩ = some (.slice x1 xs.length y1)) (first | with_reducible exact HAS.out _ GE.out | with_reducible exact HAS.out _ (Below.drew (Old.refl wr)) | with_reducible exact HAS.out _ (Old.refl wr)) (first
            | (go_at_call 184; refine (cp _ (R3.out.old (Below.drew (Old.refl wr)))).mono ?_; rintro e w2 ⟨rfl, ge⟩; have GE : Hid (Old wr w2) := Old.trans (Below.drew (Old.refl wr)) ge; clear ge)
            | fail)
          have HG2 : Hid (Old w w2) := Old.trans HGw.out GE.out
          go_wp2_with fail
          go_ret
          exact ⟨ret_bb H3.out, HG2.out⟩
        · have H3 : Hid (rwA N ps xss (k + 1) = B) := HY.out rfl
          clear HY HNo
          go_wp2_with fail
          go_region_held3 (fun W' => W'.cell? ⟨w.heap.size, 0, none⟩ = some (.int .i64 N) ∧ W'.cell? ⟨b', o' + k, none⟩ = some (.slice x1 xs.length y1)) (first | with_reducible exact HAS.out _ GE.out | with_reducible exact HAS.out _ (Below.drew (Old.refl wr)) | with_reducible exact HAS.out _ (Old.refl wr)) (first
            | (go_at_call 184; refine (cp _ (R3.out.old (Below.drew (Old.refl wr)))).mono ?_; rintro e w2 ⟨rfl, ge⟩; have GE : Hid (Old wr w2) := Old.trans (Below.drew (Old.refl wr)) ge; clear ge)
            | fail)
          have HG2 : Hid (Old (w.alloc (.cells #[.int .i64 N, .slice (some ⟨b, o, none⟩) ps.length cap0] 56)) w2) := Old.trans HG.out GE.out
          go_wp2_with fail
          exact ⟨⟨k + 1, by omega, by go_num, H3, HG2⟩, by simp [intOf]; omega⟩
      · have d1 : decide ((k : Int) < (ps.length : Int)) = false := by simp; omega
        have H2 : Hid (true = B) := by have := H1.out; rw [rwA_end (by omega)] at this; exact this
        clear H1
        go_wp2_with fail
        go_ret
        exact ⟨ret_bb H2.out, HGw.out⟩
  · have HB : Hid (false = rwB N ps xss) := by show _ = _; unfold rwB; rw [decide_eq_false hn]; rfl
    have dn : ((xss.length : Int) != (ps.length : Int)) = true := by simp; omega
    generalize rwB N ps xss = B at *
    clear hn
    go_enter Tryz.func152, Tryz.ntmps152
    go_wp2_with fail
    go_ret
    exact ⟨ret_bb HB.out, (Old.refl w).alloc _⟩
theorem spec_goodRows (N : Int) (ps : List Int) (n : Bool) (xss : List (List Int)) (v u : Value) (w : World) (hv : Row w v ps) (hf : Fit v) (hu : RowS w u xss) (hlp : ps.length ≤ 1048576) (hx : ∀ x ∈ ps, -9223372036854775808 ≤ x ∧ x ≤ 9223372036854775807) (hl : xss.length ≤ 1048576) (hr : ∀ r ∈ xss, r.length ≤ 1048576) :
    Calls Tryz.prog 83 #[.agg #[.int .i64 N, v], .agg #[.bool n, u]] w fun e w' => e = .returned (.bool (grB N ps xss)) ∧ Old w w' := by
  have cg := fun W (h : Row W v ps) => spec_goodSpace N ps v W h hf (by omega) hx
  have cr := fun W (h : Row W v ps) (k : RowS W u xss) (hs : spB N ps = true) => spec_l5Rows N ps xss v u W h k hl hr hs
  have HV : Hid (Row w v ps) := hv
  have HU : Hid (RowS w u xss) := hu
  obtain ⟨a0, cap0, ev⟩ := hv.slice
  obtain ⟨a1, cap1, eu⟩ := hu.slice
  subst ev eu
  have HN : Hid (Old w ((w.alloc (.cells #[.int .i64 N, .slice a0 ps.length cap0] 56)).alloc (.cells #[.bool n, .slice a1 xss.length cap1] 58))) := ((Old.refl w).alloc _).alloc _
  clear hv hu hf hx hr
  cases hs : spB N ps
  · have HB : Hid (false = grB N ps xss) := by show _ = _; unfold grB; rw [hs]; rfl
    rw [hs] at cg
    generalize grB N ps xss = B at *
    clear hs cr
    go_enter Tryz.func83, Tryz.ntmps83
    go_wp2_with fail
    refine (cg _ (HV.out.old HN.out)).mono ?_
    rintro e w1 ⟨rfl, g1⟩
    have HG : Hid (Old w w1) := Old.trans HN.out g1
    clear g1
    go_wp2_with fail
    go_ret
    exact ⟨ret_bb HB.out, HG.out⟩
  · have HB : Hid (rwB N ps xss = grB N ps xss) := by show _ = _; unfold grB; rw [hs]; rfl
    rw [hs] at cg
    have cr2 := fun W (h : Row W (.slice a0 ps.length cap0) ps) (k : RowS W (.slice a1 xss.length cap1) xss) => cr W h k hs
    generalize grB N ps xss = B at *
    clear hs cr
    go_enter Tryz.func83, Tryz.ntmps83
    go_wp2_with fail
    refine (cg _ (HV.out.old HN.out)).mono ?_
    rintro e w1 ⟨rfl, g1⟩
    have HG : Hid (Old w w1) := Old.trans HN.out g1
    have s0 : w1.cell? ⟨w.heap.size, 0, none⟩ = some (.int .i64 N) := (g1.cell (p := ⟨w.heap.size, 0, none⟩) (by simp; omega)).trans (by simp [cell_at, cell_lt])
    have s1 : w1.cell? ⟨w.heap.size, 1, none⟩ = some (.slice a0 ps.length cap0) := (g1.cell (p := ⟨w.heap.size, 1, none⟩) (by simp; omega)).trans (by simp [cell_at, cell_lt])
    have s2 : w1.cell? ⟨w.heap.size + 1, 1, none⟩ = some (.slice a1 xss.length cap1) := (g1.cell (p := ⟨w.heap.size + 1, 1, none⟩) (by simp)).trans (by simp [cell_at, cell_lt])
    clear g1
    go_wp2_with fail
    refine (cr2 _ (HV.out.old HG.out) (HU.out.old HG.out)).mono ?_
    rintro e w2 ⟨rfl, g2⟩
    have HG2 : Hid (Old w w2) := Old.trans HG.out g2
    clear g2
    go_wp2_with fail
    go_ret
    exact ⟨ret_bb HB.out, HG2.out⟩
end Go.Proofs.YtfgooclnohnkmaaGreatDoor
/- Proved: rows of rows that grow row by row. -/
namespace Go.Proofs.YtfgooclnohnkmaaGreatDoor
open Go.ChangeShapes Go.WideShapes Go.ChangeAt Go.RowKit
open M1
set_option linter.unusedVariables false
set_option linter.unusedSimpArgs false
theorem getD_app1 (yss : List (List Int)) (r : List Int) (j : Nat) (h : j < yss.length) : (yss ++ [r]).getD j [] = yss.getD j [] := by
  simp [List.getD, List.getElem?_append_left h]
theorem getD_app2 (yss : List (List Int)) (r : List Int) : (yss ++ [r]).getD yss.length [] = r := by
  simp [List.getD]
theorem OwS.app {yss : List (List Int)} {wr W : World} {lo : Nat} {x : Value} {r : List Int} {a : Option Addr} {c : Nat} (h : OwS yss wr lo wr.heap.size x) (hlo : lo ≤ wr.heap.size) (g : Old wr W) (o : Own W wr.heap.size (.slice a r.length c) r) (hc : r.length ≤ c) :
    ∃ vs, W.ownsRow lo 23 1 x yss.length vs ∧ (∀ v' w', w'.ownsRow lo 23 1 v' (yss.length + 1) (vs ++ [.slice a r.length c]) → W.grownBy w' x.ownBlock → (v'.ownBlock = x.ownBlock ∨ v'.ownBlock = some W.heap.size) → OwS (yss ++ [r]) w' lo w'.heap.size v') := by
  have key : ∃ vs : List Value, W.ownsRow lo 23 1 x yss.length vs ∧ vs.length = yss.length ∧ (∀ p, x.ownBlock = some p → p < wr.heap.size)
      ∧ (∀ j, j < yss.length → ∃ a c, vs[j]? = some (.slice a (yss.getD j []).length c) ∧ (yss.getD j []).length ≤ c ∧ Own wr lo (.slice a (yss.getD j []).length c) (yss.getD j []) ∧ (∀ b, (Value.slice a (yss.getD j []).length c).ownBlock = some b → x.ownBlock ≠ some b))
      ∧ (∀ (i j : Nat) (x y : Value) (b : Nat), i < j → vs[i]? = some x → vs[j]? = some y → x.ownBlock = some b → y.ownBlock = some b → False) := by
    obtain ⟨hh, ⟨e, e2⟩ | ⟨p, cap, vs, e, hcap, hl, hhi, ho, hvl, hj, hd⟩⟩ := h
    · subst e e2
      refine ⟨[], ⟨rfl, Or.inl ⟨rfl, rfl⟩⟩, rfl, (fun p hp => by cases hp), (fun j hj => by simp at hj), (fun i j x y b hij hx => by simp at hx)⟩
    · subst e
      refine ⟨vs, ?_, hvl, fun q hq => ?_, fun j hjl => ?_, hd⟩
      · refine ⟨ho.1, ?_⟩
        rcases ho.2 with ⟨hn, _⟩ | ⟨p', cap', cur, e', hb', hgg, rest⟩
        · cases hn
        · refine .inr ⟨p', cap', cur, e', hb', ?_, rest⟩
          rw [g.block p' (Array.getElem?_eq_some_iff.1 hgg).1]
          exact hgg
      · simp only [Value.ownBlock, Option.some.injEq] at hq
        omega
      · obtain ⟨a2, c2, e3, hc2, oj, hb2⟩ := hj j hjl
        refine ⟨a2, c2, e3, hc2, oj.1, fun b hb hx => hb2 b hb ?_⟩
        simp only [Value.ownBlock, Option.some.injEq] at hx
        exact hx.symm
  obtain ⟨vs, ho, hvl, hp, hj, hd⟩ := key
  refine ⟨vs, ho, fun v' w' ho' gr hv' => ?_⟩
  have hsz := g.size
  have hsz' := gr.size
  have hrow : ∀ j, j < yss.length → ∃ a c, vs[j]? = some (.slice a (yss.getD j []).length c) ∧ (yss.getD j []).length ≤ c ∧ Own w' lo (.slice a (yss.getD j []).length c) (yss.getD j []) ∧ (∀ b, (Value.slice a (yss.getD j []).length c).ownBlock = some b → b < wr.heap.size ∧ v'.ownBlock ≠ some b) := fun j hjl => by
    obtain ⟨a2, c2, e3, hc2, oj, hb2⟩ := hj j hjl
    refine ⟨a2, c2, e3, hc2, Own.by_ (oj.old g) gr (fun q y hx hy hxy => ?_), fun b hb => ⟨(oj.lt b hb).2, fun hx => ?_⟩⟩
    · subst hxy
      exact hb2 q hx hy
    · rcases hv' with e | e
      · exact hb2 b hb (e.symm.trans hx)
      · rw [e] at hx
        have := (oj.lt b hb).2
        simp only [Option.some.injEq] at hx
        omega
  have hnew : Own w' lo (.slice a r.length c) r := Own.low (Own.by_ o gr (fun q y hx hy hxy => by
    subst hxy
    have h1 := (o.lt q hx).1
    have h2 := hp q hy
    omega)) hlo
  have hnewb : ∀ b, (Value.slice a r.length c).ownBlock = some b → wr.heap.size ≤ b ∧ b < W.heap.size ∧ v'.ownBlock ≠ some b := fun b hb => by
    obtain ⟨h1, h2⟩ := o.lt b hb
    refine ⟨h1, h2, fun hx => ?_⟩
    rcases hv' with e | e
    · have := hp b (e.symm.trans hx)
      omega
    · rw [e] at hx
      simp only [Option.some.injEq] at hx
      omega
  have ho2 := ho'
  rcases ho'.2 with ⟨_, h0⟩ | ⟨p', cap', cur, e', hb', hgg, hnc, rest⟩
  · omega
  subst e'
  have hlt' : p' < w'.heap.size := (Array.getElem?_eq_some_iff.1 hgg).1
  refine ⟨Nat.le_refl _, Or.inr ⟨p', cap', vs ++ [.slice a r.length c], by simp, by simpa using hnc, hb', hlt', by simpa using ho2, by simp [hvl], fun j hjl => ?_, fun i j x y b hij hx hy hbx hby => ?_⟩⟩
  · simp at hjl
    rcases Nat.lt_or_ge j yss.length with h1 | h1
    · rw [getD_app1 yss r j h1]
      obtain ⟨a2, c2, e3, hc2, oj, hb2⟩ := hrow j h1
      refine ⟨a2, c2, by rw [List.getElem?_append_left (by omega)]; exact e3, hc2, ⟨oj, Nat.le_refl _, fun b hb => (oj.lt b hb).2⟩, fun b hb hx => (hb2 b hb).2 ?_⟩
      rw [hx]
      rfl
    · obtain rfl : j = yss.length := by omega
      rw [getD_app2 yss r]
      refine ⟨a, c, by rw [← hvl]; simp, hc, ⟨hnew, Nat.le_refl _, fun b hb => (hnew.lt b hb).2⟩, fun b hb hx => (hnewb b hb).2.2 ?_⟩
      rw [hx]
      rfl
  · have hjl : j < vs.length + 1 := by
      have := (List.getElem?_eq_some_iff.1 hy).1
      simpa using this
    rcases Nat.lt_or_ge j vs.length with h1 | h1
    · rw [List.getElem?_append_left (by omega)] at hx hy
      exact hd i j x y b hij hx hy hbx hby
    · obtain rfl : j = vs.length := by omega
      rw [List.getElem?_append_left (by omega)] at hx
      simp at hy
      subst hy
      obtain ⟨a2, c2, e3, hc2, oj, hb2⟩ := hrow i (by omega)
      rw [e3] at hx
      obtain rfl := Option.some.inj hx
      have h3 := (hb2 b hbx).1
      have h4 := (hnewb b hby).1
      omega
theorem take_succL (xs : List (List Int)) (k : Nat) (h : k < xs.length) : xs.take (k + 1) = xs.take k ++ [xs.getD k []] := by
  rw [List.take_add_one]
  simp [List.getD, h]
end Go.Proofs.YtfgooclnohnkmaaGreatDoor
/- Proved: rows added, as the model makes them. -/
namespace Go.Proofs.YtfgooclnohnkmaaGreatDoor
open Go.ChangeShapes Go.WideShapes Go.ChangeAt Go.RowKit
open M1
set_option linter.unusedVariables false
set_option linter.unusedSimpArgs false
theorem one_sl (a : Option Addr) (n c : Nat) : ∀ u ∈ [Value.slice a n c], u.oneCell' = true := by simp [Value.oneCell']
end Go.Proofs.YtfgooclnohnkmaaGreatDoor
/- Proved: the rings of a space, as the program makes them. -/
namespace Go.Proofs.YtfgooclnohnkmaaGreatDoor
open Go.ChangeShapes Go.WideShapes Go.ChangeAt Go.RowKit
open M1
set_option linter.unusedVariables false
set_option linter.unusedSimpArgs false
theorem Tryz.infoRing : (Tryz.prog.info? 151).map (fun i => (i.zero, i.size, i.bytes)) = some (some (.agg #[.int .i64 0, .int .i64 0, .int .i64 0]), 3, 24) := by kernel_rfl
/-- the first k rings lie in block g -/
def Rgs (W : World) (g : Nat) (N : Int) (xs : List Int) (Rf : Nat → Int) (k : Nat) : Prop :=
  ∃ ys : List Int, ys.length = 3 * xs.length ∧ W.ownsRow g 151 3 (.slice (some ⟨g, 0, none⟩) xs.length xs.length) xs.length (ys.map (Value.int .i64)) ∧ ∀ i, i < k → ys.getD (i * 3) 0 = xs.getD i 0 ∧ ys.getD (i * 3 + 1) 0 = N ∧ ys.getD (i * 3 + 2) 0 = Rf i
theorem Rgs.lt {W : World} {g : Nat} {N : Int} {xs : List Int} {Rf : Nat → Int} {k : Nat} (h : Rgs W g N xs Rf k) : g < W.heap.size := by
  obtain ⟨ys, _, ho, _⟩ := h
  exact (ho.lt g rfl).2
theorem Rgs.old {W W' : World} {g : Nat} {N : Int} {xs : List Int} {Rf : Nat → Int} {k : Nat} (h : Rgs W g N xs Rf k) (q : Old W W') : Rgs W' g N xs Rf k := by
  obtain ⟨ys, hl, ho, hy⟩ := h
  refine ⟨ys, hl, ⟨ho.1, ?_⟩, hy⟩
  rcases ho.2 with hn | ⟨p, cap, cur, e, hb, hgg, rest⟩
  · exact .inl hn
  · refine .inr ⟨p, cap, cur, e, hb, ?_, rest⟩
    rw [q.block p (Array.getElem?_eq_some_iff.1 hgg).1]
    exact hgg
theorem Rgs.cell {W : World} {g : Nat} {N : Int} {xs : List Int} {Rf : Nat → Int} {k : Nat} (h : Rgs W g N xs Rf k) (j : Nat) (hj : j < 3 * xs.length) : ∃ y : Int, W.cell? ⟨g, j, none⟩ = some (.int .i64 y) := by
  obtain ⟨ys, hl, ho, hy⟩ := h
  refine ⟨ys.getD j 0, ?_⟩
  rw [World.ownsRow.cellAt ho j (by omega)]
  simp [List.getD, hl, hj]
theorem Rgs.free {W : World} {g : Nat} {N : Int} {xs : List Int} {Rf : Nat → Int} {k : Nat} (h : Rgs W g N xs Rf k) (j : Nat) : W.frozen? ⟨g, j, none⟩ = false := by
  obtain ⟨ys, hl, ho, hy⟩ := h
  exact World.ownsRow.frozenAt ho j
theorem Rgs.at {W : World} {g : Nat} {N : Int} {xs : List Int} {Rf : Nat → Int} {k : Nat} (h : Rgs W g N xs Rf k) (i : Nat) (hi : i < k) (hx : i < xs.length) : W.cell? ⟨g, i * 3, none⟩ = some (.int .i64 (xs.getD i 0)) ∧ W.cell? ⟨g, i * 3 + 1, none⟩ = some (.int .i64 N) ∧ W.cell? ⟨g, i * 3 + 2, none⟩ = some (.int .i64 (Rf i)) := by
  obtain ⟨ys, hl, ho, hy⟩ := h
  obtain ⟨h0, h1, h2⟩ := hy i hi
  refine ⟨?_, ?_, ?_⟩
  · rw [World.ownsRow.cellAt ho (i * 3) (by omega), ← h0]
    simp [List.getD, hl, show i * 3 < 3 * xs.length by omega]
  · rw [World.ownsRow.cellAt ho (i * 3 + 1) (by omega), ← h1]
    simp [List.getD, hl, show i * 3 + 1 < 3 * xs.length by omega]
  · rw [World.ownsRow.cellAt ho (i * 3 + 2) (by omega), ← h2]
    simp [List.getD, hl, show i * 3 + 2 < 3 * xs.length by omega]
theorem getD_set_same (ys : List Int) (j : Nat) (y : Int) (h : j < ys.length) : (ys.set j y).getD j 0 = y := by simp [List.getD, h]
theorem getD_set_other (ys : List Int) (j i : Nat) (y : Int) (h : i ≠ j) : (ys.set j y).getD i 0 = ys.getD i 0 := by simp [List.getD, List.getElem?_set, Ne.symm h]
theorem Rgs.put {W : World} {g : Nat} {N : Int} {xs : List Int} {Rf : Nat → Int} {k : Nat} (h : Rgs W g N xs Rf k) (hk : k < xs.length) :
    Rgs (((W.setCell ⟨g, k * 3, none⟩ (.int .i64 (xs.getD k 0))).setCell ⟨g, k * 3 + 1, none⟩ (.int .i64 N)).setCell ⟨g, k * 3 + 2, none⟩ (.int .i64 (Rf k))) g N xs Rf (k + 1) := by
  obtain ⟨ys, hl, ho, hy⟩ := h
  have h1 := (World.ownsRow.stored ho (k * 3) (.int .i64 (xs.getD k 0))).1
  have h2 := (World.ownsRow.stored h1 (k * 3 + 1) (.int .i64 N)).1
  have h3 := (World.ownsRow.stored h2 (k * 3 + 2) (.int .i64 (Rf k))).1
  rw [← List.map_set, ← List.map_set, ← List.map_set] at h3
  refine ⟨_, by simp [hl], h3, fun i hi => ?_⟩
  rcases Nat.lt_or_ge i k with hlt | hge
  · obtain ⟨q0, q1, q2⟩ := hy i hlt
    refine ⟨?_, ?_, ?_⟩
    · rw [getD_set_other _ _ _ _ (by omega), getD_set_other _ _ _ _ (by omega), getD_set_other _ _ _ _ (by omega)]; exact q0
    · rw [getD_set_other _ _ _ _ (by omega), getD_set_other _ _ _ _ (by omega), getD_set_other _ _ _ _ (by omega)]; exact q1
    · rw [getD_set_other _ _ _ _ (by omega), getD_set_other _ _ _ _ (by omega), getD_set_other _ _ _ _ (by omega)]; exact q2
  · obtain rfl : i = k := by omega
    refine ⟨?_, ?_, ?_⟩
    · rw [getD_set_other _ _ _ _ (by omega), getD_set_other _ _ _ _ (by omega), getD_set_same _ _ _ (by omega)]
    · rw [getD_set_other _ _ _ _ (by omega), getD_set_same _ _ _ (by simp; omega)]
    · rw [getD_set_same _ _ _ (by simp; omega)]
theorem made_rings (n : Nat) : ∃ ys : List Int, ys.length = 3 * n ∧ (madeCells (Value.agg #[.int .i64 0, .int .i64 0, .int .i64 0]).cells (n * 3)).toList = ys.map (Value.int .i64) := by
  refine ⟨List.replicate (3 * n) 0, by simp, ?_⟩
  have hz : ∀ i : Nat, (#[Value.int .i64 0, Value.int .i64 0, Value.int .i64 0] : Array Value)[i % 3]! = Value.int .i64 0 := fun i => by
    have h3 : i % 3 = 0 ∨ i % 3 = 1 ∨ i % 3 = 2 := by omega
    rcases h3 with h | h | h <;> rw [h] <;> rfl
  rw [List.map_replicate]
  refine List.eq_replicate_iff.2 ⟨by simp [size_madeCells]; omega, fun b hb => ?_⟩
  unfold madeCells at hb
  simp only [Array.toList_map, List.mem_map] at hb
  obtain ⟨x, _, rfl⟩ := hb
  exact hz x
end Go.Proofs.YtfgooclnohnkmaaGreatDoor
/- Proved: the contract of the program's ringsOf. -/
namespace Go.Proofs.YtfgooclnohnkmaaGreatDoor
open Go.ChangeShapes Go.WideShapes Go.ChangeAt Go.RowKit
open M1
set_option linter.unusedVariables false
set_option linter.unusedSimpArgs false
theorem cellO (W : World) (p : Addr) (v : Value) (q : Addr) (h : q.block ≠ p.block) : (W.setCell p v).cell? q = W.cell? q := World.cell?_of_block (heap_setCell_other W p q.block v h)
set_option maxRecDepth 100000 in
set_option maxHeartbeats 4000000 in
theorem impl_rings (N : Int) (xs : List Int) (Rf : Nat → Int) (v : Value) (w : World) (hP : PrsW w) (hT : TabW w) (hv : Row w v xs) (hf : Fit v) (hl : xs.length ≤ 9223372036854775807)
    (hRf : ∀ k, RingOk (xs.getD k 0) N → (0 ≤ Rf k ∧ Rf k < xs.getD k 0) ∧ (∀ W, PrsW W → TabW W → Calls Tryz.prog 163 #[.int .i64 (xs.getD k 0), .int .i64 N] W fun e w' => e = .returned (.tuple #[.agg #[.int .i64 (xs.getD k 0), .int .i64 N, .int .i64 (Rf k)], .bool true]) ∧ Old W w')) :
    Calls Tryz.prog 105 #[.agg #[.int .i64 N, v]] w fun e w' => Old w w' ∧ ((spB N xs = false ∧ e = .returned (.tuple #[.slice none 0 0, .bool false])) ∨ (spB N xs = true ∧ ∃ g, w.heap.size ≤ g ∧ e = .returned (.tuple #[.slice (some ⟨g, 0, none⟩) xs.length xs.length, .bool true]) ∧ Rgs w' g N xs Rf xs.length)) := by
  have cb := fun W v (h1 : PrsW W) (h2 : TabW W) (h : Row W v xs) (f : Fit v) => impl_goodBasis xs v W h1 h2 h f hl
  have HP : Hid (PrsW w) := hP
  have HT : Hid (TabW w) := hT
  have HV : Hid (Row w v xs) := hv
  have HF : Hid (Fit v) := hf
  have HRF : Hid (∀ k, RingOk (xs.getD k 0) N → (0 ≤ Rf k ∧ Rf k < xs.getD k 0) ∧ (∀ W, PrsW W → TabW W → Calls Tryz.prog 163 #[.int .i64 (xs.getD k 0), .int .i64 N] W fun e w' => e = .returned (.tuple #[.agg #[.int .i64 (xs.getD k 0), .int .i64 N, .int .i64 (Rf k)], .bool true]) ∧ Old W w')) := hRf
  obtain ⟨a0, cap0, ev⟩ := hv.slice
  subst ev
  have HN : Hid (Old w (w.alloc (.cells #[.int .i64 N, .slice a0 xs.length cap0] 56))) := (Old.refl w).alloc _
  clear hP hT hv hf hRf
  cases hb : basB xs
  · rw [hb] at cb
    have HB : Hid (spB N xs = false) := by show spB N xs = false; unfold spB; rw [hb]; simp
    clear hb
    go_enter Tryz.func105, Tryz.ntmps105
    go_wp2_with fail
    refine (cb _ _ (HP.out.old HN.out) (HT.out.old HN.out) (HV.out.old HN.out) HF.out).mono ?_
    rintro e w1 ⟨rfl, g1⟩
    have HG1 : Hid (Old w w1) := Old.trans HN.out g1
    clear g1
    go_wp2_with fail
    exact bodyPost_ret (v := .tuple #[.slice none 0 0, .bool false]) (by simp [results, Tryz.results105, go_sem]) rfl ⟨HG1.out, Or.inl ⟨HB.out, rfl⟩⟩
  · rw [hb] at cb
    have HBB : Hid (basB xs = true) := hb
    have hlen := (bas_at hb).1
    obtain ⟨i0, hi, hz0, hz1, hz2⟩ := info_parts Tryz.infoRing
    clear hb
    go_enter Tryz.func105, Tryz.ntmps105
    go_wp2_with fail
    refine (cb _ _ (HP.out.old HN.out) (HT.out.old HN.out) (HV.out.old HN.out) HF.out).mono ?_
    rintro e w1 ⟨rfl, g1⟩
    have HG1 : Hid (Old w w1) := Old.trans HN.out g1
    have HS1 : Hid (w1.cell? ⟨w.heap.size, 0, none⟩ = some (.int .i64 N) ∧ w1.cell? ⟨w.heap.size, 1, none⟩ = some (.slice a0 xs.length cap0)) := ⟨(g1.cell (p := ⟨w.heap.size, 0, none⟩) (by simp)).trans (cell_at _ _ _ _ _ rfl), (g1.cell (p := ⟨w.heap.size, 1, none⟩) (by simp)).trans (cell_at _ _ _ _ _ rfl)⟩
    have hs1 : w.heap.size < w1.heap.size := by have := g1.size; simp at this; omega
    clear g1 cb
    rcases (HV.out) with ⟨a, cap, e, e2⟩ | ⟨b, o, cap, e, hb, h1, hc⟩
    · subst e2
      simp at hlen
    simp only [Value.slice.injEq, true_and] at e
    obtain ⟨rfl, rfl⟩ := e
    have HC : Hid (∀ j, j < xs.length → w.cell? ⟨b, o + j, none⟩ = some (.int .i64 (xs.getD j 0))) := hc
    clear hc
    have s0 := HS1.out.1
    have s1 := HS1.out.2
    go_wp2_with (at_make; refine wpList_make_full _ rfl _ _ 143 rfl w1.heap.size 151 i0 (.agg #[.int .i64 0, .int .i64 0, .int .i64 0]) 3 Tryz.underlying143 hi hz0 hz1 .i64 .i64 _ _ xs.length rfl rfl rfl rfl (by rw [hz2]; omega) (by unfold maxLen; omega) (Nat.le_refl _) ?_; intro w2 hown hgrow; have s0' : w2.cell? ⟨w.heap.size, 0, none⟩ = some (.int .i64 N) := ((grownBy_old hgrow).cell (p := ⟨w.heap.size, 0, none⟩) hs1).trans s0; have s1' : w2.cell? ⟨w.heap.size, 1, none⟩ = some (.slice (some ⟨b, o, none⟩) xs.length cap0) := ((grownBy_old hgrow).cell (p := ⟨w.heap.size, 1, none⟩) hs1).trans s1)
    obtain ⟨ys, hyl, hym⟩ := made_rings xs.length
    rw [hym] at hown
    have HRG : Hid (Rgs w2 w1.heap.size N xs Rf 0) := ⟨ys, hyl, hown, fun i hi => by omega⟩
    have HG2 : Hid (Old w w2) := Old.trans HG1.out (grownBy_old hgrow)
    have HS2 : Hid (w2.cell? ⟨w.heap.size, 0, none⟩ = some (.int .i64 N) ∧ w2.cell? ⟨w.heap.size, 1, none⟩ = some (.slice (some ⟨b, o, none⟩) xs.length cap0)) := ⟨s0', s1'⟩
    clear hown hgrow s0' s1' s0 s1 HS1 hym hyl
    go_loopw [20] (fun i W => ∃ k : Nat, k ≤ xs.length ∧ i = .int .i64 k ∧ Hid (∀ j, j < k → RingOk (xs.getD j 0) N) ∧ Hid (Rgs W w1.heap.size N xs Rf k) ∧ Hid (Old w W) ∧ Hid (W.cell? ⟨w.heap.size, 0, none⟩ = some (.int .i64 N) ∧ W.cell? ⟨w.heap.size, 1, none⟩ = some (.slice (some ⟨b, o, none⟩) xs.length cap0))) (fun i _ => xs.length - (intOf i).toNat)
    case atStart => exact ⟨0, by omega, rfl, fun j hj => by omega, HRG, HG2, HS2⟩
    case round =>
      obtain ⟨k, hk, rfl, H1, HR, HG, HS⟩ := hrel
      clear HRG HG2 HS2
      by_cases hlt : k < xs.length
      · have d1 : decide ((k : Int) < (xs.length : Int)) = true := by simp; omega
        have c1 : wr.cell? ⟨b, o + k, none⟩ = some (.int .i64 (xs.getD k 0)) := (HG.out.cell (p := ⟨b, o + k, none⟩) hb).trans (HC.out k hlt)
        have s0 := HS.out.1
        have s1 := HS.out.2
        have hsr : w.heap.size < wr.heap.size := by have := HR.out.lt; omega
        by_cases hok : RingOk (xs.getD k 0) N
        · have cr := (HRF.out k hok).2
          have H2 : Hid (∀ j, j < k + 1 → RingOk (xs.getD j 0) N) := fun j hj => by
            rcases Nat.lt_or_ge j k with h | h
            · exact H1.out j h
            · obtain rfl : j = k := by omega
              exact hok
          have HPUT : Hid (∀ W, Rgs W w1.heap.size N xs Rf k → Rgs (((W.setCell ⟨w1.heap.size, k * 3, none⟩ (.int .i64 (xs.getD k 0))).setCell ⟨w1.heap.size, k * 3 + 1, none⟩ (.int .i64 N)).setCell ⟨w1.heap.size, k * 3 + 2, none⟩ (.int .i64 (Rf k))) w1.heap.size N xs Rf (k + 1)) := fun W h => h.put hlt
          have HCR : Hid (∀ W, PrsW W → TabW W → Calls Tryz.prog 163 #[.int .i64 (xs.getD k 0), .int .i64 N] W fun e w' => e = .returned (.tuple #[.agg #[.int .i64 (xs.getD k 0), .int .i64 N, .int .i64 (Rf k)], .bool true]) ∧ Old W w') := cr
          clear H1 hok cr
          generalize xs.getD k 0 = p at *
          obtain ⟨r, hr⟩ : ∃ r, Rf k = r := ⟨_, rfl⟩
          rw [hr] at HPUT HCR
          clear hr
          go_wp2_with fail
          refine (HCR.out _ (HP.out.old HG.out) (HT.out.old HG.out)).mono ?_
          rintro e w3 ⟨rfl, g3⟩
          have g4 : Old wr (w3.alloc (.cells #[.int .i64 p, .int .i64 N, .int .i64 r] 151)) := g3.alloc _
          have HR4 : Hid (Rgs (w3.alloc (.cells #[.int .i64 p, .int .i64 N, .int .i64 r] 151)) w1.heap.size N xs Rf k) := HR.out.old g4
          have HG4 : Hid (Old w (w3.alloc (.cells #[.int .i64 p, .int .i64 N, .int .i64 r] 151))) := Old.trans HG.out g4
          have HS4 : Hid ((w3.alloc (.cells #[.int .i64 p, .int .i64 N, .int .i64 r] 151)).cell? ⟨w.heap.size, 0, none⟩ = some (.int .i64 N) ∧ (w3.alloc (.cells #[.int .i64 p, .int .i64 N, .int .i64 r] 151)).cell? ⟨w.heap.size, 1, none⟩ = some (.slice (some ⟨b, o, none⟩) xs.length cap0)) := ⟨(g4.cell (p := ⟨w.heap.size, 0, none⟩) hsr).trans HS.out.1, (g4.cell (p := ⟨w.heap.size, 1, none⟩) hsr).trans HS.out.2⟩
          obtain ⟨y0, q0⟩ := HR4.out.cell (k * 3) (by omega)
          obtain ⟨y1, q1⟩ := HR4.out.cell (k * 3 + 1) (by omega)
          obtain ⟨y2, q2⟩ := HR4.out.cell (k * 3 + 2) (by omega)
          have f0 := HR4.out.free (k * 3)
          have f1 := HR4.out.free (k * 3 + 1)
          have f2 := HR4.out.free (k * 3 + 2)
          clear g3 g4 s0 s1 c1
          have hne : w.heap.size ≠ w1.heap.size := by omega
          have HS5 : Hid (((((w3.alloc (.cells #[.int .i64 p, .int .i64 N, .int .i64 r] 151)).setCell ⟨w1.heap.size, k * 3, none⟩ (.int .i64 p)).setCell ⟨w1.heap.size, k * 3 + 1, none⟩ (.int .i64 N)).setCell ⟨w1.heap.size, k * 3 + 2, none⟩ (.int .i64 r)).cell? ⟨w.heap.size, 0, none⟩ = some (.int .i64 N) ∧ ((((w3.alloc (.cells #[.int .i64 p, .int .i64 N, .int .i64 r] 151)).setCell ⟨w1.heap.size, k * 3, none⟩ (.int .i64 p)).setCell ⟨w1.heap.size, k * 3 + 1, none⟩ (.int .i64 N)).setCell ⟨w1.heap.size, k * 3 + 2, none⟩ (.int .i64 r)).cell? ⟨w.heap.size, 1, none⟩ = some (.slice (some ⟨b, o, none⟩) xs.length cap0)) := ⟨(cellO _ _ _ _ hne).trans ((cellO _ _ _ _ hne).trans ((cellO _ _ _ _ hne).trans HS4.out.1)), (cellO _ _ _ _ hne).trans ((cellO _ _ _ _ hne).trans ((cellO _ _ _ _ hne).trans HS4.out.2))⟩
          clear hne
          go_wp2_with fail
          exact ⟨⟨k + 1, by omega, by go_num, H2, HPUT.out _ HR4.out, ((HG4.out.own (p := ⟨w1.heap.size, k * 3, none⟩) (by show w.heap.size ≤ w1.heap.size; omega) _).own (p := ⟨w1.heap.size, k * 3 + 1, none⟩) (by show w.heap.size ≤ w1.heap.size; omega) _).own (p := ⟨w1.heap.size, k * 3 + 2, none⟩) (by show w.heap.size ≤ w1.heap.size; omega) _, HS5⟩, by simp [intOf]; omega⟩
        · have cr := fun W (h1 : PrsW W) (h2 : TabW W) => impl_RingOf_no (xs.getD k 0) N W h1 h2 hok
          have HB : Hid (spB N xs = false) := sp_not HBB.out hlt hok
          clear H1 hok
          generalize xs.getD k 0 = p at *
          go_wp2_with fail
          refine (cr _ (HP.out.old HG.out) (HT.out.old HG.out)).mono ?_
          rintro e w3 ⟨rfl, g3⟩
          have HG4 : Hid (Old w (w3.alloc (.cells ring0 151))) := Old.trans HG.out (g3.alloc _)
          clear g3 cr s0 s1 c1
          go_wp2_with fail
          exact bodyPost_ret (v := .tuple #[.slice none 0 0, .bool false]) (by simp [results, Tryz.results105, go_sem]) rfl ⟨HG4.out, Or.inl ⟨HB.out, rfl⟩⟩
      · have d1 : decide ((k : Int) < (xs.length : Int)) = false := by simp; omega
        obtain rfl : k = xs.length := by omega
        have HB : Hid (spB N xs = true) := sp_all HBB.out H1.out
        clear H1
        go_wp2_with fail
        exact bodyPost_ret (v := .tuple #[.slice (some ⟨w1.heap.size, 0, none⟩) xs.length xs.length, .bool true]) (by simp [results, Tryz.results105, go_sem]) rfl ⟨HG.out, Or.inr ⟨HB.out, w1.heap.size, by omega, rfl, HR.out⟩⟩
end Go.Proofs.YtfgooclnohnkmaaGreatDoor
