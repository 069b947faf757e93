/- Proved: several texts in one: what each proves is said ahead of it. -/
import Derived.Test.YtkggfljdbdfonaaGreatDoorWo17
import Derived.Test.YtkggfljdbdfonaaGreatDoorWo12
import Derived.OwnWalk
import Derived.BigRegion
import Derived.Test.YtkggfljdbdfonaaGreatDoorWo02
/- Proved: a region that draws its order, of which one operation turns what was there (an append) once all others are done, and one more hands on what it told; no function of the program. -/
namespace Go.Proofs.YtkggfljdbdfonaaGreatDoor
open Go.ChangeShapes Go.WideShapes Go.ChangeAt Go.RowKit
set_option linter.unusedSimpArgs false
set_option linter.unusedVariables false
/-- what an operation waits for -/
def depsO (ops : Array Oper) (i : Nat) : List Nat := match ops[i]? with
  | some o => (o.after.toList.filter (fun e => Region.binds .any e)).map (·.on)
  | none => []
def nextS (ops : Array Oper) (n : Nat) (S : List Nat) : List Nat := (List.range n).filter (fun i => S.contains i || S.any (fun s => (depsO ops s).contains i))
def closS (ops : Array Oper) (n : Nat) : Nat → List Nat → List Nat
  | 0, S => S
  | k + 1, S => closS ops n k (nextS ops n S)
/-- what is done has all done that it waits for -/
def Done (ops : Array Oper) (d : Nat → Bool) : Prop := ∀ i, d i = true → ∀ j ∈ depsO ops i, d j = true
theorem nextS_done {ops : Array Oper} {n : Nat} {d : Nat → Bool} (h : Done ops d) {S : List Nat} (hS : ∀ i ∈ S, d i = true) : ∀ i ∈ nextS ops n S, d i = true := by
  intro i hi
  unfold nextS at hi
  have h2 := (List.mem_filter.1 hi).2
  rw [Bool.or_eq_true] at h2
  rcases h2 with h3 | h3
  · exact hS i (by simpa using h3)
  · obtain ⟨s, hs, h4⟩ := List.any_eq_true.1 h3
    exact h s (hS s hs) i (by simpa using h4)
theorem closS_done {ops : Array Oper} {n : Nat} {d : Nat → Bool} (h : Done ops d) : ∀ k S, (∀ i ∈ S, d i = true) → ∀ i ∈ closS ops n k S, d i = true
  | 0, S, hS => hS
  | k + 1, S, hS => closS_done h k _ (nextS_done h hS)
theorem mem_depsO {ops : Array Oper} {i : Nat} {o : Oper} (ho : ops[i]? = some o) (j : Nat) : j ∈ depsO ops i ↔ ∃ e ∈ o.after.toList, Region.binds .any e = true ∧ e.on = j := by
  unfold depsO
  rw [ho]
  simp only [List.mem_map, List.mem_filter]
  constructor
  · rintro ⟨e, ⟨h1, h2⟩, h3⟩; exact ⟨e, h1, h2, h3⟩
  · rintro ⟨e, h1, h2, h3⟩; exact ⟨e, ⟨h1, h2⟩, h3⟩
theorem Done.upd {ops : Array Oper} {d : Nat → Bool} (h : Done ops d) {i : Nat} {o : Oper} (ho : ops[i]? = some o) (hd : ∀ e ∈ o.after.toList, Region.binds .any e = true → d e.on = true) : Done ops (upd d i) := by
  intro k hk j hj
  by_cases hji : j = i
  · subst hji; exact upd_same d j
  · rw [upd_other d hji]
    by_cases hki : k = i
    · subst hki
      obtain ⟨e, h1, h2, h3⟩ := (mem_depsO ho j).1 hj
      rw [← h3]
      exact hd e h1 h2
    · rw [upd_other d hki] at hk
      exact h k hk j hj
theorem wp_region_turn {P : Program} {id : Nat} {l : List Oper} {Q : Exit → Act → World → Prop} {a0 : Act} {w0 : World} (n : Nat) {t f : Oper} (hn : l.length = n + 2) (ht : l[n]? = some t) (hf : l[n + 1]? = some f) (hm : P.follows .mixedOrders = true)
    (hord : (List.range l.toArray.size).all (fun i => ((l.toArray[i]?).map (fun o => o.after.all fun e => !Region.binds .any e || decide (e.on < i))).getD true) = true)
    (hg : l.all (fun o => o.guard.isNone) = true)
    (hall : (List.range n).all (fun i => (closS l.toArray n n (depsO l.toArray n)).contains i) = true)
    (hft : (depsO l.toArray (n + 1)).contains n = true)
    (slot : Nat → Nat) (hslot : ∀ i, i < n + 2 → slot i < a0.tmps.size) (hinj : ∀ i j, i < n + 2 → j < n + 2 → slot i = slot j → i = j)
    (Qs : Nat → World → Value → Prop) (hQ : ∀ i W W' v, Qs i W v → Old W W' → Qs i W' v)
    (QT : World → Value → Prop)
    (hstep : StepsO P Q w0 (n + 1) slot a0 Qs 0 (l.take n))
    (hturn : ∀ a W, Old w0 W → Fram (n + 1) slot a0 a → (∀ i, i < n → Qs i W (a.eval (.tmp (slot i)))) → t.wp P a W (fun a' W' => ∃ v, a' = a.put (some (slot n)) v ∧ QT W' v) Q)
    (hlast : ∀ a W v, a.eval (.tmp (slot n)) = v → f.wp P a W (fun a' W' => a' = a.put (some (slot (n + 1))) v ∧ W' = W) Q)
    (hdone : ∀ a W, Fram (n + 2) slot a0 a → QT W (a.eval (.tmp (slot (n + 1)))) → Q .normal a W) :
    (Code.region id l.toArray true).wp P Q a0 w0 := by
  have hsz : l.toArray.size = n + 2 := by simpa using hn
  have hon : ∀ i o, l.toArray[i]? = some o → ∀ e ∈ o.after.toList, Region.binds .any e = true → e.on < i := by
    intro i o ho e he hb
    have hi : i < l.toArray.size := (Array.getElem?_eq_some_iff.1 ho).1
    have h1 := List.all_eq_true.1 hord i (by simpa using hi)
    rw [ho] at h1
    simp only [Option.map_some, Option.getD_some] at h1
    rw [Array.all_eq_true'] at h1
    have h2 := h1 e (by simpa using he)
    rw [hb] at h2
    simpa using h2
  let I : (Nat → Bool) → Act → World → Prop := fun d a W => Fram (n + 2) slot a0 a ∧ (d (n + 1) = false → Fram (n + 1) slot a0 a) ∧ Done l.toArray d ∧
    (d n = false → Old w0 W ∧ d (n + 1) = false ∧ ∀ i, i < n → d i = true → Qs i W (a.eval (.tmp (slot i)))) ∧
    (d n = true → (∀ i, i < n → d i = true) ∧ QT W (a.eval (.tmp (slot n))) ∧ (d (n + 1) = true → a.eval (.tmp (slot (n + 1))) = a.eval (.tmp (slot n))))
  have fput : ∀ a v i, i < n + 2 → Fram (n + 2) slot a0 a → Fram (n + 2) slot a0 (a.put (some (slot i)) v) := fun a v i hi hF =>
    ⟨by simp [Act.put, hF.size], by simp [Act.put, hF.defers], fun s hs => by rw [eval_put_other _ _ _ _ (hs i hi)]; exact hF.same s hs⟩
  have fput1 : ∀ a v i, i < n + 1 → Fram (n + 1) slot a0 a → Fram (n + 1) slot a0 (a.put (some (slot i)) v) := fun a v i hi hF =>
    ⟨by simp [Act.put, hF.size], by simp [Act.put, hF.defers], fun s hs => by rw [eval_put_other _ _ _ _ (hs i hi)]; exact hF.same s hs⟩
  refine wp_region_inv hm I hord ⟨⟨rfl, rfl, fun _ _ => rfl⟩, (fun _ => ⟨rfl, rfl, fun _ _ => rfl⟩), (fun i h => by cases h), (fun _ => ⟨Below.drew (Old.refl w0), rfl, (fun i _ h => by cases h)⟩), (fun h => by cases h)⟩ ?_ ?_
  · intro i o ho d a W hI hdi hd
    have hgn := List.all_eq_true.1 hg o (List.mem_of_getElem? (by simpa using ho))
    have hw : Region.wanted o (yielded l.toArray a.tmps) = true := by
      cases h : o.guard with
      | none => simp [Region.wanted, h]
      | some g => rw [h] at hgn; cases hgn
    rw [if_pos hw]
    have hi : i < n + 2 := by
      have := (Array.getElem?_eq_some_iff.1 ho).1
      omega
    obtain ⟨hF, hE, hC, hA, hB⟩ := hI
    have hC' := hC.upd ho hd
    rcases Nat.lt_trichotomy i n with h1 | h1 | h1
    · -- ahead of the turn
      cases hdn : d n with
      | true =>
        have := (hB hdn).1 i h1
        rw [this] at hdi
        cases hdi
      | false =>
        obtain ⟨g, hf0, hq⟩ := hA hdn
        have key : ∀ (m : List Oper) (k : Nat), StepsO P Q w0 (n + 1) slot a0 Qs k m → ∀ (j : Nat) (o : Oper), m[j]? = some o → ∀ (a : Act) (W : World), Old w0 W → Fram (n + 1) slot a0 a → (∀ e ∈ o.after.toList, Region.binds .any e = true → Qs e.on W (a.eval (.tmp (slot e.on)))) → o.wp P a W (fun a' W' => ∃ v, a' = a.put (some (slot (k + j))) v ∧ Old W W' ∧ Qs (k + j) W' v) Q := by
          intro m
          induction m with
          | nil => intro k _ j o h; simp at h
          | cons x m ih =>
            intro k hs j o hj
            cases j with
            | zero =>
              simp at hj
              subst hj
              exact hs.1
            | succ j =>
              have := ih (k + 1) hs.2 j o (by simpa using hj)
              rw [show k + 1 + j = k + (j + 1) by omega] at this
              exact this
        have hst := key (l.take n) 0 hstep i o (by rw [List.getElem?_take, if_pos h1]; simpa using ho) a W g (hE hf0) (fun e he hb => hq e.on (by have := hon i o ho e he hb; omega) (hd e he hb))
        rw [Nat.zero_add] at hst
        refine Oper.wp_mono ?_ hst
        rintro a' W' ⟨v, rfl, g', hv⟩
        refine ⟨fput a v i hi hF, (fun _ => fput1 a v i (by omega) (hE hf0)), hC', (fun _ => ⟨Old.trans g g', (by rw [upd_other d (by omega)]; exact hf0), (fun j hj hdj => ?_)⟩), (fun h => by rw [upd_other d (by omega), hdn] at h; cases h)⟩
        by_cases hji : j = i
        · subst hji
          rw [eval_put_same _ _ _ (by rw [hF.size]; exact hslot j hi)]
          exact hv
        · rw [eval_put_other _ _ _ _ (fun e => hji (hinj i j hi (by omega) e).symm)]
          rw [upd_other d hji] at hdj
          exact hQ j W W' _ (hq j hj hdj) g'
    · subst h1
      have hot : o = t := by
        have : l[i]? = some o := by simpa using ho
        rw [ht] at this
        exact (Option.some.inj this).symm
      subst hot
      obtain ⟨g, hf0, hq⟩ := hA hdi
      have hpre : ∀ j, j < i → d j = true := fun j hj => by
        have h2 := List.all_eq_true.1 hall j (by simpa using hj)
        exact closS_done hC i _ (fun s hs => by
          obtain ⟨e, e1, e2, e3⟩ := (mem_depsO ho s).1 hs
          rw [← e3]
          exact hd e e1 e2) j (by simpa using h2)
      refine Oper.wp_mono ?_ (hturn a W g (hE hf0) (fun j hj => hq j hj (hpre j hj)))
      rintro a' W' ⟨v, rfl, hv⟩
      refine ⟨fput a v i hi hF, (fun _ => fput1 a v i (by omega) (hE hf0)), hC', (fun h => by rw [upd_same] at h; cases h), (fun _ => ⟨(fun j hj => by rw [upd_other d (by omega)]; exact hpre j hj), ?_, (fun h => ?_)⟩)⟩
      · rw [eval_put_same _ _ _ (by rw [hF.size]; exact hslot i hi)]
        exact hv
      · rw [upd_other d (by omega), hf0] at h
        cases h
    · obtain rfl : i = n + 1 := by omega
      have hof : o = f := by
        have : l[n + 1]? = some o := by simpa using ho
        rw [hf] at this
        exact (Option.some.inj this).symm
      subst hof
      have hdn : d n = true := by
        obtain ⟨e, e1, e2, e3⟩ := (mem_depsO ho n).1 (by simpa using hft)
        rw [← e3]
        exact hd e e1 e2
      obtain ⟨b1, b2, _⟩ := hB hdn
      refine Oper.wp_mono ?_ (hlast a W _ rfl)
      rintro a' W' ⟨rfl, rfl⟩
      have hne : slot (n + 1) ≠ slot n := fun e => by have := hinj (n + 1) n (by omega) (by omega) e; omega
      refine ⟨fput a _ (n + 1) hi hF, (fun h => by rw [upd_same] at h; cases h), hC', (fun h => by rw [upd_other d (by omega), hdn] at h; cases h), (fun _ => ⟨(fun j hj => by rw [upd_other d (by omega)]; exact b1 j hj), ?_, (fun _ => ?_)⟩)⟩
      · rw [eval_put_other _ _ _ _ hne]
        exact b2
      · rw [eval_put_same _ _ _ (by rw [hF.size]; exact hslot (n + 1) hi), eval_put_other _ _ _ _ hne]
  · intro d a W hd hI
    obtain ⟨hF, _, hC, hA, hB⟩ := hI
    obtain ⟨b1, b2, b3⟩ := hB (hd n (by omega))
    refine hdone a W hF ?_
    rw [b3 (hd (n + 1) (by omega))]
    exact b2
end Go.Proofs.YtkggfljdbdfonaaGreatDoor
/- Proved: the rings of a space, as the program makes them. -/
namespace Go.Proofs.YtkggfljdbdfonaaGreatDoor
open Go.ChangeShapes Go.WideShapes Go.ChangeAt Go.RowKit
open M1
set_option linter.unusedVariables false
set_option linter.unusedSimpArgs false
theorem Tryz.infoRing : (Tryz.prog.info? 116).map (fun i => (i.zero, i.size, i.bytes)) = some (some (.agg #[.int .i64 0, .int .i64 0, .int .i64 0]), 3, 24) := by kernel_rfl
/-- the first k rings lie in block g -/
def Rgs (W : World) (g : Nat) (N : Int) (xs : List Int) (Rf : Nat → Int) (k : Nat) : Prop :=
  ∃ ys : List Int, ys.length = 3 * xs.length ∧ W.ownsRow g 116 3 (.slice (some ⟨g, 0, none⟩) xs.length xs.length) xs.length (ys.map (Value.int .i64)) ∧ ∀ i, i < k → ys.getD (i * 3) 0 = xs.getD i 0 ∧ ys.getD (i * 3 + 1) 0 = N ∧ ys.getD (i * 3 + 2) 0 = Rf i
theorem Rgs.lt {W : World} {g : Nat} {N : Int} {xs : List Int} {Rf : Nat → Int} {k : Nat} (h : Rgs W g N xs Rf k) : g < W.heap.size := by
  obtain ⟨ys, _, ho, _⟩ := h
  exact (ho.lt g rfl).2
theorem Rgs.old {W W' : World} {g : Nat} {N : Int} {xs : List Int} {Rf : Nat → Int} {k : Nat} (h : Rgs W g N xs Rf k) (q : Old W W') : Rgs W' g N xs Rf k := by
  obtain ⟨ys, hl, ho, hy⟩ := h
  refine ⟨ys, hl, ⟨ho.1, ?_⟩, hy⟩
  rcases ho.2 with hn | ⟨p, cap, cur, e, hb, hgg, rest⟩
  · exact .inl hn
  · refine .inr ⟨p, cap, cur, e, hb, ?_, rest⟩
    rw [q.block p (Array.getElem?_eq_some_iff.1 hgg).1]
    exact hgg
theorem Rgs.cell {W : World} {g : Nat} {N : Int} {xs : List Int} {Rf : Nat → Int} {k : Nat} (h : Rgs W g N xs Rf k) (j : Nat) (hj : j < 3 * xs.length) : ∃ y : Int, W.cell? ⟨g, j, none⟩ = some (.int .i64 y) := by
  obtain ⟨ys, hl, ho, hy⟩ := h
  refine ⟨ys.getD j 0, ?_⟩
  rw [World.ownsRow.cellAt ho j (by omega)]
  simp [List.getD, hl, hj]
theorem Rgs.free {W : World} {g : Nat} {N : Int} {xs : List Int} {Rf : Nat → Int} {k : Nat} (h : Rgs W g N xs Rf k) (j : Nat) : W.frozen? ⟨g, j, none⟩ = false := by
  obtain ⟨ys, hl, ho, hy⟩ := h
  exact World.ownsRow.frozenAt ho j
theorem Rgs.at {W : World} {g : Nat} {N : Int} {xs : List Int} {Rf : Nat → Int} {k : Nat} (h : Rgs W g N xs Rf k) (i : Nat) (hi : i < k) (hx : i < xs.length) : W.cell? ⟨g, i * 3, none⟩ = some (.int .i64 (xs.getD i 0)) ∧ W.cell? ⟨g, i * 3 + 1, none⟩ = some (.int .i64 N) ∧ W.cell? ⟨g, i * 3 + 2, none⟩ = some (.int .i64 (Rf i)) := by
  obtain ⟨ys, hl, ho, hy⟩ := h
  obtain ⟨h0, h1, h2⟩ := hy i hi
  refine ⟨?_, ?_, ?_⟩
  · rw [World.ownsRow.cellAt ho (i * 3) (by omega), ← h0]
    simp [List.getD, hl, show i * 3 < 3 * xs.length by omega]
  · rw [World.ownsRow.cellAt ho (i * 3 + 1) (by omega), ← h1]
    simp [List.getD, hl, show i * 3 + 1 < 3 * xs.length by omega]
  · rw [World.ownsRow.cellAt ho (i * 3 + 2) (by omega), ← h2]
    simp [List.getD, hl, show i * 3 + 2 < 3 * xs.length by omega]
theorem getD_set_same (ys : List Int) (j : Nat) (y : Int) (h : j < ys.length) : (ys.set j y).getD j 0 = y := by simp [List.getD, h]
theorem getD_set_other (ys : List Int) (j i : Nat) (y : Int) (h : i ≠ j) : (ys.set j y).getD i 0 = ys.getD i 0 := by simp [List.getD, List.getElem?_set, Ne.symm h]
theorem Rgs.put {W : World} {g : Nat} {N : Int} {xs : List Int} {Rf : Nat → Int} {k : Nat} (h : Rgs W g N xs Rf k) (hk : k < xs.length) :
    Rgs (((W.setCell ⟨g, k * 3, none⟩ (.int .i64 (xs.getD k 0))).setCell ⟨g, k * 3 + 1, none⟩ (.int .i64 N)).setCell ⟨g, k * 3 + 2, none⟩ (.int .i64 (Rf k))) g N xs Rf (k + 1) := by
  obtain ⟨ys, hl, ho, hy⟩ := h
  have h1 := (World.ownsRow.stored ho (k * 3) (.int .i64 (xs.getD k 0))).1
  have h2 := (World.ownsRow.stored h1 (k * 3 + 1) (.int .i64 N)).1
  have h3 := (World.ownsRow.stored h2 (k * 3 + 2) (.int .i64 (Rf k))).1
  rw [← List.map_set, ← List.map_set, ← List.map_set] at h3
  refine ⟨_, by simp [hl], h3, fun i hi => ?_⟩
  rcases Nat.lt_or_ge i k with hlt | hge
  · obtain ⟨q0, q1, q2⟩ := hy i hlt
    refine ⟨?_, ?_, ?_⟩
    · rw [getD_set_other _ _ _ _ (by omega), getD_set_other _ _ _ _ (by omega), getD_set_other _ _ _ _ (by omega)]; exact q0
    · rw [getD_set_other _ _ _ _ (by omega), getD_set_other _ _ _ _ (by omega), getD_set_other _ _ _ _ (by omega)]; exact q1
    · rw [getD_set_other _ _ _ _ (by omega), getD_set_other _ _ _ _ (by omega), getD_set_other _ _ _ _ (by omega)]; exact q2
  · obtain rfl : i = k := by omega
    refine ⟨?_, ?_, ?_⟩
    · rw [getD_set_other _ _ _ _ (by omega), getD_set_other _ _ _ _ (by omega), getD_set_same _ _ _ (by omega)]
    · rw [getD_set_other _ _ _ _ (by omega), getD_set_same _ _ _ (by simp; omega)]
    · rw [getD_set_same _ _ _ (by simp; omega)]
theorem made_rings (n : Nat) : ∃ ys : List Int, ys.length = 3 * n ∧ (madeCells (Value.agg #[.int .i64 0, .int .i64 0, .int .i64 0]).cells (n * 3)).toList = ys.map (Value.int .i64) := by
  refine ⟨List.replicate (3 * n) 0, by simp, ?_⟩
  have hz : ∀ i : Nat, (#[Value.int .i64 0, Value.int .i64 0, Value.int .i64 0] : Array Value)[i % 3]! = Value.int .i64 0 := fun i => by
    have h3 : i % 3 = 0 ∨ i % 3 = 1 ∨ i % 3 = 2 := by omega
    rcases h3 with h | h | h <;> rw [h] <;> rfl
  rw [List.map_replicate]
  refine List.eq_replicate_iff.2 ⟨by simp [size_madeCells]; omega, fun b hb => ?_⟩
  unfold madeCells at hb
  simp only [Array.toList_map, List.mem_map] at hb
  obtain ⟨x, _, rfl⟩ := hb
  exact hz x
end Go.Proofs.YtkggfljdbdfonaaGreatDoor
/- Proved: the contract of the program's ringsOf. -/
namespace Go.Proofs.YtkggfljdbdfonaaGreatDoor
open Go.ChangeShapes Go.WideShapes Go.ChangeAt Go.RowKit
open M1
set_option linter.unusedVariables false
set_option linter.unusedSimpArgs false
theorem cellO (W : World) (p : Addr) (v : Value) (q : Addr) (h : q.block ≠ p.block) : (W.setCell p v).cell? q = W.cell? q := World.cell?_of_block (heap_setCell_other W p q.block v h)
set_option maxRecDepth 100000 in
set_option maxHeartbeats 4000000 in
theorem impl_rings (N : Int) (xs : List Int) (Rf : Nat → Int) (v : Value) (w : World) (hP : PrsW w) (hT : TabW w) (hv : Row w v xs) (hf : Fit v) (hl : xs.length ≤ 9223372036854775807)
    (hRf : ∀ k, RingOk (xs.getD k 0) N → (0 ≤ Rf k ∧ Rf k < xs.getD k 0) ∧ (∀ W, PrsW W → TabW W → Calls Tryz.prog 153 #[.int .i64 (xs.getD k 0), .int .i64 N] W fun e w' => e = .returned (.tuple #[.agg #[.int .i64 (xs.getD k 0), .int .i64 N, .int .i64 (Rf k)], .bool true]) ∧ Old W w')) :
    Calls Tryz.prog 106 #[.agg #[.int .i64 N, v]] w fun e w' => Old w w' ∧ ((spB N xs = false ∧ e = .returned (.tuple #[.slice none 0 0, .bool false])) ∨ (spB N xs = true ∧ ∃ g, w.heap.size ≤ g ∧ e = .returned (.tuple #[.slice (some ⟨g, 0, none⟩) xs.length xs.length, .bool true]) ∧ Rgs w' g N xs Rf xs.length)) := by
  have cb := fun W v (h1 : PrsW W) (h2 : TabW W) (h : Row W v xs) (f : Fit v) => impl_goodBasis xs v W h1 h2 h f hl
  have HP : Hid (PrsW w) := hP
  have HT : Hid (TabW w) := hT
  have HV : Hid (Row w v xs) := hv
  have HF : Hid (Fit v) := hf
  have HRF : Hid (∀ k, RingOk (xs.getD k 0) N → (0 ≤ Rf k ∧ Rf k < xs.getD k 0) ∧ (∀ W, PrsW W → TabW W → Calls Tryz.prog 153 #[.int .i64 (xs.getD k 0), .int .i64 N] W fun e w' => e = .returned (.tuple #[.agg #[.int .i64 (xs.getD k 0), .int .i64 N, .int .i64 (Rf k)], .bool true]) ∧ Old W w')) := hRf
  obtain ⟨a0, cap0, ev⟩ := hv.slice
  subst ev
  have HN : Hid (Old w (w.alloc (.cells #[.int .i64 N, .slice a0 xs.length cap0] 33))) := (Old.refl w).alloc _
  clear hP hT hv hf hRf
  cases hb : basB xs
  · rw [hb] at cb
    have HB : Hid (spB N xs = false) := by show spB N xs = false; unfold spB; rw [hb]; simp
    clear hb
    go_enter Tryz.func106, Tryz.ntmps106
    go_wp2_with fail
    refine (cb _ _ (HP.out.old HN.out) (HT.out.old HN.out) (HV.out.old HN.out) HF.out).mono ?_
    rintro e w1 ⟨rfl, g1⟩
    have HG1 : Hid (Old w w1) := Old.trans HN.out g1
    clear g1
    go_wp2_with fail
    exact bodyPost_ret (v := .tuple #[.slice none 0 0, .bool false]) (by simp [results, Tryz.results106, go_sem]) rfl ⟨HG1.out, Or.inl ⟨HB.out, rfl⟩⟩
  · rw [hb] at cb
    have HBB : Hid (basB xs = true) := hb
    have hlen := (bas_at hb).1
    obtain ⟨i0, hi, hz0, hz1, hz2⟩ := info_parts Tryz.infoRing
    clear hb
    go_enter Tryz.func106, Tryz.ntmps106
    go_wp2_with fail
    refine (cb _ _ (HP.out.old HN.out) (HT.out.old HN.out) (HV.out.old HN.out) HF.out).mono ?_
    rintro e w1 ⟨rfl, g1⟩
    have HG1 : Hid (Old w w1) := Old.trans HN.out g1
    have HS1 : Hid (w1.cell? ⟨w.heap.size, 0, none⟩ = some (.int .i64 N) ∧ w1.cell? ⟨w.heap.size, 1, none⟩ = some (.slice a0 xs.length cap0)) := ⟨(g1.cell (p := ⟨w.heap.size, 0, none⟩) (by simp)).trans (cell_at _ _ _ _ _ rfl), (g1.cell (p := ⟨w.heap.size, 1, none⟩) (by simp)).trans (cell_at _ _ _ _ _ rfl)⟩
    have hs1 : w.heap.size < w1.heap.size := by have := g1.size; simp at this; omega
    clear g1 cb
    rcases (HV.out) with ⟨a, cap, e, e2⟩ | ⟨b, o, cap, e, hb, h1, hc⟩
    · subst e2
      simp at hlen
    simp only [Value.slice.injEq, true_and] at e
    obtain ⟨rfl, rfl⟩ := e
    have HC : Hid (∀ j, j < xs.length → w.cell? ⟨b, o + j, none⟩ = some (.int .i64 (xs.getD j 0))) := hc
    clear hc
    have s0 := HS1.out.1
    have s1 := HS1.out.2
    go_wp2_with (at_make; refine wpList_make_full _ rfl _ _ 101 rfl w1.heap.size 116 i0 (.agg #[.int .i64 0, .int .i64 0, .int .i64 0]) 3 Tryz.underlying101 hi hz0 hz1 .i64 .i64 _ _ xs.length rfl rfl rfl rfl (by rw [hz2]; omega) (by unfold maxLen; omega) (Nat.le_refl _) ?_; intro w2 hown hgrow; have s0' : w2.cell? ⟨w.heap.size, 0, none⟩ = some (.int .i64 N) := ((grownBy_old hgrow).cell (p := ⟨w.heap.size, 0, none⟩) hs1).trans s0; have s1' : w2.cell? ⟨w.heap.size, 1, none⟩ = some (.slice (some ⟨b, o, none⟩) xs.length cap0) := ((grownBy_old hgrow).cell (p := ⟨w.heap.size, 1, none⟩) hs1).trans s1)
    obtain ⟨ys, hyl, hym⟩ := made_rings xs.length
    rw [hym] at hown
    have HRG : Hid (Rgs w2 w1.heap.size N xs Rf 0) := ⟨ys, hyl, hown, fun i hi => by omega⟩
    have HG2 : Hid (Old w w2) := Old.trans HG1.out (grownBy_old hgrow)
    have HS2 : Hid (w2.cell? ⟨w.heap.size, 0, none⟩ = some (.int .i64 N) ∧ w2.cell? ⟨w.heap.size, 1, none⟩ = some (.slice (some ⟨b, o, none⟩) xs.length cap0)) := ⟨s0', s1'⟩
    clear hown hgrow s0' s1' s0 s1 HS1 hym hyl
    go_loopw [20] (fun i W => ∃ k : Nat, k ≤ xs.length ∧ i = .int .i64 k ∧ Hid (∀ j, j < k → RingOk (xs.getD j 0) N) ∧ Hid (Rgs W w1.heap.size N xs Rf k) ∧ Hid (Old w W) ∧ Hid (W.cell? ⟨w.heap.size, 0, none⟩ = some (.int .i64 N) ∧ W.cell? ⟨w.heap.size, 1, none⟩ = some (.slice (some ⟨b, o, none⟩) xs.length cap0))) (fun i _ => xs.length - (intOf i).toNat)
    case atStart => exact ⟨0, by omega, rfl, fun j hj => by omega, HRG, HG2, HS2⟩
    case round =>
      obtain ⟨k, hk, rfl, H1, HR, HG, HS⟩ := hrel
      clear HRG HG2 HS2
      by_cases hlt : k < xs.length
      · have d1 : decide ((k : Int) < (xs.length : Int)) = true := by simp; omega
        have c1 : wr.cell? ⟨b, o + k, none⟩ = some (.int .i64 (xs.getD k 0)) := (HG.out.cell (p := ⟨b, o + k, none⟩) hb).trans (HC.out k hlt)
        have s0 := HS.out.1
        have s1 := HS.out.2
        have hsr : w.heap.size < wr.heap.size := by have := HR.out.lt; omega
        by_cases hok : RingOk (xs.getD k 0) N
        · have cr := (HRF.out k hok).2
          have H2 : Hid (∀ j, j < k + 1 → RingOk (xs.getD j 0) N) := fun j hj => by
            rcases Nat.lt_or_ge j k with h | h
            · exact H1.out j h
            · obtain rfl : j = k := by omega
              exact hok
          have HPUT : Hid (∀ W, Rgs W w1.heap.size N xs Rf k → Rgs (((W.setCell ⟨w1.heap.size, k * 3, none⟩ (.int .i64 (xs.getD k 0))).setCell ⟨w1.heap.size, k * 3 + 1, none⟩ (.int .i64 N)).setCell ⟨w1.heap.size, k * 3 + 2, none⟩ (.int .i64 (Rf k))) w1.heap.size N xs Rf (k + 1)) := fun W h => h.put hlt
          have HCR : Hid (∀ W, PrsW W → TabW W → Calls Tryz.prog 153 #[.int .i64 (xs.getD k 0), .int .i64 N] W fun e w' => e = .returned (.tuple #[.agg #[.int .i64 (xs.getD k 0), .int .i64 N, .int .i64 (Rf k)], .bool true]) ∧ Old W w') := cr
          clear H1 hok cr
          generalize xs.getD k 0 = p at *
          obtain ⟨r, hr⟩ : ∃ r, Rf k = r := ⟨_, rfl⟩
          rw [hr] at HPUT HCR
          clear hr
          go_wp2_with fail
          refine (HCR.out _ (HP.out.old HG.out) (HT.out.old HG.out)).mono ?_
          rintro e w3 ⟨rfl, g3⟩
          have g4 : Old wr (w3.alloc (.cells #[.int .i64 p, .int .i64 N, .int .i64 r] 116)) := g3.alloc _
          have HR4 : Hid (Rgs (w3.alloc (.cells #[.int .i64 p, .int .i64 N, .int .i64 r] 116)) w1.heap.size N xs Rf k) := HR.out.old g4
          have HG4 : Hid (Old w (w3.alloc (.cells #[.int .i64 p, .int .i64 N, .int .i64 r] 116))) := Old.trans HG.out g4
          have HS4 : Hid ((w3.alloc (.cells #[.int .i64 p, .int .i64 N, .int .i64 r] 116)).cell? ⟨w.heap.size, 0, none⟩ = some (.int .i64 N) ∧ (w3.alloc (.cells #[.int .i64 p, .int .i64 N, .int .i64 r] 116)).cell? ⟨w.heap.size, 1, none⟩ = some (.slice (some ⟨b, o, none⟩) xs.length cap0)) := ⟨(g4.cell (p := ⟨w.heap.size, 0, none⟩) hsr).trans HS.out.1, (g4.cell (p := ⟨w.heap.size, 1, none⟩) hsr).trans HS.out.2⟩
          obtain ⟨y0, q0⟩ := HR4.out.cell (k * 3) (by omega)
          obtain ⟨y1, q1⟩ := HR4.out.cell (k * 3 + 1) (by omega)
          obtain ⟨y2, q2⟩ := HR4.out.cell (k * 3 + 2) (by omega)
          have f0 := HR4.out.free (k * 3)
          have f1 := HR4.out.free (k * 3 + 1)
          have f2 := HR4.out.free (k * 3 + 2)
          clear g3 g4 s0 s1 c1
          have hne : w.heap.size ≠ w1.heap.size := by omega
          have HS5 : Hid (((((w3.alloc (.cells #[.int .i64 p, .int .i64 N, .int .i64 r] 116)).setCell ⟨w1.heap.size, k * 3, none⟩ (.int .i64 p)).setCell ⟨w1.heap.size, k * 3 + 1, none⟩ (.int .i64 N)).setCell ⟨w1.heap.size, k * 3 + 2, none⟩ (.int .i64 r)).cell? ⟨w.heap.size, 0, none⟩ = some (.int .i64 N) ∧ ((((w3.alloc (.cells #[.int .i64 p, .int .i64 N, .int .i64 r] 116)).setCell ⟨w1.heap.size, k * 3, none⟩ (.int .i64 p)).setCell ⟨w1.heap.size, k * 3 + 1, none⟩ (.int .i64 N)).setCell ⟨w1.heap.size, k * 3 + 2, none⟩ (.int .i64 r)).cell? ⟨w.heap.size, 1, none⟩ = some (.slice (some ⟨b, o, none⟩) xs.length cap0)) := ⟨(cellO _ _ _ _ hne).trans ((cellO _ _ _ _ hne).trans ((cellO _ _ _ _ hne).trans HS4.out.1)), (cellO _ _ _ _ hne).trans ((cellO _ _ _ _ hne).trans ((cellO _ _ _ _ hne).trans HS4.out.2))⟩
          clear hne
          go_wp2_with fail
          exact ⟨⟨k + 1, by omega, by go_num, H2, HPUT.out _ HR4.out, ((HG4.out.own (p := ⟨w1.heap.size, k * 3, none⟩) (by show w.heap.size ≤ w1.heap.size; omega) _).own (p := ⟨w1.heap.size, k * 3 + 1, none⟩) (by show w.heap.size ≤ w1.heap.size; omega) _).own (p := ⟨w1.heap.size, k * 3 + 2, none⟩) (by show w.heap.size ≤ w1.heap.size; omega) _, HS5⟩, by simp [intOf]; omega⟩
        · have cr := fun W (h1 : PrsW W) (h2 : TabW W) => impl_RingOf_no (xs.getD k 0) N W h1 h2 hok
          have HB : Hid (spB N xs = false) := sp_not HBB.out hlt hok
          clear H1 hok
          generalize xs.getD k 0 = p at *
          go_wp2_with fail
          refine (cr _ (HP.out.old HG.out) (HT.out.old HG.out)).mono ?_
          rintro e w3 ⟨rfl, g3⟩
          have HG4 : Hid (Old w (w3.alloc (.cells ring0 116))) := Old.trans HG.out (g3.alloc _)
          clear g3 cr s0 s1 c1
          go_wp2_with fail
          exact bodyPost_ret (v := .tuple #[.slice none 0 0, .bool false]) (by simp [results, Tryz.results106, go_sem]) rfl ⟨HG4.out, Or.inl ⟨HB.out, rfl⟩⟩
      · have d1 : decide ((k : Int) < (xs.length : Int)) = false := by simp; omega
        obtain rfl : k = xs.length := by omega
        have HB : Hid (spB N xs = true) := sp_all HBB.out H1.out
        clear H1
        go_wp2_with fail
        exact bodyPost_ret (v := .tuple #[.slice (some ⟨w1.heap.size, 0, none⟩) xs.length xs.length, .bool true]) (by simp [results, Tryz.results106, go_sem]) rfl ⟨HG.out, Or.inr ⟨HB.out, w1.heap.size, by omega, rfl, HR.out⟩⟩
end Go.Proofs.YtkggfljdbdfonaaGreatDoor
/- Proved: rows beside their rings, as the program makes them. -/
namespace Go.Proofs.YtkggfljdbdfonaaGreatDoor
open Go.ChangeShapes Go.WideShapes Go.ChangeAt Go.RowKit
open M1
set_option linter.unusedVariables false
set_option linter.unusedSimpArgs false
theorem Tryz.infoRingRow : (Tryz.prog.info? 118).map (fun i => (i.zero, i.size, i.bytes)) = some (some (.agg #[.int .i64 0, .int .i64 0, .int .i64 0, .bool false, .slice none 0 0]), 5, 56) := by kernel_rfl
/-- the first k rows beside their rings lie in block g; the rows themselves where us says -/
def RRs (W : World) (g : Nat) (N : Int) (n : Bool) (ps : List Int) (Rf : Nat → Int) (us : Nat → Option Addr) (k : Nat) : Prop :=
  ∃ vs : List Value, vs.length = 5 * ps.length ∧ W.ownsRow g 118 5 (.slice (some ⟨g, 0, none⟩) ps.length ps.length) ps.length vs
    ∧ ∀ i, i < k → vs[i * 5]? = some (.int .i64 (ps.getD i 0)) ∧ vs[i * 5 + 1]? = some (.int .i64 N) ∧ vs[i * 5 + 2]? = some (.int .i64 (Rf i)) ∧ vs[i * 5 + 3]? = some (.bool n) ∧ vs[i * 5 + 4]? = some (.slice (us i) N.toNat N.toNat)
theorem RRs.lt {W : World} {g : Nat} {N : Int} {n : Bool} {ps : List Int} {Rf : Nat → Int} {us : Nat → Option Addr} {k : Nat} (h : RRs W g N n ps Rf us k) : g < W.heap.size := by
  obtain ⟨vs, _, ho, _⟩ := h
  exact (ho.lt g rfl).2
theorem RRs.old {W W' : World} {g : Nat} {N : Int} {n : Bool} {ps : List Int} {Rf : Nat → Int} {us : Nat → Option Addr} {k : Nat} (h : RRs W g N n ps Rf us k) (q : Old W W') : RRs W' g N n ps Rf us k := by
  obtain ⟨vs, hl, ho, hy⟩ := h
  refine ⟨vs, hl, ⟨ho.1, ?_⟩, hy⟩
  rcases ho.2 with hn | ⟨p, cap, cur, e, hb, hgg, rest⟩
  · exact .inl hn
  · refine .inr ⟨p, cap, cur, e, hb, ?_, rest⟩
    rw [q.block p (Array.getElem?_eq_some_iff.1 hgg).1]
    exact hgg
theorem RRs.cell {W : World} {g : Nat} {N : Int} {n : Bool} {ps : List Int} {Rf : Nat → Int} {us : Nat → Option Addr} {k : Nat} (h : RRs W g N n ps Rf us k) (j : Nat) (hj : j < 5 * ps.length) : ∃ y : Value, W.cell? ⟨g, j, none⟩ = some y := by
  obtain ⟨vs, hl, ho, hy⟩ := h
  refine ⟨vs[j]'(by omega), ?_⟩
  rw [World.ownsRow.cellAt ho j (by omega)]
  exact List.getElem?_eq_getElem _
theorem RRs.free {W : World} {g : Nat} {N : Int} {n : Bool} {ps : List Int} {Rf : Nat → Int} {us : Nat → Option Addr} {k : Nat} (h : RRs W g N n ps Rf us k) (j : Nat) : W.frozen? ⟨g, j, none⟩ = false := by
  obtain ⟨vs, hl, ho, hy⟩ := h
  exact World.ownsRow.frozenAt ho j
theorem RRs.at {W : World} {g : Nat} {N : Int} {n : Bool} {ps : List Int} {Rf : Nat → Int} {us : Nat → Option Addr} {k : Nat} (h : RRs W g N n ps Rf us k) (i : Nat) (hi : i < k) (hx : i < ps.length) :
    W.cell? ⟨g, i * 5, none⟩ = some (.int .i64 (ps.getD i 0)) ∧ W.cell? ⟨g, i * 5 + 1, none⟩ = some (.int .i64 N) ∧ W.cell? ⟨g, i * 5 + 2, none⟩ = some (.int .i64 (Rf i)) ∧ W.cell? ⟨g, i * 5 + 3, none⟩ = some (.bool n) ∧ W.cell? ⟨g, i * 5 + 4, none⟩ = some (.slice (us i) N.toNat N.toNat) := by
  obtain ⟨vs, hl, ho, hy⟩ := h
  obtain ⟨h0, h1, h2, h3, h4⟩ := hy i hi
  refine ⟨?_, ?_, ?_, ?_, ?_⟩
  · rw [World.ownsRow.cellAt ho _ (by omega)]; exact h0
  · rw [World.ownsRow.cellAt ho _ (by omega)]; exact h1
  · rw [World.ownsRow.cellAt ho _ (by omega)]; exact h2
  · rw [World.ownsRow.cellAt ho _ (by omega)]; exact h3
  · rw [World.ownsRow.cellAt ho _ (by omega)]; exact h4
theorem RRs.put {W : World} {g : Nat} {N : Int} {n : Bool} {ps : List Int} {Rf : Nat → Int} {us : Nat → Option Addr} {k : Nat} (h : RRs W g N n ps Rf us k) (hk : k < ps.length) :
    RRs (((((W.setCell ⟨g, k * 5, none⟩ (.int .i64 (ps.getD k 0))).setCell ⟨g, k * 5 + 1, none⟩ (.int .i64 N)).setCell ⟨g, k * 5 + 2, none⟩ (.int .i64 (Rf k))).setCell ⟨g, k * 5 + 3, none⟩ (.bool n)).setCell ⟨g, k * 5 + 4, none⟩ (.slice (us k) N.toNat N.toNat)) g N n ps Rf us (k + 1) := by
  obtain ⟨vs, hl, ho, hy⟩ := h
  have h1 := (World.ownsRow.stored ho (k * 5) (.int .i64 (ps.getD k 0))).1
  have h2 := (World.ownsRow.stored h1 (k * 5 + 1) (.int .i64 N)).1
  have h3 := (World.ownsRow.stored h2 (k * 5 + 2) (.int .i64 (Rf k))).1
  have h4 := (World.ownsRow.stored h3 (k * 5 + 3) (.bool n)).1
  have h5 := (World.ownsRow.stored h4 (k * 5 + 4) (.slice (us k) N.toNat N.toNat)).1
  refine ⟨_, by simp [hl], h5, fun i hi => ?_⟩
  rcases Nat.lt_or_ge i k with hlt | hge
  · obtain ⟨q0, q1, q2, q3, q4⟩ := hy i hlt
    refine ⟨?_, ?_, ?_, ?_, ?_⟩
    all_goals (rw [List.getElem?_set_ne (by omega), List.getElem?_set_ne (by omega), List.getElem?_set_ne (by omega), List.getElem?_set_ne (by omega), List.getElem?_set_ne (by omega)]; assumption)
  · obtain rfl : i = k := by omega
    refine ⟨?_, ?_, ?_, ?_, ?_⟩
    · rw [List.getElem?_set_ne (by omega), List.getElem?_set_ne (by omega), List.getElem?_set_ne (by omega), List.getElem?_set_ne (by omega), List.getElem?_set_self (by omega)]
    · rw [List.getElem?_set_ne (by omega), List.getElem?_set_ne (by omega), List.getElem?_set_ne (by omega), List.getElem?_set_self (by simp; omega)]
    · rw [List.getElem?_set_ne (by omega), List.getElem?_set_ne (by omega), List.getElem?_set_self (by simp; omega)]
    · rw [List.getElem?_set_ne (by omega), List.getElem?_set_self (by simp; omega)]
    · rw [List.getElem?_set_self (by simp; omega)]
/-- where the rows lie -/
def RowsAt (w : World) (v : Value) (ps : List Int) (xss : List (List Int)) (us : Nat → Option Addr) (cs : Nat → Nat) : Prop :=
  ∃ b cap, v = .slice (some ⟨b, 0, none⟩) xss.length cap ∧ b < w.heap.size ∧ ∀ j, j < xss.length → w.cell? ⟨b, j, none⟩ = some (.slice (us j) (xss.getD j []).length (cs j)) ∧ (xss.getD j []).length ≤ cs j ∧ Row w (.slice (us j) (xss.getD j []).length (cs j)) (xss.getD j [])
theorem OwS.at {xss : List (List Int)} {W : World} {lo hi : Nat} {v : Value} (ps : List Int) (h : OwS xss W lo hi v) (h0 : 0 < xss.length) : ∃ us cs, RowsAt W v ps xss us cs := by
  obtain ⟨hh, h | ⟨p, cap, vs, rfl, hcap, hlo, hhi, ho, hvl, hj, hd⟩⟩ := h
  · obtain ⟨rfl, rfl⟩ := h
    simp at h0
  · have key : ∀ j, ∃ ac : Option Addr × Nat, j < xss.length → W.cell? ⟨p, j, none⟩ = some (.slice ac.1 (xss.getD j []).length ac.2) ∧ (xss.getD j []).length ≤ ac.2 ∧ Row W (.slice ac.1 (xss.getD j []).length ac.2) (xss.getD j []) := fun j => by
      by_cases hjl : j < xss.length
      · obtain ⟨a, c, e, hc, o, hb⟩ := hj j hjl
        refine ⟨(a, c), fun _ => ⟨?_, hc, o.row⟩⟩
        rw [World.ownsRow.cellAt ho j (by omega)]
        exact e
      · exact ⟨(none, 0), fun h => absurd h hjl⟩
    obtain ⟨f, hf⟩ := Classical.skolem.1 key
    exact ⟨fun j => (f j).1, fun j => (f j).2, p, cap, rfl, by omega, hf⟩
theorem RowsAt.old {w w' : World} {v : Value} {ps : List Int} {xss : List (List Int)} {us : Nat → Option Addr} {cs : Nat → Nat} (h : RowsAt w v ps xss us cs) (g : Old w w') : RowsAt w' v ps xss us cs := by
  obtain ⟨b, cap, e, hb, hc⟩ := h
  exact ⟨b, cap, e, Nat.lt_of_lt_of_le hb g.size, fun j hj => ⟨(g.cell (p := ⟨b, j, none⟩) hb).trans (hc j hj).1, (hc j hj).2.1, (hc j hj).2.2.old g⟩⟩
end Go.Proofs.YtkggfljdbdfonaaGreatDoor
/- Proved: the rings of a space, as the model makes them (l5Rings); and a root for each prime that serves both. -/
namespace Go.Proofs.YtkggfljdbdfonaaGreatDoor
open Go.ChangeShapes Go.WideShapes Go.ChangeAt Go.RowKit
set_option linter.unusedVariables false
set_option linter.unusedSimpArgs false
theorem Rings_both (N : Int) (xs : List Int) : ∃ Rf : Nat → Int, ∀ k, RingOk (xs.getD k 0) N → ((0 ≤ Rf k ∧ Rf k < xs.getD k 0) ∧ (∀ W, PrsW W → TabW W → Calls Tryz.prog 153 #[.int .i64 (xs.getD k 0), .int .i64 N] W fun e w' => e = .returned (.tuple #[.agg #[.int .i64 (xs.getD k 0), .int .i64 N, .int .i64 (Rf k)], .bool true]) ∧ Old W w'))
    ∧ (∀ W, Calls Tryz.prog 141 #[.int .i64 (xs.getD k 0), .int .i64 N] W fun e w' => e = .returned (.tuple #[.agg #[.int .i64 (xs.getD k 0), .int .i64 N, .int .i64 (Rf k)], .bool true]) ∧ Old W w')
    ∧ ∃ P M R : Nat, xs.getD k 0 = P ∧ N = M ∧ Rf k = R ∧ R < P ∧ RingOk P M ∧ (F1.Pr P → Rt P (2 * M) R) := by
  have h : ∀ k, ∃ Rk : Int, RingOk (xs.getD k 0) N → ((0 ≤ Rk ∧ Rk < xs.getD k 0) ∧ (∀ W, PrsW W → TabW W → Calls Tryz.prog 153 #[.int .i64 (xs.getD k 0), .int .i64 N] W fun e w' => e = .returned (.tuple #[.agg #[.int .i64 (xs.getD k 0), .int .i64 N, .int .i64 Rk], .bool true]) ∧ Old W w'))
      ∧ (∀ W, Calls Tryz.prog 141 #[.int .i64 (xs.getD k 0), .int .i64 N] W fun e w' => e = .returned (.tuple #[.agg #[.int .i64 (xs.getD k 0), .int .i64 N, .int .i64 Rk], .bool true]) ∧ Old W w')
      ∧ ∃ P M R : Nat, xs.getD k 0 = P ∧ N = M ∧ Rk = R ∧ R < P ∧ RingOk P M ∧ (F1.Pr P → Rt P (2 * M) R) := fun k => by
    by_cases hk : RingOk (xs.getD k 0) N
    · have h1 := modB_yes hk.md
      have h2 := hk.sz
      obtain ⟨P, hP⟩ := Int.eq_ofNat_of_zero_le (show 0 ≤ xs.getD k 0 by omega)
      obtain ⟨M, hM⟩ := Int.eq_ofNat_of_zero_le (show 0 ≤ N by omega)
      rw [hP, hM] at hk ⊢
      obtain ⟨R, r1, r2, r3, r4⟩ := Ring_both P M hk
      exact ⟨R, fun _ => ⟨⟨by omega, r3⟩, r4, P, M, R, rfl, rfl, rfl, r1, hk, r2⟩⟩
    · exact ⟨0, fun h => absurd h hk⟩
  exact Classical.skolem.1 h
/-- the first k rings, as the model's slice holds them -/
def Rgm (W : World) (base : Nat) (v : Value) (N : Int) (xs : List Int) (Rf : Nat → Int) (k : Nat) : Prop :=
  ∃ ys : List Int, ys.length = 3 * k ∧ W.ownsRow base 116 3 v k (ys.map (Value.int .i64)) ∧ ∀ i, i < k → ys.getD (i * 3) 0 = xs.getD i 0 ∧ ys.getD (i * 3 + 1) 0 = N ∧ ys.getD (i * 3 + 2) 0 = Rf i
theorem Rgm.old {W W' : World} {base : Nat} {v : Value} {N : Int} {xs : List Int} {Rf : Nat → Int} {k : Nat} (h : Rgm W base v N xs Rf k) (q : Old W W') : Rgm W' base v N xs Rf k := by
  obtain ⟨ys, hl, ho, hy⟩ := h
  refine ⟨ys, hl, ⟨ho.1, ?_⟩, hy⟩
  rcases ho.2 with hn | ⟨p, cap, cur, e, hb, hgg, rest⟩
  · exact .inl hn
  · refine .inr ⟨p, cap, cur, e, hb, ?_, rest⟩
    rw [q.block p (Array.getElem?_eq_some_iff.1 hgg).1]
    exact hgg
theorem Rgm.slice {W : World} {base : Nat} {v : Value} {N : Int} {xs : List Int} {Rf : Nat → Int} {k : Nat} (h : Rgm W base v N xs Rf k) : ∃ a c, v = .slice a k c := by
  obtain ⟨ys, hl, ho, hy⟩ := h
  rcases ho.2 with ⟨h1, h2⟩ | ⟨g, cap, cur, h1, _⟩
  · exact ⟨none, 0, by rw [h1, h2]⟩
  · exact ⟨_, cap, h1⟩
theorem Rgm.at {W : World} {base k : Nat} {a : Option Addr} {c : Nat} {N : Int} {xs : List Int} {Rf : Nat → Int} (h : Rgm W base (.slice a k c) N xs Rf k) (i : Nat) (hi : i < k) : ∃ g, a = some ⟨g, 0, none⟩ ∧ base ≤ g ∧ g < W.heap.size ∧ W.cell? ⟨g, i * 3, none⟩ = some (.int .i64 (xs.getD i 0)) ∧ W.cell? ⟨g, i * 3 + 1, none⟩ = some (.int .i64 N) ∧ W.cell? ⟨g, i * 3 + 2, none⟩ = some (.int .i64 (Rf i)) := by
  obtain ⟨ys, hl, ho, hy⟩ := h
  obtain ⟨h0, h1, h2⟩ := hy i hi
  obtain ⟨g, hg⟩ : ∃ g, a = some ⟨g, 0, none⟩ := by
    rcases ho.2 with ⟨_, e⟩ | ⟨g, cap, cur, e, _⟩
    · omega
    · injection e with e1
      exact ⟨g, e1⟩
  subst hg
  have hlt := ho.lt g rfl
  refine ⟨g, rfl, hlt.1, hlt.2, ?_, ?_, ?_⟩
  · rw [World.ownsRow.cellAt ho (i * 3) (by omega), ← h0]
    simp [List.getD, hl, show i * 3 < 3 * k by omega]
  · rw [World.ownsRow.cellAt ho (i * 3 + 1) (by omega), ← h1]
    simp [List.getD, hl, show i * 3 + 1 < 3 * k by omega]
  · rw [World.ownsRow.cellAt ho (i * 3 + 2) (by omega), ← h2]
    simp [List.getD, hl, show i * 3 + 2 < 3 * k by omega]
theorem three_cells (w : World) (x y z : Value) (t : TypeId) : ∀ j u, [x, y, z][j]? = some u → (w.alloc (.cells #[x, y, z] t)).cell? ((⟨w.heap.size, 0, none⟩ : Addr).add j) = some u := by
  intro j u h
  match j, h with
  | 0, h =>
    have : x = u := by simpa using h
    subst this
    exact cell_at w _ _ _ _ rfl
  | 1, h =>
    have : y = u := by simpa using h
    subst this
    exact cell_at w _ _ _ _ rfl
  | 2, h =>
    have : z = u := by simpa using h
    subst this
    exact cell_at w _ _ _ _ rfl
  | j + 3, h => simp at h
theorem ownsAny_old {W W' : World} {base n k : Nat} {T : TypeId} {v : Value} {vs : List Value} (h : W.ownsRow base T n v k vs) (q : Old W W') : W'.ownsRow base T n v k vs := by
  refine ⟨h.1, ?_⟩
  rcases h.2 with hn | ⟨p, cap, cur, e, hb, hgg, rest⟩
  · exact .inl hn
  · refine .inr ⟨p, cap, cur, e, hb, ?_, rest⟩
    rw [q.block p (Array.getElem?_eq_some_iff.1 hgg).1]
    exact hgg
theorem getD_app3 (ys : List Int) (k i : Nat) (x y z : Int) (hl : ys.length = 3 * k) (j : Nat) (hj : j < 3) (hi : i < k) : (ys ++ [x, y, z]).getD (i * 3 + j) 0 = ys.getD (i * 3 + j) 0 := by
  simp [List.getD, List.getElem?_append_left (show i * 3 + j < ys.length by omega)]
theorem getD_end3 (ys : List Int) (k : Nat) (x y z : Int) (hl : ys.length = 3 * k) : (ys ++ [x, y, z]).getD (k * 3) 0 = x ∧ (ys ++ [x, y, z]).getD (k * 3 + 1) 0 = y ∧ (ys ++ [x, y, z]).getD (k * 3 + 2) 0 = z := by
  refine ⟨?_, ?_, ?_⟩
  · rw [List.getD_eq_getElem?_getD, List.getElem?_append_right (by omega), show k * 3 - ys.length = 0 by omega]; rfl
  · rw [List.getD_eq_getElem?_getD, List.getElem?_append_right (by omega), show k * 3 + 1 - ys.length = 1 by omega]; rfl
  · rw [List.getD_eq_getElem?_getD, List.getElem?_append_right (by omega), show k * 3 + 2 - ys.length = 2 by omega]; rfl
set_option maxRecDepth 100000 in
set_option maxHeartbeats 4000000 in
theorem spec_l5Rings (N : Int) (ps : List Int) (Rf : Nat → Int) (v : Value) (w : World) (hv : Row w v ps) (hps : 1 ≤ ps.length ∧ ps.length ≤ 6)
    (hR : ∀ k, k < ps.length → ∀ W, Calls Tryz.prog 141 #[.int .i64 (ps.getD k 0), .int .i64 N] W fun e w' => e = .returned (.tuple #[.agg #[.int .i64 (ps.getD k 0), .int .i64 N, .int .i64 (Rf k)], .bool true]) ∧ Old W w') :
    Calls Tryz.prog 94 #[.agg #[.int .i64 N, v]] w fun e w' => ∃ a c, e = .returned (.slice a ps.length c) ∧ Old w w' ∧ Rgm w' w.heap.size (.slice a ps.length c) N ps Rf ps.length := by
  obtain ⟨i0, hi, hz0, hz1, hz2⟩ := info_parts Tryz.infoRing
  have HR : Hid (∀ k, k < ps.length → ∀ W, Calls Tryz.prog 141 #[.int .i64 (ps.getD k 0), .int .i64 N] W fun e w' => e = .returned (.tuple #[.agg #[.int .i64 (ps.getD k 0), .int .i64 N, .int .i64 (Rf k)], .bool true]) ∧ Old W w') := hR
  rcases hv with ⟨a, cap, e, e'⟩ | ⟨b, o, cap, rfl, hb, h0, hc⟩
  · subst e'
    simp at hps
  have HC : Hid (∀ j, j < ps.length → w.cell? ⟨b, o + j, none⟩ = some (.int .i64 (ps.getD j 0))) := hc
  obtain ⟨wB, hwB⟩ : ∃ wB, wB = w.alloc (.cells #[.int .i64 N, .slice (some ⟨b, o, none⟩) ps.length cap] 33) := ⟨_, rfl⟩
  have HWB : Hid (Old w wB) := by rw [hwB]; exact (Old.refl w).alloc _
  have hq0 : wB.cell? ⟨w.heap.size, 0, none⟩ = some (.int .i64 N) := by rw [hwB]; exact cell_at _ _ _ _ _ rfl
  have hq1 : wB.cell? ⟨w.heap.size, 1, none⟩ = some (.slice (some ⟨b, o, none⟩) ps.length cap) := by rw [hwB]; exact cell_at _ _ _ _ _ rfl
  have hqs : w.heap.size < wB.heap.size := by rw [hwB]; simp
  clear hR hc h0
  go_enter Tryz.func94, Tryz.ntmps94
  go_wp2_with fail
  rw [← hwB]
  clear hwB
  go_loopw [3, 11] (fun x i W => ∃ (k : Nat) (a : Option Addr) (c : Nat), k ≤ ps.length ∧ i = .int .i64 k ∧ x = .slice a k c ∧ Hid (Rgm W wB.heap.size (.slice a k c) N ps Rf k) ∧ Hid (Old wB W)) (fun _ i _ => ps.length - (intOf i).toNat)
  case atStart => exact ⟨0, none, 0, by omega, rfl, rfl, ⟨[], rfl, ⟨rfl, .inl ⟨rfl, rfl⟩⟩, fun i hi => by omega⟩, Old.refl _⟩
  case round =>
    obtain ⟨k, a, c, hk, rfl, rfl, HM, HG⟩ := hrel
    by_cases hlt : k < ps.length
    · have d1 : decide ((k : Int) < (ps.length : Int)) = true := by simp; omega
      have c1 : wr.cell? ⟨b, o + k, none⟩ = some (.int .i64 (ps.getD k 0)) := ((Old.trans HWB.out HG.out).cell (p := ⟨b, o + k, none⟩) hb).trans (HC.out k hlt)
      have q0 : wr.cell? ⟨w.heap.size, 0, none⟩ = some (.int .i64 N) := (HG.out.cell (p := ⟨w.heap.size, 0, none⟩) hqs).trans hq0
      have cr := HR.out k hlt
      obtain ⟨ys, hyl, hyo, hya⟩ := HM.out
      have HYO : Hid (wr.ownsRow wB.heap.size 116 3 (.slice a k c) k (ys.map (Value.int .i64))) := hyo
      have HYA : Hid (ys.length = 3 * k ∧ ∀ i, i < k → ys.getD (i * 3) 0 = ps.getD i 0 ∧ ys.getD (i * 3 + 1) 0 = N ∧ ys.getD (i * 3 + 2) 0 = Rf i) := ⟨hyl, hya⟩
      obtain ⟨p, hp⟩ : ∃ p, ps.getD k 0 = p := ⟨_, rfl⟩
      obtain ⟨r, hr⟩ : ∃ r, Rf k = r := ⟨_, rfl⟩
      rw [hp] at c1 cr
      rw [hr] at cr
      have HPR : Hid (ps.getD k 0 = p ∧ Rf k = r) := ⟨hp, hr⟩
      clear hyl hyo hya hp hr HM
      go_wp2_with fail
      refine (cr _).mono ?_
      rintro e w2 ⟨rfl, g2⟩
      have HG2 : Hid (Old wB w2) := Old.trans HG.out g2
      have HYO2 : Hid (w2.ownsRow wB.heap.size 116 3 (.slice a k c) k (ys.map (Value.int .i64))) := ownsAny_old HYO.out g2
      have hsz2 := HG2.out.size
      clear g2 cr c1 q0 HYO
      obtain ⟨w4, hw4⟩ : ∃ w4, w4 = (w2.alloc (.cells #[.int .i64 p, .int .i64 N, .int .i64 r] 116)).alloc (.cells #[.int .i64 p, .int .i64 N, .int .i64 r] 116) := ⟨_, rfl⟩
      have hnews : ∀ j u, [Value.int .i64 p, .int .i64 N, .int .i64 r][j]? = some u → w4.cell? ((⟨w2.heap.size + 1, 0, none⟩ : Addr).add j) = some u := fun j u hj => by
        have h := three_cells (w2.alloc (.cells #[.int .i64 p, .int .i64 N, .int .i64 r] 116)) (.int .i64 p) (.int .i64 N) (.int .i64 r) 116 j u hj
        rw [← hw4] at h
        have e1 : (w2.alloc (.cells #[.int .i64 p, .int .i64 N, .int .i64 r] 116)).heap.size = w2.heap.size + 1 := by simp
        rw [e1] at h
        exact h
      have HNW : Hid (∀ j u, [Value.int .i64 p, .int .i64 N, .int .i64 r][j]? = some u → w4.cell? ((⟨w2.heap.size + 1, 0, none⟩ : Addr).add j) = some u) := hnews
      have HO4 : Hid (w4.ownsRow wB.heap.size 116 3 (.slice a k c) k (ys.map (Value.int .i64))) := by rw [hw4]; exact ownsAny_old HYO2.out (((Old.refl w2).alloc _).alloc _)
      have HG4 : Hid (Old wB w4) := by rw [hw4]; exact (HG2.out.alloc _).alloc _
      clear hnews
      go_wp2_with (at_builtin; rw [← hw4]; refine wpList_append_own _ rfl _ _ 101 rfl wB.heap.size 116 i0 (.agg #[.int .i64 0, .int .i64 0, .int .i64 0]) 3 24 Tryz.underlying101 hi hz0 hz1 hz2 rfl (by decide) _ _ _ rfl HO4.out ⟨w2.heap.size + 1, 0, none⟩ 1 1 [.int .i64 p, .int .i64 N, .int .i64 r] rfl rfl HNW.out (by simp [Value.oneCell']) (by unfold maxLen; omega) (by omega) HG4.out.size ?_; intro v5 w5 o5 g5 x5; have HO5 : Hid (w5.ownsRow wB.heap.size 116 3 v5 (k + 1) ((ys ++ [p, N, r]).map (Value.int .i64))) := (by show World.ownsRow _ _ _ _ _ _ _; rw [List.map_append]; exact o5); have HG5 : Hid (Old wB w5) := Below.grown HG4.out g5 HG4.out.size (fun j hj => (HO4.out.lt j hj).1); clear o5 g5 x5)
      have HM5 : Hid (Rgm w5 wB.heap.size v5 N ps Rf (k + 1)) := by
        obtain ⟨hyl, hya⟩ := HYA.out
        refine ⟨ys ++ [p, N, r], by rw [List.length_append, hyl]; rfl, HO5.out, fun i hi => ?_⟩
        rcases Nat.lt_or_ge i k with h1 | h1
        · obtain ⟨q0, q1, q2⟩ := hya i h1
          exact ⟨(getD_app3 ys k i p N r hyl 0 (by omega) h1).trans q0, (getD_app3 ys k i p N r hyl 1 (by omega) h1).trans q1, (getD_app3 ys k i p N r hyl 2 (by omega) h1).trans q2⟩
        · obtain rfl : i = k := by omega
          rw [HPR.out.1, HPR.out.2]
          exact getD_end3 ys i p N r hyl
      obtain ⟨a5, c5, e5⟩ := HM5.out.slice
      subst e5
      exact ⟨⟨k + 1, _, _, by omega, by go_num, rfl, HM5, HG5⟩, by simp [intOf]; omega⟩
    · have d1 : decide ((k : Int) < (ps.length : Int)) = false := by simp; omega
      obtain rfl : k = ps.length := by omega
      go_wp2_with fail
      go_ret
      obtain ⟨ys, hyl, hyo, hya⟩ := HM.out
      refine ⟨a, c, rfl, Old.trans HWB.out HG.out, ys, hyl, ?_, hya⟩
      refine ⟨hyo.1, ?_⟩
      rcases hyo.2 with hn | ⟨p, cap, cur, e, hb, hgg, rest⟩
      · exact .inl hn
      · exact .inr ⟨p, cap, cur, e, Nat.le_trans HWB.out.size hb, hgg, rest⟩
end Go.Proofs.YtkggfljdbdfonaaGreatDoor
