/- Proved: several texts in one: what each proves is said ahead of it. -/
import Derived.Test.YtfgooclnohnkmaaGreatDoorWq18
import Derived.Test.YtfgooclnohnkmaaGreatDoorWq12
import Derived.OwnWalk
import Derived.BigRegion
import Derived.Deep.DeepCutAuto
import Derived.Test.YtfgooclnohnkmaaGreatDoorMlr
import Derived.Maps.AppendAt
import Derived.Test.YtfgooclnohnkmaaGreatDoorWq02
/- Proved: a region that draws its order, of which one operation turns what was there (an append) once all others are done, and one more hands on what it told; no function of the program. -/
namespace Go.Proofs.YtfgooclnohnkmaaGreatDoor
open Go.ChangeShapes Go.WideShapes Go.ChangeAt Go.RowKit
set_option linter.unusedSimpArgs false
set_option linter.unusedVariables false
/-- what an operation waits for -/
def depsO (ops : Array Oper) (i : Nat) : List Nat := match ops[i]? with
  | some o => (o.after.toList.filter (fun e => Region.binds .any e)).map (·.on)
  | none => []
def nextS (ops : Array Oper) (n : Nat) (S : List Nat) : List Nat := (List.range n).filter (fun i => S.contains i || S.any (fun s => (depsO ops s).contains i))
def closS (ops : Array Oper) (n : Nat) : Nat → List Nat → List Nat
  | 0, S => S
  | k + 1, S => closS ops n k (nextS ops n S)
/-- what is done has all done that it waits for -/
def Done (ops : Array Oper) (d : Nat → Bool) : Prop := ∀ i, d i = true → ∀ j ∈ depsO ops i, d j = true
theorem nextS_done {ops : Array Oper} {n : Nat} {d : Nat → Bool} (h : Done ops d) {S : List Nat} (hS : ∀ i ∈ S, d i = true) : ∀ i ∈ nextS ops n S, d i = true := by
  intro i hi
  unfold nextS at hi
  have h2 := (List.mem_filter.1 hi).2
  rw [Bool.or_eq_true] at h2
  rcases h2 with h3 | h3
  · exact hS i (by simpa using h3)
  · obtain ⟨s, hs, h4⟩ := List.any_eq_true.1 h3
    exact h s (hS s hs) i (by simpa using h4)
theorem closS_done {ops : Array Oper} {n : Nat} {d : Nat → Bool} (h : Done ops d) : ∀ k S, (∀ i ∈ S, d i = true) → ∀ i ∈ closS ops n k S, d i = true
  | 0, S, hS => hS
  | k + 1, S, hS => closS_done h k _ (nextS_done h hS)
theorem mem_depsO {ops : Array Oper} {i : Nat} {o : Oper} (ho : ops[i]? = some o) (j : Nat) : j ∈ depsO ops i ↔ ∃ e ∈ o.after.toList, Region.binds .any e = true ∧ e.on = j := by
  unfold depsO
  rw [ho]
  simp only [List.mem_map, List.mem_filter]
  constructor
  · rintro ⟨e, ⟨h1, h2⟩, h3⟩; exact ⟨e, h1, h2, h3⟩
  · rintro ⟨e, h1, h2, h3⟩; exact ⟨e, ⟨h1, h2⟩, h3⟩
theorem Done.upd {ops : Array Oper} {d : Nat → Bool} (h : Done ops d) {i : Nat} {o : Oper} (ho : ops[i]? = some o) (hd : ∀ e ∈ o.after.toList, Region.binds .any e = true → d e.on = true) : Done ops (upd d i) := by
  intro k hk j hj
  by_cases hji : j = i
  · subst hji; exact upd_same d j
  · rw [upd_other d hji]
    by_cases hki : k = i
    · subst hki
      obtain ⟨e, h1, h2, h3⟩ := (mem_depsO ho j).1 hj
      rw [← h3]
      exact hd e h1 h2
    · rw [upd_other d hki] at hk
      exact h k hk j hj
theorem wp_region_turn {P : Program} {id : Nat} {l : List Oper} {Q : Exit → Act → World → Prop} {a0 : Act} {w0 : World} (n : Nat) {t f : Oper} (hn : l.length = n + 2) (ht : l[n]? = some t) (hf : l[n + 1]? = some f) (hm : P.follows .mixedOrders = true)
    (hord : (List.range l.toArray.size).all (fun i => ((l.toArray[i]?).map (fun o => o.after.all fun e => !Region.binds .any e || decide (e.on < i))).getD true) = true)
    (hg : l.all (fun o => o.guard.isNone) = true)
    (hall : (List.range n).all (fun i => (closS l.toArray n n (depsO l.toArray n)).contains i) = true)
    (hft : (depsO l.toArray (n + 1)).contains n = true)
    (slot : Nat → Nat) (hslot : ∀ i, i < n + 2 → slot i < a0.tmps.size) (hinj : ∀ i j, i < n + 2 → j < n + 2 → slot i = slot j → i = j)
    (Qs : Nat → World → Value → Prop) (hQ : ∀ i W W' v, Qs i W v → Old W W' → Qs i W' v)
    (QT : World → Value → Prop)
    (hstep : StepsO P Q w0 (n + 1) slot a0 Qs 0 (l.take n))
    (hturn : ∀ a W, Old w0 W → Fram (n + 1) slot a0 a → (∀ i, i < n → Qs i W (a.eval (.tmp (slot i)))) → t.wp P a W (fun a' W' => ∃ v, a' = a.put (some (slot n)) v ∧ QT W' v) Q)
    (hlast : ∀ a W v, a.eval (.tmp (slot n)) = v → f.wp P a W (fun a' W' => a' = a.put (some (slot (n + 1))) v ∧ W' = W) Q)
    (hdone : ∀ a W, Fram (n + 2) slot a0 a → QT W (a.eval (.tmp (slot (n + 1)))) → Q .normal a W) :
    (Code.region id l.toArray true).wp P Q a0 w0 := by
  have hsz : l.toArray.size = n + 2 := by simpa using hn
  have hon : ∀ i o, l.toArray[i]? = some o → ∀ e ∈ o.after.toList, Region.binds .any e = true → e.on < i := by
    intro i o ho e he hb
    have hi : i < l.toArray.size := (Array.getElem?_eq_some_iff.1 ho).1
    have h1 := List.all_eq_true.1 hord i (by simpa using hi)
    rw [ho] at h1
    simp only [Option.map_some, Option.getD_some] at h1
    rw [Array.all_eq_true'] at h1
    have h2 := h1 e (by simpa using he)
    rw [hb] at h2
    simpa using h2
  let I : (Nat → Bool) → Act → World → Prop := fun d a W => Fram (n + 2) slot a0 a ∧ (d (n + 1) = false → Fram (n + 1) slot a0 a) ∧ Done l.toArray d ∧
    (d n = false → Old w0 W ∧ d (n + 1) = false ∧ ∀ i, i < n → d i = true → Qs i W (a.eval (.tmp (slot i)))) ∧
    (d n = true → (∀ i, i < n → d i = true) ∧ QT W (a.eval (.tmp (slot n))) ∧ (d (n + 1) = true → a.eval (.tmp (slot (n + 1))) = a.eval (.tmp (slot n))))
  have fput : ∀ a v i, i < n + 2 → Fram (n + 2) slot a0 a → Fram (n + 2) slot a0 (a.put (some (slot i)) v) := fun a v i hi hF =>
    ⟨by simp [Act.put, hF.size], by simp [Act.put, hF.defers], fun s hs => by rw [eval_put_other _ _ _ _ (hs i hi)]; exact hF.same s hs⟩
  have fput1 : ∀ a v i, i < n + 1 → Fram (n + 1) slot a0 a → Fram (n + 1) slot a0 (a.put (some (slot i)) v) := fun a v i hi hF =>
    ⟨by simp [Act.put, hF.size], by simp [Act.put, hF.defers], fun s hs => by rw [eval_put_other _ _ _ _ (hs i hi)]; exact hF.same s hs⟩
  refine wp_region_inv hm I hord ⟨⟨rfl, rfl, fun _ _ => rfl⟩, (fun _ => ⟨rfl, rfl, fun _ _ => rfl⟩), (fun i h => by cases h), (fun _ => ⟨Below.drew (Old.refl w0), rfl, (fun i _ h => by cases h)⟩), (fun h => by cases h)⟩ ?_ ?_
  · intro i o ho d a W hI hdi hd
    have hgn := List.all_eq_true.1 hg o (List.mem_of_getElem? (by simpa using ho))
    have hw : Region.wanted o (yielded l.toArray a.tmps) = true := by
      cases h : o.guard with
      | none => simp [Region.wanted, h]
      | some g => rw [h] at hgn; cases hgn
    rw [if_pos hw]
    have hi : i < n + 2 := by
      have := (Array.getElem?_eq_some_iff.1 ho).1
      omega
    obtain ⟨hF, hE, hC, hA, hB⟩ := hI
    have hC' := hC.upd ho hd
    rcases Nat.lt_trichotomy i n with h1 | h1 | h1
    · -- ahead of the turn
      cases hdn : d n with
      | true =>
        have := (hB hdn).1 i h1
        rw [this] at hdi
        cases hdi
      | false =>
        obtain ⟨g, hf0, hq⟩ := hA hdn
        have key : ∀ (m : List Oper) (k : Nat), StepsO P Q w0 (n + 1) slot a0 Qs k m → ∀ (j : Nat) (o : Oper), m[j]? = some o → ∀ (a : Act) (W : World), Old w0 W → Fram (n + 1) slot a0 a → (∀ e ∈ o.after.toList, Region.binds .any e = true → Qs e.on W (a.eval (.tmp (slot e.on)))) → o.wp P a W (fun a' W' => ∃ v, a' = a.put (some (slot (k + j))) v ∧ Old W W' ∧ Qs (k + j) W' v) Q := by
          intro m
          induction m with
          | nil => intro k _ j o h; simp at h
          | cons x m ih =>
            intro k hs j o hj
            cases j with
            | zero =>
              simp at hj
              subst hj
              exact hs.1
            | succ j =>
              have := ih (k + 1) hs.2 j o (by simpa using hj)
              rw [show k + 1 + j = k + (j + 1) by omega] at this
              exact this
        have hst := key (l.take n) 0 hstep i o (by rw [List.getElem?_take, if_pos h1]; simpa using ho) a W g (hE hf0) (fun e he hb => hq e.on (by have := hon i o ho e he hb; omega) (hd e he hb))
        rw [Nat.zero_add] at hst
        refine Oper.wp_mono ?_ hst
        rintro a' W' ⟨v, rfl, g', hv⟩
        refine ⟨fput a v i hi hF, (fun _ => fput1 a v i (by omega) (hE hf0)), hC', (fun _ => ⟨Old.trans g g', (by rw [upd_other d (by omega)]; exact hf0), (fun j hj hdj => ?_)⟩), (fun h => by rw [upd_other d (by omega), hdn] at h; cases h)⟩
        by_cases hji : j = i
        · subst hji
          rw [eval_put_same _ _ _ (by rw [hF.size]; exact hslot j hi)]
          exact hv
        · rw [eval_put_other _ _ _ _ (fun e => hji (hinj i j hi (by omega) e).symm)]
          rw [upd_other d hji] at hdj
          exact hQ j W W' _ (hq j hj hdj) g'
    · subst h1
      have hot : o = t := by
        have : l[i]? = some o := by simpa using ho
        rw [ht] at this
        exact (Option.some.inj this).symm
      subst hot
      obtain ⟨g, hf0, hq⟩ := hA hdi
      have hpre : ∀ j, j < i → d j = true := fun j hj => by
        have h2 := List.all_eq_true.1 hall j (by simpa using hj)
        exact closS_done hC i _ (fun s hs => by
          obtain ⟨e, e1, e2, e3⟩ := (mem_depsO ho s).1 hs
          rw [← e3]
          exact hd e e1 e2) j (by simpa using h2)
      refine Oper.wp_mono ?_ (hturn a W g (hE hf0) (fun j hj => hq j hj (hpre j hj)))
      rintro a' W' ⟨v, rfl, hv⟩
      refine ⟨fput a v i hi hF, (fun _ => fput1 a v i (by omega) (hE hf0)), hC', (fun h => by rw [upd_same] at h; cases h), (fun _ => ⟨(fun j hj => by rw [upd_other d (by omega)]; exact hpre j hj), ?_, (fun h => ?_)⟩)⟩
      · rw [eval_put_same _ _ _ (by rw [hF.size]; exact hslot i hi)]
        exact hv
      · rw [upd_other d (by omega), hf0] at h
        cases h
    · obtain rfl : i = n + 1 := by omega
      have hof : o = f := by
        have : l[n + 1]? = some o := by simpa using ho
        rw [hf] at this
        exact (Option.some.inj this).symm
      subst hof
      have hdn : d n = true := by
        obtain ⟨e, e1, e2, e3⟩ := (mem_depsO ho n).1 (by simpa using hft)
        rw [← e3]
        exact hd e e1 e2
      obtain ⟨b1, b2, _⟩ := hB hdn
      refine Oper.wp_mono ?_ (hlast a W _ rfl)
      rintro a' W' ⟨rfl, rfl⟩
      have hne : slot (n + 1) ≠ slot n := fun e => by have := hinj (n + 1) n (by omega) (by omega) e; omega
      refine ⟨fput a _ (n + 1) hi hF, (fun h => by rw [upd_same] at h; cases h), hC', (fun h => by rw [upd_other d (by omega), hdn] at h; cases h), (fun _ => ⟨(fun j hj => by rw [upd_other d (by omega)]; exact b1 j hj), ?_, (fun _ => ?_)⟩)⟩
      · rw [eval_put_other _ _ _ _ hne]
        exact b2
      · rw [eval_put_same _ _ _ (by rw [hF.size]; exact hslot (n + 1) hi), eval_put_other _ _ _ _ hne]
  · intro d a W hd hI
    obtain ⟨hF, _, hC, hA, hB⟩ := hI
    obtain ⟨b1, b2, b3⟩ := hB (hd n (by omega))
    refine hdone a W hF ?_
    rw [b3 (hd (n + 1) (by omega))]
    exact b2
end Go.Proofs.YtfgooclnohnkmaaGreatDoor
/- Proved: the rings of a space, as the program makes them. -/
namespace Go.Proofs.YtfgooclnohnkmaaGreatDoor
open Go.ChangeShapes Go.WideShapes Go.ChangeAt Go.RowKit
open M1
set_option linter.unusedVariables false
set_option linter.unusedSimpArgs false
theorem Tryz.infoRing : (Tryz.prog.info? 151).map (fun i => (i.zero, i.size, i.bytes)) = some (some (.agg #[.int .i64 0, .int .i64 0, .int .i64 0]), 3, 24) := by kernel_rfl
/-- the first k rings lie in block g -/
def Rgs (W : World) (g : Nat) (N : Int) (xs : List Int) (Rf : Nat → Int) (k : Nat) : Prop :=
  ∃ ys : List Int, ys.length = 3 * xs.length ∧ W.ownsRow g 151 3 (.slice (some ⟨g, 0, none⟩) xs.length xs.length) xs.length (ys.map (Value.int .i64)) ∧ ∀ i, i < k → ys.getD (i * 3) 0 = xs.getD i 0 ∧ ys.getD (i * 3 + 1) 0 = N ∧ ys.getD (i * 3 + 2) 0 = Rf i
theorem Rgs.lt {W : World} {g : Nat} {N : Int} {xs : List Int} {Rf : Nat → Int} {k : Nat} (h : Rgs W g N xs Rf k) : g < W.heap.size := by
  obtain ⟨ys, _, ho, _⟩ := h
  exact (ho.lt g rfl).2
theorem Rgs.old {W W' : World} {g : Nat} {N : Int} {xs : List Int} {Rf : Nat → Int} {k : Nat} (h : Rgs W g N xs Rf k) (q : Old W W') : Rgs W' g N xs Rf k := by
  obtain ⟨ys, hl, ho, hy⟩ := h
  refine ⟨ys, hl, ⟨ho.1, ?_⟩, hy⟩
  rcases ho.2 with hn | ⟨p, cap, cur, e, hb, hgg, rest⟩
  · exact .inl hn
  · refine .inr ⟨p, cap, cur, e, hb, ?_, rest⟩
    rw [q.block p (Array.getElem?_eq_some_iff.1 hgg).1]
    exact hgg
theorem Rgs.cell {W : World} {g : Nat} {N : Int} {xs : List Int} {Rf : Nat → Int} {k : Nat} (h : Rgs W g N xs Rf k) (j : Nat) (hj : j < 3 * xs.length) : ∃ y : Int, W.cell? ⟨g, j, none⟩ = some (.int .i64 y) := by
  obtain ⟨ys, hl, ho, hy⟩ := h
  refine ⟨ys.getD j 0, ?_⟩
  rw [World.ownsRow.cellAt ho j (by omega)]
  simp [List.getD, hl, hj]
theorem Rgs.free {W : World} {g : Nat} {N : Int} {xs : List Int} {Rf : Nat → Int} {k : Nat} (h : Rgs W g N xs Rf k) (j : Nat) : W.frozen? ⟨g, j, none⟩ = false := by
  obtain ⟨ys, hl, ho, hy⟩ := h
  exact World.ownsRow.frozenAt ho j
theorem Rgs.at {W : World} {g : Nat} {N : Int} {xs : List Int} {Rf : Nat → Int} {k : Nat} (h : Rgs W g N xs Rf k) (i : Nat) (hi : i < k) (hx : i < xs.length) : W.cell? ⟨g, i * 3, none⟩ = some (.int .i64 (xs.getD i 0)) ∧ W.cell? ⟨g, i * 3 + 1, none⟩ = some (.int .i64 N) ∧ W.cell? ⟨g, i * 3 + 2, none⟩ = some (.int .i64 (Rf i)) := by
  obtain ⟨ys, hl, ho, hy⟩ := h
  obtain ⟨h0, h1, h2⟩ := hy i hi
  refine ⟨?_, ?_, ?_⟩
  · rw [World.ownsRow.cellAt ho (i * 3) (by omega), ← h0]
    simp [List.getD, hl, show i * 3 < 3 * xs.length by omega]
  · rw [World.ownsRow.cellAt ho (i * 3 + 1) (by omega), ← h1]
    simp [List.getD, hl, show i * 3 + 1 < 3 * xs.length by omega]
  · rw [World.ownsRow.cellAt ho (i * 3 + 2) (by omega), ← h2]
    simp [List.getD, hl, show i * 3 + 2 < 3 * xs.length by omega]
theorem getD_set_same (ys : List Int) (j : Nat) (y : Int) (h : j < ys.length) : (ys.set j y).getD j 0 = y := by simp [List.getD, h]
theorem getD_set_other (ys : List Int) (j i : Nat) (y : Int) (h : i ≠ j) : (ys.set j y).getD i 0 = ys.getD i 0 := by simp [List.getD, List.getElem?_set, Ne.symm h]
theorem Rgs.put {W : World} {g : Nat} {N : Int} {xs : List Int} {Rf : Nat → Int} {k : Nat} (h : Rgs W g N xs Rf k) (hk : k < xs.length) :
    Rgs (((W.setCell ⟨g, k * 3, none⟩ (.int .i64 (xs.getD k 0))).setCell ⟨g, k * 3 + 1, none⟩ (.int .i64 N)).setCell ⟨g, k * 3 + 2, none⟩ (.int .i64 (Rf k))) g N xs Rf (k + 1) := by
  obtain ⟨ys, hl, ho, hy⟩ := h
  have h1 := (World.ownsRow.stored ho (k * 3) (.int .i64 (xs.getD k 0))).1
  have h2 := (World.ownsRow.stored h1 (k * 3 + 1) (.int .i64 N)).1
  have h3 := (World.ownsRow.stored h2 (k * 3 + 2) (.int .i64 (Rf k))).1
  rw [← List.map_set, ← List.map_set, ← List.map_set] at h3
  refine ⟨_, by simp [hl], h3, fun i hi => ?_⟩
  rcases Nat.lt_or_ge i k with hlt | hge
  · obtain ⟨q0, q1, q2⟩ := hy i hlt
    refine ⟨?_, ?_, ?_⟩
    · rw [getD_set_other _ _ _ _ (by omega), getD_set_other _ _ _ _ (by omega), getD_set_other _ _ _ _ (by omega)]; exact q0
    · rw [getD_set_other _ _ _ _ (by omega), getD_set_other _ _ _ _ (by omega), getD_set_other _ _ _ _ (by omega)]; exact q1
    · rw [getD_set_other _ _ _ _ (by omega), getD_set_other _ _ _ _ (by omega), getD_set_other _ _ _ _ (by omega)]; exact q2
  · obtain rfl : i = k := by omega
    refine ⟨?_, ?_, ?_⟩
    · rw [getD_set_other _ _ _ _ (by omega), getD_set_other _ _ _ _ (by omega), getD_set_same _ _ _ (by omega)]
    · rw [getD_set_other _ _ _ _ (by omega), getD_set_same _ _ _ (by simp; omega)]
    · rw [getD_set_same _ _ _ (by simp; omega)]
theorem made_rings (n : Nat) : ∃ ys : List Int, ys.length = 3 * n ∧ (madeCells (Value.agg #[.int .i64 0, .int .i64 0, .int .i64 0]).cells (n * 3)).toList = ys.map (Value.int .i64) := by
  refine ⟨List.replicate (3 * n) 0, by simp, ?_⟩
  have hz : ∀ i : Nat, (#[Value.int .i64 0, Value.int .i64 0, Value.int .i64 0] : Array Value)[i % 3]! = Value.int .i64 0 := fun i => by
    have h3 : i % 3 = 0 ∨ i % 3 = 1 ∨ i % 3 = 2 := by omega
    rcases h3 with h | h | h <;> rw [h] <;> rfl
  rw [List.map_replicate]
  refine List.eq_replicate_iff.2 ⟨by simp [size_madeCells]; omega, fun b hb => ?_⟩
  unfold madeCells at hb
  simp only [Array.toList_map, List.mem_map] at hb
  obtain ⟨x, _, rfl⟩ := hb
  exact hz x
end Go.Proofs.YtfgooclnohnkmaaGreatDoor
/- Proved: the contract of the program's ringsOf. -/
namespace Go.Proofs.YtfgooclnohnkmaaGreatDoor
open Go.ChangeShapes Go.WideShapes Go.ChangeAt Go.RowKit
open M1
set_option linter.unusedVariables false
set_option linter.unusedSimpArgs false
theorem cellO (W : World) (p : Addr) (v : Value) (q : Addr) (h : q.block ≠ p.block) : (W.setCell p v).cell? q = W.cell? q := World.cell?_of_block (heap_setCell_other W p q.block v h)
set_option maxRecDepth 100000 in
set_option maxHeartbeats 4000000 in
theorem impl_rings (N : Int) (xs : List Int) (Rf : Nat → Int) (v : Value) (w : World) (hP : PrsW w) (hT : TabW w) (hv : Row w v xs) (hf : Fit v) (hl : xs.length ≤ 9223372036854775807)
    (hRf : ∀ k, RingOk (xs.getD k 0) N → (0 ≤ Rf k ∧ Rf k < xs.getD k 0) ∧ (∀ W, PrsW W → TabW W → Calls Tryz.prog 163 #[.int .i64 (xs.getD k 0), .int .i64 N] W fun e w' => e = .returned (.tuple #[.agg #[.int .i64 (xs.getD k 0), .int .i64 N, .int .i64 (Rf k)], .bool true]) ∧ Old W w')) :
    Calls Tryz.prog 105 #[.agg #[.int .i64 N, v]] w fun e w' => Old w w' ∧ ((spB N xs = false ∧ e = .returned (.tuple #[.slice none 0 0, .bool false])) ∨ (spB N xs = true ∧ ∃ g, w.heap.size ≤ g ∧ e = .returned (.tuple #[.slice (some ⟨g, 0, none⟩) xs.length xs.length, .bool true]) ∧ Rgs w' g N xs Rf xs.length)) := by
  have cb := fun W v (h1 : PrsW W) (h2 : TabW W) (h : Row W v xs) (f : Fit v) => impl_goodBasis xs v W h1 h2 h f hl
  have HP : Hid (PrsW w) := hP
  have HT : Hid (TabW w) := hT
  have HV : Hid (Row w v xs) := hv
  have HF : Hid (Fit v) := hf
  have HRF : Hid (∀ k, RingOk (xs.getD k 0) N → (0 ≤ Rf k ∧ Rf k < xs.getD k 0) ∧ (∀ W, PrsW W → TabW W → Calls Tryz.prog 163 #[.int .i64 (xs.getD k 0), .int .i64 N] W fun e w' => e = .returned (.tuple #[.agg #[.int .i64 (xs.getD k 0), .int .i64 N, .int .i64 (Rf k)], .bool true]) ∧ Old W w')) := hRf
  obtain ⟨a0, cap0, ev⟩ := hv.slice
  subst ev
  have HN : Hid (Old w (w.alloc (.cells #[.int .i64 N, .slice a0 xs.length cap0] 56))) := (Old.refl w).alloc _
  clear hP hT hv hf hRf
  cases hb : basB xs
  · rw [hb] at cb
    have HB : Hid (spB N xs = false) := by show spB N xs = false; unfold spB; rw [hb]; simp
    clear hb
    go_enter Tryz.func105, Tryz.ntmps105
    go_wp2_with fail
    refine (cb _ _ (HP.out.old HN.out) (HT.out.old HN.out) (HV.out.old HN.out) HF.out).mono ?_
    rintro e w1 ⟨rfl, g1⟩
    have HG1 : Hid (Old w w1) := Old.trans HN.out g1
    clear g1
    go_wp2_with fail
    exact bodyPost_ret (v := .tuple #[.slice none 0 0, .bool false]) (by simp [results, Tryz.results105, go_sem]) rfl ⟨HG1.out, Or.inl ⟨HB.out, rfl⟩⟩
  · rw [hb] at cb
    have HBB : Hid (basB xs = true) := hb
    have hlen := (bas_at hb).1
    obtain ⟨i0, hi, hz0, hz1, hz2⟩ := info_parts Tryz.infoRing
    clear hb
    go_enter Tryz.func105, Tryz.ntmps105
    go_wp2_with fail
    refine (cb _ _ (HP.out.old HN.out) (HT.out.old HN.out) (HV.out.old HN.out) HF.out).mono ?_
    rintro e w1 ⟨rfl, g1⟩
    have HG1 : Hid (Old w w1) := Old.trans HN.out g1
    have HS1 : Hid (w1.cell? ⟨w.heap.size, 0, none⟩ = some (.int .i64 N) ∧ w1.cell? ⟨w.heap.size, 1, none⟩ = some (.slice a0 xs.length cap0)) := ⟨(g1.cell (p := ⟨w.heap.size, 0, none⟩) (by simp)).trans (cell_at _ _ _ _ _ rfl), (g1.cell (p := ⟨w.heap.size, 1, none⟩) (by simp)).trans (cell_at _ _ _ _ _ rfl)⟩
    have hs1 : w.heap.size < w1.heap.size := by have := g1.size; simp at this; omega
    clear g1 cb
    rcases (HV.out) with ⟨a, cap, e, e2⟩ | ⟨b, o, cap, e, hb, h1, hc⟩
    · subst e2
      simp at hlen
    simp only [Value.slice.injEq, true_and] at e
    obtain ⟨rfl, rfl⟩ := e
    have HC : Hid (∀ j, j < xs.length → w.cell? ⟨b, o + j, none⟩ = some (.int .i64 (xs.getD j 0))) := hc
    clear hc
    have s0 := HS1.out.1
    have s1 := HS1.out.2
    go_wp2_with (at_make; refine wpList_make_full _ rfl _ _ 143 rfl w1.heap.size 151 i0 (.agg #[.int .i64 0, .int .i64 0, .int .i64 0]) 3 Tryz.underlying143 hi hz0 hz1 .i64 .i64 _ _ xs.length rfl rfl rfl rfl (by rw [hz2]; omega) (by unfold maxLen; omega) (Nat.le_refl _) ?_; intro w2 hown hgrow; have s0' : w2.cell? ⟨w.heap.size, 0, none⟩ = some (.int .i64 N) := ((grownBy_old hgrow).cell (p := ⟨w.heap.size, 0, none⟩) hs1).trans s0; have s1' : w2.cell? ⟨w.heap.size, 1, none⟩ = some (.slice (some ⟨b, o, none⟩) xs.length cap0) := ((grownBy_old hgrow).cell (p := ⟨w.heap.size, 1, none⟩) hs1).trans s1)
    obtain ⟨ys, hyl, hym⟩ := made_rings xs.length
    rw [hym] at hown
    have HRG : Hid (Rgs w2 w1.heap.size N xs Rf 0) := ⟨ys, hyl, hown, fun i hi => by omega⟩
    have HG2 : Hid (Old w w2) := Old.trans HG1.out (grownBy_old hgrow)
    have HS2 : Hid (w2.cell? ⟨w.heap.size, 0, none⟩ = some (.int .i64 N) ∧ w2.cell? ⟨w.heap.size, 1, none⟩ = some (.slice (some ⟨b, o, none⟩) xs.length cap0)) := ⟨s0', s1'⟩
    clear hown hgrow s0' s1' s0 s1 HS1 hym hyl
    go_loopw [20] (fun i W => ∃ k : Nat, k ≤ xs.length ∧ i = .int .i64 k ∧ Hid (∀ j, j < k → RingOk (xs.getD j 0) N) ∧ Hid (Rgs W w1.heap.size N xs Rf k) ∧ Hid (Old w W) ∧ Hid (W.cell? ⟨w.heap.size, 0, none⟩ = some (.int .i64 N) ∧ W.cell? ⟨w.heap.size, 1, none⟩ = some (.slice (some ⟨b, o, none⟩) xs.length cap0))) (fun i _ => xs.length - (intOf i).toNat)
    case atStart => exact ⟨0, by omega, rfl, fun j hj => by omega, HRG, HG2, HS2⟩
    case round =>
      obtain ⟨k, hk, rfl, H1, HR, HG, HS⟩ := hrel
      clear HRG HG2 HS2
      by_cases hlt : k < xs.length
      · have d1 : decide ((k : Int) < (xs.length : Int)) = true := by simp; omega
        have c1 : wr.cell? ⟨b, o + k, none⟩ = some (.int .i64 (xs.getD k 0)) := (HG.out.cell (p := ⟨b, o + k, none⟩) hb).trans (HC.out k hlt)
        have s0 := HS.out.1
        have s1 := HS.out.2
        have hsr : w.heap.size < wr.heap.size := by have := HR.out.lt; omega
        by_cases hok : RingOk (xs.getD k 0) N
        · have cr := (HRF.out k hok).2
          have H2 : Hid (∀ j, j < k + 1 → RingOk (xs.getD j 0) N) := fun j hj => by
            rcases Nat.lt_or_ge j k with h | h
            · exact H1.out j h
            · obtain rfl : j = k := by omega
              exact hok
          have HPUT : Hid (∀ W, Rgs W w1.heap.size N xs Rf k → Rgs (((W.setCell ⟨w1.heap.size, k * 3, none⟩ (.int .i64 (xs.getD k 0))).setCell ⟨w1.heap.size, k * 3 + 1, none⟩ (.int .i64 N)).setCell ⟨w1.heap.size, k * 3 + 2, none⟩ (.int .i64 (Rf k))) w1.heap.size N xs Rf (k + 1)) := fun W h => h.put hlt
          have HCR : Hid (∀ W, PrsW W → TabW W → Calls Tryz.prog 163 #[.int .i64 (xs.getD k 0), .int .i64 N] W fun e w' => e = .returned (.tuple #[.agg #[.int .i64 (xs.getD k 0), .int .i64 N, .int .i64 (Rf k)], .bool true]) ∧ Old W w') := cr
          clear H1 hok cr
          generalize xs.getD k 0 = p at *
          obtain ⟨r, hr⟩ : ∃ r, Rf k = r := ⟨_, rfl⟩
          rw [hr] at HPUT HCR
          clear hr
          go_wp2_with fail
          refine (HCR.out _ (HP.out.old HG.out) (HT.out.old HG.out)).mono ?_
          rintro e w3 ⟨rfl, g3⟩
          have g4 : Old wr (w3.alloc (.cells #[.int .i64 p, .int .i64 N, .int .i64 r] 151)) := g3.alloc _
          have HR4 : Hid (Rgs (w3.alloc (.cells #[.int .i64 p, .int .i64 N, .int .i64 r] 151)) w1.heap.size N xs Rf k) := HR.out.old g4
          have HG4 : Hid (Old w (w3.alloc (.cells #[.int .i64 p, .int .i64 N, .int .i64 r] 151))) := Old.trans HG.out g4
          have HS4 : Hid ((w3.alloc (.cells #[.int .i64 p, .int .i64 N, .int .i64 r] 151)).cell? ⟨w.heap.size, 0, none⟩ = some (.int .i64 N) ∧ (w3.alloc (.cells #[.int .i64 p, .int .i64 N, .int .i64 r] 151)).cell? ⟨w.heap.size, 1, none⟩ = some (.slice (some ⟨b, o, none⟩) xs.length cap0)) := ⟨(g4.cell (p := ⟨w.heap.size, 0, none⟩) hsr).trans HS.out.1, (g4.cell (p := ⟨w.heap.size, 1, none⟩) hsr).trans HS.out.2⟩
          obtain ⟨y0, q0⟩ := HR4.out.cell (k * 3) (by omega)
          obtain ⟨y1, q1⟩ := HR4.out.cell (k * 3 + 1) (by omega)
          obtain ⟨y2, q2⟩ := HR4.out.cell (k * 3 + 2) (by omega)
          have f0 := HR4.out.free (k * 3)
          have f1 := HR4.out.free (k * 3 + 1)
          have f2 := HR4.out.free (k * 3 + 2)
          clear g3 g4 s0 s1 c1
          have hne : w.heap.size ≠ w1.heap.size := by omega
          have HS5 : Hid (((((w3.alloc (.cells #[.int .i64 p, .int .i64 N, .int .i64 r] 151)).setCell ⟨w1.heap.size, k * 3, none⟩ (.int .i64 p)).setCell ⟨w1.heap.size, k * 3 + 1, none⟩ (.int .i64 N)).setCell ⟨w1.heap.size, k * 3 + 2, none⟩ (.int .i64 r)).cell? ⟨w.heap.size, 0, none⟩ = some (.int .i64 N) ∧ ((((w3.alloc (.cells #[.int .i64 p, .int .i64 N, .int .i64 r] 151)).setCell ⟨w1.heap.size, k * 3, none⟩ (.int .i64 p)).setCell ⟨w1.heap.size, k * 3 + 1, none⟩ (.int .i64 N)).setCell ⟨w1.heap.size, k * 3 + 2, none⟩ (.int .i64 r)).cell? ⟨w.heap.size, 1, none⟩ = some (.slice (some ⟨b, o, none⟩) xs.length cap0)) := ⟨(cellO _ _ _ _ hne).trans ((cellO _ _ _ _ hne).trans ((cellO _ _ _ _ hne).trans HS4.out.1)), (cellO _ _ _ _ hne).trans ((cellO _ _ _ _ hne).trans ((cellO _ _ _ _ hne).trans HS4.out.2))⟩
          clear hne
          go_wp2_with fail
          exact ⟨⟨k + 1, by omega, by go_num, H2, HPUT.out _ HR4.out, ((HG4.out.own (p := ⟨w1.heap.size, k * 3, none⟩) (by show w.heap.size ≤ w1.heap.size; omega) _).own (p := ⟨w1.heap.size, k * 3 + 1, none⟩) (by show w.heap.size ≤ w1.heap.size; omega) _).own (p := ⟨w1.heap.size, k * 3 + 2, none⟩) (by show w.heap.size ≤ w1.heap.size; omega) _, HS5⟩, by simp [intOf]; omega⟩
        · have cr := fun W (h1 : PrsW W) (h2 : TabW W) => impl_RingOf_no (xs.getD k 0) N W h1 h2 hok
          have HB : Hid (spB N xs = false) := sp_not HBB.out hlt hok
          clear H1 hok
          generalize xs.getD k 0 = p at *
          go_wp2_with fail
          refine (cr _ (HP.out.old HG.out) (HT.out.old HG.out)).mono ?_
          rintro e w3 ⟨rfl, g3⟩
          have HG4 : Hid (Old w (w3.alloc (.cells ring0 151))) := Old.trans HG.out (g3.alloc _)
          clear g3 cr s0 s1 c1
          go_wp2_with fail
          exact bodyPost_ret (v := .tuple #[.slice none 0 0, .bool false]) (by simp [results, Tryz.results105, go_sem]) rfl ⟨HG4.out, Or.inl ⟨HB.out, rfl⟩⟩
      · have d1 : decide ((k : Int) < (xs.length : Int)) = false := by simp; omega
        obtain rfl : k = xs.length := by omega
        have HB : Hid (spB N xs = true) := sp_all HBB.out H1.out
        clear H1
        go_wp2_with fail
        exact bodyPost_ret (v := .tuple #[.slice (some ⟨w1.heap.size, 0, none⟩) xs.length xs.length, .bool true]) (by simp [results, Tryz.results105, go_sem]) rfl ⟨HG.out, Or.inr ⟨HB.out, w1.heap.size, by omega, rfl, HR.out⟩⟩
end Go.Proofs.YtfgooclnohnkmaaGreatDoor
/- Proved: rows beside their rings, as the program makes them. -/
namespace Go.Proofs.YtfgooclnohnkmaaGreatDoor
open Go.ChangeShapes Go.WideShapes Go.ChangeAt Go.RowKit
open M1
set_option linter.unusedVariables false
set_option linter.unusedSimpArgs false
theorem Tryz.infoRingRow : (Tryz.prog.info? 153).map (fun i => (i.zero, i.size, i.bytes)) = some (some (.agg #[.int .i64 0, .int .i64 0, .int .i64 0, .bool false, .slice none 0 0]), 5, 56) := by kernel_rfl
/-- the first k rows beside their rings lie in block g; the rows themselves where us says -/
def RRs (W : World) (g : Nat) (N : Int) (n : Bool) (ps : List Int) (Rf : Nat → Int) (us : Nat → Option Addr) (k : Nat) : Prop :=
  ∃ vs : List Value, vs.length = 5 * ps.length ∧ W.ownsRow g 153 5 (.slice (some ⟨g, 0, none⟩) ps.length ps.length) ps.length vs
    ∧ ∀ i, i < k → vs[i * 5]? = some (.int .i64 (ps.getD i 0)) ∧ vs[i * 5 + 1]? = some (.int .i64 N) ∧ vs[i * 5 + 2]? = some (.int .i64 (Rf i)) ∧ vs[i * 5 + 3]? = some (.bool n) ∧ vs[i * 5 + 4]? = some (.slice (us i) N.toNat N.toNat)
theorem RRs.lt {W : World} {g : Nat} {N : Int} {n : Bool} {ps : List Int} {Rf : Nat → Int} {us : Nat → Option Addr} {k : Nat} (h : RRs W g N n ps Rf us k) : g < W.heap.size := by
  obtain ⟨vs, _, ho, _⟩ := h
  exact (ho.lt g rfl).2
theorem RRs.old {W W' : World} {g : Nat} {N : Int} {n : Bool} {ps : List Int} {Rf : Nat → Int} {us : Nat → Option Addr} {k : Nat} (h : RRs W g N n ps Rf us k) (q : Old W W') : RRs W' g N n ps Rf us k := by
  obtain ⟨vs, hl, ho, hy⟩ := h
  refine ⟨vs, hl, ⟨ho.1, ?_⟩, hy⟩
  rcases ho.2 with hn | ⟨p, cap, cur, e, hb, hgg, rest⟩
  · exact .inl hn
  · refine .inr ⟨p, cap, cur, e, hb, ?_, rest⟩
    rw [q.block p (Array.getElem?_eq_some_iff.1 hgg).1]
    exact hgg
theorem RRs.cell {W : World} {g : Nat} {N : Int} {n : Bool} {ps : List Int} {Rf : Nat → Int} {us : Nat → Option Addr} {k : Nat} (h : RRs W g N n ps Rf us k) (j : Nat) (hj : j < 5 * ps.length) : ∃ y : Value, W.cell? ⟨g, j, none⟩ = some y := by
  obtain ⟨vs, hl, ho, hy⟩ := h
  refine ⟨vs[j]'(by omega), ?_⟩
  rw [World.ownsRow.cellAt ho j (by omega)]
  exact List.getElem?_eq_getElem _
theorem RRs.free {W : World} {g : Nat} {N : Int} {n : Bool} {ps : List Int} {Rf : Nat → Int} {us : Nat → Option Addr} {k : Nat} (h : RRs W g N n ps Rf us k) (j : Nat) : W.frozen? ⟨g, j, none⟩ = false := by
  obtain ⟨vs, hl, ho, hy⟩ := h
  exact World.ownsRow.frozenAt ho j
theorem RRs.at {W : World} {g : Nat} {N : Int} {n : Bool} {ps : List Int} {Rf : Nat → Int} {us : Nat → Option Addr} {k : Nat} (h : RRs W g N n ps Rf us k) (i : Nat) (hi : i < k) (hx : i < ps.length) :
    W.cell? ⟨g, i * 5, none⟩ = some (.int .i64 (ps.getD i 0)) ∧ W.cell? ⟨g, i * 5 + 1, none⟩ = some (.int .i64 N) ∧ W.cell? ⟨g, i * 5 + 2, none⟩ = some (.int .i64 (Rf i)) ∧ W.cell? ⟨g, i * 5 + 3, none⟩ = some (.bool n) ∧ W.cell? ⟨g, i * 5 + 4, none⟩ = some (.slice (us i) N.toNat N.toNat) := by
  obtain ⟨vs, hl, ho, hy⟩ := h
  obtain ⟨h0, h1, h2, h3, h4⟩ := hy i hi
  refine ⟨?_, ?_, ?_, ?_, ?_⟩
  · rw [World.ownsRow.cellAt ho _ (by omega)]; exact h0
  · rw [World.ownsRow.cellAt ho _ (by omega)]; exact h1
  · rw [World.ownsRow.cellAt ho _ (by omega)]; exact h2
  · rw [World.ownsRow.cellAt ho _ (by omega)]; exact h3
  · rw [World.ownsRow.cellAt ho _ (by omega)]; exact h4
theorem RRs.put {W : World} {g : Nat} {N : Int} {n : Bool} {ps : List Int} {Rf : Nat → Int} {us : Nat → Option Addr} {k : Nat} (h : RRs W g N n ps Rf us k) (hk : k < ps.length) :
    RRs (((((W.setCell ⟨g, k * 5, none⟩ (.int .i64 (ps.getD k 0))).setCell ⟨g, k * 5 + 1, none⟩ (.int .i64 N)).setCell ⟨g, k * 5 + 2, none⟩ (.int .i64 (Rf k))).setCell ⟨g, k * 5 + 3, none⟩ (.bool n)).setCell ⟨g, k * 5 + 4, none⟩ (.slice (us k) N.toNat N.toNat)) g N n ps Rf us (k + 1) := by
  obtain ⟨vs, hl, ho, hy⟩ := h
  have h1 := (World.ownsRow.stored ho (k * 5) (.int .i64 (ps.getD k 0))).1
  have h2 := (World.ownsRow.stored h1 (k * 5 + 1) (.int .i64 N)).1
  have h3 := (World.ownsRow.stored h2 (k * 5 + 2) (.int .i64 (Rf k))).1
  have h4 := (World.ownsRow.stored h3 (k * 5 + 3) (.bool n)).1
  have h5 := (World.ownsRow.stored h4 (k * 5 + 4) (.slice (us k) N.toNat N.toNat)).1
  refine ⟨_, by simp [hl], h5, fun i hi => ?_⟩
  rcases Nat.lt_or_ge i k with hlt | hge
  · obtain ⟨q0, q1, q2, q3, q4⟩ := hy i hlt
    refine ⟨?_, ?_, ?_, ?_, ?_⟩
    all_goals (rw [List.getElem?_set_ne (by omega), List.getElem?_set_ne (by omega), List.getElem?_set_ne (by omega), List.getElem?_set_ne (by omega), List.getElem?_set_ne (by omega)]; assumption)
  · obtain rfl : i = k := by omega
    refine ⟨?_, ?_, ?_, ?_, ?_⟩
    · rw [List.getElem?_set_ne (by omega), List.getElem?_set_ne (by omega), List.getElem?_set_ne (by omega), List.getElem?_set_ne (by omega), List.getElem?_set_self (by omega)]
    · rw [List.getElem?_set_ne (by omega), List.getElem?_set_ne (by omega), List.getElem?_set_ne (by omega), List.getElem?_set_self (by simp; omega)]
    · rw [List.getElem?_set_ne (by omega), List.getElem?_set_ne (by omega), List.getElem?_set_self (by simp; omega)]
    · rw [List.getElem?_set_ne (by omega), List.getElem?_set_self (by simp; omega)]
    · rw [List.getElem?_set_self (by simp; omega)]
/-- where the rows lie -/
def RowsAt (w : World) (v : Value) (ps : List Int) (xss : List (List Int)) (us : Nat → Option Addr) (cs : Nat → Nat) : Prop :=
  ∃ b cap, v = .slice (some ⟨b, 0, none⟩) xss.length cap ∧ b < w.heap.size ∧ ∀ j, j < xss.length → w.cell? ⟨b, j, none⟩ = some (.slice (us j) (xss.getD j []).length (cs j)) ∧ (xss.getD j []).length ≤ cs j ∧ Row w (.slice (us j) (xss.getD j []).length (cs j)) (xss.getD j [])
theorem OwS.at {xss : List (List Int)} {W : World} {lo hi : Nat} {v : Value} (ps : List Int) (h : OwS xss W lo hi v) (h0 : 0 < xss.length) : ∃ us cs, RowsAt W v ps xss us cs := by
  obtain ⟨hh, h | ⟨p, cap, vs, rfl, hcap, hlo, hhi, ho, hvl, hj, hd⟩⟩ := h
  · obtain ⟨rfl, rfl⟩ := h
    simp at h0
  · have key : ∀ j, ∃ ac : Option Addr × Nat, j < xss.length → W.cell? ⟨p, j, none⟩ = some (.slice ac.1 (xss.getD j []).length ac.2) ∧ (xss.getD j []).length ≤ ac.2 ∧ Row W (.slice ac.1 (xss.getD j []).length ac.2) (xss.getD j []) := fun j => by
      by_cases hjl : j < xss.length
      · obtain ⟨a, c, e, hc, o, hb⟩ := hj j hjl
        refine ⟨(a, c), fun _ => ⟨?_, hc, o.row⟩⟩
        rw [World.ownsRow.cellAt ho j (by omega)]
        exact e
      · exact ⟨(none, 0), fun h => absurd h hjl⟩
    obtain ⟨f, hf⟩ := Classical.skolem.1 key
    exact ⟨fun j => (f j).1, fun j => (f j).2, p, cap, rfl, by omega, hf⟩
theorem RowsAt.old {w w' : World} {v : Value} {ps : List Int} {xss : List (List Int)} {us : Nat → Option Addr} {cs : Nat → Nat} (h : RowsAt w v ps xss us cs) (g : Old w w') : RowsAt w' v ps xss us cs := by
  obtain ⟨b, cap, e, hb, hc⟩ := h
  exact ⟨b, cap, e, Nat.lt_of_lt_of_le hb g.size, fun j hj => ⟨(g.cell (p := ⟨b, j, none⟩) hb).trans (hc j hj).1, (hc j hj).2.1, (hc j hj).2.2.old g⟩⟩
end Go.Proofs.YtfgooclnohnkmaaGreatDoor
/- Proved: the contract of the program's ringRowsOf. -/
namespace Go.Proofs.YtfgooclnohnkmaaGreatDoor
open Go.ChangeShapes Go.WideShapes Go.ChangeAt Go.RowKit
open M1
set_option linter.unusedVariables false
set_option linter.unusedSimpArgs false
theorem Rgs.same {W W' : World} {g : Nat} {N : Int} {xs : List Int} {Rf : Nat → Int} {k : Nat} (h : Rgs W g N xs Rf k) (e : W'.heap[g]? = W.heap[g]?) : Rgs W' g N xs Rf k := by
  obtain ⟨ys, hl, ho, hy⟩ := h
  refine ⟨ys, hl, ⟨ho.1, ?_⟩, hy⟩
  rcases ho.2 with hn | ⟨p, cap, cur, e', hb, hgg, rest⟩
  · exact .inl hn
  · refine .inr ⟨p, cap, cur, e', hb, ?_, rest⟩
    have : p = g := by
      simp only [Value.slice.injEq, Option.some.injEq, Addr.mk.injEq] at e'
      exact e'.1.1.symm
    subst this
    rw [e]
    exact hgg
theorem cell_drew (W : World) (a : Addr) : W.drew.cell? a = W.cell? a := rfl
theorem Rgs.drewn {W : World} {g : Nat} {N : Int} {xs : List Int} {Rf : Nat → Int} {k : Nat} (h : Rgs W g N xs Rf k) : Rgs W.drew g N xs Rf k := h
theorem RRs.drewn {W : World} {g : Nat} {N : Int} {n : Bool} {ps : List Int} {Rf : Nat → Int} {us : Nat → Option Addr} {k : Nat} (h : RRs W g N n ps Rf us k) : RRs W.drew g N n ps Rf us k := h
theorem made_any (z : Array Value) (n k : Nat) : (madeCells z (n * k)).toList.length = k * n := by
  simp [size_madeCells, Nat.mul_comm]
theorem polyB_len {p N : Int} {xs : List Int} (h : polyB p N xs = true) : (xs.length : Int) = N := by
  unfold polyB at h
  rw [Bool.and_eq_true] at h
  exact of_decide_eq_true h.1
set_option maxRecDepth 100000 in
set_option maxHeartbeats 4000000 in
theorem impl_ringRows (N : Int) (n : Bool) (ps : List Int) (xss : List (List Int)) (Rf : Nat → Int) (us : Nat → Option Addr) (cs : Nat → Nat) (v : Value) (a1 : Option Addr) (cap1 : Nat) (w : World) (hP : PrsW w) (hT : TabW w) (hv : Row w v ps) (hf : Fit v) (hl : ps.length ≤ 1048576) (hlx : xss.length ≤ 1048576) (hr : ∀ r ∈ xss, r.length ≤ 1048576) (hu : 0 < xss.length → RowsAt w (.slice a1 xss.length cap1) ps xss us cs)
    (hRf : ∀ k, RingOk (ps.getD k 0) N → (0 ≤ Rf k ∧ Rf k < ps.getD k 0) ∧ (∀ W, PrsW W → TabW W → Calls Tryz.prog 163 #[.int .i64 (ps.getD k 0), .int .i64 N] W fun e w' => e = .returned (.tuple #[.agg #[.int .i64 (ps.getD k 0), .int .i64 N, .int .i64 (Rf k)], .bool true]) ∧ Old W w')) :
    Calls Tryz.prog 102 #[.agg #[.int .i64 N, v], .agg #[.bool n, .slice a1 xss.length cap1]] w fun e w' => Old w w' ∧ ((grB N ps xss = false ∧ e = .returned (.tuple #[.slice none 0 0, .bool false])) ∨ (grB N ps xss = true ∧ ∃ g, w.heap.size ≤ g ∧ e = .returned (.tuple #[.slice (some ⟨g, 0, none⟩) ps.length ps.length, .bool true]) ∧ RRs w' g N n ps Rf us ps.length)) := by
  have cr := fun W v (h1 : PrsW W) (h2 : TabW W) (h : Row W v ps) (f : Fit v) => impl_rings N ps Rf v W h1 h2 h f (by omega) hRf
  have HP : Hid (PrsW w) := hP
  have HT : Hid (TabW w) := hT
  have HV : Hid (Row w v ps) := hv
  have HF : Hid (Fit v) := hf
  have HU : Hid (0 < xss.length → RowsAt w (.slice a1 xss.length cap1) ps xss us cs) := hu
  have HR : Hid (∀ r ∈ xss, r.length ≤ 1048576) := hr
  obtain ⟨a0, cap0, ev⟩ := hv.slice
  subst ev
  have HN : Hid (Old w ((w.alloc (.cells #[.int .i64 N, .slice a0 ps.length cap0] 56)).alloc (.cells #[.bool n, .slice a1 xss.length cap1] 58))) := ((Old.refl w).alloc _).alloc _
  clear hP hT hv hf hu hr hRf
  go_enter Tryz.func102, Tryz.ntmps102
  go_wp2_with fail
  refine (cr _ _ (HP.out.old HN.out) (HT.out.old HN.out) (HV.out.old HN.out) HF.out).mono ?_
  rintro e w1 ⟨g1, h⟩
  have HG1 : Hid (Old w w1) := Old.trans HN.out g1
  have hs1 : w.heap.size + 1 + 1 ≤ w1.heap.size := by have := g1.size; simp at this; omega
  have t0 : w1.cell? ⟨w.heap.size + 1, 0, none⟩ = some (.bool n) := (g1.cell (p := ⟨w.heap.size + 1, 0, none⟩) (by simp)).trans (by simp [cell_at, cell_lt])
  have t1 : w1.cell? ⟨w.heap.size + 1, 1, none⟩ = some (.slice a1 xss.length cap1) := (g1.cell (p := ⟨w.heap.size + 1, 1, none⟩) (by simp)).trans (by simp [cell_at, cell_lt])
  have HS1 : Hid (w1.cell? ⟨w.heap.size + 1, 0, none⟩ = some (.bool n) ∧ w1.cell? ⟨w.heap.size + 1, 1, none⟩ = some (.slice a1 xss.length cap1)) := ⟨t0, t1⟩
  clear g1 cr
  rcases h with ⟨hB, rfl⟩ | ⟨hB, g, hg, rfl, hrg⟩
  · have HB : Hid (grB N ps xss = false) := by show _ = _; unfold grB; rw [hB]; rfl
    clear hB
    go_wp2_with fail
    exact bodyPost_ret (v := .tuple #[.slice none 0 0, .bool false]) (by simp [results, Tryz.results102, go_sem]) rfl ⟨HG1.out, Or.inl ⟨HB.out, rfl⟩⟩
  · have HSP : Hid (spB N ps = true) := hB
    have hg2 : w.heap.size + 1 + 1 ≤ g := by simp at hg; omega
    have HRG : Hid (Rgs w1 g N ps Rf ps.length) := hrg
    have hgl : g < w1.heap.size := hrg.lt
    clear hB hg hrg
    by_cases hn : xss.length = ps.length
    · have dn : ((xss.length : Int) != (ps.length : Int)) = false := by simp; omega
      obtain ⟨hz, hbb, hring⟩ := sp_ring HSP.out
      have hlen := (bas_at hbb).1
      have HPM : Hid (∀ k, k < ps.length → pmB (ps.getD k 0) = true) := (bas_at hbb).2
      obtain ⟨Nn, rfl⟩ : ∃ Nn : Nat, N = (Nn : Int) := ⟨N.toNat, by omega⟩
      have hNn : 2 ≤ Nn ∧ Nn ≤ 16 := by omega
      obtain ⟨bu, capu, eu, hbu, hcu⟩ := HU.out (by omega)
      simp only [Value.slice.injEq, true_and] at eu
      obtain ⟨rfl, rfl⟩ := eu
      have HCU : Hid (∀ j, j < xss.length → w.cell? ⟨bu, j, none⟩ = some (.slice (us j) (xss.getD j []).length (cs j)) ∧ (xss.getD j []).length ≤ cs j ∧ Row w (.slice (us j) (xss.getD j []).length (cs j)) (xss.getD j [])) := hcu
      have HB0 : Hid (rwA Nn ps xss 0 = grB Nn ps xss) := by show _ = _; unfold grB rwB; rw [HSP.out, decide_eq_true hn]; rfl
      have HNN : Hid (xss.length = ps.length) := hn
      obtain ⟨i0, hi, hz0, hz1, hz2⟩ := info_parts Tryz.infoRingRow
      clear hz hbb hring hcu hn
      go_wp2_with (at_make; refine wpList_make_full _ rfl _ _ 139 rfl w1.heap.size 153 i0 (.agg #[.int .i64 0, .int .i64 0, .int .i64 0, .bool false, .slice none 0 0]) 5 Tryz.underlying139 hi hz0 hz1 .i64 .i64 _ _ ps.length rfl rfl rfl rfl (by rw [hz2]; omega) (by unfold maxLen; omega) (Nat.le_refl _) ?_; intro w2 hown hgrow)
      have HRR : Hid (RRs w2 w1.heap.size Nn n ps Rf us 0) := ⟨_, made_any _ _ _, hown, fun i hi => by omega⟩
      have g2 : Old w1 w2 := grownBy_old hgrow
      have HG2 : Hid (Old w w2) := Old.trans HG1.out g2
      have HRG2 : Hid (Rgs w2 g Nn ps Rf ps.length) := HRG.out.old g2
      have HS2 : Hid (w2.cell? ⟨w.heap.size + 1, 0, none⟩ = some (.bool n) ∧ w2.cell? ⟨w.heap.size + 1, 1, none⟩ = some (.slice (some ⟨bu, 0, none⟩) xss.length cap1)) := ⟨(g2.cell (p := ⟨w.heap.size + 1, 0, none⟩) (by show w.heap.size + 1 < w1.heap.size; omega)).trans HS1.out.1, (g2.cell (p := ⟨w.heap.size + 1, 1, none⟩) (by show w.heap.size + 1 < w1.heap.size; omega)).trans HS1.out.2⟩
      clear hown hgrow g2 t0 t1 HS1 HRG HG1
      go_loopw [32] (fun i W => ∃ k : Nat, k ≤ ps.length ∧ i = .int .i64 k ∧ Hid (rwA Nn ps xss k = grB Nn ps xss) ∧ Hid (RRs W w1.heap.size Nn n ps Rf us k) ∧ Hid (Old w W) ∧ Hid (Rgs W g Nn ps Rf ps.length) ∧ Hid (W.cell? ⟨w.heap.size + 1, 0, none⟩ = some (.bool n) ∧ W.cell? ⟨w.heap.size + 1, 1, none⟩ = some (.slice (some ⟨bu, 0, none⟩) xss.length cap1))) (fun i _ => ps.length - (intOf i).toNat)
      case atStart => exact ⟨0, by omega, rfl, HB0, HRR, HG2, HRG2, HS2⟩
      case round =>
        obtain ⟨k, hk, rfl, H1, HRK, HG, HRG, HS⟩ := hrel
        clear HB0 HRR HG2 HRG2 HS2
        have hsr : w1.heap.size < wr.heap.size := HRK.out.lt
        by_cases hlt : k < ps.length
        · have d1 : decide ((k : Int) < (ps.length : Int)) = true := by simp; omega
          have hnn := HNN.out
          have d2 : decide ((k : Int) < (xss.length : Int)) = true := by simp; omega
          have hkx : k < xss.length := by omega
          obtain ⟨r0, r1, r2⟩ := HRG.out.at k hlt hlt
          obtain ⟨c0, hcs, rw0⟩ := HCU.out k hkx
          have hp := pm_bd (HPM.out k hlt)
          have hm : xss.getD k [] ∈ xss := by simp [List.getD, hkx]
          have hrl := HR.out _ hm
          have HY : Hid (polyB (ps.getD k 0) Nn (xss.getD k []) = true → rwA Nn ps xss (k + 1) = grB Nn ps xss) := fun h => by have := H1.out; rw [rwA_yes h] at this; exact this
          have HNo : Hid (polyB (ps.getD k 0) Nn (xss.getD k []) = false → grB Nn ps xss = false) := fun h => by have := H1.out; rw [rwA_no hlt h] at this; exact this.symm
          have HPUT : Hid (∀ W, RRs W w1.heap.size Nn n ps Rf us k → RRs (((((W.setCell ⟨w1.heap.size, k * 5, none⟩ (.int .i64 (ps.getD k 0))).setCell ⟨w1.heap.size, k * 5 + 1, none⟩ (.int .i64 Nn)).setCell ⟨w1.heap.size, k * 5 + 2, none⟩ (.int .i64 (Rf k))).setCell ⟨w1.heap.size, k * 5 + 3, none⟩ (.bool n)).setCell ⟨w1.heap.size, k * 5 + 4, none⟩ (.slice (us k) Nn Nn)) w1.heap.size Nn n ps Rf us (k + 1)) := fun W h => h.put hlt
          obtain ⟨r, er⟩ : ∃ r, Rf k = r := ⟨_, rfl⟩
          obtain ⟨ua, eua⟩ : ∃ ua, us k = ua := ⟨_, rfl⟩
          obtain ⟨cc, ecc⟩ : ∃ cc, cs k = cc := ⟨_, rfl⟩
          rw [er] at r2 HPUT
          rw [eua] at c0 rw0 HPUT
          rw [ecc] at c0 rw0 hcs
          generalize xss.getD k [] = xs at *
          generalize ps.getD k 0 = p at *
          have cp := fun W (h : Row W (.slice ua xs.length cc) xs) => impl_poly p Nn r xs _ W h (by omega) hp
          have gb : Old wr (wr.alloc (.cells #[.int .i64 p, .int .i64 Nn, .int .i64 r] 151)) := (Old.refl wr).alloc _
          have HGB : Hid (Old w (wr.alloc (.cells #[.int .i64 p, .int .i64 Nn, .int .i64 r] 151))) := Old.trans HG.out gb
          have x1 : (wr.alloc (.cells #[.int .i64 p, .int .i64 Nn, .int .i64 r] 151)).cell? ⟨w.heap.size + 1, 1, none⟩ = some (.slice (some ⟨bu, 0, none⟩) xss.length cap1) := (gb.cell (p := ⟨w.heap.size + 1, 1, none⟩) (by show w.heap.size + 1 < wr.heap.size; omega)).trans HS.out.2
          have x2 : (wr.alloc (.cells #[.int .i64 p, .int .i64 Nn, .int .i64 r] 151)).cell? ⟨bu, k, none⟩ = some (.slice ua xs.length cc) := (HGB.out.cell (p := ⟨bu, k, none⟩) hbu).trans c0
          have RW : Hid (Row (wr.alloc (.cells #[.int .i64 p, .int .i64 Nn, .int .i64 r] 151)) (.slice ua xs.length cc) xs) := rw0.old HGB.out
          have HXL : Hid (polyB p Nn xs = true → (xs.length : Int) = Nn) := polyB_len
          clear H1 c0 rw0 er eua ecc hm gb hnn
          obtain ⟨q, hq⟩ : ∃ q, polyB p Nn xs = q := ⟨_, rfl⟩
          rw [hq] at cp HY HNo HXL
          clear hq
          cases q
          · have HB : Hid (grB Nn ps xss = false) := HNo.out rfl
            clear HY HNo HXL
            go_wp2_with fail
            refine (cp _ RW.out).mono ?_
            rintro e w3 ⟨rfl, g3⟩
            have HG3 : Hid (Old w w3) := Old.trans HGB.out g3
            clear g3
            go_wp2_with fail
            exact bodyPost_ret (v := .tuple #[.slice none 0 0, .bool false]) (by simp [results, Tryz.results102, go_sem]) rfl ⟨HG3.out, Or.inl ⟨HB.out, rfl⟩⟩
          · have H3 : Hid (rwA Nn ps xss (k + 1) = grB Nn ps xss) := HY.out rfl
            have hxl : xs.length = Nn := by have := HXL.out rfl; omega
            rw [hxl] at hcs
            have HXN : Hid (xs.length = Nn) := hxl
            clear HY HNo HXL hxl
            go_wp2_with fail
            refine (cp _ RW.out).mono ?_
            rintro e w3 ⟨rfl, g3⟩
            have g4 : Old wr w3 := Old.trans ((Old.refl wr).alloc _) g3
            have HG3 : Hid (Old w w3) := Old.trans HGB.out g3
            have HRK3 : Hid (RRs w3 w1.heap.size Nn n ps Rf us k) := HRK.out.old g4
            have HRG3 : Hid (Rgs w3 g Nn ps Rf ps.length) := HRG.out.old g4
            have HS3 : Hid (w3.cell? ⟨w.heap.size + 1, 0, none⟩ = some (.bool n) ∧ w3.cell? ⟨w.heap.size + 1, 1, none⟩ = some (.slice (some ⟨bu, 0, none⟩) xss.length cap1)) := ⟨(g4.cell (p := ⟨w.heap.size + 1, 0, none⟩) (by show w.heap.size + 1 < wr.heap.size; omega)).trans HS.out.1, (g4.cell (p := ⟨w.heap.size + 1, 1, none⟩) (by show w.heap.size + 1 < wr.heap.size; omega)).trans HS.out.2⟩
            have z0 : w3.cell? ⟨wr.heap.size, 0, none⟩ = some (.int .i64 p) := (g3.cell (p := ⟨wr.heap.size, 0, none⟩) (by simp)).trans (cell_at _ _ _ _ _ rfl)
            have z1 : w3.cell? ⟨wr.heap.size, 1, none⟩ = some (.int .i64 Nn) := (g3.cell (p := ⟨wr.heap.size, 1, none⟩) (by simp)).trans (cell_at _ _ _ _ _ rfl)
            have z2 : w3.cell? ⟨wr.heap.size, 2, none⟩ = some (.int .i64 r) := (g3.cell (p := ⟨wr.heap.size, 2, none⟩) (by simp)).trans (cell_at _ _ _ _ _ rfl)
            have s0 := HS3.out.1
            have s1 := HS3.out.2
            obtain ⟨y0, q0⟩ := HRK3.out.cell (k * 5) (by omega)
            obtain ⟨y1, q1⟩ := HRK3.out.cell (k * 5 + 1) (by omega)
            obtain ⟨y2, q2⟩ := HRK3.out.cell (k * 5 + 2) (by omega)
            obtain ⟨y3, q3⟩ := HRK3.out.cell (k * 5 + 3) (by omega)
            obtain ⟨y4, q4⟩ := HRK3.out.cell (k * 5 + 4) (by omega)
            have f0 := HRK3.out.free (k * 5)
            have f1 := HRK3.out.free (k * 5 + 1)
            have f2 := HRK3.out.free (k * 5 + 2)
            have f3 := HRK3.out.free (k * 5 + 3)
            have f4 := HRK3.out.free (k * 5 + 4)
            clear g3 g4 cp x1 x2 r0 r1 r2 RW
            rw [HXN.out]
            clear HXN
            go_upto_region 11 with fail
            have hne : w.heap.size + 1 ≠ w1.heap.size := by omega
            have hng : g ≠ w1.heap.size := by omega
            have A1 : Hid (RRs (((((w3.setCell ⟨w1.heap.size, k * 5, none⟩ (.int .i64 p)).setCell ⟨w1.heap.size, k * 5 + 1, none⟩ (.int .i64 Nn)).setCell ⟨w1.heap.size, k * 5 + 2, none⟩ (.int .i64 r)).setCell ⟨w1.heap.size, k * 5 + 3, none⟩ (.bool n)).setCell ⟨w1.heap.size, k * 5 + 4, none⟩ (.slice ua Nn Nn)).drew w1.heap.size Nn n ps Rf us (k + 1)) := RRs.drewn (HPUT.out _ HRK3.out)
            have A2 : Hid (Old w (((((w3.setCell ⟨w1.heap.size, k * 5, none⟩ (.int .i64 p)).setCell ⟨w1.heap.size, k * 5 + 1, none⟩ (.int .i64 Nn)).setCell ⟨w1.heap.size, k * 5 + 2, none⟩ (.int .i64 r)).setCell ⟨w1.heap.size, k * 5 + 3, none⟩ (.bool n)).setCell ⟨w1.heap.size, k * 5 + 4, none⟩ (.slice ua Nn Nn)).drew) := Below.drew (((((HG3.out.own (p := ⟨w1.heap.size, k * 5, none⟩) (by show w.heap.size ≤ w1.heap.size; omega) _).own (p := ⟨w1.heap.size, k * 5 + 1, none⟩) (by show w.heap.size ≤ w1.heap.size; omega) _).own (p := ⟨w1.heap.size, k * 5 + 2, none⟩) (by show w.heap.size ≤ w1.heap.size; omega) _).own (p := ⟨w1.heap.size, k * 5 + 3, none⟩) (by show w.heap.size ≤ w1.heap.size; omega) _).own (p := ⟨w1.heap.size, k * 5 + 4, none⟩) (by show w.heap.size ≤ w1.heap.size; omega) _)
            have A3 : Hid (Rgs (((((w3.setCell ⟨w1.heap.size, k * 5, none⟩ (.int .i64 p)).setCell ⟨w1.heap.size, k * 5 + 1, none⟩ (.int .i64 Nn)).setCell ⟨w1.heap.size, k * 5 + 2, none⟩ (.int .i64 r)).setCell ⟨w1.heap.size, k * 5 + 3, none⟩ (.bool n)).setCell ⟨w1.heap.size, k * 5 + 4, none⟩ (.slice ua Nn Nn)).drew g Nn ps Rf ps.length) := Rgs.drewn (HRG3.out.same ((heap_setCell_other _ _ _ _ hng).trans ((heap_setCell_other _ _ _ _ hng).trans ((heap_setCell_other _ _ _ _ hng).trans ((heap_setCell_other _ _ _ _ hng).trans ((heap_setCell_other _ _ _ _ hng).trans (rfl)))))))
            have A4 : Hid ((((((w3.setCell ⟨w1.heap.size, k * 5, none⟩ (.int .i64 p)).setCell ⟨w1.heap.size, k * 5 + 1, none⟩ (.int .i64 Nn)).setCell ⟨w1.heap.size, k * 5 + 2, none⟩ (.int .i64 r)).setCell ⟨w1.heap.size, k * 5 + 3, none⟩ (.bool n)).setCell ⟨w1.heap.size, k * 5 + 4, none⟩ (.slice ua Nn Nn)).drew.cell? ⟨w.heap.size + 1, 0, none⟩ = some (.bool n) ∧ (((((w3.setCell ⟨w1.heap.size, k * 5, none⟩ (.int .i64 p)).setCell ⟨w1.heap.size, k * 5 + 1, none⟩ (.int .i64 Nn)).setCell ⟨w1.heap.size, k * 5 + 2, none⟩ (.int .i64 r)).setCell ⟨w1.heap.size, k * 5 + 3, none⟩ (.bool n)).setCell ⟨w1.heap.size, k * 5 + 4, none⟩ (.slice ua Nn Nn)).drew.cell? ⟨w.heap.size + 1, 1, none⟩ = some (.slice (some ⟨bu, 0, none⟩) xss.length cap1)) := ⟨(cell_drew _ _).trans ((cellO _ _ _ _ hne).trans ((cellO _ _ _ _ hne).trans ((cellO _ _ _ _ hne).trans ((cellO _ _ _ _ hne).trans ((cellO _ _ _ _ hne).trans (HS3.out.1)))))), (cell_drew _ _).trans ((cellO _ _ _ _ hne).trans ((cellO _ _ _ _ hne).trans ((cellO _ _ _ _ hne).trans ((cellO _ _ _ _ hne).trans ((cellO _ _ _ _ hne).trans (HS3.out.2))))))⟩
            clear hne hng
            go_region
            go_wp2_with fail
            exact ⟨⟨k + 1, by omega, by go_num, H3, A1, A2, A3, A4⟩, by simp [intOf]; omega⟩
        · have d1 : decide ((k : Int) < (ps.length : Int)) = false := by simp; omega
          obtain rfl : k = ps.length := by omega
          have HB : Hid (grB Nn ps xss = true) := by have := H1.out; rw [rwA_end (Nat.le_refl _)] at this; exact this.symm
          clear H1
          go_wp2_with fail
          exact bodyPost_ret (v := .tuple #[.slice (some ⟨w1.heap.size, 0, none⟩) ps.length ps.length, .bool true]) (by simp [results, Tryz.results102, go_sem]) rfl ⟨HG.out, Or.inr ⟨HB.out, w1.heap.size, by omega, rfl, HRK.out⟩⟩
    · have dn : ((xss.length : Int) != (ps.length : Int)) = true := by simp; omega
      have HB : Hid (grB N ps xss = false) := by show _ = _; unfold grB rwB; rw [decide_eq_false hn]; simp
      clear hn
      go_wp2_with fail
      exact bodyPost_ret (v := .tuple #[.slice none 0 0, .bool false]) (by simp [results, Tryz.results102, go_sem]) rfl ⟨HG1.out, Or.inl ⟨HB.out, rfl⟩⟩
end Go.Proofs.YtfgooclnohnkmaaGreatDoor
/- Proved: the drawn region of the model's l5Ahead and that of its l5Back: a row is transformed and appended. -/
namespace Go.Proofs.YtfgooclnohnkmaaGreatDoor
open Go.ChangeShapes Go.WideShapes Go.ChangeAt Go.RowKit
set_option linter.unusedVariables false
set_option linter.unusedSimpArgs false
theorem op_valW {P : Program} {a : Act} {W W' : World} {K : Act → World → Prop} {Q : Exit → Act → World → Prop} {o : Oper} (ρ : Operand → Value) (hρ : a.eval = ρ) (v : Value) (hr : (execOp ρ o).run P W = .ok (.value v) W') (hK : K (a.put o.dst v) W') : o.wp P a W K Q := by
  unfold Oper.wp
  rw [hρ, hr]
  exact hK
theorem op_append_at {P : Program} {o : Oper} {a : Act} {w : World} {K : Act → World → Prop} {Q : Exit → Act → World → Prop} (s x : Operand) (t : TypeId)
    (ho : o.op = .call { callee := .builtin .append, args := #[s, x], argTypes := #[t, t] })
    (base : Nat) (e : TypeId) (i : TypeInfo) (z : Value) (size bytes : Nat) (ht : P.underlying t = some (.slice e)) (hi : P.info? e = some i) (hz : i.zero = some z)
    (hsize : i.size = size) (hby : i.bytes = bytes) (hzs : z.cells.size = size) (hsz : 0 < size)
    (v : Value) (n : Nat) (xs : List Value) (hs : a.eval s = v) (hown : w.ownsRow base e size v n xs)
    (ad : Addr) (m c : Nat) (news : List Value) (hx : a.eval x = .slice (some ad) m c) (hl : news.length = m * size) (hnews : ∀ j u, news[j]? = some u → w.cell? (ad.add j) = some u) (h1 : ∀ u ∈ news, u.oneCell' = true)
    (h63 : n + m ≤ maxLen) (hbytes : (n + m) * bytes ≤ 140737488355328) (hbase : base ≤ w.heap.size)
    (h : ∀ v' w', w'.ownsRow base e size v' (n + m) (xs ++ news) → w.grownBy w' v.ownBlock → (v' = .slice none 0 0 ↔ v = .slice none 0 0 ∧ m = 0) → (v'.ownBlock = v.ownBlock ∨ v'.ownBlock = some w.heap.size) → K (a.put o.dst v') w') :
    o.wp P a w K Q := by
  obtain ⟨v', w', hr, h2, h3, h4, h5⟩ := run_append_own_at (P := P) w base t o.type e i z size bytes ht hi hz hsize hby hzs hsz v n xs hown ad m c news hl hnews h1 h63 hbytes hbase
  unfold Oper.wp execOp
  simp only [ho, resolve, invoke, builtin, Sem.run_bind, Sem.run_pure, Result.andThen_ok, List.map_toArray, List.map_cons, List.map_nil, hs, hx, hr]
  exact h v' w' h2 h3 h4 h5
theorem own_fit {W : World} {base : Nat} {v : Value} {zs : List Int} (h : Own W base v zs) : ∃ ra rc, v = .slice ra zs.length rc ∧ zs.length ≤ rc := by
  rcases h.2 with ⟨e, hn⟩ | ⟨_, _, _, e, _, _, hn, _⟩
  · exact ⟨none, 0, by rw [e, hn], by omega⟩
  · exact ⟨_, _, e, hn⟩
/-- what each operation leaves in its slot -/
def aheadQ (p N r : Int) (k : Nat) (a : Option Addr) (cap ab b1 o1 L cap1 : Nat) (x1 : Option Addr) (n1 y1 : Nat) (zs : List Int) (base : Nat) (i : Nat) (W : World) (x : Value) : Prop :=
  match i with
  | 0 => x = .slice a k cap
  | 1 => x = .agg #[.int .i64 p, .int .i64 N, .int .i64 r]
  | 2 => x = .pointer (some ⟨ab, 1, none⟩)
  | 3 => x = .slice (some ⟨b1, o1, none⟩) L cap1
  | 4 => x = .int .i64 k
  | 5 => x = .pointer (some ⟨b1, o1 + k, none⟩)
  | 6 => x = .slice x1 n1 y1
  | 7 => ∃ ra rc, x = .slice ra zs.length rc ∧ zs.length ≤ rc ∧ Own W base x zs
  | 8 => ∃ ra rc g, x = .slice (some ⟨g, 0, none⟩) 1 1 ∧ zs.length ≤ rc ∧ Own W base (.slice ra zs.length rc) zs ∧ W.cell? ⟨g, 0, none⟩ = some (.slice ra zs.length rc) ∧ g < W.heap.size
  | _ => True
theorem aheadQ_old (p N r : Int) (k : Nat) (a : Option Addr) (cap ab b1 o1 L cap1 : Nat) (x1 : Option Addr) (n1 y1 : Nat) (zs : List Int) (base : Nat) (i : Nat) (W W' : World) (x : Value) (h : aheadQ p N r k a cap ab b1 o1 L cap1 x1 n1 y1 zs base i W x) (q : Old W W') : aheadQ p N r k a cap ab b1 o1 L cap1 x1 n1 y1 zs base i W' x := by
  unfold aheadQ at h ⊢
  split at h
  case h_8 =>
    obtain ⟨ra, rc, e, hc, ow⟩ := h
    exact ⟨ra, rc, e, hc, ow.old q⟩
  case h_9 =>
    obtain ⟨ra, rc, g, e, hc, ow, hcell, hlt⟩ := h
    exact ⟨ra, rc, g, e, hc, ow.old q, (q.cell (p := ⟨g, 0, none⟩) hlt).trans hcell, Nat.lt_of_lt_of_le hlt q.size⟩
  all_goals first | exact h | trivial
def slotRgB (i : Nat) : Nat := [18, 19, 20, 21, 22, 23, 24, 25, 26, 27, 5].getD i 0
theorem slotRgB_lt : ∀ i, i < 11 → slotRgB i < 40 := by decide
theorem slotRgB_inj : ∀ i, i < 11 → ∀ j, j < 11 → slotRgB i = slotRgB j → i = j := by decide
theorem slotRgB_no : ∀ s, s < 18 → ∀ i, i < 10 → slotRgB i ≠ s := by decide
set_option maxRecDepth 100000 in
set_option maxHeartbeats 4000000 in
theorem reg_RgB (w0 : World) (rb ab b1 o1 L cap1 k : Nat) (aa : Option Addr) (cap : Nat) (p N r : Int) (x1 : Option Addr) (n1 y1 : Nat) (zs : List Int) (base : Nat) (hbase : base ≤ w0.heap.size) (FIN : World → Value → Prop)
    (c0 : w0.cell? ⟨rb, 0, none⟩ = some (.int .i64 p)) (c1 : w0.cell? ⟨rb, 1, none⟩ = some (.int .i64 N)) (c2 : w0.cell? ⟨rb, 2, none⟩ = some (.int .i64 r))
    (cr : w0.cell? ⟨ab, 1, none⟩ = some (.slice (some ⟨b1, o1, none⟩) L cap1)) (cx : w0.cell? ⟨b1, o1 + k, none⟩ = some (.slice x1 n1 y1)) (hk : k < L) (hk6 : k ≤ 6) (hL : L ≤ 1048576)
    (KF : ∀ W, Old w0 W → Calls Tryz.prog 155 #[.agg #[.int .i64 p, .int .i64 N, .int .i64 r], .slice x1 n1 y1] W fun e w' => ∃ v', e = .returned v' ∧ Old W w' ∧ Own w' W.heap.size v' zs)
    (HEM : ∀ (W : World) (ra : Option Addr) (rc : Nat), Old w0 W → Own W w0.heap.size (.slice ra zs.length rc) zs → zs.length ≤ rc → ∃ vs, W.ownsRow base 23 1 (.slice aa k cap) k vs ∧ (∀ v' w', w'.ownsRow base 23 1 v' (k + 1) (vs ++ [.slice ra zs.length rc]) → W.grownBy w' (Value.slice aa k cap).ownBlock → (v'.ownBlock = (Value.slice aa k cap).ownBlock ∨ v'.ownBlock = some W.heap.size) → FIN w' v'))
    (Q : Exit → Act → World → Prop) (a0 : Act) (hsz : a0.tmps.size = 40)
    (ha3 : a0.eval (.tmp 3) = .pointer (some ⟨ab, 0, none⟩)) (ha5 : a0.eval (.tmp 5) = .slice aa k cap) (ha6 : a0.eval (.tmp 6) = .int .i64 k) (ha7 : a0.eval (.tmp 7) = .pointer (some ⟨rb, 0, none⟩))
    (HK : Hid (∀ (us : Nat → Value) W, FIN W (us 10) → Q .normal (putAll a0 ((List.range 11).map fun i => (slotRgB i, us i))) W)) :
    Code.wp Tryz.prog ((Tryz.f85.body.bind (regionAtmul 6)).getD .skip) Q a0 w0 := by
  conv => arg 2; whnf
  obtain ⟨j0, ji, jz0, jz1, jz2⟩ := info_parts Tryz.infoInts
  have hr := block_lt_of_cell c0
  have hab := block_lt_of_cell cr
  have hb1 := block_lt_of_cell cx
  have un := slotRgB_no
  refine wp_region_turn 9 rfl rfl rfl (by kernel_rfl) (by kernel_rfl) (by kernel_rfl) (by kernel_rfl) (by kernel_rfl) slotRgB (fun i hi => by rw [hsz]; exact slotRgB_lt i hi) (fun i j hi hj => slotRgB_inj i hi j hj) (aheadQ p N r k aa cap ab b1 o1 L cap1 x1 n1 y1 zs w0.heap.size) (aheadQ_old p N r k aa cap ab b1 o1 L cap1 x1 n1 y1 zs w0.heap.size) FIN ?_ ?_ ?_ ?_
  · refine ⟨?_, ?_, ?_, ?_, ?_, ?_, ?_, ?_, ?_, trivial⟩
    · intro a W g hF hd
      have e3 := (hF.same 3 (un 3 (by decide))).trans ha3
      have e5 := (hF.same 5 (un 5 (by decide))).trans ha5
      have e6 := (hF.same 6 (un 6 (by decide))).trans ha6
      have e7 := (hF.same 7 (un 7 (by decide))).trans ha7
      obtain ⟨ρ, hρ⟩ : ∃ ρ, a.eval = ρ := ⟨_, rfl⟩
      rw [hρ] at  e3 e5 e6 e7
      refine op_val ρ hρ (.slice aa k cap) ?_ ⟨_, rfl, Old.refl _, rfl⟩
      clear g hF hd hρ ha3 ha5 ha6 ha7 HK un KF HEM c0 c1 c2 cr cx
      go_simp
    · intro a W g hF hd
      have e3 := (hF.same 3 (un 3 (by decide))).trans ha3
      have e5 := (hF.same 5 (un 5 (by decide))).trans ha5
      have e6 := (hF.same 6 (un 6 (by decide))).trans ha6
      have e7 := (hF.same 7 (un 7 (by decide))).trans ha7
      have k0 := (g.cell (p := ⟨rb, 0, none⟩) hr).trans c0
      have k1 := (g.cell (p := ⟨rb, 1, none⟩) hr).trans c1
      have k2 := (g.cell (p := ⟨rb, 2, none⟩) hr).trans c2
      obtain ⟨ρ, hρ⟩ : ∃ ρ, a.eval = ρ := ⟨_, rfl⟩
      rw [hρ] at  e3 e5 e6 e7
      refine op_val ρ hρ (.agg #[.int .i64 p, .int .i64 N, .int .i64 r]) ?_ ⟨_, rfl, Old.refl _, rfl⟩
      clear g hF hd hρ ha3 ha5 ha6 ha7 HK un KF HEM c0 c1 c2 cr cx
      go_simp
    · intro a W g hF hd
      have e3 := (hF.same 3 (un 3 (by decide))).trans ha3
      have e5 := (hF.same 5 (un 5 (by decide))).trans ha5
      have e6 := (hF.same 6 (un 6 (by decide))).trans ha6
      have e7 := (hF.same 7 (un 7 (by decide))).trans ha7
      obtain ⟨ρ, hρ⟩ : ∃ ρ, a.eval = ρ := ⟨_, rfl⟩
      rw [hρ] at  e3 e5 e6 e7
      refine op_val ρ hρ (.pointer (some ⟨ab, 1, none⟩)) ?_ ⟨_, rfl, Old.refl _, rfl⟩
      clear g hF hd hρ ha3 ha5 ha6 ha7 HK un KF HEM c0 c1 c2 cr cx
      go_simp
    · intro a W g hF hd
      have e3 := (hF.same 3 (un 3 (by decide))).trans ha3
      have e5 := (hF.same 5 (un 5 (by decide))).trans ha5
      have e6 := (hF.same 6 (un 6 (by decide))).trans ha6
      have e7 := (hF.same 7 (un 7 (by decide))).trans ha7
      have h2 := hd ⟨2, .data⟩ (by simp) rfl
      simp only [aheadQ, slotRgB, List.getD_cons_zero, List.getD_cons_succ] at h2
      have k0 := (g.cell (p := ⟨ab, 1, none⟩) hab).trans cr
      obtain ⟨ρ, hρ⟩ : ∃ ρ, a.eval = ρ := ⟨_, rfl⟩
      rw [hρ] at h2 e3 e5 e6 e7
      refine op_val ρ hρ (.slice (some ⟨b1, o1, none⟩) L cap1) ?_ ⟨_, rfl, Old.refl _, rfl⟩
      clear g hF hd hρ ha3 ha5 ha6 ha7 HK un KF HEM c0 c1 c2 cr cx
      go_simp
    · intro a W g hF hd
      have e3 := (hF.same 3 (un 3 (by decide))).trans ha3
      have e5 := (hF.same 5 (un 5 (by decide))).trans ha5
      have e6 := (hF.same 6 (un 6 (by decide))).trans ha6
      have e7 := (hF.same 7 (un 7 (by decide))).trans ha7
      obtain ⟨ρ, hρ⟩ : ∃ ρ, a.eval = ρ := ⟨_, rfl⟩
      rw [hρ] at  e3 e5 e6 e7
      refine op_val ρ hρ (.int .i64 k) ?_ ⟨_, rfl, Old.refl _, rfl⟩
      clear g hF hd hρ ha3 ha5 ha6 ha7 HK un KF HEM c0 c1 c2 cr cx
      go_simp
    · intro a W g hF hd
      have e3 := (hF.same 3 (un 3 (by decide))).trans ha3
      have e5 := (hF.same 5 (un 5 (by decide))).trans ha5
      have e6 := (hF.same 6 (un 6 (by decide))).trans ha6
      have e7 := (hF.same 7 (un 7 (by decide))).trans ha7
      have h3 := hd ⟨3, .data⟩ (by simp) rfl
      have h4 := hd ⟨4, .data⟩ (by simp) rfl
      simp only [aheadQ, slotRgB, List.getD_cons_zero, List.getD_cons_succ] at h3 h4
      have hkL : (k : Int) < (L : Int) := by omega
      obtain ⟨ρ, hρ⟩ : ∃ ρ, a.eval = ρ := ⟨_, rfl⟩
      rw [hρ] at h3 h4 e3 e5 e6 e7
      refine op_val ρ hρ (.pointer (some ⟨b1, o1 + k, none⟩)) ?_ ⟨_, rfl, Old.refl _, rfl⟩
      clear g hF hd hρ ha3 ha5 ha6 ha7 HK un KF HEM c0 c1 c2 cr cx
      go_simp
    · intro a W g hF hd
      have e3 := (hF.same 3 (un 3 (by decide))).trans ha3
      have e5 := (hF.same 5 (un 5 (by decide))).trans ha5
      have e6 := (hF.same 6 (un 6 (by decide))).trans ha6
      have e7 := (hF.same 7 (un 7 (by decide))).trans ha7
      have h5 := hd ⟨5, .data⟩ (by simp) rfl
      simp only [aheadQ, slotRgB, List.getD_cons_zero, List.getD_cons_succ] at h5
      have k0 := (g.cell (p := ⟨b1, o1 + k, none⟩) hb1).trans cx
      obtain ⟨ρ, hρ⟩ : ∃ ρ, a.eval = ρ := ⟨_, rfl⟩
      rw [hρ] at h5 e3 e5 e6 e7
      refine op_val ρ hρ (.slice x1 n1 y1) ?_ ⟨_, rfl, Old.refl _, rfl⟩
      clear g hF hd hρ ha3 ha5 ha6 ha7 HK un KF HEM c0 c1 c2 cr cx
      go_simp
    · intro a W g hF hd
      have h1 : a.eval (.tmp 19) = .agg #[.int .i64 p, .int .i64 N, .int .i64 r] := hd ⟨1, .data⟩ (by simp) rfl
      have h6 : a.eval (.tmp 24) = .slice x1 n1 y1 := hd ⟨6, .data⟩ (by simp) rfl
      refine op_call_ret Tryz.call155 (vs := #[.agg #[.int .i64 p, .int .i64 N, .int .i64 r], .slice x1 n1 y1]) (by simp [h1, h6]) (KF W g) ?_
      rintro x w' ⟨g', o'⟩
      obtain ⟨ra, rc, e, hc⟩ := own_fit o'
      subst e
      exact ⟨_, rfl, g', ra, rc, rfl, hc, o'.low g.size⟩
    · intro a W g hF hd
      obtain ⟨ra, rc, h7, hc, ow⟩ : ∃ ra rc, a.eval (.tmp 25) = .slice ra zs.length rc ∧ zs.length ≤ rc ∧ Own W w0.heap.size (a.eval (.tmp 25)) zs := hd ⟨7, .data⟩ (by simp) rfl
      rw [h7] at ow
      obtain ⟨ρ, hρ⟩ : ∃ ρ, a.eval = ρ := ⟨_, rfl⟩
      rw [hρ] at h7
      refine op_valW (W' := W.alloc (.cells #[.slice ra zs.length rc] 23)) ρ hρ (.slice (some ⟨W.heap.size, 0, none⟩) 1 1) ?_ ⟨_, rfl, (Old.refl W).alloc _, ra, rc, W.heap.size, rfl, hc, ow.alloc _, cell_at _ _ _ _ _ rfl, by simp⟩
      clear g hF hd hρ ha3 ha5 ha6 ha7 HK un KF HEM c0 c1 c2 cr cx ow hc
      go_simp
  · intro a W g hF hq
    have h0 : a.eval (.tmp 18) = .slice aa k cap := hq 0 (by decide)
    obtain ⟨ra, rc, gg, h8, hc, ow, hcell, hlt⟩ : ∃ ra rc gg, a.eval (.tmp 26) = .slice (some ⟨gg, 0, none⟩) 1 1 ∧ zs.length ≤ rc ∧ Own W w0.heap.size (.slice ra zs.length rc) zs ∧ W.cell? ⟨gg, 0, none⟩ = some (.slice ra zs.length rc) ∧ gg < W.heap.size := hq 8 (by decide)
    obtain ⟨vs, ov, hem⟩ := HEM W ra rc g ow hc
    refine op_append_at _ _ 48 rfl base 23 j0 (.slice none 0 0) 1 24 Tryz.underlying48 ji jz0 jz1 jz2 rfl (by decide) _ k vs h0 ov ⟨gg, 0, none⟩ 1 1 [.slice ra zs.length rc] h8 rfl ?_ (one_sl _ _ _) (by unfold maxLen; omega) (by omega) (Nat.le_trans hbase g.size) ?_
    · intro j u hj
      match j, hj with
      | 0, hj =>
        have : Value.slice ra zs.length rc = u := by simpa using hj
        subst this
        exact hcell
      | j + 1, hj => simp at hj
    · intro v' w' o5 g5 x5 l5
      exact ⟨v', rfl, hem v' w' o5 g5 l5⟩
  · intro a W v hv
    exact op_assign (by rw [show a.eval (.tmp 27) = v from hv]; exact ⟨rfl, rfl⟩)
  · intro a W hF hq
    have hp := fram_put hF (fun i j hi hj => slotRgB_inj i hi j hj)
    have hk := HK.out (fun i => a.eval (.tmp (slotRgB i))) W hq
    rw [← hp] at hk
    exact hk
end Go.Proofs.YtfgooclnohnkmaaGreatDoor
/- Proved: the rings of a space, as the model makes them (l5Rings); and a root for each prime that serves both. -/
namespace Go.Proofs.YtfgooclnohnkmaaGreatDoor
open Go.ChangeShapes Go.WideShapes Go.ChangeAt Go.RowKit
set_option linter.unusedVariables false
set_option linter.unusedSimpArgs false
theorem Rings_both (N : Int) (xs : List Int) : ∃ Rf : Nat → Int, ∀ k, RingOk (xs.getD k 0) N → ((0 ≤ Rf k ∧ Rf k < xs.getD k 0) ∧ (∀ W, PrsW W → TabW W → Calls Tryz.prog 163 #[.int .i64 (xs.getD k 0), .int .i64 N] W fun e w' => e = .returned (.tuple #[.agg #[.int .i64 (xs.getD k 0), .int .i64 N, .int .i64 (Rf k)], .bool true]) ∧ Old W w'))
    ∧ (∀ W, Calls Tryz.prog 185 #[.int .i64 (xs.getD k 0), .int .i64 N] W fun e w' => e = .returned (.tuple #[.agg #[.int .i64 (xs.getD k 0), .int .i64 N, .int .i64 (Rf k)], .bool true]) ∧ Old W w')
    ∧ ∃ P M R : Nat, xs.getD k 0 = P ∧ N = M ∧ Rf k = R ∧ R < P ∧ RingOk P M ∧ (F1.Pr P → Rt P (2 * M) R) := by
  have h : ∀ k, ∃ Rk : Int, RingOk (xs.getD k 0) N → ((0 ≤ Rk ∧ Rk < xs.getD k 0) ∧ (∀ W, PrsW W → TabW W → Calls Tryz.prog 163 #[.int .i64 (xs.getD k 0), .int .i64 N] W fun e w' => e = .returned (.tuple #[.agg #[.int .i64 (xs.getD k 0), .int .i64 N, .int .i64 Rk], .bool true]) ∧ Old W w'))
      ∧ (∀ W, Calls Tryz.prog 185 #[.int .i64 (xs.getD k 0), .int .i64 N] W fun e w' => e = .returned (.tuple #[.agg #[.int .i64 (xs.getD k 0), .int .i64 N, .int .i64 Rk], .bool true]) ∧ Old W w')
      ∧ ∃ P M R : Nat, xs.getD k 0 = P ∧ N = M ∧ Rk = R ∧ R < P ∧ RingOk P M ∧ (F1.Pr P → Rt P (2 * M) R) := fun k => by
    by_cases hk : RingOk (xs.getD k 0) N
    · have h1 := modB_yes hk.md
      have h2 := hk.sz
      obtain ⟨P, hP⟩ := Int.eq_ofNat_of_zero_le (show 0 ≤ xs.getD k 0 by omega)
      obtain ⟨M, hM⟩ := Int.eq_ofNat_of_zero_le (show 0 ≤ N by omega)
      rw [hP, hM] at hk ⊢
      obtain ⟨R, r1, r2, r3, r4⟩ := Ring_both P M hk
      exact ⟨R, fun _ => ⟨⟨by omega, r3⟩, r4, P, M, R, rfl, rfl, rfl, r1, hk, r2⟩⟩
    · exact ⟨0, fun h => absurd h hk⟩
  exact Classical.skolem.1 h
/-- the first k rings, as the model's slice holds them -/
def Rgm (W : World) (base : Nat) (v : Value) (N : Int) (xs : List Int) (Rf : Nat → Int) (k : Nat) : Prop :=
  ∃ ys : List Int, ys.length = 3 * k ∧ W.ownsRow base 151 3 v k (ys.map (Value.int .i64)) ∧ ∀ i, i < k → ys.getD (i * 3) 0 = xs.getD i 0 ∧ ys.getD (i * 3 + 1) 0 = N ∧ ys.getD (i * 3 + 2) 0 = Rf i
theorem Rgm.old {W W' : World} {base : Nat} {v : Value} {N : Int} {xs : List Int} {Rf : Nat → Int} {k : Nat} (h : Rgm W base v N xs Rf k) (q : Old W W') : Rgm W' base v N xs Rf k := by
  obtain ⟨ys, hl, ho, hy⟩ := h
  refine ⟨ys, hl, ⟨ho.1, ?_⟩, hy⟩
  rcases ho.2 with hn | ⟨p, cap, cur, e, hb, hgg, rest⟩
  · exact .inl hn
  · refine .inr ⟨p, cap, cur, e, hb, ?_, rest⟩
    rw [q.block p (Array.getElem?_eq_some_iff.1 hgg).1]
    exact hgg
theorem Rgm.slice {W : World} {base : Nat} {v : Value} {N : Int} {xs : List Int} {Rf : Nat → Int} {k : Nat} (h : Rgm W base v N xs Rf k) : ∃ a c, v = .slice a k c := by
  obtain ⟨ys, hl, ho, hy⟩ := h
  rcases ho.2 with ⟨h1, h2⟩ | ⟨g, cap, cur, h1, _⟩
  · exact ⟨none, 0, by rw [h1, h2]⟩
  · exact ⟨_, cap, h1⟩
theorem Rgm.at {W : World} {base k : Nat} {a : Option Addr} {c : Nat} {N : Int} {xs : List Int} {Rf : Nat → Int} (h : Rgm W base (.slice a k c) N xs Rf k) (i : Nat) (hi : i < k) : ∃ g, a = some ⟨g, 0, none⟩ ∧ base ≤ g ∧ g < W.heap.size ∧ W.cell? ⟨g, i * 3, none⟩ = some (.int .i64 (xs.getD i 0)) ∧ W.cell? ⟨g, i * 3 + 1, none⟩ = some (.int .i64 N) ∧ W.cell? ⟨g, i * 3 + 2, none⟩ = some (.int .i64 (Rf i)) := by
  obtain ⟨ys, hl, ho, hy⟩ := h
  obtain ⟨h0, h1, h2⟩ := hy i hi
  obtain ⟨g, hg⟩ : ∃ g, a = some ⟨g, 0, none⟩ := by
    rcases ho.2 with ⟨_, e⟩ | ⟨g, cap, cur, e, _⟩
    · omega
    · injection e with e1
      exact ⟨g, e1⟩
  subst hg
  have hlt := ho.lt g rfl
  refine ⟨g, rfl, hlt.1, hlt.2, ?_, ?_, ?_⟩
  · rw [World.ownsRow.cellAt ho (i * 3) (by omega), ← h0]
    simp [List.getD, hl, show i * 3 < 3 * k by omega]
  · rw [World.ownsRow.cellAt ho (i * 3 + 1) (by omega), ← h1]
    simp [List.getD, hl, show i * 3 + 1 < 3 * k by omega]
  · rw [World.ownsRow.cellAt ho (i * 3 + 2) (by omega), ← h2]
    simp [List.getD, hl, show i * 3 + 2 < 3 * k by omega]
theorem three_cells (w : World) (x y z : Value) (t : TypeId) : ∀ j u, [x, y, z][j]? = some u → (w.alloc (.cells #[x, y, z] t)).cell? ((⟨w.heap.size, 0, none⟩ : Addr).add j) = some u := by
  intro j u h
  match j, h with
  | 0, h =>
    have : x = u := by simpa using h
    subst this
    exact cell_at w _ _ _ _ rfl
  | 1, h =>
    have : y = u := by simpa using h
    subst this
    exact cell_at w _ _ _ _ rfl
  | 2, h =>
    have : z = u := by simpa using h
    subst this
    exact cell_at w _ _ _ _ rfl
  | j + 3, h => simp at h
theorem ownsAny_old {W W' : World} {base n k : Nat} {T : TypeId} {v : Value} {vs : List Value} (h : W.ownsRow base T n v k vs) (q : Old W W') : W'.ownsRow base T n v k vs := by
  refine ⟨h.1, ?_⟩
  rcases h.2 with hn | ⟨p, cap, cur, e, hb, hgg, rest⟩
  · exact .inl hn
  · refine .inr ⟨p, cap, cur, e, hb, ?_, rest⟩
    rw [q.block p (Array.getElem?_eq_some_iff.1 hgg).1]
    exact hgg
theorem getD_app3 (ys : List Int) (k i : Nat) (x y z : Int) (hl : ys.length = 3 * k) (j : Nat) (hj : j < 3) (hi : i < k) : (ys ++ [x, y, z]).getD (i * 3 + j) 0 = ys.getD (i * 3 + j) 0 := by
  simp [List.getD, List.getElem?_append_left (show i * 3 + j < ys.length by omega)]
theorem getD_end3 (ys : List Int) (k : Nat) (x y z : Int) (hl : ys.length = 3 * k) : (ys ++ [x, y, z]).getD (k * 3) 0 = x ∧ (ys ++ [x, y, z]).getD (k * 3 + 1) 0 = y ∧ (ys ++ [x, y, z]).getD (k * 3 + 2) 0 = z := by
  refine ⟨?_, ?_, ?_⟩
  · rw [List.getD_eq_getElem?_getD, List.getElem?_append_right (by omega), show k * 3 - ys.length = 0 by omega]; rfl
  · rw [List.getD_eq_getElem?_getD, List.getElem?_append_right (by omega), show k * 3 + 1 - ys.length = 1 by omega]; rfl
  · rw [List.getD_eq_getElem?_getD, List.getElem?_append_right (by omega), show k * 3 + 2 - ys.length = 2 by omega]; rfl
set_option maxRecDepth 100000 in
set_option maxHeartbeats 4000000 in
theorem spec_l5Rings (N : Int) (ps : List Int) (Rf : Nat → Int) (v : Value) (w : World) (hv : Row w v ps) (hps : 1 ≤ ps.length ∧ ps.length ≤ 6)
    (hR : ∀ k, k < ps.length → ∀ W, Calls Tryz.prog 185 #[.int .i64 (ps.getD k 0), .int .i64 N] W fun e w' => e = .returned (.tuple #[.agg #[.int .i64 (ps.getD k 0), .int .i64 N, .int .i64 (Rf k)], .bool true]) ∧ Old W w') :
    Calls Tryz.prog 154 #[.agg #[.int .i64 N, v]] w fun e w' => ∃ a c, e = .returned (.slice a ps.length c) ∧ Old w w' ∧ Rgm w' w.heap.size (.slice a ps.length c) N ps Rf ps.length := by
  obtain ⟨i0, hi, hz0, hz1, hz2⟩ := info_parts Tryz.infoRing
  have HR : Hid (∀ k, k < ps.length → ∀ W, Calls Tryz.prog 185 #[.int .i64 (ps.getD k 0), .int .i64 N] W fun e w' => e = .returned (.tuple #[.agg #[.int .i64 (ps.getD k 0), .int .i64 N, .int .i64 (Rf k)], .bool true]) ∧ Old W w') := hR
  rcases hv with ⟨a, cap, e, e'⟩ | ⟨b, o, cap, rfl, hb, h0, hc⟩
  · subst e'
    simp at hps
  have HC : Hid (∀ j, j < ps.length → w.cell? ⟨b, o + j, none⟩ = some (.int .i64 (ps.getD j 0))) := hc
  obtain ⟨wB, hwB⟩ : ∃ wB, wB = w.alloc (.cells #[.int .i64 N, .slice (some ⟨b, o, none⟩) ps.length cap] 56) := ⟨_, rfl⟩
  have HWB : Hid (Old w wB) := by rw [hwB]; exact (Old.refl w).alloc _
  have hq0 : wB.cell? ⟨w.heap.size, 0, none⟩ = some (.int .i64 N) := by rw [hwB]; exact cell_at _ _ _ _ _ rfl
  have hq1 : wB.cell? ⟨w.heap.size, 1, none⟩ = some (.slice (some ⟨b, o, none⟩) ps.length cap) := by rw [hwB]; exact cell_at _ _ _ _ _ rfl
  have hqs : w.heap.size < wB.heap.size := by rw [hwB]; simp
  clear hR hc h0
  go_enter Tryz.func154, Tryz.ntmps154
  go_wp2_with fail
  rw [← hwB]
  clear hwB
  go_loopw [3, 11] (fun x i W => ∃ (k : Nat) (a : Option Addr) (c : Nat), k ≤ ps.length ∧ i = .int .i64 k ∧ x = .slice a k c ∧ Hid (Rgm W wB.heap.size (.slice a k c) N ps Rf k) ∧ Hid (Old wB W)) (fun _ i _ => ps.length - (intOf i).toNat)
  case atStart => exact ⟨0, none, 0, by omega, rfl, rfl, ⟨[], rfl, ⟨rfl, .inl ⟨rfl, rfl⟩⟩, fun i hi => by omega⟩, Old.refl _⟩
  case round =>
    obtain ⟨k, a, c, hk, rfl, rfl, HM, HG⟩ := hrel
    by_cases hlt : k < ps.length
    · have d1 : decide ((k : Int) < (ps.length : Int)) = true := by simp; omega
      have c1 : wr.cell? ⟨b, o + k, none⟩ = some (.int .i64 (ps.getD k 0)) := ((Old.trans HWB.out HG.out).cell (p := ⟨b, o + k, none⟩) hb).trans (HC.out k hlt)
      have q0 : wr.cell? ⟨w.heap.size, 0, none⟩ = some (.int .i64 N) := (HG.out.cell (p := ⟨w.heap.size, 0, none⟩) hqs).trans hq0
      have cr := HR.out k hlt
      obtain ⟨ys, hyl, hyo, hya⟩ := HM.out
      have HYO : Hid (wr.ownsRow wB.heap.size 151 3 (.slice a k c) k (ys.map (Value.int .i64))) := hyo
      have HYA : Hid (ys.length = 3 * k ∧ ∀ i, i < k → ys.getD (i * 3) 0 = ps.getD i 0 ∧ ys.getD (i * 3 + 1) 0 = N ∧ ys.getD (i * 3 + 2) 0 = Rf i) := ⟨hyl, hya⟩
      obtain ⟨p, hp⟩ : ∃ p, ps.getD k 0 = p := ⟨_, rfl⟩
      obtain ⟨r, hr⟩ : ∃ r, Rf k = r := ⟨_, rfl⟩
      rw [hp] at c1 cr
      rw [hr] at cr
      have HPR : Hid (ps.getD k 0 = p ∧ Rf k = r) := ⟨hp, hr⟩
      clear hyl hyo hya hp hr HM
      go_wp2_with fail
      refine (cr _).mono ?_
      rintro e w2 ⟨rfl, g2⟩
      have HG2 : Hid (Old wB w2) := Old.trans HG.out g2
      have HYO2 : Hid (w2.ownsRow wB.heap.size 151 3 (.slice a k c) k (ys.map (Value.int .i64))) := ownsAny_old HYO.out g2
      have hsz2 := HG2.out.size
      clear g2 cr c1 q0 HYO
      obtain ⟨w4, hw4⟩ : ∃ w4, w4 = (w2.alloc (.cells #[.int .i64 p, .int .i64 N, .int .i64 r] 151)).alloc (.cells #[.int .i64 p, .int .i64 N, .int .i64 r] 151) := ⟨_, rfl⟩
      have hnews : ∀ j u, [Value.int .i64 p, .int .i64 N, .int .i64 r][j]? = some u → w4.cell? ((⟨w2.heap.size + 1, 0, none⟩ : Addr).add j) = some u := fun j u hj => by
        have h := three_cells (w2.alloc (.cells #[.int .i64 p, .int .i64 N, .int .i64 r] 151)) (.int .i64 p) (.int .i64 N) (.int .i64 r) 151 j u hj
        rw [← hw4] at h
        have e1 : (w2.alloc (.cells #[.int .i64 p, .int .i64 N, .int .i64 r] 151)).heap.size = w2.heap.size + 1 := by simp
        rw [e1] at h
        exact h
      have HNW : Hid (∀ j u, [Value.int .i64 p, .int .i64 N, .int .i64 r][j]? = some u → w4.cell? ((⟨w2.heap.size + 1, 0, none⟩ : Addr).add j) = some u) := hnews
      have HO4 : Hid (w4.ownsRow wB.heap.size 151 3 (.slice a k c) k (ys.map (Value.int .i64))) := by rw [hw4]; exact ownsAny_old HYO2.out (((Old.refl w2).alloc _).alloc _)
      have HG4 : Hid (Old wB w4) := by rw [hw4]; exact (HG2.out.alloc _).alloc _
      clear hnews
      go_wp2_with (at_builtin; rw [← hw4]; refine wpList_append_own _ rfl _ _ 143 rfl wB.heap.size 151 i0 (.agg #[.int .i64 0, .int .i64 0, .int .i64 0]) 3 24 Tryz.underlying143 hi hz0 hz1 hz2 rfl (by decide) _ _ _ rfl HO4.out ⟨w2.heap.size + 1, 0, none⟩ 1 1 [.int .i64 p, .int .i64 N, .int .i64 r] rfl rfl HNW.out (by simp [Value.oneCell']) (by unfold maxLen; omega) (by omega) HG4.out.size ?_; intro v5 w5 o5 g5 x5; have HO5 : Hid (w5.ownsRow wB.heap.size 151 3 v5 (k + 1) ((ys ++ [p, N, r]).map (Value.int .i64))) := (by show World.ownsRow _ _ _ _ _ _ _; rw [List.map_append]; exact o5); have HG5 : Hid (Old wB w5) := Below.grown HG4.out g5 HG4.out.size (fun j hj => (HO4.out.lt j hj).1); clear o5 g5 x5)
      have HM5 : Hid (Rgm w5 wB.heap.size v5 N ps Rf (k + 1)) := by
        obtain ⟨hyl, hya⟩ := HYA.out
        refine ⟨ys ++ [p, N, r], by rw [List.length_append, hyl]; rfl, HO5.out, fun i hi => ?_⟩
        rcases Nat.lt_or_ge i k with h1 | h1
        · obtain ⟨q0, q1, q2⟩ := hya i h1
          exact ⟨(getD_app3 ys k i p N r hyl 0 (by omega) h1).trans q0, (getD_app3 ys k i p N r hyl 1 (by omega) h1).trans q1, (getD_app3 ys k i p N r hyl 2 (by omega) h1).trans q2⟩
        · obtain rfl : i = k := by omega
          rw [HPR.out.1, HPR.out.2]
          exact getD_end3 ys i p N r hyl
      obtain ⟨a5, c5, e5⟩ := HM5.out.slice
      subst e5
      exact ⟨⟨k + 1, _, _, by omega, by go_num, rfl, HM5, HG5⟩, by simp [intOf]; omega⟩
    · have d1 : decide ((k : Int) < (ps.length : Int)) = false := by simp; omega
      obtain rfl : k = ps.length := by omega
      go_wp2_with fail
      go_ret
      obtain ⟨ys, hyl, hyo, hya⟩ := HM.out
      refine ⟨a, c, rfl, Old.trans HWB.out HG.out, ys, hyl, ?_, hya⟩
      refine ⟨hyo.1, ?_⟩
      rcases hyo.2 with hn | ⟨p, cap, cur, e, hb, hgg, rest⟩
      · exact .inl hn
      · exact .inr ⟨p, cap, cur, e, Nat.le_trans HWB.out.size hb, hgg, rest⟩
end Go.Proofs.YtfgooclnohnkmaaGreatDoor
