/- Proved: several texts in one: what each proves is said ahead of it. -/
import Derived.Test.YtfcdfielbpdloaaGreatDoorRows
import Derived.WalkKit
import Derived.ProofKit
import Derived.OpenShut
import Derived.Handy
import Derived.ShutString
import Derived.ChangeOld
import Derived.Below
import Derived.Carry
import Derived.OwnWalk
import Derived.OneCell
import Derived.Deep.QuietTactic
import Derived.BigQuiet
import Derived.Test.YtfcdfielbpdloaaGreatDoorC202
/- Proved: rows of whole numbers in memory: how a slice that is read, one that is owned and one that is written lie; no function of the program. -/
namespace Go.Proofs.YtfcdfielbpdloaaGreatDoor
open Go.ChangeShapes Go.WideShapes Go.ChangeAt Go.RowKit
set_option linter.unusedVariables false
set_option linter.unusedSimpArgs false
def Row (w : World) (v : Value) (xs : List Int) : Prop :=
  (∃ a cap, v = .slice a 0 cap ∧ xs = []) ∨ ∃ b o cap, v = .slice (some ⟨b, o, none⟩) xs.length cap ∧ b < w.heap.size ∧ 0 < xs.length ∧ ∀ j, j < xs.length → w.cell? ⟨b, o + j, none⟩ = some (.int .i64 (xs.getD j 0))
abbrev Old (w w' : World) : Prop := Below w.heap.size w w'
theorem Old.refl (w : World) : Old w w := Below.refl _ _
theorem Old.trans {a b c : World} (h : Old a b) (k : Old b c) : Old a c := Below.trans h (k.mono h.size)
theorem Old.drewN {a b : World} (h : Old a b) (n : Nat) : Old a (b.drewN n) := ⟨h.os, h.tape, h.output, h.size, h.block⟩
theorem Old.alloc {a b : World} (h : Old a b) (o : Obj) : Old a (b.alloc o) := Below.alloc h h.size o
theorem Old.own {a b : World} (h : Old a b) {p : Addr} (hp : a.heap.size ≤ p.block) (v : Value) : Old a (b.setCell p v) := Below.setCell h hp v
theorem Row.old {w w' : World} {v : Value} {xs : List Int} (h : Row w v xs) (g : Old w w') : Row w' v xs := by
  rcases h with h1 | ⟨b, o, cap, e, hb, h0, hc⟩
  · exact Or.inl h1
  · exact Or.inr ⟨b, o, cap, e, Nat.lt_of_lt_of_le hb g.size, h0, fun j hj => by rw [g.cell (p := ⟨b, o + j, none⟩) hb]; exact hc j hj⟩
theorem Row.slice {w : World} {v : Value} {xs : List Int} (h : Row w v xs) : ∃ a cap, v = .slice a xs.length cap := by
  rcases h with ⟨a, cap, e, e2⟩ | ⟨b, o, cap, e, _⟩
  · exact ⟨a, cap, by rw [e, e2]; rfl⟩
  · exact ⟨_, cap, e⟩
abbrev Own (w : World) (base : Nat) (v : Value) (xs : List Int) : Prop := w.ownsRow base 3 1 v xs.length (xs.map (Value.int .i64))
theorem Own.row {w : World} {base : Nat} {v : Value} {xs : List Int} (h : Own w base v xs) : Row w v xs := by
  rcases h.2 with ⟨e, h0⟩ | ⟨g, cap, cur, e, hb, hg, h1, h2, h3, h4⟩
  · exact Or.inl ⟨none, 0, e, List.length_eq_zero_iff.1 h0⟩
  · subst e
    by_cases h0 : xs.length = 0
    · exact Or.inl ⟨_, cap, by rw [h0], List.length_eq_zero_iff.1 h0⟩
    · refine Or.inr ⟨g, 0, cap, rfl, (Array.getElem?_eq_some_iff.1 hg).1, by omega, fun j hj => ?_⟩
      have := World.ownsRow.cellAt h j (by omega)
      rw [Nat.zero_add, this]
      simp [List.getD, hj]
theorem Own.old {w w' : World} {base : Nat} {v : Value} {xs : List Int} (h : Own w base v xs) (g : Old w w') : Own w' base v xs := by
  refine ⟨h.1, ?_⟩
  rcases h.2 with hn | ⟨p, cap, cur, rfl, hb, hgg, rest⟩
  · exact .inl hn
  · refine .inr ⟨p, cap, cur, rfl, hb, ?_, rest⟩
    rw [g.block p (Array.getElem?_eq_some_iff.1 hgg).1]
    exact hgg
theorem Own.low {w : World} {base base' : Nat} {v : Value} {xs : List Int} (h : Own w base v xs) (hb : base' ≤ base) : Own w base' v xs := by
  refine ⟨h.1, ?_⟩
  rcases h.2 with hn | ⟨p, cap, cur, rfl, hb1, rest⟩
  · exact .inl hn
  · exact .inr ⟨p, cap, cur, rfl, Nat.le_trans hb hb1, rest⟩
theorem Own.take {w : World} {base : Nat} {a : Option Addr} {cap : Nat} {xs : List Int} (h : Own w base (.slice a xs.length cap) xs) (k : Nat) (hk : k ≤ xs.length) : Own w base (.slice a k cap) (xs.take k) := by
  have e : (xs.take k).length = k := by rw [List.length_take, Nat.min_eq_left hk]
  unfold Own
  rw [e]
  refine ⟨by simp [Nat.min_eq_left hk], ?_⟩
  rcases h.2 with ⟨h1, h2⟩ | ⟨g, cap', cur, h1, hb, hg, h2, h3, h4, h5⟩
  · simp only [Value.slice.injEq] at h1
    obtain ⟨rfl, _, rfl⟩ := h1
    exact .inl ⟨by rw [show k = 0 by omega], by omega⟩
  · simp only [Value.slice.injEq] at h1
    obtain ⟨rfl, _, rfl⟩ := h1
    refine .inr ⟨g, cap, cur, rfl, hb, hg, by omega, h3, h4, ?_⟩
    rw [Nat.mul_one] at h5 ⊢
    rw [List.map_take, ← h5, List.take_take, Nat.min_eq_left hk]
theorem grownBy_old {a b : World} (h : a.grownBy b none) : Old a b := Below.grown (Below.refl _ _) h (Nat.le_refl _) (fun _ h => by cases h)
theorem cell_at (w : World) (xs : Array Value) (t : TypeId) (b j : Nat) (hb : b = w.heap.size) : (w.alloc (.cells xs t)).cell? ⟨b, j, none⟩ = xs[j]? := by
  subst hb
  exact cell_of_row _ _ _ _ _ (0, 0) (heap_alloc_new w _)
theorem cell_lt (w : World) (o : Obj) (b j : Nat) (hb : b < w.heap.size) : (w.alloc o).cell? ⟨b, j, none⟩ = w.cell? ⟨b, j, none⟩ := World.cell?_of_block (heap_alloc_old w o hb)
theorem fro_at (w : World) (xs : Array Value) (t : TypeId) (b j : Nat) (hb : b = w.heap.size) : (w.alloc (.cells xs t)).frozen? ⟨b, j, none⟩ = false := by
  subst hb
  exact frozen_of_row _ _ _ _ _ (heap_alloc_new w _)
theorem fro_lt (w : World) (o : Obj) (b j : Nat) (hb : b < w.heap.size) : (w.alloc o).frozen? ⟨b, j, none⟩ = w.frozen? ⟨b, j, none⟩ := World.frozen?_of_block (heap_alloc_old w o hb)
theorem c3_0 (w : World) (A B C : Array Value) (t u v : TypeId) (j : Nat) : (((w.alloc (.cells A t)).alloc (.cells B u)).alloc (.cells C v)).cell? ⟨w.heap.size, j, none⟩ = A[j]? := by
  rw [cell_lt _ _ _ _ (by simp; omega), cell_lt _ _ _ _ (by simp), cell_at _ _ _ _ _ rfl]
theorem c3_1 (w : World) (A B C : Array Value) (t u v : TypeId) (j : Nat) : (((w.alloc (.cells A t)).alloc (.cells B u)).alloc (.cells C v)).cell? ⟨w.heap.size + 1, j, none⟩ = B[j]? := by
  rw [cell_lt _ _ _ _ (by simp), cell_at _ _ _ _ _ (by simp)]
theorem f3_1 (w : World) (A B C : Array Value) (t u v : TypeId) (j : Nat) : (((w.alloc (.cells A t)).alloc (.cells B u)).alloc (.cells C v)).frozen? ⟨w.heap.size + 1, j, none⟩ = false := by
  rw [fro_lt _ _ _ _ (by simp), fro_at _ _ _ _ _ (by simp)]
end Go.Proofs.YtfcdfielbpdloaaGreatDoor
/- Proved: contracts of the statements' own helpers over slices of ints: sizes, copies, comparisons, marks. -/
namespace Go.Proofs.YtfcdfielbpdloaaGreatDoor
open Go.ChangeShapes Go.WideShapes Go.ChangeAt Go.RowKit
set_option linter.unusedVariables false
set_option linter.unusedSimpArgs false
theorem Tryz.infoInt : (Tryz.prog.info? 3).map (fun i => (i.zero, i.size, i.bytes)) = some (some (.int .i64 0), 1, 8) := by kernel_rfl
def fillN (xs : List Int) (k : Nat) : List Int := xs.take k ++ List.replicate (xs.length - k) 0
theorem fillN_len (xs : List Int) (k : Nat) (h : k ≤ xs.length) : (fillN xs k).length = xs.length := by simp [fillN]; omega
theorem fillN_zero (xs : List Int) : fillN xs 0 = List.replicate xs.length 0 := by simp [fillN]
theorem fillN_all (xs : List Int) : fillN xs xs.length = xs := by simp [fillN]
theorem take_succI (xs : List Int) (k : Nat) (h : k < xs.length) : xs.take (k + 1) = xs.take k ++ [xs.getD k 0] := by
  rw [List.take_add_one]
  congr 1
  simp [List.getD, h]
theorem fillN_set (xs : List Int) (k : Nat) (h : k < xs.length) : (fillN xs k).set k (xs.getD k 0) = fillN xs (k + 1) := by
  unfold fillN
  have e : xs.length - k = (xs.length - (k + 1)) + 1 := by omega
  rw [e, List.replicate_succ, List.set_append_right _ _ (by simp [Nat.min_eq_left (Nat.le_of_lt h)]), List.length_take, Nat.min_eq_left (Nat.le_of_lt h), Nat.sub_self, List.set_cons_zero, take_succI xs k h, List.append_assoc]
  rfl
theorem made_ints (n : Nat) : (madeCells (Value.int .i64 0).cells (n * 1)).toList = (List.replicate n (0 : Int)).map (Value.int .i64) := by
  rw [Nat.mul_one]
  have := toList_madeCells_one (.int .i64 0) n
  rw [List.map_replicate]
  exact this
end Go.Proofs.YtfcdfielbpdloaaGreatDoor
/- Proved: what lies between two block numbers stays as it is where only others are written; no function of the program. -/
namespace Go.Proofs.YtfcdfielbpdloaaGreatDoor
open Go.ChangeShapes Go.WideShapes Go.ChangeAt Go.RowKit
set_option linter.unusedVariables false
set_option linter.unusedSimpArgs false
structure Chg (w w' : World) (lo hi : Nat) : Prop where
  os : w'.os = w.os
  tape : w'.tape = w.tape
  output : w'.output = w.output
  size : w.heap.size ≤ w'.heap.size
  block : ∀ b, b < w.heap.size → (b < lo ∨ hi ≤ b) → w'.heap[b]? = w.heap[b]?
theorem Old.toChg {w w' : World} (h : Old w w') (lo hi : Nat) : Chg w w' lo hi := ⟨h.os, h.tape, h.output, h.size, fun b hb _ => h.block b hb⟩
theorem Chg.trans {a b c : World} {lo hi : Nat} (h : Chg a b lo hi) (k : Chg b c lo hi) : Chg a c lo hi :=
  ⟨k.os.trans h.os, k.tape.trans h.tape, k.output.trans h.output, Nat.le_trans h.size k.size, fun i hi ho => (k.block i (Nat.lt_of_lt_of_le hi h.size) ho).trans (h.block i hi ho)⟩
theorem Old.chg {a w w' : World} {lo hi : Nat} (h : Old a w) (c : Chg w w' lo hi) (hlo : a.heap.size ≤ lo) : Old a w' :=
  ⟨c.os.trans h.os, c.tape.trans h.tape, c.output.trans h.output, Nat.le_trans h.size c.size, fun b hb => (c.block b (Nat.lt_of_lt_of_le hb h.size) (Or.inl (Nat.lt_of_lt_of_le hb hlo))).trans (h.block b hb)⟩
end Go.Proofs.YtfcdfielbpdloaaGreatDoor
/- Proved: contracts of the model's functions on limbs: noughts struck, comparing, adding, taking away. -/
namespace Go.Proofs.YtfcdfielbpdloaaGreatDoor
open Go.ChangeShapes Go.WideShapes Go.ChangeAt Go.RowKit
open M2
set_option linter.unusedVariables false
set_option linter.unusedSimpArgs false
def toI (xs : List Nat) : List Int := xs.map (fun (n : Nat) => (n : Int))
theorem toI_len (xs : List Nat) : (toI xs).length = xs.length := by simp [toI]
theorem toI_get (xs : List Nat) (j : Nat) : (toI xs).getD j 0 = ((xs.getD j 0 : Nat) : Int) := by
  simp only [toI, List.getD, List.getElem?_map]
  cases xs[j]? <;> rfl
theorem toI_take (xs : List Nat) (k : Nat) : (toI xs).take k = toI (xs.take k) := by simp [toI]
theorem toI_append (xs ys : List Nat) : toI (xs ++ ys) = toI xs ++ toI ys := by simp [toI]
theorem Row.at {w : World} {a : Option Addr} {n cap : Nat} {xs : List Nat} (h : Row w (.slice a n cap) (toI xs)) (h0 : 0 < xs.length) :
    ∃ b o, a = some ⟨b, o, none⟩ ∧ b < w.heap.size ∧ ∀ j, j < xs.length → w.cell? ⟨b, o + j, none⟩ = some (.int .i64 ((xs.getD j 0 : Nat) : Int)) := by
  rcases h with ⟨a', cap', e, e2⟩ | ⟨b, o, cap', e, hb, _, hc⟩
  · have := congrArg List.length e2
    rw [toI_len, List.length_nil] at this
    omega
  · simp only [Value.slice.injEq] at e
    obtain ⟨rfl, _, _⟩ := e
    rw [toI_len] at hc
    exact ⟨b, o, rfl, hb, fun j hj => by rw [hc j hj, toI_get]⟩
theorem Row.sliceN {w : World} {v : Value} {xs : List Nat} (h : Row w v (toI xs)) : ∃ a cap, v = .slice a xs.length cap := by
  obtain ⟨a, cap, e⟩ := h.slice
  rw [toI_len] at e
  exact ⟨a, cap, e⟩
theorem nrm_take {xs : List Nat} (h : Lim xs) (k : Nat) (hk : k ≤ xs.length) (h0 : 0 < k → xs.getD (k - 1) 0 ≠ 0) : Nrm (xs.take k) := by
  refine ⟨h.take k, fun hne => ?_⟩
  have hk0 : 0 < k := by
    rcases Nat.eq_zero_or_pos k with e | e
    · subst e; simp at hne
    · exact e
  have := h0 hk0
  rw [List.getLast_eq_getElem]
  simp only [List.length_take, Nat.min_eq_left hk, List.getElem_take]
  simpa [List.getD, show k - 1 < xs.length by omega] using this
theorem beq0 (x : Nat) (h : x ≠ 0) : ((x : Int) == 0) = false := by simp; omega
theorem dlt_yes {a b : Int} (h : a < b) : decide (a < b) = true := by simp; omega
theorem dlt_no {a b : Int} (h : ¬ a < b) : decide (a < b) = false := by simp; omega
def sliceLen : Value → Nat
  | .slice _ k _ => k
  | _ => 0
set_option maxHeartbeats 1000000 in
theorem trim_any (xs : List Nat) (v : Value) (base : Nat) (w : World) (h : Own w base v (toI xs)) (hl : Lim xs) (hn : xs.length ≤ 1073741824) :
    Calls Tryz.prog 92 #[v] w fun e w' => ∃ v', e = .returned v' ∧ Old w w' ∧ Own w' base v' (toI (trim xs)) := by
  by_cases h0 : xs.length = 0
  · obtain rfl := List.length_eq_zero_iff.1 h0
    have HF : Hid (Own w base v (toI (trim []))) := by
      have : trim [] = [] := dig_zero
      rw [this]; exact h
    obtain ⟨a0, cap0, rfl⟩ := (Own.row h).slice
    rw [toI_len] at *
    clear h
    go_enter Tryz.func92, Tryz.ntmps92
    go_wp2_with fail
    refine wp_loop_rounds 1 ?_
    rw [rounds_succ]
    go_wp2_with fail
    go_ret
    exact ⟨_, rfl, Old.refl _, HF.out⟩
  · obtain ⟨g, cap, e⟩ : ∃ g cap, v = .slice (some ⟨g, 0, none⟩) xs.length cap := by
      rcases h.2 with ⟨_, h1⟩ | ⟨g, cap, cur, e, _⟩
      · rw [toI_len] at h1; exact absurd h1 h0
      · rw [toI_len] at e; exact ⟨g, cap, e⟩
    subst e
    have hcap : xs.length ≤ cap ∧ cap ≤ 9223372036854775807 := by
      rcases h.2 with ⟨h1, _⟩ | ⟨g', cap', cur, e, _, _, h1, h2, _⟩
      · simp at h1
      · simp only [Value.slice.injEq] at e
        obtain ⟨_, _, rfl⟩ := e
        rw [toI_len] at h1
        exact ⟨h1, h2⟩
    obtain ⟨hcap1, hcap2⟩ := hcap
    have HO : Hid (Own w base (.slice (some ⟨g, 0, none⟩) xs.length cap) (toI xs)) := h
    obtain ⟨b, o, e1, hb, hc⟩ := Row.at (Own.row h) (by omega)
    obtain ⟨rfl, rfl⟩ : b = g ∧ o = 0 := by cases e1; exact ⟨rfl, rfl⟩
    simp only [Nat.zero_add] at hc
    have HC : Hid (∀ j, j < xs.length → w.cell? ⟨b, j, none⟩ = some (.int .i64 ((xs.getD j 0 : Nat) : Int))) := hc
    clear h hc e1
    go_enter Tryz.func92, Tryz.ntmps92
    go_wp2_with fail
    go_loopw [0] (fun u W => ∃ k : Nat, k ≤ xs.length ∧ u = .slice (some ⟨b, 0, none⟩) k cap ∧ Hid (val (xs.take k) = val xs) ∧ Hid (Old w W)) (fun u _ => sliceLen u)
    case atStart => exact ⟨xs.length, Nat.le_refl _, rfl, by rw [List.take_length]; rfl, Old.refl _⟩
    case round =>
      obtain ⟨k, hk, rfl, HV, HG⟩ := hrel
      rcases Nat.eq_zero_or_pos k with hk0 | hk0
      · subst hk0
        have HF : Hid (Own wr base (.slice (some ⟨b, 0, none⟩) 0 cap) (toI (trim xs))) := by
          have e : trim xs = xs.take 0 := by
            unfold trim
            rw [← HV.out]
            exact dig_val (nrm_take hl 0 (by omega) (fun h => absurd h (by omega)))
          rw [e, ← toI_take]
          exact Own.take (by rw [toI_len]; exact HO.out.old HG.out) 0 (by omega)
        clear HO
        go_wp2_with fail
        go_ret
        exact ⟨_, rfl, HG.out, HF.out⟩
      · obtain ⟨m, rfl⟩ : ∃ m, k = m + 1 := ⟨k - 1, by omega⟩
        have c1 : wr.cell? ⟨b, m, none⟩ = some (.int .i64 ((xs.getD m 0 : Nat) : Int)) := (HG.out.cell (p := ⟨b, m, none⟩) hb).trans (HC.out m (by omega))
        have d0 : decide ((0 : Int) < ((m + 1 : Nat) : Int)) = true := by simp <;> omega
        by_cases hx : xs.getD m 0 = 0
        · have HV2 : Hid (val (xs.take m) = val xs) := by
            have := HV.out
            rw [val_take_succ, hx, Nat.mul_zero, Nat.add_zero] at this
            exact this
          rw [hx] at c1
          clear HV hx
          go_wp2_with fail
          exact ⟨⟨m, by omega, rfl, HV2, HG⟩, by simp [sliceLen]⟩
        · have HF : Hid (Own wr base (.slice (some ⟨b, 0, none⟩) (m + 1) cap) (toI (trim xs))) := by
            have e : trim xs = xs.take (m + 1) := by
              unfold trim
              rw [← HV.out]
              exact dig_val (nrm_take hl (m + 1) hk (fun _ => hx))
            rw [e, ← toI_take]
            exact Own.take (by rw [toI_len]; exact HO.out.old HG.out) (m + 1) (by rw [toI_len]; exact hk)
          have d1 := beq0 _ hx
          generalize xs.getD m 0 = x at *
          clear HO
          go_wp2_with fail
          go_ret
          exact ⟨_, rfl, HG.out, HF.out⟩
set_option maxHeartbeats 1000000 in
theorem cmp_any (xs ys : List Nat) (v u : Value) (w : World) (hv : Row w v (toI xs)) (hu : Row w u (toI ys)) (ha : Nrm xs) (hb : Nrm ys) (la : xs.length ≤ 1073741824) (lb : ys.length ≤ 1073741824) :
    Calls Tryz.prog 86 #[v, u] w fun e w' => e = .returned (.int .i64 (cmpN (val xs) (val ys))) ∧ Old w w' := by
  have HV : Hid (Row w v (toI xs)) := hv
  have HU : Hid (Row w u (toI ys)) := hu
  obtain ⟨a0, cap0, rfl⟩ := hv.sliceN
  obtain ⟨a1, cap1, rfl⟩ := hu.sliceN
  clear hv hu
  by_cases hlen : xs.length = ys.length
  · have d1 : ((xs.length : Int) != (ys.length : Int)) = false := by simp; omega
    have HL : Hid (xs.length = ys.length) := hlen
    clear hlen
    go_enter Tryz.func86, Tryz.ntmps86
    go_wp2_with fail
    go_loopw [5] (fun i W => ∃ k : Nat, k ≤ xs.length ∧ i = .int .i64 ((k : Int) - 1) ∧ Hid (xs.drop k = ys.drop k) ∧ Hid (Old w W)) (fun i _ => (intOf i + 1).toNat)
    case atStart => exact ⟨xs.length, Nat.le_refl _, rfl, (by show xs.drop xs.length = ys.drop xs.length; rw [List.drop_length, HL.out, List.drop_length]), Old.refl _⟩
    case round =>
      obtain ⟨k, hk, rfl, HD, HG⟩ := hrel
      rcases Nat.eq_zero_or_pos k with hk0 | hk0
      · subst hk0
        have e : cmpN (val xs) (val ys) = 0 := by
          have : xs = ys := by simpa using HD.out
          rw [this]
          unfold cmpN
          rw [if_neg (by omega), if_neg (by omega)]
        have HE : Hid (cmpN (val xs) (val ys) = 0) := e
        clear e
        go_wp2_with fail
        go_ret
        exact ⟨congrArg (fun z => Ending.returned (.int .i64 z)) HE.out.symm, HG.out⟩
      · obtain ⟨m, rfl⟩ : ∃ m, k = m + 1 := ⟨k - 1, by omega⟩
        obtain ⟨b, o, rfl, hb1, hc1⟩ := Row.at (HV.out.old HG.out) (by omega)
        obtain ⟨b', o', rfl, hb2, hc2⟩ := Row.at (HU.out.old HG.out) (by have := HL.out; omega)
        have c1 := hc1 m (by omega)
        have c2 := hc2 m (by have := HL.out; omega)
        clear hc1 hc2
        have d0 : decide ((0 : Int) ≤ (m : Int)) = true := by simp
        have hm : m < ys.length := by have := HL.out; omega
        have em : ((m + 1 : Nat) : Int) - 1 = (m : Int) := by omega
        have LTa := cmp_at (i := m) ha.1 (by omega) HL.out HD.out
        have LTb := cmp_at (i := m) hb.1 hm HL.out.symm HD.out.symm
        have EQ := drop_step (i := m) (by omega) HL.out HD.out
        have HA : Hid (xs.getD m 0 < ys.getD m 0 → val xs < val ys) := LTa
        have HB : Hid (ys.getD m 0 < xs.getD m 0 → val ys < val xs) := LTb
        have HE : Hid (xs.getD m 0 = ys.getD m 0 → xs.drop m = ys.drop m) := EQ
        clear LTa LTb EQ HD
        generalize xs.getD m 0 = x at *
        generalize ys.getD m 0 = y at *
        rw [em]
        clear em
        rcases Nat.lt_trichotomy x y with hxy | hxy | hxy
        · have d1 : decide (x < y) = true := by simp; omega
          have HE2 : Hid (cmpN (val xs) (val ys) = -1) := by have := HA.out hxy; unfold cmpN; rw [if_pos this]; rfl
          clear hxy
          go_wp2_with fail
          go_quiet (fail)
          go_wp2_with fail
          go_ret
          exact ⟨congrArg (fun z => Ending.returned (.int .i64 z)) HE2.out.symm, HG.out.drewN _⟩
        · subst hxy
          have HE3 : Hid (xs.drop m = ys.drop m) := HE.out rfl
          clear HE HA HB
          go_wp2_with fail
          go_quiet (fail)
          go_wp2_with fail
          go_quiet (fail)
          go_wp2_with fail
          exact ⟨⟨m, by omega, rfl, HE3, HG.out.drewN _⟩, by simp [intOf]⟩
        · have d1 : decide (x < y) = false := by simp; omega
          have d2 : decide (y < x) = true := by simp; omega
          have HE2 : Hid (cmpN (val xs) (val ys) = 1) := by have := HB.out hxy; unfold cmpN; rw [if_neg (by omega), if_pos this]; rfl
          clear hxy
          go_wp2_with fail
          go_quiet (fail)
          go_wp2_with fail
          go_quiet (fail)
          go_wp2_with fail
          go_ret
          exact ⟨congrArg (fun z => Ending.returned (.int .i64 z)) HE2.out.symm, (HG.out.drewN _).drewN _⟩
  · have d1 : ((xs.length : Int) != (ys.length : Int)) = true := by simp; omega
    by_cases hlt : xs.length < ys.length
    · have d2 : decide ((xs.length : Int) < (ys.length : Int)) = true := dlt_yes (by omega)
      have e : cmpN (val xs) (val ys) = -1 := by unfold cmpN; rw [if_pos (cmp_short ha hb hlt)]
      rw [e]
      go_enter Tryz.func86, Tryz.ntmps86
      go_wp2_with fail
      go_ret
      exact ⟨rfl, Old.refl _⟩
    · have d2 : decide ((xs.length : Int) < (ys.length : Int)) = false := dlt_no (by omega)
      have e : cmpN (val xs) (val ys) = 1 := by
        have := cmp_short hb ha (by omega)
        unfold cmpN; rw [if_neg (by omega), if_pos this]
      rw [e]
      go_enter Tryz.func86, Tryz.ntmps86
      go_wp2_with fail
      go_ret
      exact ⟨rfl, Old.refl _⟩
end Go.Proofs.YtfcdfielbpdloaaGreatDoor
/- Proved: the contract of the model's GoodWhole. -/
namespace Go.Proofs.YtfcdfielbpdloaaGreatDoor
open Go.ChangeShapes Go.WideShapes Go.ChangeAt Go.RowKit
open M2
set_option linter.unusedVariables false
set_option linter.unusedSimpArgs false
abbrev okAt (xs : List Int) (j : Nat) : Prop := (0 ≤ xs.getD j 0 ∧ xs.getD j 0 ≤ 268435455) ∧ ¬ (xs.getD j 0 = 0 ∧ j + 1 = xs.length)
abbrev Good (n : Bool) (xs : List Int) : Prop := xs.length ≤ 40 ∧ ¬ (xs.length = 0 ∧ n = true) ∧ ∀ j, j < xs.length → okAt xs j
theorem specIn (x lo hi : Int) (w : World) :
    Calls Tryz.prog 58 #[.int .i64 x, .int .i64 lo, .int .i64 hi] w fun e w' => e = .returned (.bool (decide (lo ≤ x ∧ x ≤ hi))) ∧ w' = w := by
  by_cases h1 : lo ≤ x
  · by_cases h2 : x ≤ hi
    · rw [decide_eq_true ⟨h1, h2⟩]
      go_enter Tryz.func58, Tryz.ntmps58
      go_wp2_with fail
      go_ret
      exact ⟨by simp [h1, h2], rfl⟩
    · rw [decide_eq_false (fun h => h2 h.2)]
      go_enter Tryz.func58, Tryz.ntmps58
      go_wp2_with fail
      go_ret
      exact ⟨by simp [h1, h2], rfl⟩
  · rw [decide_eq_false (fun h => h1 h.1)]
    go_enter Tryz.func58, Tryz.ntmps58
    go_wp2_with fail
    go_ret
    exact ⟨by simp [h1], rfl⟩
set_option maxHeartbeats 2000000 in
theorem good_any (n : Bool) (xs : List Int) (v : Value) (w : World) (hv : Row w v xs) (hl : xs.length ≤ 1048576) :
    Calls Tryz.prog 34 #[.agg #[.bool n, v]] w fun e w' => e = .returned (.bool (decide (Good n xs))) ∧ Old w w' := by
  have HV : Hid (Row w v xs) := hv
  obtain ⟨a0, cap0, rfl⟩ := hv.slice
  clear hv
  by_cases h40 : xs.length ≤ 40
  · by_cases h0 : xs.length = 0 ∧ n = true
    · have e : decide (Good n xs) = false := decide_eq_false (fun h => h.2.1 h0)
      rw [e]
      obtain ⟨h01, rfl⟩ := h0
      obtain rfl := List.length_eq_zero_iff.1 h01
      clear e h01
      go_enter Tryz.func34, Tryz.ntmps34
      go_wp2_with fail
      go_ret
      exact ⟨rfl, (Old.refl w).alloc _⟩
    · have HG0 : Hid (Good n xs ↔ ∀ j, j < xs.length → okAt xs j) := ⟨fun h => h.2.2, fun h => ⟨h40, h0, h⟩⟩
      have d40 : decide ((40 : Int) < (xs.length : Int)) = false := dlt_no (by omega)
      have dn : xs.length = 0 → n = false := fun h => by
        cases n with
        | false => rfl
        | true => exact absurd ⟨h, rfl⟩ h0
      obtain ⟨B, hB⟩ : ∃ B, decide (Good n xs) = B := ⟨_, rfl⟩
      rw [hB]
      have HB : Hid (decide (Good n xs) = B) := hB
      clear hB h0
      rcases Nat.eq_zero_or_pos xs.length with hx0 | hx0
      · obtain rfl := List.length_eq_zero_iff.1 hx0
        obtain rfl := dn rfl
        have HT : Hid (B = true) := by rw [← HB.out]; exact decide_eq_true (HG0.out.2 (fun j hj => by simp at hj))
        clear dn hx0
        go_enter Tryz.func34, Tryz.ntmps34
        go_wp2_with fail
        refine wp_loop_rounds 1 ?_
        rw [rounds_succ]
        go_wp2_with fail
        go_ret
        exact ⟨congrArg (fun z => Ending.returned (.bool z)) HT.out.symm, (Old.refl w).alloc _⟩
      · have dx0 : ((xs.length : Int) == 0) = false := by simp; intro h; rw [h] at hx0; simp at hx0
        have HC : Hid (∃ b o, a0 = some ⟨b, o, none⟩ ∧ b < w.heap.size ∧ ∀ j, j < xs.length → w.cell? ⟨b, o + j, none⟩ = some (.int .i64 (xs.getD j 0))) := by
          rcases HV.out with ⟨a', cap', e, e2⟩ | ⟨b, o, cap', e, hb, _, hc⟩
          · rw [e2] at hx0; simp at hx0
          · simp only [Value.slice.injEq] at e
            obtain ⟨rfl, _, _⟩ := e
            exact ⟨b, o, rfl, hb, hc⟩
        obtain ⟨b, o, rfl, hb, hc⟩ := HC.out
        have HC2 : Hid (∀ j, j < xs.length → w.cell? ⟨b, o + j, none⟩ = some (.int .i64 (xs.getD j 0))) := hc
        clear hc HC dn HV
        go_enter Tryz.func34, Tryz.ntmps34
        go_wp2_with fail
        go_loopw [22] (fun i W => ∃ k : Nat, k ≤ xs.length ∧ i = .int .i64 k ∧ Hid (∀ j, j < k → okAt xs j) ∧ W = w.alloc (.cells #[.bool n, .slice (some ⟨b, o, none⟩) xs.length cap0] 27)) (fun i _ => xs.length - (intOf i).toNat)
        case atStart => exact ⟨0, by omega, rfl, fun j hj => absurd hj (by omega), rfl⟩
        case round =>
          obtain ⟨k, hk, rfl, HF, rfl⟩ := hrel
          by_cases hlt : k < xs.length
          · have c1 : (w.alloc (.cells #[.bool n, .slice (some ⟨b, o, none⟩) xs.length cap0] 27)).cell? ⟨b, o + k, none⟩ = some (.int .i64 (xs.getD k 0)) := (cell_lt _ _ _ _ hb).trans (HC2.out k hlt)
            have c2 : (w.alloc (.cells #[.bool n, .slice (some ⟨b, o, none⟩) xs.length cap0] 27)).cell? ⟨w.heap.size, 1, none⟩ = some (.slice (some ⟨b, o, none⟩) xs.length cap0) := cell_at _ _ _ _ _ rfl
            by_cases hok : okAt xs k
            · have HF2 : Hid (∀ j, j < k + 1 → okAt xs j) := fun j hj => by
                by_cases hjk : j = k
                · rw [hjk]; exact hok
                · exact HF.out j (by omega)
              obtain ⟨⟨h1, h2⟩, h3⟩ := hok
              have din : decide (0 ≤ xs.getD k 0 ∧ xs.getD k 0 ≤ 268435455) = true := decide_eq_true ⟨h1, h2⟩
              have cin := fun W => specIn (xs.getD k 0) 0 268435455 W
              rw [din] at cin
              generalize xs.getD k 0 = x at *
              clear din
              by_cases hx : x = 0
              · have hne : ¬ k + 1 = xs.length := fun h => h3 ⟨hx, h⟩
                have dk : ((k : Int) == (xs.length : Int) - 1) = false := by simp; omega
                have dz : (x == 0) = true := by simp [hx]
                clear hx h3
                go_wp2_with fail
                refine (cin _).mono ?_
                rintro e w' ⟨rfl, rfl⟩
                go_wp2_with fail
                exact ⟨⟨k + 1, by omega, by go_num, HF2, by first | rfl | trivial⟩, by simp [intOf]; omega⟩
              · have dz : (x == 0) = false := by simp [hx]
                clear hx h3
                go_wp2_with fail
                refine (cin _).mono ?_
                rintro e w' ⟨rfl, rfl⟩
                go_wp2_with fail
                exact ⟨⟨k + 1, by omega, by go_num, HF2, by first | rfl | trivial⟩, by simp [intOf]; omega⟩
            · have HT : Hid (B = false) := by rw [← HB.out]; exact decide_eq_false (fun h => hok (HG0.out.1 h k hlt))
              by_cases hin : 0 ≤ xs.getD k 0 ∧ xs.getD k 0 ≤ 268435455
              · have hz : xs.getD k 0 = 0 ∧ k + 1 = xs.length := by
                  apply Classical.byContradiction
                  intro h
                  exact hok ⟨hin, h⟩
                have cin := fun W => specIn (xs.getD k 0) 0 268435455 W
                rw [decide_eq_true hin] at cin
                have dk : ((k : Int) == (xs.length : Int) - 1) = true := by simp; omega
                have dz : (xs.getD k 0 == 0) = true := by rw [hz.1]; rfl
                generalize xs.getD k 0 = x at *
                clear hz hin hok
                go_wp2_with fail
                refine (cin _).mono ?_
                rintro e w' ⟨rfl, rfl⟩
                go_wp2_with fail
                go_ret
                exact ⟨congrArg (fun z => Ending.returned (.bool z)) HT.out.symm, (Old.refl w).alloc _⟩
              · have cin := fun W => specIn (xs.getD k 0) 0 268435455 W
                rw [decide_eq_false hin] at cin
                generalize xs.getD k 0 = x at *
                clear hin hok
                go_wp2_with fail
                refine (cin _).mono ?_
                rintro e w' ⟨rfl, rfl⟩
                go_wp2_with fail
                go_ret
                exact ⟨congrArg (fun z => Ending.returned (.bool z)) HT.out.symm, (Old.refl w).alloc _⟩
          · have HT : Hid (B = true) := by rw [← HB.out]; exact decide_eq_true (HG0.out.2 (fun j hj => HF.out j (by omega)))
            go_wp2_with fail
            go_ret
            exact ⟨congrArg (fun z => Ending.returned (.bool z)) HT.out.symm, (Old.refl w).alloc _⟩
  · have e : decide (Good n xs) = false := decide_eq_false (fun h => h40 h.1)
    rw [e]
    have d40 : decide ((40 : Int) < (xs.length : Int)) = true := dlt_yes (by omega)
    clear e
    go_enter Tryz.func34, Tryz.ntmps34
    go_wp2_with fail
    go_ret
    exact ⟨rfl, (Old.refl w).alloc _⟩
end Go.Proofs.YtfcdfielbpdloaaGreatDoor
/- Proved: contracts of BitBack and of the model's l3Back: a number's bits from the last to the first; 0 where an argument is out of its bounds. -/
namespace Go.Proofs.YtfcdfielbpdloaaGreatDoor
open Go.ChangeShapes Go.WideShapes Go.ChangeAt Go.RowKit
set_option linter.unusedVariables false
def resB (x p : Int) : Bool := decide (0 ≤ x) && decide (x < p)
theorem residue_any (x p : Int) (w : World) : Calls Tryz.prog 57 #[.int .i64 x, .int .i64 p] w fun e w' => e = .returned (.bool (resB x p)) ∧ w' = w := by
  by_cases h : 0 ≤ x
  · have hd : decide (x ≥ 0) = true := by simp; omega
    have hd2 : decide (0 ≤ x) = true := by simp; omega
    go_enter Tryz.func57, Tryz.ntmps57
    go_wp2_with fail
    go_ret
    exact ⟨by simp [resB, hd2], rfl⟩
  · have hd : decide (x ≥ 0) = false := by simp; omega
    have hd2 : decide (0 ≤ x) = false := by simp; omega
    go_enter Tryz.func57, Tryz.ntmps57
    go_wp2_with fail
    go_ret
    exact ⟨by simp [resB, hd2], rfl⟩
end Go.Proofs.YtfcdfielbpdloaaGreatDoor
/- Proved: contracts of the model's functions on limbs: adding and taking away. -/
namespace Go.Proofs.YtfcdfielbpdloaaGreatDoor
open Go.ChangeShapes Go.WideShapes Go.ChangeAt Go.RowKit
open M2
set_option linter.unusedVariables false
set_option linter.unusedSimpArgs false
theorem one_cellW (w : World) (x : Value) (t : TypeId) : ∀ j u, [x][j]? = some u → (w.alloc (.cells #[x] t)).cell? ((⟨w.heap.size, 0, none⟩ : Addr).add j) = some u := by
  intro j u hj
  match j, hj with
  | 0, hj => simp at hj; subst hj; simp [Addr.add]
theorem one_oneW (x : Int) : ∀ u ∈ [Value.int .i64 x], u.oneCell' = true := by intro u hu; simp at hu; subst hu; rfl
theorem Own.snocW {w : World} {base : Nat} {v : Value} {xs : List Nat} {y : Nat} (h : w.ownsRow base 3 1 v ((toI xs).length + 1) ((toI xs).map (Value.int .i64) ++ [.int .i64 (y : Int)])) : Own w base v (toI (xs ++ [y])) := by
  unfold Own
  rw [toI_append]
  simpa [toI] using h
theorem Old.growW {a b c : World} {v : Value} {xs : List Value} {n : Nat} (h : Old a b) (ho : b.ownsRow a.heap.size 3 1 v n xs) (g : b.grownBy c v.ownBlock) : Old a c :=
  Below.grown h g h.size (fun k hk => (ho.lt k hk).1)
set_option maxHeartbeats 2000000 in
theorem add_any (xs ys : List Nat) (v u : Value) (w : World) (hv : Row w v (toI xs)) (hu : Row w u (toI ys)) (ha : Lim xs) (hb : Lim ys) (la : xs.length ≤ 1048576) (lb : ys.length ≤ 1048576) :
    Calls Tryz.prog 60 #[v, u] w fun e w' => ∃ v', e = .returned v' ∧ Old w w' ∧ Own w' w.heap.size v' (toI (dig (val xs + val ys))) := by
  obtain ⟨i0, hi, hz0, hz1, hz2⟩ := info_parts Tryz.infoInt
  have HV : Hid (Row w v (toI xs)) := hv
  have HU : Hid (Row w u (toI ys)) := hu
  obtain ⟨a0, cap0, rfl⟩ := hv.sliceN
  obtain ⟨a1, cap1, rfl⟩ := hu.sliceN
  clear hv hu
  go_enter Tryz.func60, Tryz.ntmps60
  go_wp2_with fail
  go_loopw [5, 6, 7] (fun o c i W => ∃ (k : Nat) (out : List Nat) (cc : Nat), (k + cc ≤ 1048577 ∧ cc ≤ 1) ∧ i = .int .i64 k ∧ c = .int .i64 cc ∧ Hid (AddI xs ys k out cc) ∧ Hid (Own W w.heap.size o (toI out)) ∧ Hid (Old w W)) (fun _ c i _ => 2 * ((max xs.length ys.length) - (intOf i).toNat) + (intOf c).toNat)
  case atStart => exact ⟨0, [], 0, ⟨by omega, by omega⟩, rfl, rfl, AddI.start xs ys, World.ownsRow_nil _ _ _ _, Old.refl _⟩
  case round =>
    obtain ⟨k, out, cc, ⟨hk, hcc⟩, rfl, rfl, HI, HO, HG⟩ := hrel
    have hx := ha.getD k
    have hy := hb.getD k
    have STEP := HI.out.step ha hb
    have HS : Hid (AddI xs ys (k + 1) (out ++ [(cc + xs.getD k 0 + ys.getD k 0) % LB]) ((cc + xs.getD k 0 + ys.getD k 0) / LB)) := STEP
    clear STEP
    by_cases h1 : k < xs.length
    · obtain ⟨b, o, rfl, hb1, hc1⟩ := Row.at (HV.out.old HG.out) (by omega)
      have c1 := hc1 k h1
      clear hc1
      by_cases h2 : k < ys.length
      · obtain ⟨b', o', rfl, hb2, hc2⟩ := Row.at (HU.out.old HG.out) (by omega)
        have c2 := hc2 k h2
        clear hc2
        generalize xs.getD k 0 = x at *
        generalize ys.getD k 0 = y at *
        generalize hR : (cc + x + y) % LB = R at *
        generalize hQ : (cc + x + y) / LB = Q at *
        unfold LB at hR hQ hx hy
        have e3 : ((cc : Int) + (x : Int) + (y : Int)) % 268435456 = (R : Int) := by omega
        have e4 : ((cc : Int) + (x : Int) + (y : Int)) / 268435456 = (Q : Int) := by omega
        have hQ1 : Q ≤ 1 := by omega
        clear hR hQ
        go_wp2_with (at_builtin; refine wpList_append_own _ rfl _ _ 59 rfl w.heap.size 3 i0 (.int .i64 0) 1 8 Tryz.underlying59 hi hz0 hz1 hz2 rfl (by decide) _ _ _ rfl (HO.out.alloc _) ⟨wr.heap.size, 0, none⟩ 1 1 [.int .i64 (R : Int)] rfl rfl (one_cellW _ _ _) (one_oneW _) (by rw [toI_len, HI.out.len]; unfold maxLen; omega) (by rw [toI_len, HI.out.len]; omega) (by have := HG.out.size; simp; omega) ?_; intro v' w1 hown hgrow _; have HO2 : Hid (Own w1 w.heap.size v' (toI (out ++ [R]))) := Own.snocW hown; have HG2 : Hid (Old w w1) := Old.growW (HG.out.alloc _) (HO.out.alloc _) hgrow; clear hown hgrow)
        exact ⟨⟨k + 1, out ++ [R], Q, ⟨by omega, hQ1⟩, by go_num, by first | rw [e4] | (rw [hQ0 hcc]; rfl), HS, HO2, HG2⟩, by simp [intOf]; omega⟩
      · have ey0 : ys.getD k 0 = 0 := by simp [List.getD, List.getElem?_eq_none (show ys.length ≤ k by omega)]
        generalize xs.getD k 0 = x at *
        rw [ey0] at HS
        clear ey0 hy
        generalize hR : (cc + x + 0) % LB = R at *
        generalize hQ : (cc + x + 0) / LB = Q at *
        unfold LB at hR hQ hx
        have e3 : ((cc : Int) + (x : Int)) % 268435456 = (R : Int) := by omega
        have e4 : ((cc : Int) + (x : Int)) / 268435456 = (Q : Int) := by omega
        have hQ1 : Q ≤ 1 := by omega
        clear hR hQ
        go_wp2_with (at_builtin; refine wpList_append_own _ rfl _ _ 59 rfl w.heap.size 3 i0 (.int .i64 0) 1 8 Tryz.underlying59 hi hz0 hz1 hz2 rfl (by decide) _ _ _ rfl (HO.out.alloc _) ⟨wr.heap.size, 0, none⟩ 1 1 [.int .i64 (R : Int)] rfl rfl (one_cellW _ _ _) (one_oneW _) (by rw [toI_len, HI.out.len]; unfold maxLen; omega) (by rw [toI_len, HI.out.len]; omega) (by have := HG.out.size; simp; omega) ?_; intro v' w1 hown hgrow _; have HO2 : Hid (Own w1 w.heap.size v' (toI (out ++ [R]))) := Own.snocW hown; have HG2 : Hid (Old w w1) := Old.growW (HG.out.alloc _) (HO.out.alloc _) hgrow; clear hown hgrow)
        exact ⟨⟨k + 1, out ++ [R], Q, ⟨by omega, hQ1⟩, by go_num, by first | rw [e4] | (rw [hQ0 hcc]; rfl), HS, HO2, HG2⟩, by simp [intOf]; omega⟩
    · by_cases h2 : k < ys.length
      · obtain ⟨b', o', rfl, hb2, hc2⟩ := Row.at (HU.out.old HG.out) (by omega)
        have c2 := hc2 k h2
        clear hc2
        have ex0 : xs.getD k 0 = 0 := by simp [List.getD, List.getElem?_eq_none (show xs.length ≤ k by omega)]
        rw [ex0] at HS
        clear ex0 hx
        generalize ys.getD k 0 = y at *
        generalize hR : (cc + 0 + y) % LB = R at *
        generalize hQ : (cc + 0 + y) / LB = Q at *
        unfold LB at hR hQ hy
        have e3 : ((cc : Int) + (y : Int)) % 268435456 = (R : Int) := by omega
        have e4 : ((cc : Int) + (y : Int)) / 268435456 = (Q : Int) := by omega
        have hQ1 : Q ≤ 1 := by omega
        clear hR hQ
        go_wp2_with (at_builtin; refine wpList_append_own _ rfl _ _ 59 rfl w.heap.size 3 i0 (.int .i64 0) 1 8 Tryz.underlying59 hi hz0 hz1 hz2 rfl (by decide) _ _ _ rfl (HO.out.alloc _) ⟨wr.heap.size, 0, none⟩ 1 1 [.int .i64 (R : Int)] rfl rfl (one_cellW _ _ _) (one_oneW _) (by rw [toI_len, HI.out.len]; unfold maxLen; omega) (by rw [toI_len, HI.out.len]; omega) (by have := HG.out.size; simp; omega) ?_; intro v' w1 hown hgrow _; have HO2 : Hid (Own w1 w.heap.size v' (toI (out ++ [R]))) := Own.snocW hown; have HG2 : Hid (Old w w1) := Old.growW (HG.out.alloc _) (HO.out.alloc _) hgrow; clear hown hgrow)
        exact ⟨⟨k + 1, out ++ [R], Q, ⟨by omega, hQ1⟩, by go_num, by first | rw [e4] | (rw [hQ0 hcc]; rfl), HS, HO2, HG2⟩, by simp [intOf]; omega⟩
      · rcases Nat.eq_zero_or_pos cc with hc0 | hc0
        · subst hc0
          have HT : Hid (trim out = dig (val xs + val ys)) := HI.out.done (by omega) (by omega) rfl
          have HL : Hid (Lim out ∧ out.length = k) := ⟨HI.out.lim, HI.out.len⟩
          clear HS HI
          go_wp2_with fail
          refine (trim_any out _ w.heap.size _ HO.out HL.out.1 (by have := HL.out.2; omega)).mono ?_
          rintro e w1 ⟨v', rfl, g1, o1⟩
          have HG2 : Hid (Old w w1) := Old.trans HG.out g1
          have HO2 : Hid (Own w1 w.heap.size v' (toI (trim out))) := o1
          clear g1 o1
          go_wp2_with fail
          go_ret
          exact ⟨_, rfl, HG2.out, by rw [← HT.out]; exact HO2.out⟩
        · have ex0 : xs.getD k 0 = 0 := by simp [List.getD, List.getElem?_eq_none (show xs.length ≤ k by omega)]
          have ey0 : ys.getD k 0 = 0 := by simp [List.getD, List.getElem?_eq_none (show ys.length ≤ k by omega)]
          rw [ex0] at HS
          clear ex0 hx
          rw [ey0] at HS
          clear ey0 hy
          generalize hR : (cc + 0 + 0) % LB = R at *
          generalize hQ : (cc + 0 + 0) / LB = Q at *
          unfold LB at hR hQ
          have e3 : ((cc : Int)) % 268435456 = (R : Int) := by omega
          have e4 : ((cc : Int)) / 268435456 = (Q : Int) := by omega
          have hQ1 : Q ≤ 1 := by omega
          have hQ0 : cc ≤ 1 → Q = 0 := by omega
          clear hR hQ
          have dc : decide (0 < cc) = true := by simp; omega
          go_wp2_with (at_builtin; refine wpList_append_own _ rfl _ _ 59 rfl w.heap.size 3 i0 (.int .i64 0) 1 8 Tryz.underlying59 hi hz0 hz1 hz2 rfl (by decide) _ _ _ rfl (HO.out.alloc _) ⟨wr.heap.size, 0, none⟩ 1 1 [.int .i64 (R : Int)] rfl rfl (one_cellW _ _ _) (one_oneW _) (by rw [toI_len, HI.out.len]; unfold maxLen; omega) (by rw [toI_len, HI.out.len]; omega) (by have := HG.out.size; simp; omega) ?_; intro v' w1 hown hgrow _; have HO2 : Hid (Own w1 w.heap.size v' (toI (out ++ [R]))) := Own.snocW hown; have HG2 : Hid (Old w w1) := Old.growW (HG.out.alloc _) (HO.out.alloc _) hgrow; clear hown hgrow)
          exact ⟨⟨k + 1, out ++ [R], Q, ⟨by omega, hQ1⟩, by go_num, by first | rw [e4] | (rw [hQ0 hcc]; rfl), HS, HO2, HG2⟩, by simp [intOf]; omega⟩
end Go.Proofs.YtfcdfielbpdloaaGreatDoor
/- Proved: the contract of the model's function that takes limbs away from limbs. -/
namespace Go.Proofs.YtfcdfielbpdloaaGreatDoor
open Go.ChangeShapes Go.WideShapes Go.ChangeAt Go.RowKit
open M2
set_option linter.unusedVariables false
set_option linter.unusedSimpArgs false
set_option maxHeartbeats 2000000 in
theorem sub_any (xs ys : List Nat) (v u : Value) (w : World) (hv : Row w v (toI xs)) (hu : Row w u (toI ys)) (ha : Nrm xs) (hb : Nrm ys) (la : xs.length ≤ 1048576) (lb : ys.length ≤ 1048576) (hle : val ys ≤ val xs) :
    Calls Tryz.prog 87 #[v, u] w fun e w' => ∃ v', e = .returned v' ∧ Old w w' ∧ Own w' w.heap.size v' (toI (dig (val xs - val ys))) := by
  obtain ⟨i0, hi, hz0, hz1, hz2⟩ := info_parts Tryz.infoInt
  have hyx := nrm_len_le ha hb hle
  have HLE : Hid (val ys ≤ val xs) := hle
  have HV : Hid (Row w v (toI xs)) := hv
  have HU : Hid (Row w u (toI ys)) := hu
  obtain ⟨a0, cap0, rfl⟩ := hv.sliceN
  obtain ⟨a1, cap1, rfl⟩ := hu.sliceN
  clear hv hu hle
  go_enter Tryz.func87, Tryz.ntmps87
  go_wp2_with fail
  go_loopw [5, 6, 11] (fun o c i W => ∃ (k : Nat) (out : List Nat) (cc : Nat), (k ≤ xs.length ∧ cc ≤ 1) ∧ i = .int .i64 k ∧ c = .int .i64 cc ∧ Hid (SubI xs ys k out cc) ∧ Hid (Own W w.heap.size o (toI out)) ∧ Hid (Old w W)) (fun _ _ i _ => xs.length - (intOf i).toNat)
  case atStart => exact ⟨0, [], 0, ⟨by omega, by omega⟩, rfl, rfl, SubI.start xs ys, World.ownsRow_nil _ _ _ _, Old.refl _⟩
  case round =>
    obtain ⟨k, out, cc, ⟨hk, hcc⟩, rfl, rfl, HI, HO, HG⟩ := hrel
    by_cases h1 : k < xs.length
    · obtain ⟨b, o, rfl, hb1, hc1⟩ := Row.at (HV.out.old HG.out) (by omega)
      have c1 := hc1 k h1
      clear hc1
      have hx := ha.1.getD k
      have hy := hb.1.getD k
      have S0 := HI.out.stepNo ha.1
      have S1 := HI.out.stepYes ha.1 hb.1
      have H0 : Hid (cc + ys.getD k 0 ≤ xs.getD k 0 → SubI xs ys (k + 1) (out ++ [xs.getD k 0 - cc - ys.getD k 0]) 0) := S0
      have H1 : Hid (xs.getD k 0 < cc + ys.getD k 0 → SubI xs ys (k + 1) (out ++ [xs.getD k 0 + LB - cc - ys.getD k 0]) 1) := S1
      clear S0 S1
      by_cases h2 : k < ys.length
      · obtain ⟨b', o', rfl, hb2, hc2⟩ := Row.at (HU.out.old HG.out) (by omega)
        have c2 := hc2 k h2
        clear hc2
        generalize xs.getD k 0 = x at *
        generalize ys.getD k 0 = y at *
        unfold LB at hx hy H1
        by_cases hd : cc + y ≤ x
        · have HS : Hid (SubI xs ys (k + 1) (out ++ [x - cc - y]) 0) := H0.out hd
          generalize hD : x - cc - y = D at *
          have e1 : (x : Int) - (cc : Int) - (y : Int) = (D : Int) := by omega
          have d1 : decide ((D : Int) < 0) = false := by simp
          clear H0 H1 hd hD
          go_wp2_with (at_builtin; refine wpList_append_own _ rfl _ _ 59 rfl w.heap.size 3 i0 (.int .i64 0) 1 8 Tryz.underlying59 hi hz0 hz1 hz2 rfl (by decide) _ _ _ rfl (HO.out.alloc _) ⟨wr.heap.size, 0, none⟩ 1 1 [.int .i64 (D : Int)] rfl rfl (one_cellW _ _ _) (one_oneW _) (by rw [toI_len, HI.out.len]; unfold maxLen; omega) (by rw [toI_len, HI.out.len]; omega) (by have := HG.out.size; simp; omega) ?_; intro v' w1 hown hgrow _; have HO2 : Hid (Own w1 w.heap.size v' (toI (out ++ [D]))) := Own.snocW hown; have HG2 : Hid (Old w w1) := Old.growW (HG.out.alloc _) (HO.out.alloc _) hgrow; clear hown hgrow)
          exact ⟨⟨k + 1, out ++ [D], 0, ⟨by omega, by omega⟩, by go_num, rfl, HS, HO2, HG2⟩, by simp [intOf]; omega⟩
        · have HS : Hid (SubI xs ys (k + 1) (out ++ [x + 268435456 - cc - y]) 1) := H1.out (by omega)
          generalize hD : x + 268435456 - cc - y = D at *
          have e1 : (x : Int) - (cc : Int) - (y : Int) + 268435456 = (D : Int) := by omega
          have d1 : decide ((x : Int) - (cc : Int) - (y : Int) < 0) = true := by simp; omega
          clear H0 H1 hd hD
          go_wp2_with (at_builtin; refine wpList_append_own _ rfl _ _ 59 rfl w.heap.size 3 i0 (.int .i64 0) 1 8 Tryz.underlying59 hi hz0 hz1 hz2 rfl (by decide) _ _ _ rfl (HO.out.alloc _) ⟨wr.heap.size, 0, none⟩ 1 1 [.int .i64 (D : Int)] rfl rfl (one_cellW _ _ _) (one_oneW _) (by rw [toI_len, HI.out.len]; unfold maxLen; omega) (by rw [toI_len, HI.out.len]; omega) (by have := HG.out.size; simp; omega) ?_; intro v' w1 hown hgrow _; have HO2 : Hid (Own w1 w.heap.size v' (toI (out ++ [D]))) := Own.snocW hown; have HG2 : Hid (Old w w1) := Old.growW (HG.out.alloc _) (HO.out.alloc _) hgrow; clear hown hgrow)
          exact ⟨⟨k + 1, out ++ [D], 1, ⟨by omega, by omega⟩, by go_num, rfl, HS, HO2, HG2⟩, by simp [intOf]; omega⟩
      · have ey0 : ys.getD k 0 = 0 := by simp [List.getD, List.getElem?_eq_none (show ys.length ≤ k by omega)]
        rw [ey0] at H0 H1
        clear ey0 hy
        generalize xs.getD k 0 = x at *
        unfold LB at hx H1
        by_cases hd : cc + 0 ≤ x
        · have HS : Hid (SubI xs ys (k + 1) (out ++ [x - cc - 0]) 0) := H0.out hd
          generalize hD : x - cc - 0 = D at *
          have e1 : (x : Int) - (cc : Int) = (D : Int) := by omega
          have d1 : decide ((D : Int) < 0) = false := by simp
          clear H0 H1 hd hD
          go_wp2_with (at_builtin; refine wpList_append_own _ rfl _ _ 59 rfl w.heap.size 3 i0 (.int .i64 0) 1 8 Tryz.underlying59 hi hz0 hz1 hz2 rfl (by decide) _ _ _ rfl (HO.out.alloc _) ⟨wr.heap.size, 0, none⟩ 1 1 [.int .i64 (D : Int)] rfl rfl (one_cellW _ _ _) (one_oneW _) (by rw [toI_len, HI.out.len]; unfold maxLen; omega) (by rw [toI_len, HI.out.len]; omega) (by have := HG.out.size; simp; omega) ?_; intro v' w1 hown hgrow _; have HO2 : Hid (Own w1 w.heap.size v' (toI (out ++ [D]))) := Own.snocW hown; have HG2 : Hid (Old w w1) := Old.growW (HG.out.alloc _) (HO.out.alloc _) hgrow; clear hown hgrow)
          exact ⟨⟨k + 1, out ++ [D], 0, ⟨by omega, by omega⟩, by go_num, rfl, HS, HO2, HG2⟩, by simp [intOf]; omega⟩
        · have HS : Hid (SubI xs ys (k + 1) (out ++ [x + 268435456 - cc - 0]) 1) := H1.out (by omega)
          generalize hD : x + 268435456 - cc - 0 = D at *
          have e1 : (x : Int) - (cc : Int) + 268435456 = (D : Int) := by omega
          have d1 : decide ((x : Int) - (cc : Int) < 0) = true := by simp; omega
          clear H0 H1 hd hD
          go_wp2_with (at_builtin; refine wpList_append_own _ rfl _ _ 59 rfl w.heap.size 3 i0 (.int .i64 0) 1 8 Tryz.underlying59 hi hz0 hz1 hz2 rfl (by decide) _ _ _ rfl (HO.out.alloc _) ⟨wr.heap.size, 0, none⟩ 1 1 [.int .i64 (D : Int)] rfl rfl (one_cellW _ _ _) (one_oneW _) (by rw [toI_len, HI.out.len]; unfold maxLen; omega) (by rw [toI_len, HI.out.len]; omega) (by have := HG.out.size; simp; omega) ?_; intro v' w1 hown hgrow _; have HO2 : Hid (Own w1 w.heap.size v' (toI (out ++ [D]))) := Own.snocW hown; have HG2 : Hid (Old w w1) := Old.growW (HG.out.alloc _) (HO.out.alloc _) hgrow; clear hown hgrow)
          exact ⟨⟨k + 1, out ++ [D], 1, ⟨by omega, by omega⟩, by go_num, rfl, HS, HO2, HG2⟩, by simp [intOf]; omega⟩
    · obtain rfl : k = xs.length := by omega
      have HT : Hid (trim out = dig (val xs - val ys)) := HI.out.done rfl hyx HLE.out
      have HL : Hid (Lim out ∧ out.length = xs.length) := ⟨HI.out.lim, HI.out.len⟩
      clear HI
      go_wp2_with fail
      refine (trim_any out _ w.heap.size _ HO.out HL.out.1 (by have := HL.out.2; omega)).mono ?_
      rintro e w1 ⟨v', rfl, g1, o1⟩
      have HG2 : Hid (Old w w1) := Old.trans HG.out g1
      have HO2 : Hid (Own w1 w.heap.size v' (toI (trim out))) := o1
      clear g1 o1
      go_wp2_with fail
      go_ret
      exact ⟨_, rfl, HG2.out, by rw [← HT.out]; exact HO2.out⟩
end Go.Proofs.YtfcdfielbpdloaaGreatDoor
/- Proved: contracts of the model's functions on limbs: of a word, what is left by a word, doubling. -/
namespace Go.Proofs.YtfcdfielbpdloaaGreatDoor
open Go.ChangeShapes Go.WideShapes Go.ChangeAt Go.RowKit
open M2
set_option linter.unusedVariables false
set_option linter.unusedSimpArgs false
set_option maxHeartbeats 2000000 in
theorem of_any (n : Nat) (w : World) (hn : n ≤ 9223372036854775807) :
    Calls Tryz.prog 63 #[.int .i64 n] w fun e w' => ∃ v', e = .returned v' ∧ Old w w' ∧ Own w' w.heap.size v' (toI (dig n)) := by
  obtain ⟨i0, hi, hz0, hz1, hz2⟩ := info_parts Tryz.infoInt
  have hlen : (dig n).length ≤ 3 := dig_len_le (by unfold LB; omega)
  go_enter Tryz.func63, Tryz.ntmps63
  go_wp2_with fail
  go_loopw [0, 3] (fun m o W => ∃ (m' : Nat) (out : List Nat), m' ≤ 9223372036854775807 ∧ m = .int .i64 m' ∧ Hid (dig n = out ++ dig m') ∧ Hid (Own W w.heap.size o (toI out)) ∧ Hid (Old w W)) (fun m _ _ => (intOf m).toNat)
  case atStart => exact ⟨n, [], hn, rfl, rfl, World.ownsRow_nil _ _ _ _, Old.refl _⟩
  case round =>
    obtain ⟨m, out, hm, rfl, HI, HO, HG⟩ := hrel
    rcases Nat.eq_zero_or_pos m with h0 | h0
    · subst h0
      have HE : Hid (dig n = out) := by have := HI.out; rw [dig_zero, List.append_nil] at this; exact this
      clear HI
      go_wp2_with fail
      go_ret
      exact ⟨_, rfl, HG.out, by rw [HE.out]; exact HO.out⟩
    · have HS : Hid (dig n = (out ++ [m % LB]) ++ dig (m / LB)) := dig_snoc HI.out (by omega)
      have hol : out.length ≤ 3 := by
        have := congrArg List.length HI.out
        rw [List.length_append] at this
        omega
      generalize hR : m % LB = R at *
      generalize hQ : m / LB = Q at *
      unfold LB at hR hQ
      have e3 : (m : Int) % 268435456 = (R : Int) := by omega
      have e4 : (m : Int) / 268435456 = (Q : Int) := by omega
      have hQm : Q < m := by omega
      have d0 : decide (0 < m) = true := by simp; omega
      clear hR hQ HI
      go_wp2_with (at_builtin; refine wpList_append_own _ rfl _ _ 59 rfl w.heap.size 3 i0 (.int .i64 0) 1 8 Tryz.underlying59 hi hz0 hz1 hz2 rfl (by decide) _ _ _ rfl (HO.out.alloc _) ⟨wr.heap.size, 0, none⟩ 1 1 [.int .i64 (R : Int)] rfl rfl (one_cellW _ _ _) (one_oneW _) (by rw [toI_len]; skip; unfold maxLen; omega) (by rw [toI_len]; skip; omega) (by have := HG.out.size; simp; omega) ?_; intro v' w1 hown hgrow _; have HO2 : Hid (Own w1 w.heap.size v' (toI (out ++ [R]))) := Own.snocW hown; have HG2 : Hid (Old w w1) := Old.growW (HG.out.alloc _) (HO.out.alloc _) hgrow; clear hown hgrow)
      exact ⟨⟨Q, out ++ [R], by omega, by first | rfl | rw [e4], HS, HO2, HG2⟩, by simp [intOf]; omega⟩
set_option maxHeartbeats 2000000 in
theorem word_any (xs : List Nat) (m : Nat) (v : Value) (w : World) (hv : Row w v (toI xs)) (hx : Lim xs) (la : xs.length ≤ 1048576) (hm : 1 ≤ m) (hm' : m ≤ 268435456) :
    Calls Tryz.prog 98 #[v, .int .i64 m] w fun e w' => e = .returned (.int .i64 ((val xs % m : Nat) : Int)) ∧ Old w w' := by
  have HV : Hid (Row w v (toI xs)) := hv
  obtain ⟨a0, cap0, rfl⟩ := hv.sliceN
  clear hv
  have hmn : ¬ m = 0 := by omega
  go_enter Tryz.func98, Tryz.ntmps98
  go_wp2_with fail
  go_loopw [5, 6] (fun r i W => ∃ (k r' : Nat), (k ≤ xs.length ∧ r' < m) ∧ r = .int .i64 r' ∧ i = .int .i64 ((k : Int) - 1) ∧ Hid (r' = val (xs.drop k) % m) ∧ Hid (Old w W)) (fun _ i _ => (intOf i + 1).toNat)
  case atStart => exact ⟨xs.length, 0, ⟨Nat.le_refl _, by omega⟩, rfl, rfl, (by show 0 = val (xs.drop xs.length) % m; rw [List.drop_length]; rfl), Old.refl _⟩
  case round =>
    obtain ⟨k, r, ⟨hk, hr⟩, rfl, rfl, HD, HG⟩ := hrel
    rcases Nat.eq_zero_or_pos k with hk0 | hk0
    · subst hk0
      have HE : Hid (r = val xs % m) := HD.out
      clear HD
      go_wp2_with fail
      go_ret
      exact ⟨congrArg (fun (z : Nat) => Ending.returned (.int .i64 (z : Int))) HE.out, HG.out⟩
    · obtain ⟨j, rfl⟩ : ∃ j, k = j + 1 := ⟨k - 1, by omega⟩
      obtain ⟨b, o, rfl, hb1, hc1⟩ := Row.at (HV.out.old HG.out) (by omega)
      have c1 := hc1 j (by omega)
      clear hc1
      have hxj := hx.getD j
      have HS : Hid ((r * LB + xs.getD j 0) % m = val (xs.drop j) % m) := by rw [HD.out]; exact word_step xs j m (by omega)
      have em : ((j + 1 : Nat) : Int) - 1 = (j : Int) := by omega
      generalize xs.getD j 0 = x at *
      rw [em]
      unfold LB at HS hxj
      have hlt : (r * 268435456 + x) % m < m := Nat.mod_lt _ (by omega)
      generalize hR : (r * 268435456 + x) % m = R at *
      have e3 : ((r : Int) * 268435456 + (x : Int)) % (m : Int) = (R : Int) := by rw [← hR]; simp
      clear hR em HD
      go_wp2_with fail
      exact ⟨⟨j, R, ⟨by omega, hlt⟩, by rw [e3], by go_num, HS, HG⟩, by simp [intOf]⟩
set_option maxHeartbeats 2000000 in
theorem shift_any (xs : List Nat) (bit : Nat) (v : Value) (w : World) (hv : Row w v (toI xs)) (hx : Nrm xs) (la : xs.length ≤ 1048576) (hbit : bit ≤ 1) :
    Calls Tryz.prog 93 #[v, .int .i64 bit] w fun e w' => ∃ v', e = .returned v' ∧ Old w w' ∧ Own w' w.heap.size v' (toI (dig (2 * val xs + bit))) := by
  obtain ⟨i0, hi, hz0, hz1, hz2⟩ := info_parts Tryz.infoInt
  have HV : Hid (Row w v (toI xs)) := hv
  obtain ⟨a0, cap0, rfl⟩ := hv.sliceN
  clear hv
  go_enter Tryz.func93, Tryz.ntmps93
  go_wp2_with fail
  go_loopw [1, 5, 10] (fun c o i W => ∃ (k : Nat) (out : List Nat) (cc : Nat), (k ≤ xs.length ∧ cc ≤ 1) ∧ i = .int .i64 k ∧ c = .int .i64 cc ∧ Hid (ShI xs bit k out cc) ∧ Hid (Own W w.heap.size o (toI out)) ∧ Hid (Old w W)) (fun _ _ i _ => xs.length - (intOf i).toNat)
  case atStart => exact ⟨0, [], bit, ⟨by omega, hbit⟩, rfl, rfl, ShI.start xs bit hbit, World.ownsRow_nil _ _ _ _, Old.refl _⟩
  case round =>
    obtain ⟨k, out, cc, ⟨hk, hcc⟩, rfl, rfl, HI, HO, HG⟩ := hrel
    by_cases h1 : k < xs.length
    · obtain ⟨b, o, rfl, hb1, hc1⟩ := Row.at (HV.out.old HG.out) (by omega)
      have c1 := hc1 k h1
      clear hc1
      have hxk := hx.1.getD k
      have HS : Hid (ShI xs bit (k + 1) (out ++ [(cc + 2 * xs.getD k 0) % LB]) ((cc + 2 * xs.getD k 0) / LB)) := HI.out.step hx.1
      generalize xs.getD k 0 = x at *
      generalize hR : (cc + 2 * x) % LB = R at *
      generalize hQ : (cc + 2 * x) / LB = Q at *
      unfold LB at hR hQ hxk
      have e3 : ((cc : Int) + 2 * (x : Int)) % 268435456 = (R : Int) := by omega
      have e4 : ((cc : Int) + 2 * (x : Int)) / 268435456 = (Q : Int) := by omega
      have hQ1 : Q ≤ 1 := by omega
      clear hR hQ
      go_wp2_with (at_builtin; refine wpList_append_own _ rfl _ _ 59 rfl w.heap.size 3 i0 (.int .i64 0) 1 8 Tryz.underlying59 hi hz0 hz1 hz2 rfl (by decide) _ _ _ rfl (HO.out.alloc _) ⟨wr.heap.size, 0, none⟩ 1 1 [.int .i64 (R : Int)] rfl rfl (one_cellW _ _ _) (one_oneW _) (by rw [toI_len]; rw [HI.out.len]; unfold maxLen; omega) (by rw [toI_len]; rw [HI.out.len]; omega) (by have := HG.out.size; simp; omega) ?_; intro v' w1 hown hgrow _; have HO2 : Hid (Own w1 w.heap.size v' (toI (out ++ [R]))) := Own.snocW hown; have HG2 : Hid (Old w w1) := Old.growW (HG.out.alloc _) (HO.out.alloc _) hgrow; clear hown hgrow)
      exact ⟨⟨k + 1, out ++ [R], Q, ⟨by omega, hQ1⟩, by go_num, by rw [e4], HS, HO2, HG2⟩, by simp [intOf]; omega⟩
    · obtain rfl : k = xs.length := by omega
      rcases Nat.eq_zero_or_pos cc with hc0 | hc0
      · subst hc0
        have HT : Hid (out = dig (2 * val xs + bit)) := HI.out.no hx rfl
        clear HI
        go_wp2_with fail
        go_ret
        exact ⟨_, rfl, HG.out, by rw [← HT.out]; exact HO.out⟩
      · have HT : Hid (out ++ [cc] = dig (2 * val xs + bit)) := HI.out.yes hc0
        have d0 : decide (0 < cc) = true := by simp; omega
        go_wp2_with (at_builtin; refine wpList_append_own _ rfl _ _ 59 rfl w.heap.size 3 i0 (.int .i64 0) 1 8 Tryz.underlying59 hi hz0 hz1 hz2 rfl (by decide) _ _ _ rfl (HO.out.alloc _) ⟨wr.heap.size, 0, none⟩ 1 1 [.int .i64 (cc : Int)] rfl rfl (one_cellW _ _ _) (one_oneW _) (by rw [toI_len]; rw [HI.out.len]; unfold maxLen; omega) (by rw [toI_len]; rw [HI.out.len]; omega) (by have := HG.out.size; simp; omega) ?_; intro v' w1 hown hgrow _; have HO2 : Hid (Own w1 w.heap.size v' (toI (out ++ [cc]))) := Own.snocW hown; have HG2 : Hid (Old w w1) := Old.growW (HG.out.alloc _) (HO.out.alloc _) hgrow; clear hown hgrow)
        go_ret
        exact ⟨_, rfl, HG2.out, by rw [← HT.out]; exact HO2.out⟩
end Go.Proofs.YtfcdfielbpdloaaGreatDoor
