/- Proved: several texts in one: what each proves is said ahead of it. -/
import Derived.Test.YtjedpceiimceoaaDoorRows
import Derived.WalkKit
import Derived.ProofKit
import Derived.OpenShut
import Derived.Handy
import Derived.ShutString
import Derived.ChangeOld
import Derived.Below
import Derived.Carry
import Derived.OwnWalk
import Derived.OneCell
import Derived.Deep.QuietTactic
import Derived.BigQuiet
import Derived.Test.YtjedpceiimceoaaDoorV07
/- Proved: rows of whole numbers in memory: how a slice that is read, one that is owned and one that is written lie; no function of the program. -/
namespace Go.Proofs.YtjedpceiimceoaaDoor
open Go.ChangeShapes Go.WideShapes Go.ChangeAt Go.RowKit
set_option linter.unusedVariables false
set_option linter.unusedSimpArgs false
def Row (w : World) (v : Value) (xs : List Int) : Prop :=
  (∃ a cap, v = .slice a 0 cap ∧ xs = []) ∨ ∃ b o cap, v = .slice (some ⟨b, o, none⟩) xs.length cap ∧ b < w.heap.size ∧ 0 < xs.length ∧ ∀ j, j < xs.length → w.cell? ⟨b, o + j, none⟩ = some (.int .i64 (xs.getD j 0))
abbrev Old (w w' : World) : Prop := Below w.heap.size w w'
theorem Old.refl (w : World) : Old w w := Below.refl _ _
theorem Old.trans {a b c : World} (h : Old a b) (k : Old b c) : Old a c := Below.trans h (k.mono h.size)
theorem Old.drewN {a b : World} (h : Old a b) (n : Nat) : Old a (b.drewN n) := ⟨h.os, h.tape, h.output, h.size, h.block⟩
theorem Old.alloc {a b : World} (h : Old a b) (o : Obj) : Old a (b.alloc o) := Below.alloc h h.size o
theorem Old.own {a b : World} (h : Old a b) {p : Addr} (hp : a.heap.size ≤ p.block) (v : Value) : Old a (b.setCell p v) := Below.setCell h hp v
theorem Row.old {w w' : World} {v : Value} {xs : List Int} (h : Row w v xs) (g : Old w w') : Row w' v xs := by
  rcases h with h1 | ⟨b, o, cap, e, hb, h0, hc⟩
  · exact Or.inl h1
  · exact Or.inr ⟨b, o, cap, e, Nat.lt_of_lt_of_le hb g.size, h0, fun j hj => by rw [g.cell (p := ⟨b, o + j, none⟩) hb]; exact hc j hj⟩
theorem Row.slice {w : World} {v : Value} {xs : List Int} (h : Row w v xs) : ∃ a cap, v = .slice a xs.length cap := by
  rcases h with ⟨a, cap, e, e2⟩ | ⟨b, o, cap, e, _⟩
  · exact ⟨a, cap, by rw [e, e2]; rfl⟩
  · exact ⟨_, cap, e⟩
abbrev Own (w : World) (base : Nat) (v : Value) (xs : List Int) : Prop := w.ownsRow base 3 1 v xs.length (xs.map (Value.int .i64))
theorem Own.row {w : World} {base : Nat} {v : Value} {xs : List Int} (h : Own w base v xs) : Row w v xs := by
  rcases h.2 with ⟨e, h0⟩ | ⟨g, cap, cur, e, hb, hg, h1, h2, h3, h4⟩
  · exact Or.inl ⟨none, 0, e, List.length_eq_zero_iff.1 h0⟩
  · subst e
    by_cases h0 : xs.length = 0
    · exact Or.inl ⟨_, cap, by rw [h0], List.length_eq_zero_iff.1 h0⟩
    · refine Or.inr ⟨g, 0, cap, rfl, (Array.getElem?_eq_some_iff.1 hg).1, by omega, fun j hj => ?_⟩
      have := World.ownsRow.cellAt h j (by omega)
      rw [Nat.zero_add, this]
      simp [List.getD, hj]
theorem Own.old {w w' : World} {base : Nat} {v : Value} {xs : List Int} (h : Own w base v xs) (g : Old w w') : Own w' base v xs := by
  refine ⟨h.1, ?_⟩
  rcases h.2 with hn | ⟨p, cap, cur, rfl, hb, hgg, rest⟩
  · exact .inl hn
  · refine .inr ⟨p, cap, cur, rfl, hb, ?_, rest⟩
    rw [g.block p (Array.getElem?_eq_some_iff.1 hgg).1]
    exact hgg
theorem Own.low {w : World} {base base' : Nat} {v : Value} {xs : List Int} (h : Own w base v xs) (hb : base' ≤ base) : Own w base' v xs := by
  refine ⟨h.1, ?_⟩
  rcases h.2 with hn | ⟨p, cap, cur, rfl, hb1, rest⟩
  · exact .inl hn
  · exact .inr ⟨p, cap, cur, rfl, Nat.le_trans hb hb1, rest⟩
theorem Own.take {w : World} {base : Nat} {a : Option Addr} {cap : Nat} {xs : List Int} (h : Own w base (.slice a xs.length cap) xs) (k : Nat) (hk : k ≤ xs.length) : Own w base (.slice a k cap) (xs.take k) := by
  have e : (xs.take k).length = k := by rw [List.length_take, Nat.min_eq_left hk]
  unfold Own
  rw [e]
  refine ⟨by simp [Nat.min_eq_left hk], ?_⟩
  rcases h.2 with ⟨h1, h2⟩ | ⟨g, cap', cur, h1, hb, hg, h2, h3, h4, h5⟩
  · simp only [Value.slice.injEq] at h1
    obtain ⟨rfl, _, rfl⟩ := h1
    exact .inl ⟨by rw [show k = 0 by omega], by omega⟩
  · simp only [Value.slice.injEq] at h1
    obtain ⟨rfl, _, rfl⟩ := h1
    refine .inr ⟨g, cap, cur, rfl, hb, hg, by omega, h3, h4, ?_⟩
    rw [Nat.mul_one] at h5 ⊢
    rw [List.map_take, ← h5, List.take_take, Nat.min_eq_left hk]
theorem grownBy_old {a b : World} (h : a.grownBy b none) : Old a b := Below.grown (Below.refl _ _) h (Nat.le_refl _) (fun _ h => by cases h)
theorem cell_at (w : World) (xs : Array Value) (t : TypeId) (b j : Nat) (hb : b = w.heap.size) : (w.alloc (.cells xs t)).cell? ⟨b, j, none⟩ = xs[j]? := by
  subst hb
  exact cell_of_row _ _ _ _ _ (0, 0) (heap_alloc_new w _)
theorem cell_lt (w : World) (o : Obj) (b j : Nat) (hb : b < w.heap.size) : (w.alloc o).cell? ⟨b, j, none⟩ = w.cell? ⟨b, j, none⟩ := World.cell?_of_block (heap_alloc_old w o hb)
theorem fro_at (w : World) (xs : Array Value) (t : TypeId) (b j : Nat) (hb : b = w.heap.size) : (w.alloc (.cells xs t)).frozen? ⟨b, j, none⟩ = false := by
  subst hb
  exact frozen_of_row _ _ _ _ _ (heap_alloc_new w _)
theorem fro_lt (w : World) (o : Obj) (b j : Nat) (hb : b < w.heap.size) : (w.alloc o).frozen? ⟨b, j, none⟩ = w.frozen? ⟨b, j, none⟩ := World.frozen?_of_block (heap_alloc_old w o hb)
theorem c3_0 (w : World) (A B C : Array Value) (t u v : TypeId) (j : Nat) : (((w.alloc (.cells A t)).alloc (.cells B u)).alloc (.cells C v)).cell? ⟨w.heap.size, j, none⟩ = A[j]? := by
  rw [cell_lt _ _ _ _ (by simp; omega), cell_lt _ _ _ _ (by simp), cell_at _ _ _ _ _ rfl]
theorem c3_1 (w : World) (A B C : Array Value) (t u v : TypeId) (j : Nat) : (((w.alloc (.cells A t)).alloc (.cells B u)).alloc (.cells C v)).cell? ⟨w.heap.size + 1, j, none⟩ = B[j]? := by
  rw [cell_lt _ _ _ _ (by simp), cell_at _ _ _ _ _ (by simp)]
theorem c2_0 (w : World) (A B : Array Value) (t u : TypeId) (j : Nat) : ((w.alloc (.cells A t)).alloc (.cells B u)).cell? ⟨w.heap.size, j, none⟩ = A[j]? := by
  rw [cell_lt _ _ _ _ (by simp), cell_at _ _ _ _ _ rfl]
theorem c2_1 (w : World) (A B : Array Value) (t u : TypeId) (j : Nat) : ((w.alloc (.cells A t)).alloc (.cells B u)).cell? ⟨w.heap.size + 1, j, none⟩ = B[j]? := by
  rw [cell_at _ _ _ _ _ (by simp)]
theorem f3_1 (w : World) (A B C : Array Value) (t u v : TypeId) (j : Nat) : (((w.alloc (.cells A t)).alloc (.cells B u)).alloc (.cells C v)).frozen? ⟨w.heap.size + 1, j, none⟩ = false := by
  rw [fro_lt _ _ _ _ (by simp), fro_at _ _ _ _ _ (by simp)]
theorem f2_1 (w : World) (A B : Array Value) (t u : TypeId) (j : Nat) : ((w.alloc (.cells A t)).alloc (.cells B u)).frozen? ⟨w.heap.size + 1, j, none⟩ = false := by
  rw [fro_at _ _ _ _ _ (by simp)]
end Go.Proofs.YtjedpceiimceoaaDoor
/- Proved: contracts of the statements' own helpers over slices of ints: sizes, copies, comparisons, marks. -/
namespace Go.Proofs.YtjedpceiimceoaaDoor
open Go.ChangeShapes Go.WideShapes Go.ChangeAt Go.RowKit
set_option linter.unusedVariables false
set_option linter.unusedSimpArgs false
theorem Tryd.infoInt : (Tryd.prog.info? 3).map (fun i => (i.zero, i.size, i.bytes)) = some (some (.int .i64 0), 1, 8) := by kernel_rfl
theorem made_ints (n : Nat) : (madeCells (Value.int .i64 0).cells (n * 1)).toList = (List.replicate n (0 : Int)).map (Value.int .i64) := by
  rw [Nat.mul_one]
  have := toList_madeCells_one (.int .i64 0) n
  rw [List.map_replicate]
  exact this
end Go.Proofs.YtjedpceiimceoaaDoor
/- Proved: contracts of the model's functions on limbs: noughts struck, comparing, adding, taking away. -/
namespace Go.Proofs.YtjedpceiimceoaaDoor
open Go.ChangeShapes Go.WideShapes Go.ChangeAt Go.RowKit
open M2
set_option linter.unusedVariables false
set_option linter.unusedSimpArgs false
def toI (xs : List Nat) : List Int := xs.map (fun (n : Nat) => (n : Int))
theorem toI_len (xs : List Nat) : (toI xs).length = xs.length := by simp [toI]
theorem toI_get (xs : List Nat) (j : Nat) : (toI xs).getD j 0 = ((xs.getD j 0 : Nat) : Int) := by
  simp only [toI, List.getD, List.getElem?_map]
  cases xs[j]? <;> rfl
theorem toI_take (xs : List Nat) (k : Nat) : (toI xs).take k = toI (xs.take k) := by simp [toI]
theorem toI_append (xs ys : List Nat) : toI (xs ++ ys) = toI xs ++ toI ys := by simp [toI]
theorem Row.at {w : World} {a : Option Addr} {n cap : Nat} {xs : List Nat} (h : Row w (.slice a n cap) (toI xs)) (h0 : 0 < xs.length) :
    ∃ b o, a = some ⟨b, o, none⟩ ∧ b < w.heap.size ∧ ∀ j, j < xs.length → w.cell? ⟨b, o + j, none⟩ = some (.int .i64 ((xs.getD j 0 : Nat) : Int)) := by
  rcases h with ⟨a', cap', e, e2⟩ | ⟨b, o, cap', e, hb, _, hc⟩
  · have := congrArg List.length e2
    rw [toI_len, List.length_nil] at this
    omega
  · simp only [Value.slice.injEq] at e
    obtain ⟨rfl, _, _⟩ := e
    rw [toI_len] at hc
    exact ⟨b, o, rfl, hb, fun j hj => by rw [hc j hj, toI_get]⟩
theorem Row.sliceN {w : World} {v : Value} {xs : List Nat} (h : Row w v (toI xs)) : ∃ a cap, v = .slice a xs.length cap := by
  obtain ⟨a, cap, e⟩ := h.slice
  rw [toI_len] at e
  exact ⟨a, cap, e⟩
theorem nrm_take {xs : List Nat} (h : Lim xs) (k : Nat) (hk : k ≤ xs.length) (h0 : 0 < k → xs.getD (k - 1) 0 ≠ 0) : Nrm (xs.take k) := by
  refine ⟨h.take k, fun hne => ?_⟩
  have hk0 : 0 < k := by
    rcases Nat.eq_zero_or_pos k with e | e
    · subst e; simp at hne
    · exact e
  have := h0 hk0
  rw [List.getLast_eq_getElem]
  simp only [List.length_take, Nat.min_eq_left hk, List.getElem_take]
  simpa [List.getD, show k - 1 < xs.length by omega] using this
theorem beq0 (x : Nat) (h : x ≠ 0) : ((x : Int) == 0) = false := by simp; omega
theorem dlt_yes {a b : Int} (h : a < b) : decide (a < b) = true := by simp; omega
theorem dlt_no {a b : Int} (h : ¬ a < b) : decide (a < b) = false := by simp; omega
def sliceLen : Value → Nat
  | .slice _ k _ => k
  | _ => 0
set_option maxHeartbeats 1000000 in
theorem trim_any (xs : List Nat) (v : Value) (base : Nat) (w : World) (h : Own w base v (toI xs)) (hl : Lim xs) (hn : xs.length ≤ 1073741824) :
    Calls Tryd.prog 60 #[v] w fun e w' => ∃ v', e = .returned v' ∧ Old w w' ∧ Own w' base v' (toI (trim xs)) := by
  by_cases h0 : xs.length = 0
  · obtain rfl := List.length_eq_zero_iff.1 h0
    have HF : Hid (Own w base v (toI (trim []))) := by
      have : trim [] = [] := dig_zero
      rw [this]; exact h
    obtain ⟨a0, cap0, rfl⟩ := (Own.row h).slice
    rw [toI_len] at *
    clear h
    go_enter Tryd.func60, Tryd.ntmps60
    go_wp2_with fail
    refine wp_loop_rounds 1 ?_
    rw [rounds_succ]
    go_wp2_with fail
    go_ret
    exact ⟨_, rfl, Old.refl _, HF.out⟩
  · obtain ⟨g, cap, e⟩ : ∃ g cap, v = .slice (some ⟨g, 0, none⟩) xs.length cap := by
      rcases h.2 with ⟨_, h1⟩ | ⟨g, cap, cur, e, _⟩
      · rw [toI_len] at h1; exact absurd h1 h0
      · rw [toI_len] at e; exact ⟨g, cap, e⟩
    subst e
    have hcap : xs.length ≤ cap ∧ cap ≤ 9223372036854775807 := by
      rcases h.2 with ⟨h1, _⟩ | ⟨g', cap', cur, e, _, _, h1, h2, _⟩
      · simp at h1
      · simp only [Value.slice.injEq] at e
        obtain ⟨_, _, rfl⟩ := e
        rw [toI_len] at h1
        exact ⟨h1, h2⟩
    obtain ⟨hcap1, hcap2⟩ := hcap
    have HO : Hid (Own w base (.slice (some ⟨g, 0, none⟩) xs.length cap) (toI xs)) := h
    obtain ⟨b, o, e1, hb, hc⟩ := Row.at (Own.row h) (by omega)
    obtain ⟨rfl, rfl⟩ : b = g ∧ o = 0 := by cases e1; exact ⟨rfl, rfl⟩
    simp only [Nat.zero_add] at hc
    have HC : Hid (∀ j, j < xs.length → w.cell? ⟨b, j, none⟩ = some (.int .i64 ((xs.getD j 0 : Nat) : Int))) := hc
    clear h hc e1
    go_enter Tryd.func60, Tryd.ntmps60
    go_wp2_with fail
    go_loopw [0] (fun u W => ∃ k : Nat, k ≤ xs.length ∧ u = .slice (some ⟨b, 0, none⟩) k cap ∧ Hid (val (xs.take k) = val xs) ∧ Hid (Old w W)) (fun u _ => sliceLen u)
    case atStart => exact ⟨xs.length, Nat.le_refl _, rfl, by rw [List.take_length]; rfl, Old.refl _⟩
    case round =>
      obtain ⟨k, hk, rfl, HV, HG⟩ := hrel
      rcases Nat.eq_zero_or_pos k with hk0 | hk0
      · subst hk0
        have HF : Hid (Own wr base (.slice (some ⟨b, 0, none⟩) 0 cap) (toI (trim xs))) := by
          have e : trim xs = xs.take 0 := by
            unfold trim
            rw [← HV.out]
            exact dig_val (nrm_take hl 0 (by omega) (fun h => absurd h (by omega)))
          rw [e, ← toI_take]
          exact Own.take (by rw [toI_len]; exact HO.out.old HG.out) 0 (by omega)
        clear HO
        go_wp2_with fail
        go_ret
        exact ⟨_, rfl, HG.out, HF.out⟩
      · obtain ⟨m, rfl⟩ : ∃ m, k = m + 1 := ⟨k - 1, by omega⟩
        have c1 : wr.cell? ⟨b, m, none⟩ = some (.int .i64 ((xs.getD m 0 : Nat) : Int)) := (HG.out.cell (p := ⟨b, m, none⟩) hb).trans (HC.out m (by omega))
        have d0 : decide ((0 : Int) < ((m + 1 : Nat) : Int)) = true := by simp <;> omega
        by_cases hx : xs.getD m 0 = 0
        · have HV2 : Hid (val (xs.take m) = val xs) := by
            have := HV.out
            rw [val_take_succ, hx, Nat.mul_zero, Nat.add_zero] at this
            exact this
          rw [hx] at c1
          clear HV hx
          go_wp2_with fail
          exact ⟨⟨m, by omega, rfl, HV2, HG⟩, by simp [sliceLen]⟩
        · have HF : Hid (Own wr base (.slice (some ⟨b, 0, none⟩) (m + 1) cap) (toI (trim xs))) := by
            have e : trim xs = xs.take (m + 1) := by
              unfold trim
              rw [← HV.out]
              exact dig_val (nrm_take hl (m + 1) hk (fun _ => hx))
            rw [e, ← toI_take]
            exact Own.take (by rw [toI_len]; exact HO.out.old HG.out) (m + 1) (by rw [toI_len]; exact hk)
          have d1 := beq0 _ hx
          generalize xs.getD m 0 = x at *
          clear HO
          go_wp2_with fail
          go_ret
          exact ⟨_, rfl, HG.out, HF.out⟩
set_option maxHeartbeats 1000000 in
theorem cmp_any (xs ys : List Nat) (v u : Value) (w : World) (hv : Row w v (toI xs)) (hu : Row w u (toI ys)) (ha : Nrm xs) (hb : Nrm ys) (la : xs.length ≤ 1073741824) (lb : ys.length ≤ 1073741824) :
    Calls Tryd.prog 62 #[v, u] w fun e w' => e = .returned (.int .i64 (cmpN (val xs) (val ys))) ∧ Old w w' := by
  have HV : Hid (Row w v (toI xs)) := hv
  have HU : Hid (Row w u (toI ys)) := hu
  obtain ⟨a0, cap0, rfl⟩ := hv.sliceN
  obtain ⟨a1, cap1, rfl⟩ := hu.sliceN
  clear hv hu
  by_cases hlen : xs.length = ys.length
  · have d1 : ((xs.length : Int) != (ys.length : Int)) = false := by simp; omega
    have HL : Hid (xs.length = ys.length) := hlen
    clear hlen
    go_enter Tryd.func62, Tryd.ntmps62
    go_wp2_with fail
    go_loopw [5] (fun i W => ∃ k : Nat, k ≤ xs.length ∧ i = .int .i64 ((k : Int) - 1) ∧ Hid (xs.drop k = ys.drop k) ∧ Hid (Old w W)) (fun i _ => (intOf i + 1).toNat)
    case atStart => exact ⟨xs.length, Nat.le_refl _, rfl, (by show xs.drop xs.length = ys.drop xs.length; rw [List.drop_length, HL.out, List.drop_length]), Old.refl _⟩
    case round =>
      obtain ⟨k, hk, rfl, HD, HG⟩ := hrel
      rcases Nat.eq_zero_or_pos k with hk0 | hk0
      · subst hk0
        have e : cmpN (val xs) (val ys) = 0 := by
          have : xs = ys := by simpa using HD.out
          rw [this]
          unfold cmpN
          rw [if_neg (by omega), if_neg (by omega)]
        have HE : Hid (cmpN (val xs) (val ys) = 0) := e
        clear e
        go_wp2_with fail
        go_ret
        exact ⟨congrArg (fun z => Ending.returned (.int .i64 z)) HE.out.symm, HG.out⟩
      · obtain ⟨m, rfl⟩ : ∃ m, k = m + 1 := ⟨k - 1, by omega⟩
        obtain ⟨b, o, rfl, hb1, hc1⟩ := Row.at (HV.out.old HG.out) (by omega)
        obtain ⟨b', o', rfl, hb2, hc2⟩ := Row.at (HU.out.old HG.out) (by have := HL.out; omega)
        have c1 := hc1 m (by omega)
        have c2 := hc2 m (by have := HL.out; omega)
        clear hc1 hc2
        have d0 : decide ((0 : Int) ≤ (m : Int)) = true := by simp
        have hm : m < ys.length := by have := HL.out; omega
        have em : ((m + 1 : Nat) : Int) - 1 = (m : Int) := by omega
        have LTa := cmp_at (i := m) ha.1 (by omega) HL.out HD.out
        have LTb := cmp_at (i := m) hb.1 hm HL.out.symm HD.out.symm
        have EQ := drop_step (i := m) (by omega) HL.out HD.out
        have HA : Hid (xs.getD m 0 < ys.getD m 0 → val xs < val ys) := LTa
        have HB : Hid (ys.getD m 0 < xs.getD m 0 → val ys < val xs) := LTb
        have HE : Hid (xs.getD m 0 = ys.getD m 0 → xs.drop m = ys.drop m) := EQ
        clear LTa LTb EQ HD
        generalize xs.getD m 0 = x at *
        generalize ys.getD m 0 = y at *
        rw [em]
        clear em
        rcases Nat.lt_trichotomy x y with hxy | hxy | hxy
        · have d1 : decide (x < y) = true := by simp; omega
          have HE2 : Hid (cmpN (val xs) (val ys) = -1) := by have := HA.out hxy; unfold cmpN; rw [if_pos this]; rfl
          clear hxy
          go_wp2_with fail
          go_quiet (fail)
          go_wp2_with fail
          go_ret
          exact ⟨congrArg (fun z => Ending.returned (.int .i64 z)) HE2.out.symm, HG.out.drewN _⟩
        · subst hxy
          have HE3 : Hid (xs.drop m = ys.drop m) := HE.out rfl
          clear HE HA HB
          go_wp2_with fail
          go_quiet (fail)
          go_wp2_with fail
          go_quiet (fail)
          go_wp2_with fail
          exact ⟨⟨m, by omega, rfl, HE3, HG.out.drewN _⟩, by simp [intOf]⟩
        · have d1 : decide (x < y) = false := by simp; omega
          have d2 : decide (y < x) = true := by simp; omega
          have HE2 : Hid (cmpN (val xs) (val ys) = 1) := by have := HB.out hxy; unfold cmpN; rw [if_neg (by omega), if_pos this]; rfl
          clear hxy
          go_wp2_with fail
          go_quiet (fail)
          go_wp2_with fail
          go_quiet (fail)
          go_wp2_with fail
          go_ret
          exact ⟨congrArg (fun z => Ending.returned (.int .i64 z)) HE2.out.symm, (HG.out.drewN _).drewN _⟩
  · have d1 : ((xs.length : Int) != (ys.length : Int)) = true := by simp; omega
    by_cases hlt : xs.length < ys.length
    · have d2 : decide ((xs.length : Int) < (ys.length : Int)) = true := dlt_yes (by omega)
      have e : cmpN (val xs) (val ys) = -1 := by unfold cmpN; rw [if_pos (cmp_short ha hb hlt)]
      rw [e]
      go_enter Tryd.func62, Tryd.ntmps62
      go_wp2_with fail
      go_ret
      exact ⟨rfl, Old.refl _⟩
    · have d2 : decide ((xs.length : Int) < (ys.length : Int)) = false := dlt_no (by omega)
      have e : cmpN (val xs) (val ys) = 1 := by
        have := cmp_short hb ha (by omega)
        unfold cmpN; rw [if_neg (by omega), if_pos this]
      rw [e]
      go_enter Tryd.func62, Tryd.ntmps62
      go_wp2_with fail
      go_ret
      exact ⟨rfl, Old.refl _⟩
end Go.Proofs.YtjedpceiimceoaaDoor
/- Proved: contracts of the model's functions on limbs: adding and taking away. -/
namespace Go.Proofs.YtjedpceiimceoaaDoor
open Go.ChangeShapes Go.WideShapes Go.ChangeAt Go.RowKit
open M2
set_option linter.unusedVariables false
set_option linter.unusedSimpArgs false
theorem one_cellW (w : World) (x : Value) (t : TypeId) : ∀ j u, [x][j]? = some u → (w.alloc (.cells #[x] t)).cell? ((⟨w.heap.size, 0, none⟩ : Addr).add j) = some u := by
  intro j u hj
  match j, hj with
  | 0, hj => simp at hj; subst hj; simp [Addr.add]
theorem one_oneW (x : Int) : ∀ u ∈ [Value.int .i64 x], u.oneCell' = true := by intro u hu; simp at hu; subst hu; rfl
theorem Own.snocW {w : World} {base : Nat} {v : Value} {xs : List Nat} {y : Nat} (h : w.ownsRow base 3 1 v ((toI xs).length + 1) ((toI xs).map (Value.int .i64) ++ [.int .i64 (y : Int)])) : Own w base v (toI (xs ++ [y])) := by
  unfold Own
  rw [toI_append]
  simpa [toI] using h
theorem Old.growW {a b c : World} {v : Value} {xs : List Value} {n : Nat} (h : Old a b) (ho : b.ownsRow a.heap.size 3 1 v n xs) (g : b.grownBy c v.ownBlock) : Old a c :=
  Below.grown h g h.size (fun k hk => (ho.lt k hk).1)
set_option maxHeartbeats 2000000 in
theorem add_any (xs ys : List Nat) (v u : Value) (w : World) (hv : Row w v (toI xs)) (hu : Row w u (toI ys)) (ha : Lim xs) (hb : Lim ys) (la : xs.length ≤ 1048576) (lb : ys.length ≤ 1048576) :
    Calls Tryd.prog 54 #[v, u] w fun e w' => ∃ v', e = .returned v' ∧ Old w w' ∧ Own w' w.heap.size v' (toI (dig (val xs + val ys))) := by
  obtain ⟨i0, hi, hz0, hz1, hz2⟩ := info_parts Tryd.infoInt
  have HV : Hid (Row w v (toI xs)) := hv
  have HU : Hid (Row w u (toI ys)) := hu
  obtain ⟨a0, cap0, rfl⟩ := hv.sliceN
  obtain ⟨a1, cap1, rfl⟩ := hu.sliceN
  clear hv hu
  go_enter Tryd.func54, Tryd.ntmps54
  go_wp2_with fail
  go_loopw [5, 6, 7] (fun o c i W => ∃ (k : Nat) (out : List Nat) (cc : Nat), (k + cc ≤ 1048577 ∧ cc ≤ 1) ∧ i = .int .i64 k ∧ c = .int .i64 cc ∧ Hid (AddI xs ys k out cc) ∧ Hid (Own W w.heap.size o (toI out)) ∧ Hid (Old w W)) (fun _ c i _ => 2 * ((max xs.length ys.length) - (intOf i).toNat) + (intOf c).toNat)
  case atStart => exact ⟨0, [], 0, ⟨by omega, by omega⟩, rfl, rfl, AddI.start xs ys, World.ownsRow_nil _ _ _ _, Old.refl _⟩
  case round =>
    obtain ⟨k, out, cc, ⟨hk, hcc⟩, rfl, rfl, HI, HO, HG⟩ := hrel
    have hx := ha.getD k
    have hy := hb.getD k
    have STEP := HI.out.step ha hb
    have HS : Hid (AddI xs ys (k + 1) (out ++ [(cc + xs.getD k 0 + ys.getD k 0) % LB]) ((cc + xs.getD k 0 + ys.getD k 0) / LB)) := STEP
    clear STEP
    by_cases h1 : k < xs.length
    · obtain ⟨b, o, rfl, hb1, hc1⟩ := Row.at (HV.out.old HG.out) (by omega)
      have c1 := hc1 k h1
      clear hc1
      by_cases h2 : k < ys.length
      · obtain ⟨b', o', rfl, hb2, hc2⟩ := Row.at (HU.out.old HG.out) (by omega)
        have c2 := hc2 k h2
        clear hc2
        generalize xs.getD k 0 = x at *
        generalize ys.getD k 0 = y at *
        generalize hR : (cc + x + y) % LB = R at *
        generalize hQ : (cc + x + y) / LB = Q at *
        unfold LB at hR hQ hx hy
        have e3 : ((cc : Int) + (x : Int) + (y : Int)) % 268435456 = (R : Int) := by omega
        have e4 : ((cc : Int) + (x : Int) + (y : Int)) / 268435456 = (Q : Int) := by omega
        have hQ1 : Q ≤ 1 := by omega
        clear hR hQ
        go_wp2_with (at_builtin; refine wpList_append_own _ rfl _ _ 57 rfl w.heap.size 3 i0 (.int .i64 0) 1 8 Tryd.underlying57 hi hz0 hz1 hz2 rfl (by decide) _ _ _ rfl (HO.out.alloc _) ⟨wr.heap.size, 0, none⟩ 1 1 [.int .i64 (R : Int)] rfl rfl (one_cellW _ _ _) (one_oneW _) (by rw [toI_len, HI.out.len]; unfold maxLen; omega) (by rw [toI_len, HI.out.len]; omega) (by have := HG.out.size; simp; omega) ?_; intro v' w1 hown hgrow _; have HO2 : Hid (Own w1 w.heap.size v' (toI (out ++ [R]))) := Own.snocW hown; have HG2 : Hid (Old w w1) := Old.growW (HG.out.alloc _) (HO.out.alloc _) hgrow; clear hown hgrow)
        exact ⟨⟨k + 1, out ++ [R], Q, ⟨by omega, hQ1⟩, by go_num, by first | rw [e4] | (rw [hQ0 hcc]; rfl), HS, HO2, HG2⟩, by simp [intOf]; omega⟩
      · have ey0 : ys.getD k 0 = 0 := by simp [List.getD, List.getElem?_eq_none (show ys.length ≤ k by omega)]
        generalize xs.getD k 0 = x at *
        rw [ey0] at HS
        clear ey0 hy
        generalize hR : (cc + x + 0) % LB = R at *
        generalize hQ : (cc + x + 0) / LB = Q at *
        unfold LB at hR hQ hx
        have e3 : ((cc : Int) + (x : Int)) % 268435456 = (R : Int) := by omega
        have e4 : ((cc : Int) + (x : Int)) / 268435456 = (Q : Int) := by omega
        have hQ1 : Q ≤ 1 := by omega
        clear hR hQ
        go_wp2_with (at_builtin; refine wpList_append_own _ rfl _ _ 57 rfl w.heap.size 3 i0 (.int .i64 0) 1 8 Tryd.underlying57 hi hz0 hz1 hz2 rfl (by decide) _ _ _ rfl (HO.out.alloc _) ⟨wr.heap.size, 0, none⟩ 1 1 [.int .i64 (R : Int)] rfl rfl (one_cellW _ _ _) (one_oneW _) (by rw [toI_len, HI.out.len]; unfold maxLen; omega) (by rw [toI_len, HI.out.len]; omega) (by have := HG.out.size; simp; omega) ?_; intro v' w1 hown hgrow _; have HO2 : Hid (Own w1 w.heap.size v' (toI (out ++ [R]))) := Own.snocW hown; have HG2 : Hid (Old w w1) := Old.growW (HG.out.alloc _) (HO.out.alloc _) hgrow; clear hown hgrow)
        exact ⟨⟨k + 1, out ++ [R], Q, ⟨by omega, hQ1⟩, by go_num, by first | rw [e4] | (rw [hQ0 hcc]; rfl), HS, HO2, HG2⟩, by simp [intOf]; omega⟩
    · by_cases h2 : k < ys.length
      · obtain ⟨b', o', rfl, hb2, hc2⟩ := Row.at (HU.out.old HG.out) (by omega)
        have c2 := hc2 k h2
        clear hc2
        have ex0 : xs.getD k 0 = 0 := by simp [List.getD, List.getElem?_eq_none (show xs.length ≤ k by omega)]
        rw [ex0] at HS
        clear ex0 hx
        generalize ys.getD k 0 = y at *
        generalize hR : (cc + 0 + y) % LB = R at *
        generalize hQ : (cc + 0 + y) / LB = Q at *
        unfold LB at hR hQ hy
        have e3 : ((cc : Int) + (y : Int)) % 268435456 = (R : Int) := by omega
        have e4 : ((cc : Int) + (y : Int)) / 268435456 = (Q : Int) := by omega
        have hQ1 : Q ≤ 1 := by omega
        clear hR hQ
        go_wp2_with (at_builtin; refine wpList_append_own _ rfl _ _ 57 rfl w.heap.size 3 i0 (.int .i64 0) 1 8 Tryd.underlying57 hi hz0 hz1 hz2 rfl (by decide) _ _ _ rfl (HO.out.alloc _) ⟨wr.heap.size, 0, none⟩ 1 1 [.int .i64 (R : Int)] rfl rfl (one_cellW _ _ _) (one_oneW _) (by rw [toI_len, HI.out.len]; unfold maxLen; omega) (by rw [toI_len, HI.out.len]; omega) (by have := HG.out.size; simp; omega) ?_; intro v' w1 hown hgrow _; have HO2 : Hid (Own w1 w.heap.size v' (toI (out ++ [R]))) := Own.snocW hown; have HG2 : Hid (Old w w1) := Old.growW (HG.out.alloc _) (HO.out.alloc _) hgrow; clear hown hgrow)
        exact ⟨⟨k + 1, out ++ [R], Q, ⟨by omega, hQ1⟩, by go_num, by first | rw [e4] | (rw [hQ0 hcc]; rfl), HS, HO2, HG2⟩, by simp [intOf]; omega⟩
      · rcases Nat.eq_zero_or_pos cc with hc0 | hc0
        · subst hc0
          have HT : Hid (trim out = dig (val xs + val ys)) := HI.out.done (by omega) (by omega) rfl
          have HL : Hid (Lim out ∧ out.length = k) := ⟨HI.out.lim, HI.out.len⟩
          clear HS HI
          go_wp2_with fail
          refine (trim_any out _ w.heap.size _ HO.out HL.out.1 (by have := HL.out.2; omega)).mono ?_
          rintro e w1 ⟨v', rfl, g1, o1⟩
          have HG2 : Hid (Old w w1) := Old.trans HG.out g1
          have HO2 : Hid (Own w1 w.heap.size v' (toI (trim out))) := o1
          clear g1 o1
          go_wp2_with fail
          go_ret
          exact ⟨_, rfl, HG2.out, by rw [← HT.out]; exact HO2.out⟩
        · have ex0 : xs.getD k 0 = 0 := by simp [List.getD, List.getElem?_eq_none (show xs.length ≤ k by omega)]
          have ey0 : ys.getD k 0 = 0 := by simp [List.getD, List.getElem?_eq_none (show ys.length ≤ k by omega)]
          rw [ex0] at HS
          clear ex0 hx
          rw [ey0] at HS
          clear ey0 hy
          generalize hR : (cc + 0 + 0) % LB = R at *
          generalize hQ : (cc + 0 + 0) / LB = Q at *
          unfold LB at hR hQ
          have e3 : ((cc : Int)) % 268435456 = (R : Int) := by omega
          have e4 : ((cc : Int)) / 268435456 = (Q : Int) := by omega
          have hQ1 : Q ≤ 1 := by omega
          have hQ0 : cc ≤ 1 → Q = 0 := by omega
          clear hR hQ
          have dc : decide (0 < cc) = true := by simp; omega
          go_wp2_with (at_builtin; refine wpList_append_own _ rfl _ _ 57 rfl w.heap.size 3 i0 (.int .i64 0) 1 8 Tryd.underlying57 hi hz0 hz1 hz2 rfl (by decide) _ _ _ rfl (HO.out.alloc _) ⟨wr.heap.size, 0, none⟩ 1 1 [.int .i64 (R : Int)] rfl rfl (one_cellW _ _ _) (one_oneW _) (by rw [toI_len, HI.out.len]; unfold maxLen; omega) (by rw [toI_len, HI.out.len]; omega) (by have := HG.out.size; simp; omega) ?_; intro v' w1 hown hgrow _; have HO2 : Hid (Own w1 w.heap.size v' (toI (out ++ [R]))) := Own.snocW hown; have HG2 : Hid (Old w w1) := Old.growW (HG.out.alloc _) (HO.out.alloc _) hgrow; clear hown hgrow)
          exact ⟨⟨k + 1, out ++ [R], Q, ⟨by omega, hQ1⟩, by go_num, by first | rw [e4] | (rw [hQ0 hcc]; rfl), HS, HO2, HG2⟩, by simp [intOf]; omega⟩
end Go.Proofs.YtjedpceiimceoaaDoor
/- Proved: the contract of the model's function that takes limbs away from limbs. -/
namespace Go.Proofs.YtjedpceiimceoaaDoor
open Go.ChangeShapes Go.WideShapes Go.ChangeAt Go.RowKit
open M2
set_option linter.unusedVariables false
set_option linter.unusedSimpArgs false
set_option maxHeartbeats 2000000 in
theorem sub_any (xs ys : List Nat) (v u : Value) (w : World) (hv : Row w v (toI xs)) (hu : Row w u (toI ys)) (ha : Nrm xs) (hb : Nrm ys) (la : xs.length ≤ 1048576) (lb : ys.length ≤ 1048576) (hle : val ys ≤ val xs) :
    Calls Tryd.prog 55 #[v, u] w fun e w' => ∃ v', e = .returned v' ∧ Old w w' ∧ Own w' w.heap.size v' (toI (dig (val xs - val ys))) := by
  obtain ⟨i0, hi, hz0, hz1, hz2⟩ := info_parts Tryd.infoInt
  have hyx := nrm_len_le ha hb hle
  have HLE : Hid (val ys ≤ val xs) := hle
  have HV : Hid (Row w v (toI xs)) := hv
  have HU : Hid (Row w u (toI ys)) := hu
  obtain ⟨a0, cap0, rfl⟩ := hv.sliceN
  obtain ⟨a1, cap1, rfl⟩ := hu.sliceN
  clear hv hu hle
  go_enter Tryd.func55, Tryd.ntmps55
  go_wp2_with fail
  go_loopw [5, 6, 11] (fun o c i W => ∃ (k : Nat) (out : List Nat) (cc : Nat), (k ≤ xs.length ∧ cc ≤ 1) ∧ i = .int .i64 k ∧ c = .int .i64 cc ∧ Hid (SubI xs ys k out cc) ∧ Hid (Own W w.heap.size o (toI out)) ∧ Hid (Old w W)) (fun _ _ i _ => xs.length - (intOf i).toNat)
  case atStart => exact ⟨0, [], 0, ⟨by omega, by omega⟩, rfl, rfl, SubI.start xs ys, World.ownsRow_nil _ _ _ _, Old.refl _⟩
  case round =>
    obtain ⟨k, out, cc, ⟨hk, hcc⟩, rfl, rfl, HI, HO, HG⟩ := hrel
    by_cases h1 : k < xs.length
    · obtain ⟨b, o, rfl, hb1, hc1⟩ := Row.at (HV.out.old HG.out) (by omega)
      have c1 := hc1 k h1
      clear hc1
      have hx := ha.1.getD k
      have hy := hb.1.getD k
      have S0 := HI.out.stepNo ha.1
      have S1 := HI.out.stepYes ha.1 hb.1
      have H0 : Hid (cc + ys.getD k 0 ≤ xs.getD k 0 → SubI xs ys (k + 1) (out ++ [xs.getD k 0 - cc - ys.getD k 0]) 0) := S0
      have H1 : Hid (xs.getD k 0 < cc + ys.getD k 0 → SubI xs ys (k + 1) (out ++ [xs.getD k 0 + LB - cc - ys.getD k 0]) 1) := S1
      clear S0 S1
      by_cases h2 : k < ys.length
      · obtain ⟨b', o', rfl, hb2, hc2⟩ := Row.at (HU.out.old HG.out) (by omega)
        have c2 := hc2 k h2
        clear hc2
        generalize xs.getD k 0 = x at *
        generalize ys.getD k 0 = y at *
        unfold LB at hx hy H1
        by_cases hd : cc + y ≤ x
        · have HS : Hid (SubI xs ys (k + 1) (out ++ [x - cc - y]) 0) := H0.out hd
          generalize hD : x - cc - y = D at *
          have e1 : (x : Int) - (cc : Int) - (y : Int) = (D : Int) := by omega
          have d1 : decide ((D : Int) < 0) = false := by simp
          clear H0 H1 hd hD
          go_wp2_with (at_builtin; refine wpList_append_own _ rfl _ _ 57 rfl w.heap.size 3 i0 (.int .i64 0) 1 8 Tryd.underlying57 hi hz0 hz1 hz2 rfl (by decide) _ _ _ rfl (HO.out.alloc _) ⟨wr.heap.size, 0, none⟩ 1 1 [.int .i64 (D : Int)] rfl rfl (one_cellW _ _ _) (one_oneW _) (by rw [toI_len, HI.out.len]; unfold maxLen; omega) (by rw [toI_len, HI.out.len]; omega) (by have := HG.out.size; simp; omega) ?_; intro v' w1 hown hgrow _; have HO2 : Hid (Own w1 w.heap.size v' (toI (out ++ [D]))) := Own.snocW hown; have HG2 : Hid (Old w w1) := Old.growW (HG.out.alloc _) (HO.out.alloc _) hgrow; clear hown hgrow)
          exact ⟨⟨k + 1, out ++ [D], 0, ⟨by omega, by omega⟩, by go_num, rfl, HS, HO2, HG2⟩, by simp [intOf]; omega⟩
        · have HS : Hid (SubI xs ys (k + 1) (out ++ [x + 268435456 - cc - y]) 1) := H1.out (by omega)
          generalize hD : x + 268435456 - cc - y = D at *
          have e1 : (x : Int) - (cc : Int) - (y : Int) + 268435456 = (D : Int) := by omega
          have d1 : decide ((x : Int) - (cc : Int) - (y : Int) < 0) = true := by simp; omega
          clear H0 H1 hd hD
          go_wp2_with (at_builtin; refine wpList_append_own _ rfl _ _ 57 rfl w.heap.size 3 i0 (.int .i64 0) 1 8 Tryd.underlying57 hi hz0 hz1 hz2 rfl (by decide) _ _ _ rfl (HO.out.alloc _) ⟨wr.heap.size, 0, none⟩ 1 1 [.int .i64 (D : Int)] rfl rfl (one_cellW _ _ _) (one_oneW _) (by rw [toI_len, HI.out.len]; unfold maxLen; omega) (by rw [toI_len, HI.out.len]; omega) (by have := HG.out.size; simp; omega) ?_; intro v' w1 hown hgrow _; have HO2 : Hid (Own w1 w.heap.size v' (toI (out ++ [D]))) := Own.snocW hown; have HG2 : Hid (Old w w1) := Old.growW (HG.out.alloc _) (HO.out.alloc _) hgrow; clear hown hgrow)
          exact ⟨⟨k + 1, out ++ [D], 1, ⟨by omega, by omega⟩, by go_num, rfl, HS, HO2, HG2⟩, by simp [intOf]; omega⟩
      · have ey0 : ys.getD k 0 = 0 := by simp [List.getD, List.getElem?_eq_none (show ys.length ≤ k by omega)]
        rw [ey0] at H0 H1
        clear ey0 hy
        generalize xs.getD k 0 = x at *
        unfold LB at hx H1
        by_cases hd : cc + 0 ≤ x
        · have HS : Hid (SubI xs ys (k + 1) (out ++ [x - cc - 0]) 0) := H0.out hd
          generalize hD : x - cc - 0 = D at *
          have e1 : (x : Int) - (cc : Int) = (D : Int) := by omega
          have d1 : decide ((D : Int) < 0) = false := by simp
          clear H0 H1 hd hD
          go_wp2_with (at_builtin; refine wpList_append_own _ rfl _ _ 57 rfl w.heap.size 3 i0 (.int .i64 0) 1 8 Tryd.underlying57 hi hz0 hz1 hz2 rfl (by decide) _ _ _ rfl (HO.out.alloc _) ⟨wr.heap.size, 0, none⟩ 1 1 [.int .i64 (D : Int)] rfl rfl (one_cellW _ _ _) (one_oneW _) (by rw [toI_len, HI.out.len]; unfold maxLen; omega) (by rw [toI_len, HI.out.len]; omega) (by have := HG.out.size; simp; omega) ?_; intro v' w1 hown hgrow _; have HO2 : Hid (Own w1 w.heap.size v' (toI (out ++ [D]))) := Own.snocW hown; have HG2 : Hid (Old w w1) := Old.growW (HG.out.alloc _) (HO.out.alloc _) hgrow; clear hown hgrow)
          exact ⟨⟨k + 1, out ++ [D], 0, ⟨by omega, by omega⟩, by go_num, rfl, HS, HO2, HG2⟩, by simp [intOf]; omega⟩
        · have HS : Hid (SubI xs ys (k + 1) (out ++ [x + 268435456 - cc - 0]) 1) := H1.out (by omega)
          generalize hD : x + 268435456 - cc - 0 = D at *
          have e1 : (x : Int) - (cc : Int) + 268435456 = (D : Int) := by omega
          have d1 : decide ((x : Int) - (cc : Int) < 0) = true := by simp; omega
          clear H0 H1 hd hD
          go_wp2_with (at_builtin; refine wpList_append_own _ rfl _ _ 57 rfl w.heap.size 3 i0 (.int .i64 0) 1 8 Tryd.underlying57 hi hz0 hz1 hz2 rfl (by decide) _ _ _ rfl (HO.out.alloc _) ⟨wr.heap.size, 0, none⟩ 1 1 [.int .i64 (D : Int)] rfl rfl (one_cellW _ _ _) (one_oneW _) (by rw [toI_len, HI.out.len]; unfold maxLen; omega) (by rw [toI_len, HI.out.len]; omega) (by have := HG.out.size; simp; omega) ?_; intro v' w1 hown hgrow _; have HO2 : Hid (Own w1 w.heap.size v' (toI (out ++ [D]))) := Own.snocW hown; have HG2 : Hid (Old w w1) := Old.growW (HG.out.alloc _) (HO.out.alloc _) hgrow; clear hown hgrow)
          exact ⟨⟨k + 1, out ++ [D], 1, ⟨by omega, by omega⟩, by go_num, rfl, HS, HO2, HG2⟩, by simp [intOf]; omega⟩
    · obtain rfl : k = xs.length := by omega
      have HT : Hid (trim out = dig (val xs - val ys)) := HI.out.done rfl hyx HLE.out
      have HL : Hid (Lim out ∧ out.length = xs.length) := ⟨HI.out.lim, HI.out.len⟩
      clear HI
      go_wp2_with fail
      refine (trim_any out _ w.heap.size _ HO.out HL.out.1 (by have := HL.out.2; omega)).mono ?_
      rintro e w1 ⟨v', rfl, g1, o1⟩
      have HG2 : Hid (Old w w1) := Old.trans HG.out g1
      have HO2 : Hid (Own w1 w.heap.size v' (toI (trim out))) := o1
      clear g1 o1
      go_wp2_with fail
      go_ret
      exact ⟨_, rfl, HG2.out, by rw [← HT.out]; exact HO2.out⟩
end Go.Proofs.YtjedpceiimceoaaDoor
/- Proved: contracts of the model's functions on limbs: of a word, what is left by a word, doubling. -/
namespace Go.Proofs.YtjedpceiimceoaaDoor
open Go.ChangeShapes Go.WideShapes Go.ChangeAt Go.RowKit
open M2
set_option linter.unusedVariables false
set_option linter.unusedSimpArgs false
set_option maxHeartbeats 2000000 in
theorem word_any (xs : List Nat) (m : Nat) (v : Value) (w : World) (hv : Row w v (toI xs)) (hx : Lim xs) (la : xs.length ≤ 1048576) (hm : 1 ≤ m) (hm' : m ≤ 268435456) :
    Calls Tryd.prog 41 #[v, .int .i64 m] w fun e w' => e = .returned (.int .i64 ((val xs % m : Nat) : Int)) ∧ Old w w' := by
  have HV : Hid (Row w v (toI xs)) := hv
  obtain ⟨a0, cap0, rfl⟩ := hv.sliceN
  clear hv
  have hmn : ¬ m = 0 := by omega
  go_enter Tryd.func41, Tryd.ntmps41
  go_wp2_with fail
  go_loopw [5, 6] (fun r i W => ∃ (k r' : Nat), (k ≤ xs.length ∧ r' < m) ∧ r = .int .i64 r' ∧ i = .int .i64 ((k : Int) - 1) ∧ Hid (r' = val (xs.drop k) % m) ∧ Hid (Old w W)) (fun _ i _ => (intOf i + 1).toNat)
  case atStart => exact ⟨xs.length, 0, ⟨Nat.le_refl _, by omega⟩, rfl, rfl, (by show 0 = val (xs.drop xs.length) % m; rw [List.drop_length]; rfl), Old.refl _⟩
  case round =>
    obtain ⟨k, r, ⟨hk, hr⟩, rfl, rfl, HD, HG⟩ := hrel
    rcases Nat.eq_zero_or_pos k with hk0 | hk0
    · subst hk0
      have HE : Hid (r = val xs % m) := HD.out
      clear HD
      go_wp2_with fail
      go_ret
      exact ⟨congrArg (fun (z : Nat) => Ending.returned (.int .i64 (z : Int))) HE.out, HG.out⟩
    · obtain ⟨j, rfl⟩ : ∃ j, k = j + 1 := ⟨k - 1, by omega⟩
      obtain ⟨b, o, rfl, hb1, hc1⟩ := Row.at (HV.out.old HG.out) (by omega)
      have c1 := hc1 j (by omega)
      clear hc1
      have hxj := hx.getD j
      have HS : Hid ((r * LB + xs.getD j 0) % m = val (xs.drop j) % m) := by rw [HD.out]; exact word_step xs j m (by omega)
      have em : ((j + 1 : Nat) : Int) - 1 = (j : Int) := by omega
      generalize xs.getD j 0 = x at *
      rw [em]
      unfold LB at HS hxj
      have hlt : (r * 268435456 + x) % m < m := Nat.mod_lt _ (by omega)
      generalize hR : (r * 268435456 + x) % m = R at *
      have e3 : ((r : Int) * 268435456 + (x : Int)) % (m : Int) = (R : Int) := by rw [← hR]; simp
      clear hR em HD
      go_wp2_with fail
      exact ⟨⟨j, R, ⟨by omega, hlt⟩, by rw [e3], by go_num, HS, HG⟩, by simp [intOf]⟩
set_option maxHeartbeats 2000000 in
theorem shift_any (xs : List Nat) (bit : Nat) (v : Value) (w : World) (hv : Row w v (toI xs)) (hx : Nrm xs) (la : xs.length ≤ 1048576) (hbit : bit ≤ 1) :
    Calls Tryd.prog 61 #[v, .int .i64 bit] w fun e w' => ∃ v', e = .returned v' ∧ Old w w' ∧ Own w' w.heap.size v' (toI (dig (2 * val xs + bit))) := by
  obtain ⟨i0, hi, hz0, hz1, hz2⟩ := info_parts Tryd.infoInt
  have HV : Hid (Row w v (toI xs)) := hv
  obtain ⟨a0, cap0, rfl⟩ := hv.sliceN
  clear hv
  go_enter Tryd.func61, Tryd.ntmps61
  go_wp2_with fail
  go_loopw [1, 5, 10] (fun c o i W => ∃ (k : Nat) (out : List Nat) (cc : Nat), (k ≤ xs.length ∧ cc ≤ 1) ∧ i = .int .i64 k ∧ c = .int .i64 cc ∧ Hid (ShI xs bit k out cc) ∧ Hid (Own W w.heap.size o (toI out)) ∧ Hid (Old w W)) (fun _ _ i _ => xs.length - (intOf i).toNat)
  case atStart => exact ⟨0, [], bit, ⟨by omega, hbit⟩, rfl, rfl, ShI.start xs bit hbit, World.ownsRow_nil _ _ _ _, Old.refl _⟩
  case round =>
    obtain ⟨k, out, cc, ⟨hk, hcc⟩, rfl, rfl, HI, HO, HG⟩ := hrel
    by_cases h1 : k < xs.length
    · obtain ⟨b, o, rfl, hb1, hc1⟩ := Row.at (HV.out.old HG.out) (by omega)
      have c1 := hc1 k h1
      clear hc1
      have hxk := hx.1.getD k
      have HS : Hid (ShI xs bit (k + 1) (out ++ [(cc + 2 * xs.getD k 0) % LB]) ((cc + 2 * xs.getD k 0) / LB)) := HI.out.step hx.1
      generalize xs.getD k 0 = x at *
      generalize hR : (cc + 2 * x) % LB = R at *
      generalize hQ : (cc + 2 * x) / LB = Q at *
      unfold LB at hR hQ hxk
      have e3 : ((cc : Int) + 2 * (x : Int)) % 268435456 = (R : Int) := by omega
      have e4 : ((cc : Int) + 2 * (x : Int)) / 268435456 = (Q : Int) := by omega
      have hQ1 : Q ≤ 1 := by omega
      clear hR hQ
      go_wp2_with (at_builtin; refine wpList_append_own _ rfl _ _ 57 rfl w.heap.size 3 i0 (.int .i64 0) 1 8 Tryd.underlying57 hi hz0 hz1 hz2 rfl (by decide) _ _ _ rfl (HO.out.alloc _) ⟨wr.heap.size, 0, none⟩ 1 1 [.int .i64 (R : Int)] rfl rfl (one_cellW _ _ _) (one_oneW _) (by rw [toI_len]; rw [HI.out.len]; unfold maxLen; omega) (by rw [toI_len]; rw [HI.out.len]; omega) (by have := HG.out.size; simp; omega) ?_; intro v' w1 hown hgrow _; have HO2 : Hid (Own w1 w.heap.size v' (toI (out ++ [R]))) := Own.snocW hown; have HG2 : Hid (Old w w1) := Old.growW (HG.out.alloc _) (HO.out.alloc _) hgrow; clear hown hgrow)
      exact ⟨⟨k + 1, out ++ [R], Q, ⟨by omega, hQ1⟩, by go_num, by rw [e4], HS, HO2, HG2⟩, by simp [intOf]; omega⟩
    · obtain rfl : k = xs.length := by omega
      rcases Nat.eq_zero_or_pos cc with hc0 | hc0
      · subst hc0
        have HT : Hid (out = dig (2 * val xs + bit)) := HI.out.no hx rfl
        clear HI
        go_wp2_with fail
        go_ret
        exact ⟨_, rfl, HG.out, by rw [← HT.out]; exact HO.out⟩
      · have HT : Hid (out ++ [cc] = dig (2 * val xs + bit)) := HI.out.yes hc0
        have d0 : decide (0 < cc) = true := by simp; omega
        go_wp2_with (at_builtin; refine wpList_append_own _ rfl _ _ 57 rfl w.heap.size 3 i0 (.int .i64 0) 1 8 Tryd.underlying57 hi hz0 hz1 hz2 rfl (by decide) _ _ _ rfl (HO.out.alloc _) ⟨wr.heap.size, 0, none⟩ 1 1 [.int .i64 (cc : Int)] rfl rfl (one_cellW _ _ _) (one_oneW _) (by rw [toI_len]; rw [HI.out.len]; unfold maxLen; omega) (by rw [toI_len]; rw [HI.out.len]; omega) (by have := HG.out.size; simp; omega) ?_; intro v' w1 hown hgrow _; have HO2 : Hid (Own w1 w.heap.size v' (toI (out ++ [cc]))) := Own.snocW hown; have HG2 : Hid (Old w w1) := Old.growW (HG.out.alloc _) (HO.out.alloc _) hgrow; clear hown hgrow)
        go_ret
        exact ⟨_, rfl, HG2.out, by rw [← HT.out]; exact HO2.out⟩
end Go.Proofs.YtjedpceiimceoaaDoor
/- Proved: the contract of the model's product of limbs. -/
namespace Go.Proofs.YtjedpceiimceoaaDoor
open Go.ChangeShapes Go.WideShapes Go.ChangeAt Go.RowKit
open M2
set_option linter.unusedVariables false
set_option linter.unusedSimpArgs false
abbrev OwnAt (w : World) (base g n : Nat) (xs : List Nat) : Prop := w.ownsRow base 3 1 (.slice (some ⟨g, 0, none⟩) n n) n ((toI xs).map (Value.int .i64))
theorem OwnAt.get {w : World} {base g n : Nat} {xs : List Nat} (h : OwnAt w base g n xs) (hn : xs.length = n) (j : Nat) (hj : j < n) : w.cell? ⟨g, j, none⟩ = some (.int .i64 ((xs.getD j 0 : Nat) : Int)) := by
  rw [World.ownsRow.cellAt h j (by omega), ← toI_get]
  have : j < (toI xs).length := by rw [toI_len]; omega
  simp [List.getD, this]
theorem OwnAt.free {w : World} {base g n : Nat} {xs : List Nat} (h : OwnAt w base g n xs) (j : Nat) : w.frozen? ⟨g, j, none⟩ = false := World.ownsRow.frozenAt h j
theorem OwnAt.put {w : World} {base g n : Nat} {xs : List Nat} (h : OwnAt w base g n xs) (j y : Nat) : OwnAt (w.setCell ⟨g, j, none⟩ (.int .i64 (y : Int))) base g n (xs.set j y) := by
  have := (World.ownsRow.stored h j (.int .i64 (y : Int))).1
  unfold OwnAt
  have e : toI (xs.set j y) = (toI xs).set j (y : Int) := by simp [toI, List.map_set]
  rw [e, List.map_set]
  exact this
theorem OwnAt.own {w : World} {base g n : Nat} {xs : List Nat} (h : OwnAt w base g n xs) (hn : xs.length = n) : Own w base (.slice (some ⟨g, 0, none⟩) n n) (toI xs) := by
  unfold Own
  rw [toI_len, hn]
  exact h
theorem made_nats (n : Nat) : (madeCells (Value.int .i64 0).cells (n * 1)).toList = (toI (List.replicate n 0)).map (Value.int .i64) := by
  rw [made_ints]
  simp [toI]
end Go.Proofs.YtjedpceiimceoaaDoor
/- Proved: the contract of the model's division of limbs by one limb. -/
namespace Go.Proofs.YtjedpceiimceoaaDoor
open Go.ChangeShapes Go.WideShapes Go.ChangeAt Go.RowKit
open M2
set_option linter.unusedVariables false
set_option linter.unusedSimpArgs false
set_option maxHeartbeats 4000000 in
theorem div1_any (xs : List Nat) (d : Nat) (v u : Value) (w : World) (hv : Row w v (toI xs)) (hu : Row w u (toI [d])) (ha : Lim xs) (hd : 1 ≤ d) (hd' : d < 268435456) (la : xs.length ≤ 1048576) :
    Calls Tryd.prog 39 #[v, u] w fun e w' => ∃ v1 v2, e = .returned (.tuple #[v1, v2]) ∧ Old w w' ∧ Own w' w.heap.size v1 (toI (dig (val xs / d))) ∧ Own w' w.heap.size v2 (toI (dig (val xs % d))) := by
  obtain ⟨i0, hi, hz0, hz1, hz2⟩ := info_parts Tryd.infoInt
  have HV : Hid (Row w v (toI xs)) := hv
  obtain ⟨a0, cap0, rfl⟩ := hv.sliceN
  obtain ⟨b', o', cap1, rfl, hb2, hc2⟩ : ∃ b o cap, u = .slice (some ⟨b, o, none⟩) 1 cap ∧ b < w.heap.size ∧ w.cell? ⟨b, o, none⟩ = some (.int .i64 (d : Int)) := by
    obtain ⟨a1, cap1, rfl⟩ := hu.sliceN
    obtain ⟨b, o, rfl, hb, hc⟩ := Row.at hu (by simp)
    exact ⟨b, o, cap1, rfl, hb, hc 0 (by simp)⟩
  clear hv hu
  have hdn : ¬ d = 0 := by omega
  obtain ⟨n, hn⟩ : ∃ n, n = xs.length := ⟨_, rfl⟩
  have HN : Hid (n = xs.length) := hn
  rw [← hn]
  have hn' : n ≤ 1048576 := by omega
  clear hn
  go_enter Tryd.func39, Tryd.ntmps39
  go_wp2_with (at_make; refine wpList_make_full _ rfl _ _ 57 rfl w.heap.size 3 i0 (.int .i64 0) 1 Tryd.underlying57 hi hz0 hz1 .i64 .i64 _ _ n rfl rfl rfl rfl (by rw [hz2]; omega) (by unfold maxLen; omega) (Nat.le_refl _) ?_; intro w1 hown hgrow)
  rw [made_nats] at hown
  have HO : Hid (OwnAt w1 w.heap.size w.heap.size n (List.replicate n 0)) := hown
  have HG : Hid (Old w w1) := Below.grown (Below.refl _ _) hgrow (Nat.le_refl _) (fun _ h => by cases h)
  clear hown hgrow
  go_loopw [7, 8] (fun r i W => ∃ (k r' : Nat) (out : List Nat), (k ≤ n ∧ r' < d) ∧ i = .int .i64 ((k : Int) - 1) ∧ r = .int .i64 r' ∧ Hid (DivI xs d k out r') ∧ Hid (OwnAt W w.heap.size w.heap.size n out) ∧ Hid (Old w W)) (fun _ i _ => (intOf i + 1).toNat)
  case atStart => exact ⟨n, 0, List.replicate n 0, ⟨Nat.le_refl _, by omega⟩, rfl, rfl, (by rw [HN.out]; exact DivI.start xs d), HO, HG⟩
  case round =>
    obtain ⟨k, r, out, ⟨hk, hr⟩, rfl, rfl, HI, HO1, HG1⟩ := hrel
    clear HO HG
    rcases Nat.eq_zero_or_pos k with hk0 | hk0
    · subst hk0
      have HL : Hid (Lim out ∧ out.length = n) := ⟨HI.out.lim, by have := HI.out.len; rw [this]; exact HN.out.symm⟩
      have HE : Hid (trim out = dig (val xs / d) ∧ r = val xs % d) := HI.out.done
      clear HI
      rcases Nat.eq_zero_or_pos r with hr0 | hr0
      · have d0 : ((r : Int) == 0) = true := by simp; omega
        have HZ : Hid (dig (val xs % d) = []) := by rw [← HE.out.2, hr0]; exact dig_zero
        clear hr0
        go_wp2_with fail
        refine (trim_any out _ w.heap.size _ (HO1.out.own HL.out.2) HL.out.1 (by have := HL.out.2; omega)).mono ?_
        rintro e w1 ⟨v', rfl, g1, o1⟩
        have HG2 : Hid (Old w w1) := Old.trans HG1.out g1
        have HO2 : Hid (Own w1 w.heap.size v' (toI (trim out))) := o1
        clear g1 o1
        go_wp2_with fail
        go_ret2
        exact ⟨_, _, rfl, HG2.out, by rw [← HE.out.1]; exact HO2.out, by rw [HZ.out]; exact World.ownsRow_nil _ _ _ _⟩
      · have d0 := beq0 r (by omega)
        have HZ : Hid (dig (val xs % d) = [r]) := by rw [← HE.out.2]; exact dig_one r (by omega) (by unfold LB; omega)
        clear hr0
        go_wp2_with fail
        refine (trim_any out _ w.heap.size _ (HO1.out.own HL.out.2) HL.out.1 (by have := HL.out.2; omega)).mono ?_
        rintro e w1 ⟨v', rfl, g1, o1⟩
        have HG2 : Hid (Old w w1) := Old.trans HG1.out g1
        have HO2 : Hid (Own w1 w.heap.size v' (toI (trim out))) := o1
        clear g1 o1
        go_wp2_with fail
        go_ret2
        refine ⟨_, _, rfl, HG2.out.alloc _, by rw [← HE.out.1]; exact HO2.out.alloc _, ?_⟩
        rw [HZ.out]
        exact World.ownsRow_lit (base := w.heap.size) (e := 3) (size := 1) w1 #[.int .i64 (r : Int)] 1 HG2.out.size (by unfold maxLen; omega) (by simp)
    · obtain ⟨j, rfl⟩ : ∃ j, k = j + 1 := ⟨k - 1, by omega⟩
      obtain ⟨b, o, rfl, hb1, hc1⟩ := Row.at (HV.out.old HG1.out) (by have := HN.out; omega)
      have c1 := hc1 j (by have := HN.out; omega)
      clear hc1
      have c2 : wr.cell? ⟨b', o', none⟩ = some (.int .i64 (d : Int)) := (HG1.out.cell (p := ⟨b', o', none⟩) hb2).trans hc2
      have hxj := ha.getD j
      have st := HI.out.step (by omega) (by have := HN.out; omega) ha
      have HS : Hid (DivI xs d j (out.set j ((r * LB + xs.getD j 0) / d)) ((r * LB + xs.getD j 0) % d)) := st.1
      have hlt := st.2
      have hlt2 : (r * LB + xs.getD j 0) % d < d := Nat.mod_lt _ (by omega)
      have hol : out.length = n := by have := HI.out.len; rw [this]; exact HN.out.symm
      have c3 := HO1.out.get hol j (by omega)
      have c4 := HO1.out.free j
      have HP : Hid (∀ y', OwnAt (wr.setCell ⟨w.heap.size, j, none⟩ (.int .i64 ((y' : Nat) : Int))) w.heap.size w.heap.size n (out.set j y')) := fun y' => HO1.out.put j y'
      have em : ((j + 1 : Nat) : Int) - 1 = (j : Int) := by omega
      generalize xs.getD j 0 = x at *
      generalize out.getD j 0 = ov at *
      rw [em]
      have eq : ((r : Int) * 268435456 + (x : Int)) / (d : Int) = (((r * LB + x) / d : Nat) : Int) := by unfold LB; simp
      have er : ((r : Int) * 268435456 + (x : Int)) % (d : Int) = (((r * LB + x) % d : Nat) : Int) := by unfold LB; simp
      generalize (r * LB + x) / d = Q at *
      generalize (r * LB + x) % d = R at *
      unfold LB at hxj hlt
      clear st em HI hol
      go_wp2_with fail
      exact ⟨⟨j, R, out.set j Q, ⟨by omega, hlt2⟩, by go_num, by rw [er], HS, HP.out Q, HG1.out.own (Nat.le_refl _) _⟩, by simp [intOf]⟩
end Go.Proofs.YtjedpceiimceoaaDoor
