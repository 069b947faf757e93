/- Proved: several texts in one: what each proves is said ahead of it. -/
import Derived.Test.YtfcdfielbpdloaaGreatDoorC203
import Derived.Test.YtfcdfielbpdloaaGreatDoorAppd
import Derived.Test.YtfcdfielbpdloaaGreatDoorC200
/- Proved: contracts of the model's doors: a whole number in, and out where it is not too long. -/
namespace Go.Proofs.YtfcdfielbpdloaaGreatDoor
open Go.ChangeShapes Go.WideShapes Go.ChangeAt Go.RowKit
open M2
set_option linter.unusedVariables false
set_option linter.unusedSimpArgs false
theorem cell_heap {w w' : World} (h : w.heap = w'.heap) (p : Addr) : w.cell? p = w'.cell? p := World.cell?_of_block (by rw [h])
theorem fro_heap {w w' : World} (h : w.heap = w'.heap) (p : Addr) : w.frozen? p = w'.frozen? p := World.frozen?_of_block (by rw [h])
theorem Own_low' {w : World} {base base' n : Nat} {v : Value} {xs : List Value} (h : w.ownsRow base 3 1 v n xs) (hb : base' ≤ base) : w.ownsRow base' 3 1 v n xs := by
  refine ⟨h.1, ?_⟩
  rcases h.2 with hn | ⟨p, cap, cur, rfl, hb1, rest⟩
  · exact .inl hn
  · exact .inr ⟨p, cap, cur, rfl, Nat.le_trans hb hb1, rest⟩
theorem in_anyW (n : Bool) (a : Option Addr) (len cap : Nat) (w : World) :
    Calls Tryz.prog 37 #[.agg #[.bool n, .slice a len cap]] w fun e w' => e = .returned (.agg #[.bool n, .slice a len cap]) ∧ Old w w' := by
  go_enter Tryz.func37, Tryz.ntmps37
  go_wp2_with fail
  refine bodyPost_ret (v := .agg #[.bool n, .slice a len cap]) (by simp [results, Tryz.results37, go_sem]) rfl ⟨rfl, ?_⟩
  exact ((Old.refl w).alloc _).alloc _
set_option maxHeartbeats 4000000 in
theorem out_none (n : Bool) (a : Option Addr) (cap : Nat) (w : World) :
    Calls Tryz.prog 28 #[.agg #[.bool n, .slice a 0 cap]] w fun e w' => ∃ v', e = .returned (.tuple #[.agg #[.bool n, v'], .bool true]) ∧ Old w w' ∧ Own w' w.heap.size v' [] := by
  obtain ⟨i0, hi, hz0, hz1, hz2⟩ := info_parts Tryz.infoInt
  go_enter Tryz.func28, Tryz.ntmps28
  go_wp2_with fail
  go_region_law (refine step_append_none rfl (.tmp 11) (.tmp 13) 23 59 rfl 3 3 i0 Tryz.underlying23 Tryz.underlying59 hi ⟨w.heap.size + 1 + 1, 0, none⟩ (by simp [Act.eval, Act.put]) a cap (by simp [Act.eval, Act.put]) ?_)
  all_goals
    go_wp2_with fail
    refine bodyPost_ret (v := .tuple #[.agg #[.bool n, .slice (some ⟨w.heap.size + 1 + 1, 0, none⟩) 0 0], .bool true]) (by simp [results, Tryz.results28, go_sem]) rfl ⟨_, rfl, ?_, ?_⟩
    · exact Below.drew ((((Old.refl w).alloc _).alloc _).alloc _)
    · have := World.ownsRow_lit (base := w.heap.size) (e := 3) (size := 1) ((w.alloc (Obj.cells #[Value.bool n, Value.slice a 0 cap] 62)).alloc (Obj.cells #[Value.bool n, Value.slice (some { block := w.heap.size + 1 + 1, off := 0 }) 0 0] 27)) #[] 0 (by simp; omega) (by unfold maxLen; omega) (by simp)
      simp at this
      exact this
set_option maxHeartbeats 4000000 in
theorem out_some (n : Bool) (xs : List Nat) (b o cap : Nat) (w : World) (h0 : 0 < xs.length) (h40 : xs.length ≤ 40) (hc : ∀ j, j < xs.length → w.cell? ⟨b, o + j, none⟩ = some (.int .i64 ((xs.getD j 0 : Nat) : Int))) (hb : b < w.heap.size) :
    Calls Tryz.prog 28 #[.agg #[.bool n, .slice (some ⟨b, o, none⟩) xs.length cap]] w fun e w' => ∃ v', e = .returned (.tuple #[.agg #[.bool n, v'], .bool true]) ∧ Old w w' ∧ Own w' w.heap.size v' (toI xs) := by
  obtain ⟨i0, hi, hz0, hz1, hz2⟩ := info_parts Tryz.infoInt
  have HC : Hid (∀ j, j < xs.length → w.cell? ⟨b, o + j, none⟩ = some (.int .i64 ((xs.getD j 0 : Nat) : Int))) := hc
  clear hc
  have d0 : decide ((40 : Int) < (xs.length : Int)) = false := dlt_no (by omega)
  go_enter Tryz.func28, Tryz.ntmps28
  go_wp2_with fail
  have HN : Hid (∀ W, Old w W → ∀ j u, ((toI xs).map (Value.int .i64))[j]? = some u → W.cell? ((⟨b, o, none⟩ : Addr).add j) = some u) := by
    intro W g j u hj
    have hjl : j < xs.length := by
      have := (List.getElem?_eq_some_iff.1 hj).1
      simpa [toI] using this
    have e1 := HC.out j hjl
    have e2 : u = .int .i64 ((xs.getD j 0 : Nat) : Int) := by
      simp [toI, hjl] at hj
      rw [← hj]
      simp [List.getD, hjl]
    rw [e2, ← e1]
    have : (⟨b, o, none⟩ : Addr).add j = ⟨b, o + j, none⟩ := by
      unfold Addr.add
      split
      · rename_i h; simp [h]
      · rfl
    rw [this]
    exact g.cell (p := ⟨b, o + j, none⟩) hb
  have HA : Hid (∀ t1 t2 t3 xs1 xs2 xs3 k, Old w ((((w.alloc (.cells xs1 t1)).alloc (.cells xs2 t2)).drewN k).alloc (.cells xs3 t3))) := fun t1 t2 t3 xs1 xs2 xs3 k => ((((Old.refl w).alloc _).alloc _).drewN _).alloc _
  go_region_law (refine step_append_two rfl (.tmp 11) (.tmp 13) 23 59 rfl 3 3 i0 (.int .i64 0) 1 8 Tryz.underlying23 Tryz.underlying59 hi hz0 hz1 hz2 rfl (by decide) ⟨w.heap.size + 1 + 1, 0, none⟩ (by simp [Act.eval, Act.put]) ⟨b, o, none⟩ xs.length cap ((toI xs).map (Value.int .i64)) (by simp [Act.eval, Act.put]) (by simp [toI]) (HN.out _ (HA.out _ _ _ _ _ _ 1)) h0 (by unfold maxLen; omega) (by omega) ?_; intro v5 w5 o5 g5; have gg := grownBy_old g5; have a0_ : w5.cell? ⟨w.heap.size, 0, none⟩ = some (Value.bool n) := (gg.cell (p := ⟨w.heap.size, 0, none⟩) (by simp; try omega)).trans ((cell_heap rfl _).trans (c3_0 w #[Value.bool n, Value.slice (some ⟨b, o, none⟩) xs.length cap] #[Value.bool false, Value.slice none 0 0] #[] 62 27 3 0)); have a1_ : w5.cell? ⟨w.heap.size, 1, none⟩ = some (Value.slice (some ⟨b, o, none⟩) xs.length cap) := (gg.cell (p := ⟨w.heap.size, 1, none⟩) (by simp; try omega)).trans ((cell_heap rfl _).trans (c3_0 w #[Value.bool n, Value.slice (some ⟨b, o, none⟩) xs.length cap] #[Value.bool false, Value.slice none 0 0] #[] 62 27 3 1)); have q0_ : w5.cell? ⟨w.heap.size + 1, 0, none⟩ = some (Value.bool false) := (gg.cell (p := ⟨w.heap.size + 1, 0, none⟩) (by simp; try omega)).trans ((cell_heap rfl _).trans (c3_1 w #[Value.bool n, Value.slice (some ⟨b, o, none⟩) xs.length cap] #[Value.bool false, Value.slice none 0 0] #[] 62 27 3 0)); have q1_ : w5.cell? ⟨w.heap.size + 1, 1, none⟩ = some (Value.slice none 0 0) := (gg.cell (p := ⟨w.heap.size + 1, 1, none⟩) (by simp; try omega)).trans ((cell_heap rfl _).trans (c3_1 w #[Value.bool n, Value.slice (some ⟨b, o, none⟩) xs.length cap] #[Value.bool false, Value.slice none 0 0] #[] 62 27 3 1)); have f0_ : w5.frozen? ⟨w.heap.size + 1, 0, none⟩ = false := (gg.frozen (p := ⟨w.heap.size + 1, 0, none⟩) (by simp; try omega)).trans ((fro_heap rfl _).trans (f3_1 w #[Value.bool n, Value.slice (some ⟨b, o, none⟩) xs.length cap] #[Value.bool false, Value.slice none 0 0] #[] 62 27 3 0)); have f1_ : w5.frozen? ⟨w.heap.size + 1, 1, none⟩ = false := (gg.frozen (p := ⟨w.heap.size + 1, 1, none⟩) (by simp; try omega)).trans ((fro_heap rfl _).trans (f3_1 w #[Value.bool n, Value.slice (some ⟨b, o, none⟩) xs.length cap] #[Value.bool false, Value.slice none 0 0] #[] 62 27 3 1)); have O5 : Own w5 (w.heap.size + 3) v5 (toI xs) := by { unfold Own; rw [toI_len]; exact Own_low' o5 (by simp) }; obtain ⟨a5, cap5, rfl⟩ := (Own.row O5).sliceN; have HG5 : Hid (Old w w5) := Old.trans (HA.out _ _ _ _ _ _ 1) gg; have HO5 : Hid (Own w5 (w.heap.size + 3) (.slice a5 xs.length cap5) (toI xs)) := O5; clear gg g5 o5 O5)
  all_goals
    go_wp2_with fail
    refine bodyPost_ret (v := .tuple #[.agg #[.bool n, .slice a5 xs.length cap5], .bool true]) (by simp [results, Tryz.results28, go_sem, q0_, q1_]) rfl ⟨_, rfl, ?_, ?_⟩
    · exact (HG5.out.own (p := ⟨w.heap.size + 1, 0, none⟩) (by simp) _).own (p := ⟨w.heap.size + 1, 1, none⟩) (by simp) _
    · refine Own.low (base := w.heap.size + 3) (ownsRow_setCell_other (ownsRow_setCell_other HO5.out (fun e => ?_) _) (fun e => ?_) _) (by omega)
      · have := (HO5.out.lt (w.heap.size + 1) e).1; omega
      · have := (HO5.out.lt (w.heap.size + 1) e).1; omega
theorem out_any (n : Bool) (xs : List Nat) (v : Value) (w : World) (hv : Row w v (toI xs)) (h40 : xs.length ≤ 40) :
    Calls Tryz.prog 28 #[.agg #[.bool n, v]] w fun e w' => ∃ v', e = .returned (.tuple #[.agg #[.bool n, v'], .bool true]) ∧ Old w w' ∧ Own w' w.heap.size v' (toI xs) := by
  obtain ⟨a0, cap0, rfl⟩ := hv.sliceN
  rcases Nat.eq_zero_or_pos xs.length with h0 | h0
  · obtain rfl := List.length_eq_zero_iff.1 h0
    exact out_none n a0 cap0 w
  · obtain ⟨b, o, rfl, hb, hc⟩ := Row.at hv h0
    exact out_some n xs b o cap0 w h0 h40 hc hb
end Go.Proofs.YtfcdfielbpdloaaGreatDoor
/- Proved: what the model answers, as functions of the numbers: sums and products of whole numbers. -/
namespace Go.Proofs.YtfcdfielbpdloaaGreatDoor
open Go.ChangeShapes Go.WideShapes Go.ChangeAt Go.RowKit
open M2
set_option linter.unusedVariables false
set_option linter.unusedSimpArgs false
def nat (xs : List Int) : List Nat := xs.map Int.toNat
theorem nat_len (xs : List Int) : (nat xs).length = xs.length := by simp [nat]
theorem nat_get (xs : List Int) (j : Nat) : (nat xs).getD j 0 = (xs.getD j 0).toNat := by
  simp only [nat, List.getD, List.getElem?_map]
  cases xs[j]? <;> rfl
theorem toI_nat {xs : List Int} (h : ∀ j, j < xs.length → 0 ≤ xs.getD j 0) : toI (nat xs) = xs := by
  apply List.ext_getElem
  · simp [toI, nat]
  · intro i h1 h2
    have := h i h2
    simp only [toI, nat, List.map_map, List.getElem_map, Function.comp]
    have e : xs.getD i 0 = xs[i] := by simp [List.getD, h2]
    rw [e] at this
    omega
theorem good_gw {n : Bool} {xs : List Int} (h : Good n xs) : toI (nat xs) = xs ∧ Gw n (nat xs) ∧ (nat xs).length ≤ 40 := by
  have hr : ∀ j, j < xs.length → 0 ≤ xs.getD j 0 := fun j hj => (h.2.2 j hj).1.1
  refine ⟨toI_nat hr, ⟨⟨?_, ?_⟩, ?_⟩, by rw [nat_len]; exact h.1⟩
  · intro x hx
    obtain ⟨j, hj, e⟩ := List.getElem_of_mem hx
    rw [nat_len] at hj
    have h2 := (h.2.2 j hj).1
    have h3 := nat_get xs j
    have e2 : (nat xs).getD j 0 = x := by rw [← e]; simp [List.getD, nat_len, hj]
    rw [e2] at h3
    unfold LB
    omega
  · intro hne h0
    have hl : 0 < xs.length := by
      rcases Nat.eq_zero_or_pos xs.length with h1 | h1
      · exact absurd (List.length_eq_zero_iff.1 (by rw [nat_len]; exact h1)) hne
      · exact h1
    rw [List.getLast_eq_getElem] at h0
    have hj : xs.length - 1 < xs.length := by omega
    have h2 := h.2.2 (xs.length - 1) hj
    have h3 := nat_get xs (xs.length - 1)
    have e2 : (nat xs).getD (xs.length - 1) 0 = 0 := by
      rw [← h0]
      simp [List.getD, nat_len, hj]
    rw [e2] at h3
    exact h2.2 ⟨by have := h2.1; omega, by omega⟩
  · intro hn he
    have : xs.length = 0 := by rw [← nat_len, he]; rfl
    exact h.2.1 ⟨this, hn⟩
end Go.Proofs.YtfcdfielbpdloaaGreatDoor
