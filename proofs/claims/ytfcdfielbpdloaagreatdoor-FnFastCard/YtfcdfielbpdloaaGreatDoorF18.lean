/- Proved: several texts in one: what each proves is said ahead of it. -/
import Derived.Test.YtfcdfielbpdloaaGreatDoorF03
import Derived.Test.YtfcdfielbpdloaaGreatDoorAppd
import Derived.Test.YtfcdfielbpdloaaGreatDoorF00
/- Proved: contracts of the model's doors: a whole number in, and out where it is not too long. -/
namespace Go.Proofs.YtfcdfielbpdloaaGreatDoor
open Go.ChangeShapes Go.WideShapes Go.ChangeAt Go.RowKit
open M2
set_option linter.unusedVariables false
set_option linter.unusedSimpArgs false
theorem cell_heap {w w' : World} (h : w.heap = w'.heap) (p : Addr) : w.cell? p = w'.cell? p := World.cell?_of_block (by rw [h])
theorem fro_heap {w w' : World} (h : w.heap = w'.heap) (p : Addr) : w.frozen? p = w'.frozen? p := World.frozen?_of_block (by rw [h])
theorem Own_low' {w : World} {base base' n : Nat} {v : Value} {xs : List Value} (h : w.ownsRow base 3 1 v n xs) (hb : base' ≤ base) : w.ownsRow base' 3 1 v n xs := by
  refine ⟨h.1, ?_⟩
  rcases h.2 with hn | ⟨p, cap, cur, rfl, hb1, rest⟩
  · exact .inl hn
  · exact .inr ⟨p, cap, cur, rfl, Nat.le_trans hb hb1, rest⟩
theorem in_anyW (n : Bool) (a : Option Addr) (len cap : Nat) (w : World) :
    Calls Tryz.prog 37 #[.agg #[.bool n, .slice a len cap]] w fun e w' => e = .returned (.agg #[.bool n, .slice a len cap]) ∧ Old w w' := by
  go_enter Tryz.func37, Tryz.ntmps37
  go_wp2_with fail
  refine bodyPost_ret (v := .agg #[.bool n, .slice a len cap]) (by simp [results, Tryz.results37, go_sem]) rfl ⟨rfl, ?_⟩
  exact ((Old.refl w).alloc _).alloc _
set_option maxHeartbeats 4000000 in
theorem out_no (n : Bool) (a : Option Addr) (len cap : Nat) (w : World) (h : 40 < len) (hl : len ≤ 1048576) :
    Calls Tryz.prog 28 #[.agg #[.bool n, .slice a len cap]] w fun e w' => e = .returned (.tuple #[.agg #[.bool false, .slice none 0 0], .bool false]) ∧ Old w w' := by
  go_enter Tryz.func28, Tryz.ntmps28
  go_wp2_with fail
  refine bodyPost_ret (v := .tuple #[.agg #[.bool false, .slice none 0 0], .bool false]) (by simp [results, Tryz.results28, go_sem]) rfl ⟨rfl, ?_⟩
  exact ((Old.refl w).alloc _).alloc _
set_option maxHeartbeats 4000000 in
theorem out_none (n : Bool) (a : Option Addr) (cap : Nat) (w : World) :
    Calls Tryz.prog 28 #[.agg #[.bool n, .slice a 0 cap]] w fun e w' => ∃ v', e = .returned (.tuple #[.agg #[.bool n, v'], .bool true]) ∧ Old w w' ∧ Own w' w.heap.size v' [] := by
  obtain ⟨i0, hi, hz0, hz1, hz2⟩ := info_parts Tryz.infoInt
  go_enter Tryz.func28, Tryz.ntmps28
  go_wp2_with fail
  go_region_law (refine step_append_none rfl (.tmp 11) (.tmp 13) 23 59 rfl 3 3 i0 Tryz.underlying23 Tryz.underlying59 hi ⟨w.heap.size + 1 + 1, 0, none⟩ (by simp [Act.eval, Act.put]) a cap (by simp [Act.eval, Act.put]) ?_)
  all_goals
    go_wp2_with fail
    refine bodyPost_ret (v := .tuple #[.agg #[.bool n, .slice (some ⟨w.heap.size + 1 + 1, 0, none⟩) 0 0], .bool true]) (by simp [results, Tryz.results28, go_sem]) rfl ⟨_, rfl, ?_, ?_⟩
    · exact Below.drew ((((Old.refl w).alloc _).alloc _).alloc _)
    · have := World.ownsRow_lit (base := w.heap.size) (e := 3) (size := 1) ((w.alloc (Obj.cells #[Value.bool n, Value.slice a 0 cap] 62)).alloc (Obj.cells #[Value.bool n, Value.slice (some { block := w.heap.size + 1 + 1, off := 0 }) 0 0] 27)) #[] 0 (by simp; omega) (by unfold maxLen; omega) (by simp)
      simp at this
      exact this
set_option maxHeartbeats 4000000 in
theorem out_some (n : Bool) (xs : List Nat) (b o cap : Nat) (w : World) (h0 : 0 < xs.length) (h40 : xs.length ≤ 40) (hc : ∀ j, j < xs.length → w.cell? ⟨b, o + j, none⟩ = some (.int .i64 ((xs.getD j 0 : Nat) : Int))) (hb : b < w.heap.size) :
    Calls Tryz.prog 28 #[.agg #[.bool n, .slice (some ⟨b, o, none⟩) xs.length cap]] w fun e w' => ∃ v', e = .returned (.tuple #[.agg #[.bool n, v'], .bool true]) ∧ Old w w' ∧ Own w' w.heap.size v' (toI xs) := by
  obtain ⟨i0, hi, hz0, hz1, hz2⟩ := info_parts Tryz.infoInt
  have HC : Hid (∀ j, j < xs.length → w.cell? ⟨b, o + j, none⟩ = some (.int .i64 ((xs.getD j 0 : Nat) : Int))) := hc
  clear hc
  have d0 : decide ((40 : Int) < (xs.length : Int)) = false := dlt_no (by omega)
  go_enter Tryz.func28, Tryz.ntmps28
  go_wp2_with fail
  have HN : Hid (∀ W, Old w W → ∀ j u, ((toI xs).map (Value.int .i64))[j]? = some u → W.cell? ((⟨b, o, none⟩ : Addr).add j) = some u) := by
    intro W g j u hj
    have hjl : j < xs.length := by
      have := (List.getElem?_eq_some_iff.1 hj).1
      simpa [toI] using this
    have e1 := HC.out j hjl
    have e2 : u = .int .i64 ((xs.getD j 0 : Nat) : Int) := by
      simp [toI, hjl] at hj
      rw [← hj]
      simp [List.getD, hjl]
    rw [e2, ← e1]
    have : (⟨b, o, none⟩ : Addr).add j = ⟨b, o + j, none⟩ := by
      unfold Addr.add
      split
      · rename_i h; simp [h]
      · rfl
    rw [this]
    exact g.cell (p := ⟨b, o + j, none⟩) hb
  have HA : Hid (∀ t1 t2 t3 xs1 xs2 xs3 k, Old w ((((w.alloc (.cells xs1 t1)).alloc (.cells xs2 t2)).drewN k).alloc (.cells xs3 t3))) := fun t1 t2 t3 xs1 xs2 xs3 k => ((((Old.refl w).alloc _).alloc _).drewN _).alloc _
  go_region_law (refine step_append_two rfl (.tmp 11) (.tmp 13) 23 59 rfl 3 3 i0 (.int .i64 0) 1 8 Tryz.underlying23 Tryz.underlying59 hi hz0 hz1 hz2 rfl (by decide) ⟨w.heap.size + 1 + 1, 0, none⟩ (by simp [Act.eval, Act.put]) ⟨b, o, none⟩ xs.length cap ((toI xs).map (Value.int .i64)) (by simp [Act.eval, Act.put]) (by simp [toI]) (HN.out _ (HA.out _ _ _ _ _ _ 1)) h0 (by unfold maxLen; omega) (by omega) ?_; intro v5 w5 o5 g5; have gg := grownBy_old g5; have a0_ : w5.cell? ⟨w.heap.size, 0, none⟩ = some (Value.bool n) := (gg.cell (p := ⟨w.heap.size, 0, none⟩) (by simp; try omega)).trans ((cell_heap rfl _).trans (c3_0 w #[Value.bool n, Value.slice (some ⟨b, o, none⟩) xs.length cap] #[Value.bool false, Value.slice none 0 0] #[] 62 27 3 0)); have a1_ : w5.cell? ⟨w.heap.size, 1, none⟩ = some (Value.slice (some ⟨b, o, none⟩) xs.length cap) := (gg.cell (p := ⟨w.heap.size, 1, none⟩) (by simp; try omega)).trans ((cell_heap rfl _).trans (c3_0 w #[Value.bool n, Value.slice (some ⟨b, o, none⟩) xs.length cap] #[Value.bool false, Value.slice none 0 0] #[] 62 27 3 1)); have q0_ : w5.cell? ⟨w.heap.size + 1, 0, none⟩ = some (Value.bool false) := (gg.cell (p := ⟨w.heap.size + 1, 0, none⟩) (by simp; try omega)).trans ((cell_heap rfl _).trans (c3_1 w #[Value.bool n, Value.slice (some ⟨b, o, none⟩) xs.length cap] #[Value.bool false, Value.slice none 0 0] #[] 62 27 3 0)); have q1_ : w5.cell? ⟨w.heap.size + 1, 1, none⟩ = some (Value.slice none 0 0) := (gg.cell (p := ⟨w.heap.size + 1, 1, none⟩) (by simp; try omega)).trans ((cell_heap rfl _).trans (c3_1 w #[Value.bool n, Value.slice (some ⟨b, o, none⟩) xs.length cap] #[Value.bool false, Value.slice none 0 0] #[] 62 27 3 1)); have f0_ : w5.frozen? ⟨w.heap.size + 1, 0, none⟩ = false := (gg.frozen (p := ⟨w.heap.size + 1, 0, none⟩) (by simp; try omega)).trans ((fro_heap rfl _).trans (f3_1 w #[Value.bool n, Value.slice (some ⟨b, o, none⟩) xs.length cap] #[Value.bool false, Value.slice none 0 0] #[] 62 27 3 0)); have f1_ : w5.frozen? ⟨w.heap.size + 1, 1, none⟩ = false := (gg.frozen (p := ⟨w.heap.size + 1, 1, none⟩) (by simp; try omega)).trans ((fro_heap rfl _).trans (f3_1 w #[Value.bool n, Value.slice (some ⟨b, o, none⟩) xs.length cap] #[Value.bool false, Value.slice none 0 0] #[] 62 27 3 1)); have O5 : Own w5 (w.heap.size + 3) v5 (toI xs) := by { unfold Own; rw [toI_len]; exact Own_low' o5 (by simp) }; obtain ⟨a5, cap5, rfl⟩ := (Own.row O5).sliceN; have HG5 : Hid (Old w w5) := Old.trans (HA.out _ _ _ _ _ _ 1) gg; have HO5 : Hid (Own w5 (w.heap.size + 3) (.slice a5 xs.length cap5) (toI xs)) := O5; clear gg g5 o5 O5)
  all_goals
    go_wp2_with fail
    refine bodyPost_ret (v := .tuple #[.agg #[.bool n, .slice a5 xs.length cap5], .bool true]) (by simp [results, Tryz.results28, go_sem, q0_, q1_]) rfl ⟨_, rfl, ?_, ?_⟩
    · exact (HG5.out.own (p := ⟨w.heap.size + 1, 0, none⟩) (by simp) _).own (p := ⟨w.heap.size + 1, 1, none⟩) (by simp) _
    · refine Own.low (base := w.heap.size + 3) (ownsRow_setCell_other (ownsRow_setCell_other HO5.out (fun e => ?_) _) (fun e => ?_) _) (by omega)
      · have := (HO5.out.lt (w.heap.size + 1) e).1; omega
      · have := (HO5.out.lt (w.heap.size + 1) e).1; omega
theorem out_any (n : Bool) (xs : List Nat) (v : Value) (w : World) (hv : Row w v (toI xs)) (h40 : xs.length ≤ 40) :
    Calls Tryz.prog 28 #[.agg #[.bool n, v]] w fun e w' => ∃ v', e = .returned (.tuple #[.agg #[.bool n, v'], .bool true]) ∧ Old w w' ∧ Own w' w.heap.size v' (toI xs) := by
  obtain ⟨a0, cap0, rfl⟩ := hv.sliceN
  rcases Nat.eq_zero_or_pos xs.length with h0 | h0
  · obtain rfl := List.length_eq_zero_iff.1 h0
    exact out_none n a0 cap0 w
  · obtain ⟨b, o, rfl, hb, hc⟩ := Row.at hv h0
    exact out_some n xs b o cap0 w h0 h40 hc hb
end Go.Proofs.YtfcdfielbpdloaaGreatDoor
/- Proved: what the model answers, as functions of the numbers: sums and products of whole numbers. -/
namespace Go.Proofs.YtfcdfielbpdloaaGreatDoor
open Go.ChangeShapes Go.WideShapes Go.ChangeAt Go.RowKit
open M2
set_option linter.unusedVariables false
set_option linter.unusedSimpArgs false
def nat (xs : List Int) : List Nat := xs.map Int.toNat
theorem nat_len (xs : List Int) : (nat xs).length = xs.length := by simp [nat]
theorem nat_get (xs : List Int) (j : Nat) : (nat xs).getD j 0 = (xs.getD j 0).toNat := by
  simp only [nat, List.getD, List.getElem?_map]
  cases xs[j]? <;> rfl
theorem toI_nat {xs : List Int} (h : ∀ j, j < xs.length → 0 ≤ xs.getD j 0) : toI (nat xs) = xs := by
  apply List.ext_getElem
  · simp [toI, nat]
  · intro i h1 h2
    have := h i h2
    simp only [toI, nat, List.map_map, List.getElem_map, Function.comp]
    have e : xs.getD i 0 = xs[i] := by simp [List.getD, h2]
    rw [e] at this
    omega
theorem good_gw {n : Bool} {xs : List Int} (h : Good n xs) : toI (nat xs) = xs ∧ Gw n (nat xs) ∧ (nat xs).length ≤ 40 := by
  have hr : ∀ j, j < xs.length → 0 ≤ xs.getD j 0 := fun j hj => (h.2.2 j hj).1.1
  refine ⟨toI_nat hr, ⟨⟨?_, ?_⟩, ?_⟩, by rw [nat_len]; exact h.1⟩
  · intro x hx
    obtain ⟨j, hj, e⟩ := List.getElem_of_mem hx
    rw [nat_len] at hj
    have h2 := (h.2.2 j hj).1
    have h3 := nat_get xs j
    have e2 : (nat xs).getD j 0 = x := by rw [← e]; simp [List.getD, nat_len, hj]
    rw [e2] at h3
    unfold LB
    omega
  · intro hne h0
    have hl : 0 < xs.length := by
      rcases Nat.eq_zero_or_pos xs.length with h1 | h1
      · exact absurd (List.length_eq_zero_iff.1 (by rw [nat_len]; exact h1)) hne
      · exact h1
    rw [List.getLast_eq_getElem] at h0
    have hj : xs.length - 1 < xs.length := by omega
    have h2 := h.2.2 (xs.length - 1) hj
    have h3 := nat_get xs (xs.length - 1)
    have e2 : (nat xs).getD (xs.length - 1) 0 = 0 := by
      rw [← h0]
      simp [List.getD, nat_len, hj]
    rw [e2] at h3
    exact h2.2 ⟨by have := h2.1; omega, by omega⟩
  · intro hn he
    have : xs.length = 0 := by rw [← nat_len, he]; rfl
    exact h.2.1 ⟨this, hn⟩
def told (z : Int) : Bool × List Nat × Bool := if (dg z).length ≤ 40 then (ng z, dg z, true) else (false, [], false)
def nought : Bool × List Nat × Bool := (false, [], false)
theorem len_sum {n m : Bool} {xs ys : List Nat} (lx : xs.length ≤ 40) (ly : ys.length ≤ 40) (hx : Lim xs) (hy : Lim ys) : (dg (sv n xs + sv m ys)).length ≤ 1000 := by
  refine Nat.le_trans (dg_len (k := (xs.length + ys.length) + 1) ?_) (by omega)
  have h1 := val_lt hx
  have h2 := val_lt hy
  have h3 : LB ^ xs.length ≤ LB ^ (xs.length + ys.length) := Nat.pow_le_pow_right LB_pos (by omega)
  have h4 : LB ^ ys.length ≤ LB ^ (xs.length + ys.length) := Nat.pow_le_pow_right LB_pos (by omega)
  have h5 : LB ^ (xs.length + ys.length) * 4 ≤ LB ^ (xs.length + ys.length + 1) := by rw [Nat.pow_succ]; exact Nat.mul_le_mul (Nat.le_refl _) (by decide)
  have h6 := sv_abs n xs
  have h7 := sv_abs m ys
  omega
def addW (n m : Bool) (xs ys : List Int) : Bool × List Nat × Bool := if Good n xs ∧ Good m ys then told (sv n (nat xs) + sv m (nat ys)) else nought
set_option maxHeartbeats 8000000 in
theorem spec_add (n m : Bool) (xs ys : List Int) (v u : Value) (w : World) (hv : Row w v xs) (hu : Row w u ys) (la : xs.length ≤ 1048576) (lb : ys.length ≤ 1048576) (R : Bool × List Nat × Bool) (hR : addW n m xs ys = R) :
    Calls Tryz.prog 20 #[.agg #[.bool n, v], .agg #[.bool m, u]] w fun e w' => ∃ v', e = .returned (.tuple #[.agg #[.bool R.1, v'], .bool R.2.2]) ∧ Old w w' ∧ Own w' w.heap.size v' (toI R.2.1) := by
  have HV : Hid (Row w v xs) := hv
  have HU : Hid (Row w u ys) := hu
  obtain ⟨c0, cap0, rfl⟩ := hv.slice
  obtain ⟨c1, cap1, rfl⟩ := hu.slice
  clear hv hu
  have HA : Hid (∀ t1 t2 t3 xs1 xs2 xs3, Old w (((w.alloc (.cells xs1 t1)).alloc (.cells xs2 t2)).alloc (.cells xs3 t3))) := fun t1 t2 t3 xs1 xs2 xs3 => (((Old.refl w).alloc _).alloc _).alloc _
  by_cases hga : Good n xs
  · have cga := fun W (h : Row W (.slice c0 xs.length cap0) xs) => good_any n xs _ W h la
    rw [decide_eq_true hga] at cga
    by_cases hgb : Good m ys
    · have cgb := fun W (h : Row W (.slice c1 ys.length cap1) ys) => good_any m ys _ W h lb
      rw [decide_eq_true hgb] at cgb
      have hR2 : told (sv n (nat xs) + sv m (nat ys)) = R := by rw [← hR]; unfold addW; rw [if_pos ⟨hga, hgb⟩]
      obtain ⟨ex, gx, lx⟩ := good_gw hga
      obtain ⟨ey, gy, ly⟩ := good_gw hgb
      have HV2 : Hid (Row w (.slice c0 xs.length cap0) (toI (nat xs))) := by rw [ex]; exact HV.out
      have HU2 : Hid (Row w (.slice c1 ys.length cap1) (toI (nat ys))) := by rw [ey]; exact HU.out
      obtain ⟨z, hz⟩ : ∃ z, sv n (nat xs) + sv m (nat ys) = z := ⟨_, rfl⟩
      rw [hz] at hR2
      have HZ : Hid (sv n (nat xs) + sv m (nat ys) = z) := hz
      have HGX : Hid (Gw n (nat xs) ∧ (nat xs).length ≤ 40) := ⟨gx, lx⟩
      have HGY : Hid (Gw m (nat ys) ∧ (nat ys).length ≤ 40) := ⟨gy, ly⟩
      have hzl : (dg z).length ≤ 1000 := by rw [← hz]; exact len_sum lx ly gx.1.1 gy.1.1
      clear hga hgb ex ey gx gy lx ly hz hR
      go_enter Tryz.func20, Tryz.ntmps20
      go_wp2_with fail
      refine (cga _ (HV.out.old (HA.out _ _ _ _ _ _))).mono ?_
      rintro e w1 ⟨rfl, g1⟩
      have a0p : w1.cell? ⟨w.heap.size, 0, none⟩ = some (Value.bool n) := (g1.cell (p := ⟨w.heap.size, 0, none⟩) (by simp; try omega)).trans (c3_0 _ _ _ _ _ _ _ _ )
      have a1p : w1.cell? ⟨w.heap.size, 1, none⟩ = some (Value.slice c0 xs.length cap0) := (g1.cell (p := ⟨w.heap.size, 1, none⟩) (by simp; try omega)).trans (c3_0 _ _ _ _ _ _ _ _ )
      have b0p : w1.cell? ⟨w.heap.size + 1, 0, none⟩ = some (Value.bool m) := (g1.cell (p := ⟨w.heap.size + 1, 0, none⟩) (by simp; try omega)).trans (c3_1 _ _ _ _ _ _ _ _ )
      have b1p : w1.cell? ⟨w.heap.size + 1, 1, none⟩ = some (Value.slice c1 ys.length cap1) := (g1.cell (p := ⟨w.heap.size + 1, 1, none⟩) (by simp; try omega)).trans (c3_1 _ _ _ _ _ _ _ _ )
      have q0p : w1.cell? ⟨w.heap.size + 1 + 1, 0, none⟩ = some (Value.bool false) := (g1.cell (p := ⟨w.heap.size + 1 + 1, 0, none⟩) (by simp; try omega)).trans (c3_2 _ _ _ _ _ _ _ _ )
      have q1p : w1.cell? ⟨w.heap.size + 1 + 1, 1, none⟩ = some (Value.slice none 0 0) := (g1.cell (p := ⟨w.heap.size + 1 + 1, 1, none⟩) (by simp; try omega)).trans (c3_2 _ _ _ _ _ _ _ _ )
      have f0p : w1.frozen? ⟨w.heap.size + 1 + 1, 0, none⟩ = false := (g1.frozen (p := ⟨w.heap.size + 1 + 1, 0, none⟩) (by simp; try omega)).trans (f3_2 _ _ _ _ _ _ _ _ )
      have f1p : w1.frozen? ⟨w.heap.size + 1 + 1, 1, none⟩ = false := (g1.frozen (p := ⟨w.heap.size + 1 + 1, 1, none⟩) (by simp; try omega)).trans (f3_2 _ _ _ _ _ _ _ _ )
      have HG1 : Hid (Old w w1) := Old.trans (HA.out _ _ _ _ _ _) g1
      have hs1 : w.heap.size + 3 ≤ w1.heap.size := by have := g1.size; simp at this; omega
      clear g1 HA
      go_wp2_with fail
      refine (cgb _ (HU.out.old HG1.out)).mono ?_
      rintro e w2 ⟨rfl, g2⟩
      have a0r := (g2.cell (p := ⟨w.heap.size, 0, none⟩) (by show w.heap.size < w1.heap.size; omega)).trans a0p
      have a1r := (g2.cell (p := ⟨w.heap.size, 1, none⟩) (by show w.heap.size < w1.heap.size; omega)).trans a1p
      have b0r := (g2.cell (p := ⟨w.heap.size + 1, 0, none⟩) (by show w.heap.size + 1 < w1.heap.size; omega)).trans b0p
      have b1r := (g2.cell (p := ⟨w.heap.size + 1, 1, none⟩) (by show w.heap.size + 1 < w1.heap.size; omega)).trans b1p
      have q0r := (g2.cell (p := ⟨w.heap.size + 1 + 1, 0, none⟩) (by show w.heap.size + 1 + 1 < w1.heap.size; omega)).trans q0p
      have q1r := (g2.cell (p := ⟨w.heap.size + 1 + 1, 1, none⟩) (by show w.heap.size + 1 + 1 < w1.heap.size; omega)).trans q1p
      have f0r := (g2.frozen (p := ⟨w.heap.size + 1 + 1, 0, none⟩) (by show w.heap.size + 1 + 1 < w1.heap.size; omega)).trans f0p
      have f1r := (g2.frozen (p := ⟨w.heap.size + 1 + 1, 1, none⟩) (by show w.heap.size + 1 + 1 < w1.heap.size; omega)).trans f1p
      have HG2 : Hid (Old w w2) := Old.trans HG1.out g2
      have hs2 : w.heap.size + 3 ≤ w2.heap.size := by have := g2.size; omega
      clear g2 HG1 a0p a1p b0p b1p q0p q1p f0p f1p
      by_cases h40 : (dg z).length ≤ 40
      · have HR : Hid (R = (ng z, dg z, true)) := by rw [← hR2]; unfold told; rw [if_pos h40]; rfl
        clear hR2
        have tok : True := trivial
        go_wp2_with fail
        go_region_with (first
          | (go_at_call 37; have _t := tok; refine (in_anyW n c0 xs.length cap0 _).mono ?_; rintro e w3 ⟨rfl, g3⟩; have a0s := (g3.cell (p := ⟨w.heap.size, 0, none⟩) (by show w.heap.size < w2.heap.size; omega)).trans a0r; have a1s := (g3.cell (p := ⟨w.heap.size, 1, none⟩) (by show w.heap.size < w2.heap.size; omega)).trans a1r; have b0s := (g3.cell (p := ⟨w.heap.size + 1, 0, none⟩) (by show w.heap.size + 1 < w2.heap.size; omega)).trans b0r; have b1s := (g3.cell (p := ⟨w.heap.size + 1, 1, none⟩) (by show w.heap.size + 1 < w2.heap.size; omega)).trans b1r; have q0s := (g3.cell (p := ⟨w.heap.size + 1 + 1, 0, none⟩) (by show w.heap.size + 1 + 1 < w2.heap.size; omega)).trans q0r; have q1s := (g3.cell (p := ⟨w.heap.size + 1 + 1, 1, none⟩) (by show w.heap.size + 1 + 1 < w2.heap.size; omega)).trans q1r; have f0s := (g3.frozen (p := ⟨w.heap.size + 1 + 1, 0, none⟩) (by show w.heap.size + 1 + 1 < w2.heap.size; omega)).trans f0r; have f1s := (g3.frozen (p := ⟨w.heap.size + 1 + 1, 1, none⟩) (by show w.heap.size + 1 + 1 < w2.heap.size; omega)).trans f1r; have HG3 : Hid (Old w w3) := Old.trans (HG2.out.drewN 1) g3; have hs3 : w.heap.size + 3 ≤ w3.heap.size := by { have := g3.size; exact Nat.le_trans hs2 this }; clear tok g3)
          | (go_at_call 37; refine (in_anyW m c1 ys.length cap1 _).mono ?_; rintro e w4 ⟨rfl, g4⟩; have a0t := (g4.cell (p := ⟨w.heap.size, 0, none⟩) (by show w.heap.size < w3.heap.size; omega)).trans a0s; have a1t := (g4.cell (p := ⟨w.heap.size, 1, none⟩) (by show w.heap.size < w3.heap.size; omega)).trans a1s; have b0t := (g4.cell (p := ⟨w.heap.size + 1, 0, none⟩) (by show w.heap.size + 1 < w3.heap.size; omega)).trans b0s; have b1t := (g4.cell (p := ⟨w.heap.size + 1, 1, none⟩) (by show w.heap.size + 1 < w3.heap.size; omega)).trans b1s; have q0t := (g4.cell (p := ⟨w.heap.size + 1 + 1, 0, none⟩) (by show w.heap.size + 1 + 1 < w3.heap.size; omega)).trans q0s; have q1t := (g4.cell (p := ⟨w.heap.size + 1 + 1, 1, none⟩) (by show w.heap.size + 1 + 1 < w3.heap.size; omega)).trans q1s; have f0t := (g4.frozen (p := ⟨w.heap.size + 1 + 1, 0, none⟩) (by show w.heap.size + 1 + 1 < w3.heap.size; omega)).trans f0s; have f1t := (g4.frozen (p := ⟨w.heap.size + 1 + 1, 1, none⟩) (by show w.heap.size + 1 + 1 < w3.heap.size; omega)).trans f1s; have HG4 : Hid (Old w w4) := Old.trans HG3.out g4; have hs4 : w.heap.size + 3 ≤ w4.heap.size := by { have := g4.size; omega }; clear g4)
          | (go_at_call 49; refine (plus_any n m (nat xs) (nat ys) _ _ _ (HV2.out.old HG4.out) (HU2.out.old HG4.out) HGX.out.1 HGY.out.1 (by have := HGX.out.2; omega) (by have := HGY.out.2; omega)).mono ?_; rw [HZ.out]; rintro e w5 ⟨v5, rfl, g5, o5⟩; obtain ⟨c5, cap5, rfl⟩ := (Own.row o5).sliceN; have a0u := (g5.cell (p := ⟨w.heap.size, 0, none⟩) (by show w.heap.size < w4.heap.size; omega)).trans a0t; have a1u := (g5.cell (p := ⟨w.heap.size, 1, none⟩) (by show w.heap.size < w4.heap.size; omega)).trans a1t; have b0u := (g5.cell (p := ⟨w.heap.size + 1, 0, none⟩) (by show w.heap.size + 1 < w4.heap.size; omega)).trans b0t; have b1u := (g5.cell (p := ⟨w.heap.size + 1, 1, none⟩) (by show w.heap.size + 1 < w4.heap.size; omega)).trans b1t; have q0u := (g5.cell (p := ⟨w.heap.size + 1 + 1, 0, none⟩) (by show w.heap.size + 1 + 1 < w4.heap.size; omega)).trans q0t; have q1u := (g5.cell (p := ⟨w.heap.size + 1 + 1, 1, none⟩) (by show w.heap.size + 1 + 1 < w4.heap.size; omega)).trans q1t; have f0u := (g5.frozen (p := ⟨w.heap.size + 1 + 1, 0, none⟩) (by show w.heap.size + 1 + 1 < w4.heap.size; omega)).trans f0t; have f1u := (g5.frozen (p := ⟨w.heap.size + 1 + 1, 1, none⟩) (by show w.heap.size + 1 + 1 < w4.heap.size; omega)).trans f1t; have HG5 : Hid (Old w w5) := Old.trans HG4.out g5; have hs5 : w.heap.size + 3 ≤ w5.heap.size := by { have := g5.size; omega }; have HR5 : Hid (Row w5 (.slice c5 (dg z).length cap5) (toI (dg z))) := Own.row o5; clear g5 o5)
          | (go_at_call 28; refine (out_any (ng z) (dg z) _ _ HR5.out h40).mono ?_; rintro e w6 ⟨v6, rfl, g6, o6⟩; obtain ⟨c6, cap6, rfl⟩ := (Own.row o6).sliceN; have a0v := (g6.cell (p := ⟨w.heap.size, 0, none⟩) (by show w.heap.size < w5.heap.size; omega)).trans a0u; have a1v := (g6.cell (p := ⟨w.heap.size, 1, none⟩) (by show w.heap.size < w5.heap.size; omega)).trans a1u; have b0v := (g6.cell (p := ⟨w.heap.size + 1, 0, none⟩) (by show w.heap.size + 1 < w5.heap.size; omega)).trans b0u; have b1v := (g6.cell (p := ⟨w.heap.size + 1, 1, none⟩) (by show w.heap.size + 1 < w5.heap.size; omega)).trans b1u; have q0v := (g6.cell (p := ⟨w.heap.size + 1 + 1, 0, none⟩) (by show w.heap.size + 1 + 1 < w5.heap.size; omega)).trans q0u; have q1v := (g6.cell (p := ⟨w.heap.size + 1 + 1, 1, none⟩) (by show w.heap.size + 1 + 1 < w5.heap.size; omega)).trans q1u; have f0v := (g6.frozen (p := ⟨w.heap.size + 1 + 1, 0, none⟩) (by show w.heap.size + 1 + 1 < w5.heap.size; omega)).trans f0u; have f1v := (g6.frozen (p := ⟨w.heap.size + 1 + 1, 1, none⟩) (by show w.heap.size + 1 + 1 < w5.heap.size; omega)).trans f1u; have HG6 : Hid (Old w w6) := Old.trans HG5.out g6; have HO6 : Hid (Own w6 (w.heap.size + 3) (.slice c6 (dg z).length cap6) (toI (dg z))) := Own.low o6 hs5; clear g6 o6))
        all_goals
          go_wp2_with fail
          refine bodyPost_ret (v := .tuple #[.agg #[.bool (ng z), .slice c6 (dg z).length cap6], .bool true]) (by simp [results, Tryz.results20, go_sem, q0v, q1v]) rfl ⟨_, by rw [HR.out], ?_, ?_⟩
          · exact (HG6.out.own (p := ⟨w.heap.size + 1 + 1, 0, none⟩) (by simp; omega) _).own (p := ⟨w.heap.size + 1 + 1, 1, none⟩) (by simp; omega) _
          · rw [HR.out]
            refine Own.low (base := w.heap.size + 3) (ownsRow_setCell_other (ownsRow_setCell_other HO6.out (fun e => ?_) _) (fun e => ?_) _) (by omega)
            · have := (HO6.out.lt (w.heap.size + 1 + 1) e).1; omega
            · have := (HO6.out.lt (w.heap.size + 1 + 1) e).1; omega
      · have HR : Hid (R = (false, [], false)) := by rw [← hR2]; unfold told; rw [if_neg h40]; rfl
        clear hR2
        have tok : True := trivial
        go_wp2_with fail
        go_region_with (first
          | (go_at_call 37; have _t := tok; refine (in_anyW n c0 xs.length cap0 _).mono ?_; rintro e w3 ⟨rfl, g3⟩; have a0s := (g3.cell (p := ⟨w.heap.size, 0, none⟩) (by show w.heap.size < w2.heap.size; omega)).trans a0r; have a1s := (g3.cell (p := ⟨w.heap.size, 1, none⟩) (by show w.heap.size < w2.heap.size; omega)).trans a1r; have b0s := (g3.cell (p := ⟨w.heap.size + 1, 0, none⟩) (by show w.heap.size + 1 < w2.heap.size; omega)).trans b0r; have b1s := (g3.cell (p := ⟨w.heap.size + 1, 1, none⟩) (by show w.heap.size + 1 < w2.heap.size; omega)).trans b1r; have q0s := (g3.cell (p := ⟨w.heap.size + 1 + 1, 0, none⟩) (by show w.heap.size + 1 + 1 < w2.heap.size; omega)).trans q0r; have q1s := (g3.cell (p := ⟨w.heap.size + 1 + 1, 1, none⟩) (by show w.heap.size + 1 + 1 < w2.heap.size; omega)).trans q1r; have f0s := (g3.frozen (p := ⟨w.heap.size + 1 + 1, 0, none⟩) (by show w.heap.size + 1 + 1 < w2.heap.size; omega)).trans f0r; have f1s := (g3.frozen (p := ⟨w.heap.size + 1 + 1, 1, none⟩) (by show w.heap.size + 1 + 1 < w2.heap.size; omega)).trans f1r; have HG3 : Hid (Old w w3) := Old.trans (HG2.out.drewN 1) g3; have hs3 : w.heap.size + 3 ≤ w3.heap.size := by { have := g3.size; exact Nat.le_trans hs2 this }; clear tok g3)
          | (go_at_call 37; refine (in_anyW m c1 ys.length cap1 _).mono ?_; rintro e w4 ⟨rfl, g4⟩; have a0t := (g4.cell (p := ⟨w.heap.size, 0, none⟩) (by show w.heap.size < w3.heap.size; omega)).trans a0s; have a1t := (g4.cell (p := ⟨w.heap.size, 1, none⟩) (by show w.heap.size < w3.heap.size; omega)).trans a1s; have b0t := (g4.cell (p := ⟨w.heap.size + 1, 0, none⟩) (by show w.heap.size + 1 < w3.heap.size; omega)).trans b0s; have b1t := (g4.cell (p := ⟨w.heap.size + 1, 1, none⟩) (by show w.heap.size + 1 < w3.heap.size; omega)).trans b1s; have q0t := (g4.cell (p := ⟨w.heap.size + 1 + 1, 0, none⟩) (by show w.heap.size + 1 + 1 < w3.heap.size; omega)).trans q0s; have q1t := (g4.cell (p := ⟨w.heap.size + 1 + 1, 1, none⟩) (by show w.heap.size + 1 + 1 < w3.heap.size; omega)).trans q1s; have f0t := (g4.frozen (p := ⟨w.heap.size + 1 + 1, 0, none⟩) (by show w.heap.size + 1 + 1 < w3.heap.size; omega)).trans f0s; have f1t := (g4.frozen (p := ⟨w.heap.size + 1 + 1, 1, none⟩) (by show w.heap.size + 1 + 1 < w3.heap.size; omega)).trans f1s; have HG4 : Hid (Old w w4) := Old.trans HG3.out g4; have hs4 : w.heap.size + 3 ≤ w4.heap.size := by { have := g4.size; omega }; clear g4)
          | (go_at_call 49; refine (plus_any n m (nat xs) (nat ys) _ _ _ (HV2.out.old HG4.out) (HU2.out.old HG4.out) HGX.out.1 HGY.out.1 (by have := HGX.out.2; omega) (by have := HGY.out.2; omega)).mono ?_; rw [HZ.out]; rintro e w5 ⟨v5, rfl, g5, o5⟩; obtain ⟨c5, cap5, rfl⟩ := (Own.row o5).sliceN; have a0u := (g5.cell (p := ⟨w.heap.size, 0, none⟩) (by show w.heap.size < w4.heap.size; omega)).trans a0t; have a1u := (g5.cell (p := ⟨w.heap.size, 1, none⟩) (by show w.heap.size < w4.heap.size; omega)).trans a1t; have b0u := (g5.cell (p := ⟨w.heap.size + 1, 0, none⟩) (by show w.heap.size + 1 < w4.heap.size; omega)).trans b0t; have b1u := (g5.cell (p := ⟨w.heap.size + 1, 1, none⟩) (by show w.heap.size + 1 < w4.heap.size; omega)).trans b1t; have q0u := (g5.cell (p := ⟨w.heap.size + 1 + 1, 0, none⟩) (by show w.heap.size + 1 + 1 < w4.heap.size; omega)).trans q0t; have q1u := (g5.cell (p := ⟨w.heap.size + 1 + 1, 1, none⟩) (by show w.heap.size + 1 + 1 < w4.heap.size; omega)).trans q1t; have f0u := (g5.frozen (p := ⟨w.heap.size + 1 + 1, 0, none⟩) (by show w.heap.size + 1 + 1 < w4.heap.size; omega)).trans f0t; have f1u := (g5.frozen (p := ⟨w.heap.size + 1 + 1, 1, none⟩) (by show w.heap.size + 1 + 1 < w4.heap.size; omega)).trans f1t; have HG5 : Hid (Old w w5) := Old.trans HG4.out g5; have hs5 : w.heap.size + 3 ≤ w5.heap.size := by { have := g5.size; omega }; clear g5 o5)
          | (go_at_call 28; refine (out_no (ng z) _ (dg z).length _ _ (by omega) (by omega)).mono ?_; rintro e w6 ⟨rfl, g6⟩; have a0v := (g6.cell (p := ⟨w.heap.size, 0, none⟩) (by show w.heap.size < w5.heap.size; omega)).trans a0u; have a1v := (g6.cell (p := ⟨w.heap.size, 1, none⟩) (by show w.heap.size < w5.heap.size; omega)).trans a1u; have b0v := (g6.cell (p := ⟨w.heap.size + 1, 0, none⟩) (by show w.heap.size + 1 < w5.heap.size; omega)).trans b0u; have b1v := (g6.cell (p := ⟨w.heap.size + 1, 1, none⟩) (by show w.heap.size + 1 < w5.heap.size; omega)).trans b1u; have q0v := (g6.cell (p := ⟨w.heap.size + 1 + 1, 0, none⟩) (by show w.heap.size + 1 + 1 < w5.heap.size; omega)).trans q0u; have q1v := (g6.cell (p := ⟨w.heap.size + 1 + 1, 1, none⟩) (by show w.heap.size + 1 + 1 < w5.heap.size; omega)).trans q1u; have f0v := (g6.frozen (p := ⟨w.heap.size + 1 + 1, 0, none⟩) (by show w.heap.size + 1 + 1 < w5.heap.size; omega)).trans f0u; have f1v := (g6.frozen (p := ⟨w.heap.size + 1 + 1, 1, none⟩) (by show w.heap.size + 1 + 1 < w5.heap.size; omega)).trans f1u; have HG6 : Hid (Old w w6) := Old.trans HG5.out g6; clear g6))
        all_goals
          go_wp2_with fail
          refine bodyPost_ret (v := .tuple #[.agg #[.bool false, .slice none 0 0], .bool false]) (by simp [results, Tryz.results20, go_sem, q0v, q1v]) rfl ⟨_, by rw [HR.out], ?_, by rw [HR.out]; exact World.ownsRow_nil _ _ _ _⟩
          exact (HG6.out.own (p := ⟨w.heap.size + 1 + 1, 0, none⟩) (by simp; omega) _).own (p := ⟨w.heap.size + 1 + 1, 1, none⟩) (by simp; omega) _
    · have HR : Hid (R = (false, [], false)) := by rw [← hR]; unfold addW; rw [if_neg (fun h => hgb h.2)]; rfl
      have cgb := fun W (h : Row W (.slice c1 ys.length cap1) ys) => good_any m ys _ W h lb
      rw [decide_eq_false hgb] at cgb
      clear hga hgb hR
      go_enter Tryz.func20, Tryz.ntmps20
      go_wp2_with fail
      refine (cga _ (HV.out.old (HA.out _ _ _ _ _ _))).mono ?_
      rintro e w1 ⟨rfl, g1⟩
      have a0p : w1.cell? ⟨w.heap.size, 0, none⟩ = some (Value.bool n) := (g1.cell (p := ⟨w.heap.size, 0, none⟩) (by simp; try omega)).trans (c3_0 _ _ _ _ _ _ _ _ )
      have a1p : w1.cell? ⟨w.heap.size, 1, none⟩ = some (Value.slice c0 xs.length cap0) := (g1.cell (p := ⟨w.heap.size, 1, none⟩) (by simp; try omega)).trans (c3_0 _ _ _ _ _ _ _ _ )
      have b0p : w1.cell? ⟨w.heap.size + 1, 0, none⟩ = some (Value.bool m) := (g1.cell (p := ⟨w.heap.size + 1, 0, none⟩) (by simp; try omega)).trans (c3_1 _ _ _ _ _ _ _ _ )
      have b1p : w1.cell? ⟨w.heap.size + 1, 1, none⟩ = some (Value.slice c1 ys.length cap1) := (g1.cell (p := ⟨w.heap.size + 1, 1, none⟩) (by simp; try omega)).trans (c3_1 _ _ _ _ _ _ _ _ )
      have q0p : w1.cell? ⟨w.heap.size + 1 + 1, 0, none⟩ = some (Value.bool false) := (g1.cell (p := ⟨w.heap.size + 1 + 1, 0, none⟩) (by simp; try omega)).trans (c3_2 _ _ _ _ _ _ _ _ )
      have q1p : w1.cell? ⟨w.heap.size + 1 + 1, 1, none⟩ = some (Value.slice none 0 0) := (g1.cell (p := ⟨w.heap.size + 1 + 1, 1, none⟩) (by simp; try omega)).trans (c3_2 _ _ _ _ _ _ _ _ )
      have f0p : w1.frozen? ⟨w.heap.size + 1 + 1, 0, none⟩ = false := (g1.frozen (p := ⟨w.heap.size + 1 + 1, 0, none⟩) (by simp; try omega)).trans (f3_2 _ _ _ _ _ _ _ _ )
      have f1p : w1.frozen? ⟨w.heap.size + 1 + 1, 1, none⟩ = false := (g1.frozen (p := ⟨w.heap.size + 1 + 1, 1, none⟩) (by simp; try omega)).trans (f3_2 _ _ _ _ _ _ _ _ )
      have HG1 : Hid (Old w w1) := Old.trans (HA.out _ _ _ _ _ _) g1
      have hs1 : w.heap.size + 3 ≤ w1.heap.size := by have := g1.size; simp at this; omega
      clear g1 HA
      go_wp2_with fail
      refine (cgb _ (HU.out.old HG1.out)).mono ?_
      rintro e w2 ⟨rfl, g2⟩
      have a0r := (g2.cell (p := ⟨w.heap.size, 0, none⟩) (by show w.heap.size < w1.heap.size; omega)).trans a0p
      have a1r := (g2.cell (p := ⟨w.heap.size, 1, none⟩) (by show w.heap.size < w1.heap.size; omega)).trans a1p
      have b0r := (g2.cell (p := ⟨w.heap.size + 1, 0, none⟩) (by show w.heap.size + 1 < w1.heap.size; omega)).trans b0p
      have b1r := (g2.cell (p := ⟨w.heap.size + 1, 1, none⟩) (by show w.heap.size + 1 < w1.heap.size; omega)).trans b1p
      have q0r := (g2.cell (p := ⟨w.heap.size + 1 + 1, 0, none⟩) (by show w.heap.size + 1 + 1 < w1.heap.size; omega)).trans q0p
      have q1r := (g2.cell (p := ⟨w.heap.size + 1 + 1, 1, none⟩) (by show w.heap.size + 1 + 1 < w1.heap.size; omega)).trans q1p
      have f0r := (g2.frozen (p := ⟨w.heap.size + 1 + 1, 0, none⟩) (by show w.heap.size + 1 + 1 < w1.heap.size; omega)).trans f0p
      have f1r := (g2.frozen (p := ⟨w.heap.size + 1 + 1, 1, none⟩) (by show w.heap.size + 1 + 1 < w1.heap.size; omega)).trans f1p
      have HG2 : Hid (Old w w2) := Old.trans HG1.out g2
      clear g2 HG1
      go_wp2_with fail
      refine bodyPost_ret (v := .tuple #[.agg #[.bool false, .slice none 0 0], .bool false]) (by simp [results, Tryz.results20, go_sem, q0r, q1r]) rfl ⟨_, by rw [HR.out], ?_, by rw [HR.out]; exact World.ownsRow_nil _ _ _ _⟩
      exact (HG2.out.own (p := ⟨w.heap.size + 1 + 1, 0, none⟩) (by simp; omega) _).own (p := ⟨w.heap.size + 1 + 1, 1, none⟩) (by simp; omega) _
  · have HR : Hid (R = (false, [], false)) := by rw [← hR]; unfold addW; rw [if_neg (fun h => hga h.1)]; rfl
    have cga := fun W (h : Row W (.slice c0 xs.length cap0) xs) => good_any n xs _ W h la
    rw [decide_eq_false hga] at cga
    clear hga hR
    go_enter Tryz.func20, Tryz.ntmps20
    go_wp2_with fail
    refine (cga _ (HV.out.old (HA.out _ _ _ _ _ _))).mono ?_
    rintro e w1 ⟨rfl, g1⟩
    have a0p : w1.cell? ⟨w.heap.size, 0, none⟩ = some (Value.bool n) := (g1.cell (p := ⟨w.heap.size, 0, none⟩) (by simp; try omega)).trans (c3_0 _ _ _ _ _ _ _ _ )
    have a1p : w1.cell? ⟨w.heap.size, 1, none⟩ = some (Value.slice c0 xs.length cap0) := (g1.cell (p := ⟨w.heap.size, 1, none⟩) (by simp; try omega)).trans (c3_0 _ _ _ _ _ _ _ _ )
    have b0p : w1.cell? ⟨w.heap.size + 1, 0, none⟩ = some (Value.bool m) := (g1.cell (p := ⟨w.heap.size + 1, 0, none⟩) (by simp; try omega)).trans (c3_1 _ _ _ _ _ _ _ _ )
    have b1p : w1.cell? ⟨w.heap.size + 1, 1, none⟩ = some (Value.slice c1 ys.length cap1) := (g1.cell (p := ⟨w.heap.size + 1, 1, none⟩) (by simp; try omega)).trans (c3_1 _ _ _ _ _ _ _ _ )
    have q0p : w1.cell? ⟨w.heap.size + 1 + 1, 0, none⟩ = some (Value.bool false) := (g1.cell (p := ⟨w.heap.size + 1 + 1, 0, none⟩) (by simp; try omega)).trans (c3_2 _ _ _ _ _ _ _ _ )
    have q1p : w1.cell? ⟨w.heap.size + 1 + 1, 1, none⟩ = some (Value.slice none 0 0) := (g1.cell (p := ⟨w.heap.size + 1 + 1, 1, none⟩) (by simp; try omega)).trans (c3_2 _ _ _ _ _ _ _ _ )
    have f0p : w1.frozen? ⟨w.heap.size + 1 + 1, 0, none⟩ = false := (g1.frozen (p := ⟨w.heap.size + 1 + 1, 0, none⟩) (by simp; try omega)).trans (f3_2 _ _ _ _ _ _ _ _ )
    have f1p : w1.frozen? ⟨w.heap.size + 1 + 1, 1, none⟩ = false := (g1.frozen (p := ⟨w.heap.size + 1 + 1, 1, none⟩) (by simp; try omega)).trans (f3_2 _ _ _ _ _ _ _ _ )
    have HG1 : Hid (Old w w1) := Old.trans (HA.out _ _ _ _ _ _) g1
    clear g1 HA
    go_wp2_with fail
    refine bodyPost_ret (v := .tuple #[.agg #[.bool false, .slice none 0 0], .bool false]) (by simp [results, Tryz.results20, go_sem, q0p, q1p]) rfl ⟨_, by rw [HR.out], ?_, by rw [HR.out]; exact World.ownsRow_nil _ _ _ _⟩
    exact (HG1.out.own (p := ⟨w.heap.size + 1 + 1, 0, none⟩) (by simp; omega) _).own (p := ⟨w.heap.size + 1 + 1, 1, none⟩) (by simp; omega) _
end Go.Proofs.YtfcdfielbpdloaaGreatDoor
