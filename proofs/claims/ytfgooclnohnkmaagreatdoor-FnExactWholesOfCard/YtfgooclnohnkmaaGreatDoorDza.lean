/- Proved: the contract of the program's divideSizes where the number is below its divisor, and where the divisor is a word. -/
import Derived.Test.YtfgooclnohnkmaaGreatDoorDz5
import Derived.Test.YtfgooclnohnkmaaGreatDoorDz2b
import Derived.Test.YtfgooclnohnkmaaGreatDoorSzCmp
import Derived.Test.YtfgooclnohnkmaaGreatDoorSzWord
namespace Go.Proofs.YtfgooclnohnkmaaGreatDoor
open Go.ChangeShapes Go.WideShapes Go.ChangeAt Go.RowKit
open M2
set_option linter.unusedVariables false
set_option linter.unusedSimpArgs false
set_option maxRecDepth 100000 in
set_option maxHeartbeats 8000000 in
theorem div_lt (a b : Nat) (w : World) (ha : cnt a ≤ 40) (hb : cnt b ≤ 40) (hlt : a < b) :
    Calls Tryz.prog 77 #[.agg (szV a), .agg (szV b)] w fun e w' => e = .returned (.tuple #[.agg (szV (a / b)), .agg (szV (a % b))]) ∧ Old w w' := by
  rw [Nat.div_eq_of_lt hlt, Nat.mod_eq_of_lt hlt]
  have HPA : Hid ((pad a).length = 80) := pad_len' ha (by omega)
  have HPB : Hid ((pad b).length = 80) := pad_len' hb (by omega)
  have HA0 : Hid (Sz ((((w.alloc (.cells (szA (pad a) (cnt a)) 95)).alloc (.cells (szA (pad b) (cnt b)) 95)).alloc (.cells Tryz.zeroCells95 95)).alloc (.cells Tryz.zeroCells95 95)) w.heap.size (pad a) (cnt a)) := (((Sz.new w _ _ HPA.out).alloc _).alloc _).alloc _
  have HB0 : Hid (Sz ((((w.alloc (.cells (szA (pad a) (cnt a)) 95)).alloc (.cells (szA (pad b) (cnt b)) 95)).alloc (.cells Tryz.zeroCells95 95)).alloc (.cells Tryz.zeroCells95 95)) (w.heap.size + 1) (pad b) (cnt b)) := ((Sz.new' _ _ _ _ HPB.out (by simp)).alloc _).alloc _
  have HX0 : Hid (Sz ((((w.alloc (.cells (szA (pad a) (cnt a)) 95)).alloc (.cells (szA (pad b) (cnt b)) 95)).alloc (.cells Tryz.zeroCells95 95)).alloc (.cells Tryz.zeroCells95 95)) (w.heap.size + 1 + 1) (ext []) 0) := (Sz.zero _ _ (by simp)).alloc _
  have HY0 : Hid (Sz ((((w.alloc (.cells (szA (pad a) (cnt a)) 95)).alloc (.cells (szA (pad b) (cnt b)) 95)).alloc (.cells Tryz.zeroCells95 95)).alloc (.cells Tryz.zeroCells95 95)) (w.heap.size + 1 + 1 + 1) (ext []) 0) := Sz.zero _ _ (by simp)
  have HO0 : Hid (Old w ((((w.alloc (.cells (szA (pad a) (cnt a)) 95)).alloc (.cells (szA (pad b) (cnt b)) 95)).alloc (.cells Tryz.zeroCells95 95)).alloc (.cells Tryz.zeroCells95 95))) := ((((Old.refl w).alloc _).alloc _).alloc _).alloc _
  have cc := fun W => cmp_sz a b W (by omega) (by omega)
  have hz : cmpN a b = -1 := by unfold cmpN; rw [if_pos hlt]
  rw [hz] at cc
  have HE0 : Hid (szV 0 = szA (ext []) 0) := by
    show _ = _
    unfold szV pad
    rw [dig_zero, cnt_zero]
  rw [HE0.out]
  clear hz hlt
  unfold szV at *
  go_enter Tryz.func77, Tryz.ntmps77
  go_wp2_with (first | ((with_reducible refine load_sz HA0.out ?_ ?_); exact rfl; simp only [Act.put, List.setIfInBounds_toArray, List.set_cons_succ, List.set_cons_zero]) | ((with_reducible refine load_sz HB0.out ?_ ?_); exact rfl; simp only [Act.put, List.setIfInBounds_toArray, List.set_cons_succ, List.set_cons_zero]))
  refine (cc _).mono ?_
  rintro e w2 ⟨rfl, g2⟩
  have HA2 : Hid (Sz w2 w.heap.size (pad a) (cnt a)) := HA0.out.old g2
  have HB2 : Hid (Sz w2 (w.heap.size + 1) (pad b) (cnt b)) := HB0.out.old g2
  have HX2 : Hid (Sz w2 (w.heap.size + 1 + 1) (ext []) 0) := HX0.out.old g2
  have HY2 : Hid (Sz w2 (w.heap.size + 1 + 1 + 1) (ext []) 0) := HY0.out.old g2
  have HO2 : Hid (Old w w2) := Old.trans HO0.out g2
  have hs2 : w.heap.size + 1 + 1 + 1 < w2.heap.size := HY2.out.lt
  clear g2 HA0 HB0 HX0 HY0 HO0 cc
  go_wp2_with fail
  refine reg_d2n a w w2 HA2 HX2 HY2 HO2 _ _ _ _ _ _ _ _ _ _ _ _ _ _ _ _ _ _ _ _ _ _ _ _ _ _ _ _ _ _ _ _ _ _ _ _ _ _ _ _ _ _ _ _ _ _ _ _ _ _ _ _ _ _ _ _ _ _ _ _ _ _ _ _ _ _ _ ?_
  intro W u17 u18 hz1 hz2 ho
  go_wp2_with fail
  exact bodyPost_ret (ret_sz2 Tryz.results77 _ _ rfl rfl hz1 hz2) rfl ⟨rfl, ho⟩
theorem pad_low {b : Nat} (h : cnt b = 1) : (pad b).getD 0 0 = b ∧ 0 < b ∧ b < 268435456 := by
  have h1 := cnt_lt b
  rw [h, Nat.pow_one] at h1
  have h2 : b ≠ 0 := fun e => by rw [e, cnt_zero] at h; omega
  refine ⟨?_, by omega, h1⟩
  rw [pad_at, Nat.pow_zero, Nat.div_one, Nat.mod_eq_of_lt h1]
set_option maxRecDepth 100000 in
set_option maxHeartbeats 8000000 in
theorem div_one (a b : Nat) (w : World) (ha : cnt a ≤ 40) (hb1 : cnt b = 1) (hge : b ≤ a) :
    Calls Tryz.prog 77 #[.agg (szV a), .agg (szV b)] w fun e w' => e = .returned (.tuple #[.agg (szV (a / b)), .agg (szV (a % b))]) ∧ Old w w' := by
  have hb : cnt b ≤ 40 := by omega
  have HPA : Hid ((pad a).length = 80) := pad_len' ha (by omega)
  have HPB : Hid ((pad b).length = 80) := pad_len' hb (by omega)
  have HA0 : Hid (Sz ((((w.alloc (.cells (szA (pad a) (cnt a)) 95)).alloc (.cells (szA (pad b) (cnt b)) 95)).alloc (.cells Tryz.zeroCells95 95)).alloc (.cells Tryz.zeroCells95 95)) w.heap.size (pad a) (cnt a)) := (((Sz.new w _ _ HPA.out).alloc _).alloc _).alloc _
  have HB0 : Hid (Sz ((((w.alloc (.cells (szA (pad a) (cnt a)) 95)).alloc (.cells (szA (pad b) (cnt b)) 95)).alloc (.cells Tryz.zeroCells95 95)).alloc (.cells Tryz.zeroCells95 95)) (w.heap.size + 1) (pad b) (cnt b)) := ((Sz.new' _ _ _ _ HPB.out (by simp)).alloc _).alloc _
  have HX0 : Hid (Sz ((((w.alloc (.cells (szA (pad a) (cnt a)) 95)).alloc (.cells (szA (pad b) (cnt b)) 95)).alloc (.cells Tryz.zeroCells95 95)).alloc (.cells Tryz.zeroCells95 95)) (w.heap.size + 1 + 1) (ext []) 0) := (Sz.zero _ _ (by simp)).alloc _
  have HY0 : Hid (Sz ((((w.alloc (.cells (szA (pad a) (cnt a)) 95)).alloc (.cells (szA (pad b) (cnt b)) 95)).alloc (.cells Tryz.zeroCells95 95)).alloc (.cells Tryz.zeroCells95 95)) (w.heap.size + 1 + 1 + 1) (ext []) 0) := Sz.zero _ _ (by simp)
  have HO0 : Hid (Old w ((((w.alloc (.cells (szA (pad a) (cnt a)) 95)).alloc (.cells (szA (pad b) (cnt b)) 95)).alloc (.cells Tryz.zeroCells95 95)).alloc (.cells Tryz.zeroCells95 95))) := ((((Old.refl w).alloc _).alloc _).alloc _).alloc _
  have cc := fun W => cmp_sz a b W (by omega) (by omega)
  have hz : ¬ cmpN a b < 0 := by unfold cmpN; rw [if_neg (by omega)]; split <;> omega
  obtain ⟨b1, b2, b3⟩ := pad_low hb1
  obtain ⟨z, hze⟩ : ∃ z, cmpN a b = z := ⟨_, rfl⟩
  rw [hze] at cc hz
  have dz : decide (z < 0) = false := decide_eq_false hz
  have cw := fun W => word_sz a b W (by omega) b2 (by omega)
  have hrl : a % b < 268435456 := Nat.lt_trans (Nat.mod_lt _ b2) b3
  have HPQ : Hid ((pad (a / b)).length = 80) := pad_len' (Nat.le_trans (cnt_mono (Nat.div_le_self _ _)) ha) (by omega)
  have HB1 : Hid ((pad b).getD 0 0 = b) := b1
  have HCB : Hid (cnt b = 1) := hb1
  generalize a % b = r at *
  generalize a / b = q at *
  clear hz hze b1 hge hb1
  unfold szV at *
  go_enter Tryz.func77, Tryz.ntmps77
  go_wp2_with (first | ((with_reducible refine load_sz HA0.out ?_ ?_); exact rfl; simp only [Act.put, List.setIfInBounds_toArray, List.set_cons_succ, List.set_cons_zero]) | ((with_reducible refine load_sz HB0.out ?_ ?_); exact rfl; simp only [Act.put, List.setIfInBounds_toArray, List.set_cons_succ, List.set_cons_zero]))
  refine (cc _).mono ?_
  rintro e w2 ⟨rfl, g2⟩
  have HA2 : Hid (Sz w2 w.heap.size (pad a) (cnt a)) := HA0.out.old g2
  have HB2 : Hid (Sz w2 (w.heap.size + 1) (pad b) (cnt b)) := HB0.out.old g2
  have HX2 : Hid (Sz w2 (w.heap.size + 1 + 1) (ext []) 0) := HX0.out.old g2
  have HY2 : Hid (Sz w2 (w.heap.size + 1 + 1 + 1) (ext []) 0) := HY0.out.old g2
  have HO2 : Hid (Old w w2) := Old.trans HO0.out g2
  have hs2 : w.heap.size + 1 + 1 + 1 < w2.heap.size := HY2.out.lt
  clear g2 HA0 HB0 HX0 HY0 HO0 cc
  have c1 : w2.cell? ⟨w.heap.size + 1, 80, none⟩ = some (.int .i64 1) := by rw [HB2.out.cnt, HCB.out]; rfl
  have c2 : w2.cell? ⟨w.heap.size + 1, 0, none⟩ = some (.int .i64 (b : Int)) := by rw [HB2.out.at (j := 0) (by omega), HB1.out]
  go_wp2_with (first | ((with_reducible refine load_sz HA2.out ?_ ?_); exact rfl; simp only [Act.put, List.setIfInBounds_toArray, List.set_cons_succ, List.set_cons_zero]) | (go_at_call 129; refine (cw _).mono ?_; rintro e w3 ⟨rfl, g3⟩; have HX3 : Hid (Sz (w3.alloc (.cells Tryz.zeroCells95 95)) (w.heap.size + 1 + 1) (ext []) 0) := (HX2.out.old g3).alloc _; have HY3 : Hid (Sz (w3.alloc (.cells Tryz.zeroCells95 95)) (w.heap.size + 1 + 1 + 1) (ext []) 0) := (HY2.out.old g3).alloc _; have HO3 : Hid (Old w (w3.alloc (.cells Tryz.zeroCells95 95))) := (Old.trans HO2.out g3).alloc _; have HZ3 : Hid (Sz (w3.alloc (.cells Tryz.zeroCells95 95)) w3.heap.size (ext []) 0) := Sz.zero w3 _ rfl; have hs3 : w.heap.size + 1 + 1 + 1 < w3.heap.size := (by have := g3.size; omega); clear g3) | ((with_reducible refine store_sz HZ3.out (pad q) (cnt q) HPQ.out ?_ ?_ ?_); exact rfl; exact rfl; simp only [Act.put]))
  have HQ4 : Hid (Sz ((w3.alloc (.cells Tryz.zeroCells95 95)).setRow w3.heap.size (szA (pad q) (cnt q))) w3.heap.size (pad q) (cnt q)) := HZ3.out.row (pad q) (cnt q) HPQ.out
  refine reg_d5 q r w3.heap.size w _ hrl hs3 HQ4 (HX3.out.otherRow (by omega) _) (HY3.out.otherRow (by omega) _) (HO3.out.row (by omega) _) _ _ _ _ _ _ _ _ _ _ _ _ _ _ _ _ _ _ _ _ _ _ _ _ _ _ _ _ _ _ _ _ _ _ _ _ _ _ _ _ _ _ _ _ _ _ _ _ _ _ _ _ _ _ _ _ _ _ _ _ _ _ _ _ _ ?_
  intro W u30 u31 u32 u33 hz1 hz2 ho
  go_wp2_with fail
  exact bodyPost_ret (ret_sz2 Tryz.results77 _ _ rfl rfl hz1 hz2) rfl ⟨rfl, ho⟩
end Go.Proofs.YtfgooclnohnkmaaGreatDoor
