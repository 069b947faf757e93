/- Proved: the contract of the program's sizeOf: the size of a whole number's limbs. -/
import Derived.Test.YtfcdfielbpdloaaGreatDoorSzAdd
import Derived.Laws.CopyOwn
import Derived.Deep.RegionLaw
namespace Go.Proofs.YtfcdfielbpdloaaGreatDoor
open Go.ChangeShapes Go.WideShapes Go.ChangeAt Go.RowKit
open M2
set_option linter.unusedVariables false
set_option linter.unusedSimpArgs false

theorem infoIntSizeW : (Tryz.prog.info? 3).map (·.size) = some 1 := by kernel_rfl
theorem szA_list (ls : List Nat) (c : Nat) : (szA ls c).toList = ls.map (fun n : Nat => Value.int .i64 (n : Int)) ++ [Value.int .i64 (c : Int)] := by simp [szA]
theorem szA_splice {xs : List Nat} (h : xs.length ≤ 80) (c : Nat) : (splice (szA (ext []) c).toList 0 (xs.map (fun n : Nat => Value.int .i64 (n : Int)))).toArray = szA (ext xs) c := by
  unfold splice
  rw [szA_list, List.take_zero, List.nil_append, Nat.zero_add, List.length_map]
  unfold szA ext
  rw [List.drop_append_of_le_length (by simp; omega), List.nil_append, List.map_replicate, List.drop_replicate, List.map_append, List.map_replicate, List.append_assoc]
  rfl
theorem pad_nrm {xs : List Nat} (h : Nrm xs) : pad (val xs) = ext xs ∧ cnt (val xs) = xs.length := ⟨by unfold pad; rw [dig_val h], cnt_nrm h⟩
theorem one_ints (xs : List Nat) : ∀ v ∈ xs.map (fun n : Nat => Value.int .i64 (n : Int)), v.oneCell' = true := by
  intro v hv
  obtain ⟨n, _, rfl⟩ := List.mem_map.1 hv
  rfl
theorem row_src {w : World} {a0 : Option Addr} {cap : Nat} {xs : List Nat} (h : Row w (.slice a0 xs.length cap) (toI xs)) (h0 : 0 < xs.length) :
    ∃ ad, a0 = some ad ∧ ad.block < w.heap.size ∧ ∀ W, Old w W → ∀ (j : Nat) v, (xs.map (fun n : Nat => Value.int .i64 (n : Int)))[j]? = some v → W.cell? (ad.add j) = some v := by
  obtain ⟨b, o, rfl, hb, hc⟩ := Row.at h h0
  refine ⟨_, rfl, hb, fun W g j v hj => ?_⟩
  have hjl : j < xs.length := by
    have := (List.getElem?_eq_some_iff.1 hj).1
    simpa using this
  have e2 : v = .int .i64 ((xs.getD j 0 : Nat) : Int) := by
    simp [hjl] at hj
    rw [← hj]
    simp [List.getD, hjl]
  have : (⟨b, o, none⟩ : Addr).add j = ⟨b, o + j, none⟩ := by
    unfold Addr.add
    split
    · rename_i h; simp [h]
    · rfl
  rw [e2, this, ← hc j hjl]
  exact g.cell (p := ⟨b, o + j, none⟩) hb
set_option maxHeartbeats 4000000 in
theorem sizeOf_sz (n : Bool) (xs : List Nat) (v : Value) (w : World) (hv : Row w v (toI xs)) (hx : Nrm xs) (hl : xs.length ≤ 79) :
    Calls Tryz.prog 67 #[.agg #[.bool n, v]] w fun e w' => e = .returned (.agg (szV (val xs))) ∧ Old w w' := by
  have HV : Hid (Row w v (toI xs)) := hv
  obtain ⟨a0, cap0, rfl⟩ := hv.sliceN
  clear hv
  obtain ⟨p1, p2⟩ := pad_nrm hx
  unfold szV
  rw [p1, p2]
  clear p1 p2
  have HPX : Hid ((ext xs).length = 80) := ext_len (by omega)
  have HPE : Hid ((ext ([] : List Nat)).length = 80) := ext_len (by simp)
  have HN : Hid ((xs.map (fun n : Nat => Value.int .i64 (n : Int))).length = Nat.min xs.length 80) := by
    show (xs.map (fun n : Nat => Value.int .i64 (n : Int))).length = min xs.length 80
    simp; omega
  have HFIT : Hid (0 + (xs.map (fun n : Nat => Value.int .i64 (n : Int))).length ≤ (szA (ext []) 0).toList.length) := by
    show 0 + (xs.map (fun n : Nat => Value.int .i64 (n : Int))).length ≤ (szA (ext []) 0).toList.length
    rw [szA_list]; simp [HPE.out]; omega
  have HSP : Hid ((splice (szA (ext []) 0).toList 0 (xs.map (fun n : Nat => Value.int .i64 (n : Int)))).toArray = szA (ext xs) 0) := szA_splice (by omega) 0
  have HLN : Hid ((xs.map (fun n : Nat => Value.int .i64 (n : Int))).length = xs.length) := List.length_map _
  have HONE : Hid (∀ v ∈ xs.map (fun n : Nat => Value.int .i64 (n : Int)), v.oneCell' = true) := one_ints xs
  obtain ⟨cs, hcs⟩ : ∃ cs, cs = xs.map (fun n : Nat => Value.int .i64 (n : Int)) := ⟨_, rfl⟩
  rw [← hcs] at HN HFIT HSP HLN HONE
  have HCS : Hid (0 < cs.length → ∃ ad, a0 = some ad ∧ ad.block < w.heap.size ∧ ∀ W, Old w W → ∀ (j : Nat) v, cs[j]? = some v → W.cell? (ad.add j) = some v) := fun h0 => by
    rw [hcs] at h0 ⊢
    exact row_src HV.out (by simpa using h0)
  clear hcs
  obtain ⟨cur, hcur⟩ : ∃ cur, cur = (szA (ext []) 0).toList := ⟨_, rfl⟩
  rw [← hcur] at HFIT HSP
  have HCUR : Hid (cur.toArray = szA (ext []) 0) := by rw [hcur]; exact Array.toArray_toList
  clear hcur
  have HZ : Hid (Tryz.zeroCells56 = szA (ext []) 0) := szZero
  have HW1 : Hid (∀ A B C k, Old w ((((w.alloc (.cells A 27)).alloc (.cells B 56)).alloc (.cells C 56)).drewN k)) := fun A B C k => ((((Old.refl w).alloc _).alloc _).alloc _).drewN _
  have HB1 : Hid (∀ A B k, ((((w.alloc (.cells A 27)).alloc (.cells B 56)).alloc (.cells Tryz.zeroCells56 56)).drewN k).heap[w.heap.size + 1 + 1]? = some (.cells cur.toArray 56 (0, 0))) := fun A B k => by
    rw [HCUR.out]
    exact (Sz.zero ((w.alloc (.cells A 27)).alloc (.cells B 56)) (w.heap.size + 1 + 1) (by simp)).blk
  have HR1 : Hid (∀ A C k, Sz ((((w.alloc (.cells A 27)).alloc (.cells Tryz.zeroCells56 56)).alloc (.cells C 56)).drewN k) (w.heap.size + 1) (ext []) 0) := fun A C k => ((Sz.zero (w.alloc (.cells A 27)) (w.heap.size + 1) (by simp)).alloc _).drew _
  have hzs : (w.heap.size + 1 + 1 : Nat) = w.heap.size + 1 + 1 := rfl
  clear hzs
  go_enter Tryz.func67, Tryz.ntmps67
  go_wp2_with fail
  go_region_law (refine step_copy_splice rfl (.tmp 5) (.tmp 7) 23 23 rfl 3 Tryz.underlying23 infoIntSizeW (some ⟨w.heap.size + 1 + 1, 0, none⟩) a0 80 80 xs.length cap0 (by simp [Act.eval, Act.put]) (by simp [Act.eval, Act.put]) (w.heap.size + 1 + 1) 0 cur 56 (HB1.out _ _ 1) cs HN.out (fun h0 => ⟨rfl, by obtain ⟨ad, h1, _, h3⟩ := HCS.out h0; exact ⟨ad, h1, h3 _ (HW1.out _ _ _ 1)⟩⟩) HFIT.out HONE.out (w.heap.size + 1 + 1) _ (Below.refl _ _) (Nat.le_refl _) ?_; intro w4 hg4 hb4; have S4 : Sz w4 (w.heap.size + 1 + 1) (ext xs) 0 := ⟨by rw [← HSP.out]; exact hg4.out, HPX.out⟩; have c4 := S4.cnt; have f4 := S4.fro 80; have H4 : Hid (Sz w4 (w.heap.size + 1 + 1) (ext xs) 0) := S4; have R4 : Hid (Sz w4 (w.heap.size + 1) (ext []) 0) := ⟨by rw [hb4.block (w.heap.size + 1) (by omega)]; exact (HR1.out _ _ 1).blk, HPE.out⟩; have G4 : Hid (Old w w4) := Below.trans (HW1.out _ _ _ 1) (hb4.mono (by omega)); clear hg4 hb4 S4)
  all_goals
    have HD : Hid (Sz (w4.setCell ⟨w.heap.size + 1 + 1, 80, none⟩ (.int .i64 (cs.length : Int))) (w.heap.size + 1 + 1) (ext xs) cs.length) := H4.out.setc _
    have HR : Hid (Sz (w4.setCell ⟨w.heap.size + 1 + 1, 80, none⟩ (.int .i64 (cs.length : Int))) (w.heap.size + 1) (ext []) 0) := R4.out.other _ (by simp) _
    have HG : Hid (Old w (w4.setCell ⟨w.heap.size + 1 + 1, 80, none⟩ (.int .i64 (cs.length : Int)))) := G4.out.own (by simp; omega) _
    clear c4 f4 H4 R4 G4
    go_wp2_with (first | ((with_reducible refine load_sz HD.out ?_ ?_); exact rfl; simp only [Act.put, List.setIfInBounds_toArray, List.set_cons_succ, List.set_cons_zero]) | ((with_reducible refine store_sz HR.out (ext xs) cs.length HPX.out ?_ ?_ ?_); exact rfl; exact rfl; simp only [Act.put]) | ((with_reducible refine bodyPost_ret (ret_sz Tryz.results67 _ _ ?_ (HR.out.row (ext xs) cs.length HPX.out)) ?_ ?_); exact rfl; exact rfl; exact ⟨by rw [HLN.out], HG.out.row (by omega) _⟩))
end Go.Proofs.YtfcdfielbpdloaaGreatDoor
