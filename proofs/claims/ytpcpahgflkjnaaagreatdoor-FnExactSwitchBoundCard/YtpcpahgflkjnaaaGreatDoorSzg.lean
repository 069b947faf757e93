/- Proved: sizes as rows of cells of any content: how they are loaded, stored and answered whole; the program's sizeOf at any limbs; no other function of the program. -/
import Derived.Test.YtpcpahgflkjnaaaGreatDoorSzIn
import Derived.Test.YtpcpahgflkjnaaaGreatDoorB02
import Derived.Deep.RegionLawGrows
namespace Go.Proofs.YtpcpahgflkjnaaaGreatDoor
open Go.ChangeShapes Go.WideShapes Go.ChangeAt Go.RowKit
open M2
set_option linter.unusedVariables false
set_option linter.unusedSimpArgs false
def Sq (S : Array Value) : Prop := S.size = 81 ∧ S.all (·.oneCell') = true
theorem sq_v {n : Nat} (h : cnt n ≤ 80) : Sq (szV n) := ⟨by unfold szV; exact szA_size (pad_len (by unfold cnt at h; omega)) _, szA_one _ _⟩
structure Sg (w : World) (g : Nat) (A : Array Value) : Prop where
  blk : w.heap[g]? = some (.cells A 113 (0, 0))
  sq : Sq A
theorem Sg.lt {w : World} {g : Nat} {A : Array Value} (h : Sg w g A) : g < w.heap.size := (Array.getElem?_eq_some_iff.1 h.blk).1
theorem Sg.old {w w' : World} {g : Nat} {A : Array Value} (h : Sg w g A) (o : Old w w') : Sg w' g A := ⟨by rw [o.block g h.lt]; exact h.blk, h.sq⟩
theorem Sg.row {w : World} {g : Nat} {A : Array Value} (h : Sg w g A) (B : Array Value) (hB : Sq B) : Sg (w.setRow g B) g B := ⟨setRow_heap w g _ _ _ _ h.blk, hB⟩
theorem Sg.otherRow {w : World} {g : Nat} {A : Array Value} (h : Sg w g A) {g' : Nat} (hg : g ≠ g') (cs : Array Value) : Sg (w.setRow g' cs) g A := ⟨by rw [setRow_other w g' g cs hg]; exact h.blk, h.sq⟩
theorem Sg.alloc {w : World} {g : Nat} {A : Array Value} (h : Sg w g A) (o : Obj) : Sg (w.alloc o) g A := ⟨by rw [show (w.alloc o).heap[g]? = w.heap[g]? from heap_alloc_old w o h.lt]; exact h.blk, h.sq⟩
theorem Sg.new (w : World) (A : Array Value) (g : Nat) (hA : Sq A) (hg : g = w.heap.size) : Sg (w.alloc (.cells A 113)) g A := by subst hg; exact ⟨heap_alloc_new w _, hA⟩
theorem sq_zero : Sq Tryz.zeroCells113 := by rw [szZero]; exact ⟨szA_size (ext_len (by simp)) _, szA_one _ _⟩
theorem Sg.zero (w : World) (g : Nat) (hg : g = w.heap.size) : Sg (w.alloc (.cells Tryz.zeroCells113 113)) g Tryz.zeroCells113 := Sg.new w _ g sq_zero hg
theorem Bk.otherRow {w : World} {k : Nat} {vs : Array Value} {t : TypeId} (h : Bk w k vs t) {g : Nat} (hg : k ≠ g) (cs : Array Value) : Bk (w.setRow g cs) k vs t := (setRow_other w g k cs hg).trans h
section
variable {ops : Array Oper} {rest : List Oper} {a : Act} {w : World} {Q : Exit → Act → World → Prop} {ty : TypeId} {pos : String} {d : Option Tmp} {x y : Operand}
theorem load_sg {af : Array Edge} {g : Nat} {A : Array Value} (hs : Sg w g A) (hx : a.eval x = .pointer (some ⟨g, 0, none⟩))
    (h : wpList Tryz.prog ops Q rest (a.put d (.agg A)) w) : wpList Tryz.prog ops Q (⟨d, .load 113 x, ty, pos, af, none⟩ :: rest) a w :=
  wpList_load_row rfl 113 x rfl g hx 113 A (0, 0) _ hs.blk Tryz.underlying113 rfl (by rw [hs.sq.1]; exact infoSz) h
theorem store_sg {af : Array Edge} {g : Nat} {A : Array Value} (hs : Sg w g A) (B : Array Value) (hB : Sq B) (hx : a.eval x = .pointer (some ⟨g, 0, none⟩)) (hy : a.eval y = .agg B)
    (h : wpList Tryz.prog ops Q rest (a.put d undef) (w.setRow g B)) : wpList Tryz.prog ops Q (⟨d, .store 113 x y, ty, pos, af, none⟩ :: rest) a w := by
  refine wpList_store_row rfl 113 x y rfl g B hx hy 113 A hs.blk (by rw [hB.1]; exact infoSz) (by rw [hs.sq.1, hB.1]) hB.2 h
end
theorem ret_sg {fn : Func} {p : Tmp} (h : fn.results = #[.cell p 113]) (tmps : Array Value) (w : World) {g : Nat} {A : Array Value} (hp : tmps.getD p undef = .pointer (some ⟨g, 0, none⟩)) (hs : Sg w g A) :
    (results fn tmps).run Tryz.prog w = .ok (.agg A) w :=
  results_cell_row h tmps w g 113 A (0, 0) _ hp hs.blk Tryz.underlying113 rfl (by rw [hs.sq.1]; exact infoSz)
theorem ret_sgi {fn : Func} {p u : Tmp} (h : fn.results = #[.cell p 113, .tmp u]) (tmps : Array Value) (w : World) {g : Nat} {A : Array Value} {y : Value} (hp : tmps.getD p undef = .pointer (some ⟨g, 0, none⟩)) (hu : tmps.getD u undef = y) (hs : Sg w g A) :
    (results fn tmps).run Tryz.prog w = .ok (.tuple #[.agg A, y]) w := by
  have hld := run_loadVar_row (P := Tryz.prog) w g 113 113 A (0, 0) _ hs.blk Tryz.underlying113 rfl (by rw [hs.sq.1]; exact infoSz)
  rw [results_cell_tmp h, hp, hu]
  simp [asAddr, Result.andThen, hld]
theorem row_srcI {w : World} {a0 : Option Addr} {cap : Nat} {xs : List Int} (h : Row w (.slice a0 xs.length cap) xs) (h0 : 0 < ((xs.take 80).map (Value.int .i64)).length) :
    ∃ ad, a0 = some ad ∧ ad.block < w.heap.size ∧ ∀ W, Old w W → ∀ (j : Nat) v, ((xs.take 80).map (Value.int .i64))[j]? = some v → W.cell? (ad.add j) = some v := by
  have h00 : 0 < xs.length := by simp at h0; omega
  rcases h with ⟨a, c, e, e2⟩ | ⟨b, o, c, e, hb, _, hc⟩
  · rw [e2] at h00
    simp at h00
  · simp only [Value.slice.injEq] at e
    obtain ⟨rfl, _, rfl⟩ := e
    refine ⟨_, rfl, hb, fun W g j v hj => ?_⟩
    have hjl : j < xs.length := by
      have := (List.getElem?_eq_some_iff.1 hj).1
      simp at this
      omega
    have e2 : v = .int .i64 (xs.getD j 0) := by
      rw [List.getElem?_map, List.getElem?_take] at hj
      split at hj
      · simp [hjl] at hj
        rw [← hj]
        simp [List.getD, hjl]
      · simp at hj
    have : (⟨b, o, none⟩ : Addr).add j = ⟨b, o + j, none⟩ := by
      unfold Addr.add
      split
      · rename_i h; simp [h]
      · rfl
    rw [e2, this, ← hc j hjl]
    exact g.cell (p := ⟨b, o + j, none⟩) hb
theorem splice_sz {cur cs : List Value} (h : 0 + cs.length ≤ cur.length) : (splice cur 0 cs).length = cur.length := by
  unfold splice
  simp
  omega
theorem one_splice {cur cs : List Value} (h1 : ∀ v ∈ cur, v.oneCell' = true) (h2 : ∀ v ∈ cs, v.oneCell' = true) : ∀ v ∈ splice cur 0 cs, v.oneCell' = true := by
  intro v hv
  unfold splice at hv
  simp at hv
  rcases hv with hv | hv
  · exact h2 v hv
  · exact h1 v (List.mem_of_mem_drop hv)
def sizA (xs : List Int) : Array Value := ((splice (szA (ext []) 0).toList 0 ((xs.take 80).map (Value.int .i64))).toArray).setIfInBounds 80 (.int .i64 (((xs.take 80).map (Value.int .i64)).length : Int))
set_option maxHeartbeats 4000000 in
theorem sizeOf_any (n : Bool) (xs : List Int) (v : Value) (w : World) (hv : Row w v xs) (hl0 : xs.length ≤ 9223372036854775807) :
    Calls Tryz.prog 130 #[.agg #[.bool n, v]] w fun e w' => e = .returned (.agg (sizA xs)) ∧ Sq (sizA xs) ∧ Old w w' := by
  have HV : Hid (Row w v xs) := hv
  obtain ⟨a0, cap0, rfl⟩ := hv.slice
  clear hv
  have HPE : Hid ((ext ([] : List Nat)).length = 80) := ext_len (by simp)
  have HN : Hid (((xs.take 80).map (Value.int .i64)).length = Nat.min xs.length 80) := by
    show ((xs.take 80).map (Value.int .i64)).length = min xs.length 80
    simp; omega
  have HFIT : Hid (0 + ((xs.take 80).map (Value.int .i64)).length ≤ (szA (ext []) 0).toList.length) := by
    show 0 + ((xs.take 80).map (Value.int .i64)).length ≤ (szA (ext []) 0).toList.length
    rw [szA_list]; simp [HPE.out]; omega
  have HONE : Hid (∀ v ∈ (xs.take 80).map (Value.int .i64), v.oneCell' = true) := fun v hv => by
    obtain ⟨n, _, rfl⟩ := List.mem_map.1 hv
    rfl
  have HLE : Hid (((xs.take 80).map (Value.int .i64)).length ≤ 80) := by
    show ((xs.take 80).map (Value.int .i64)).length ≤ 80
    simp; omega
  obtain ⟨cs, hcs⟩ : ∃ cs, cs = (xs.take 80).map (Value.int .i64) := ⟨_, rfl⟩
  rw [← hcs] at HN HFIT HONE HLE
  have HCS : Hid (0 < cs.length → ∃ ad, a0 = some ad ∧ ad.block < w.heap.size ∧ ∀ W, Old w W → ∀ (j : Nat) v, cs[j]? = some v → W.cell? (ad.add j) = some v) := fun h0 => by
    rw [hcs] at h0 ⊢
    exact row_srcI HV.out h0
  have HCSE : Hid (cs = (xs.take 80).map (Value.int .i64)) := hcs
  clear hcs
  obtain ⟨cur, hcur⟩ : ∃ cur, cur = (szA (ext []) 0).toList := ⟨_, rfl⟩
  have hcl : cur.length = 81 := by rw [hcur, szA_list]; simp [HPE.out]
  rw [← hcur] at HFIT
  have HSQ : Hid (Sq (splice cur 0 cs).toArray) := by
    refine ⟨?_, ?_⟩
    · show (splice cur 0 cs).length = 81
      rw [splice_sz HFIT.out, hcl]
    · rw [List.all_toArray, List.all_eq_true]
      refine one_splice (fun v hv => ?_) HONE.out
      rw [hcur, szA_list] at hv
      simp at hv
      rcases hv with ⟨m, _, rfl⟩ | rfl <;> rfl
  have HCUR : Hid (cur.toArray = szA (ext []) 0) := by rw [hcur]; exact Array.toArray_toList
  have HCUE : Hid (cur = (szA (ext []) 0).toList) := hcur
  clear hcur hcl
  obtain ⟨B4, hB4⟩ : ∃ B4, (splice cur 0 cs).toArray = B4 := ⟨_, rfl⟩
  have HB4 : Hid ((splice cur 0 cs).toArray = B4) := hB4
  rw [hB4] at HSQ
  clear hB4
  have HW1 : Hid (∀ A B C k, Old w ((((w.alloc (.cells A 31)).alloc (.cells B 113)).alloc (.cells C 113)).drewN k)) := fun A B C k => ((((Old.refl w).alloc _).alloc _).alloc _).drewN _
  have HB1 : Hid (∀ A B k, ((((w.alloc (.cells A 31)).alloc (.cells B 113)).alloc (.cells Tryz.zeroCells113 113)).drewN k).heap[w.heap.size + 1 + 1]? = some (.cells cur.toArray 113 (0, 0))) := fun A B k => by
    rw [HCUR.out]
    exact (Sz.zero ((w.alloc (.cells A 31)).alloc (.cells B 113)) (w.heap.size + 1 + 1) (by simp)).blk
  have HR1 : Hid (∀ A C k, Sz ((((w.alloc (.cells A 31)).alloc (.cells Tryz.zeroCells113 113)).alloc (.cells C 113)).drewN k) (w.heap.size + 1) (ext []) 0) := fun A C k => ((Sz.zero (w.alloc (.cells A 31)) (w.heap.size + 1) (by simp)).alloc _).drew _
  go_enter Tryz.func130, Tryz.ntmps130
  go_wp2_with fail
  go_region_law (refine step_copy_splice rfl (.tmp 5) (.tmp 7) 22 22 rfl 3 Tryz.underlying22 infoIntSizeW (some ⟨w.heap.size + 1 + 1, 0, none⟩) a0 80 80 xs.length cap0 (by simp [Act.eval, Act.put]) (by simp [Act.eval, Act.put]) (w.heap.size + 1 + 1) 0 cur 113 (HB1.out _ _ 1) cs HN.out (fun h0 => ⟨rfl, by obtain ⟨ad, h1, _, h3⟩ := HCS.out h0; exact ⟨ad, h1, h3 _ (HW1.out _ _ _ 1)⟩⟩) HFIT.out HONE.out (w.heap.size + 1 + 1) _ (Below.refl _ _) (Nat.le_refl _) ?_; intro w4 hg4 hb4; have S4 : Sg w4 (w.heap.size + 1 + 1) B4 := ⟨by rw [← HB4.out]; exact hg4.out, HSQ.out⟩; obtain ⟨x80, c4⟩ : ∃ x80, w4.cell? ⟨w.heap.size + 1 + 1, 80, none⟩ = some x80 := ⟨_, (cell_of_row _ _ _ _ _ _ S4.blk).trans (Array.getElem?_eq_getElem (by rw [HSQ.out.1]; decide))⟩; have f4 : w4.frozen? ⟨w.heap.size + 1 + 1, 80, none⟩ = false := frozen_of_row _ _ _ _ _ S4.blk; have H4 : Hid (Sg w4 (w.heap.size + 1 + 1) B4) := S4; have R4 : Hid (Sg w4 (w.heap.size + 1) (szA (ext []) 0)) := ⟨by rw [hb4.block (w.heap.size + 1) (by omega)]; exact (HR1.out _ _ 1).blk, by rw [← szZero]; exact sq_zero⟩; have G4 : Hid (Old w w4) := Below.trans (HW1.out _ _ _ 1) (hb4.mono (by omega)); clear hg4 hb4 S4)
  all_goals
    have HS5 : Hid (Sq (B4.setIfInBounds 80 (.int .i64 (cs.length : Int)))) := ⟨by rw [Array.size_setIfInBounds]; exact HSQ.out.1, by
      rw [Array.all_eq_true']
      intro v hv
      rcases Array.mem_or_eq_of_mem_setIfInBounds hv with h | h
      · exact (Array.all_eq_true'.1 HSQ.out.2) v h
      · rw [h]; rfl⟩
    have HD : Hid (Sg (w4.setCell ⟨w.heap.size + 1 + 1, 80, none⟩ (.int .i64 (cs.length : Int))) (w.heap.size + 1 + 1) (B4.setIfInBounds 80 (.int .i64 (cs.length : Int)))) := ⟨heap_setCell_same w4 _ 80 _ _ _ H4.out.blk, HS5.out⟩
    have HR : Hid (Sg (w4.setCell ⟨w.heap.size + 1 + 1, 80, none⟩ (.int .i64 (cs.length : Int))) (w.heap.size + 1) (szA (ext []) 0)) := ⟨by rw [heap_setCell_other w4 ⟨w.heap.size + 1 + 1, 80, none⟩ (w.heap.size + 1) _ (by simp)]; exact R4.out.blk, R4.out.sq⟩
    have HG : Hid (Old w (w4.setCell ⟨w.heap.size + 1 + 1, 80, none⟩ (.int .i64 (cs.length : Int)))) := G4.out.own (by simp; omega) _
    have HEQ : Hid (sizA xs = B4.setIfInBounds 80 (.int .i64 (cs.length : Int))) := by
      show sizA xs = _
      unfold sizA
      rw [← HCSE.out, ← HCUE.out, HB4.out]
    generalize B4.setIfInBounds 80 (.int .i64 (cs.length : Int)) = B5 at *
    clear c4 f4 H4 R4 G4
    go_wp2_with (first | ((with_reducible refine load_sg HD.out ?_ ?_); exact rfl; simp only [Act.put, List.setIfInBounds_toArray, List.set_cons_succ, List.set_cons_zero]) | ((with_reducible refine store_sg HR.out B5 HS5.out ?_ ?_ ?_); exact rfl; exact rfl; simp only [Act.put]) | ((with_reducible refine bodyPost_ret (ret_sg Tryz.results130 _ _ ?_ (HR.out.row B5 HS5.out)) ?_ ?_); exact rfl; exact rfl; exact ⟨by rw [HEQ.out], by rw [HEQ.out]; exact HS5.out, HG.out.row (by omega) _⟩))
end Go.Proofs.YtpcpahgflkjnaaaGreatDoor
