/- Proved: several texts in one: what each proves is said ahead of it. -/
import Derived.Test.YtihjndakgncdaaaGreatDoorSzAdd
import Derived.Laws.CopyOwn
import Derived.Deep.RegionLaw
import Derived.Test.YtihjndakgncdaaaGreatDoorFd05
import Derived.Deep.RegionLawGrows
import Derived.Test.YtihjndakgncdaaaGreatDoorFd00
/- Proved: the contract of the program's sizeOf: the size of a whole number's limbs. -/
namespace Go.Proofs.YtihjndakgncdaaaGreatDoor
open Go.ChangeShapes Go.WideShapes Go.ChangeAt Go.RowKit
open M2
set_option linter.unusedVariables false
set_option linter.unusedSimpArgs false

theorem infoIntSizeW : (Tryz.prog.info? 3).map (·.size) = some 1 := by kernel_rfl
theorem szA_list (ls : List Nat) (c : Nat) : (szA ls c).toList = ls.map (fun n : Nat => Value.int .i64 (n : Int)) ++ [Value.int .i64 (c : Int)] := by simp [szA]
theorem szA_splice {xs : List Nat} (h : xs.length ≤ 80) (c : Nat) : (splice (szA (ext []) c).toList 0 (xs.map (fun n : Nat => Value.int .i64 (n : Int)))).toArray = szA (ext xs) c := by
  unfold splice
  rw [szA_list, List.take_zero, List.nil_append, Nat.zero_add, List.length_map]
  unfold szA ext
  rw [List.drop_append_of_le_length (by simp; omega), List.nil_append, List.map_replicate, List.drop_replicate, List.map_append, List.map_replicate, List.append_assoc]
  rfl
theorem pad_nrm {xs : List Nat} (h : Nrm xs) : pad (val xs) = ext xs ∧ cnt (val xs) = xs.length := ⟨by unfold pad; rw [dig_val h], cnt_nrm h⟩
theorem one_ints (xs : List Nat) : ∀ v ∈ xs.map (fun n : Nat => Value.int .i64 (n : Int)), v.oneCell' = true := by
  intro v hv
  obtain ⟨n, _, rfl⟩ := List.mem_map.1 hv
  rfl
theorem row_src {w : World} {a0 : Option Addr} {cap : Nat} {xs : List Nat} (h : Row w (.slice a0 xs.length cap) (toI xs)) (h0 : 0 < xs.length) :
    ∃ ad, a0 = some ad ∧ ad.block < w.heap.size ∧ ∀ W, Old w W → ∀ (j : Nat) v, (xs.map (fun n : Nat => Value.int .i64 (n : Int)))[j]? = some v → W.cell? (ad.add j) = some v := by
  obtain ⟨b, o, rfl, hb, hc⟩ := Row.at h h0
  refine ⟨_, rfl, hb, fun W g j v hj => ?_⟩
  have hjl : j < xs.length := by
    have := (List.getElem?_eq_some_iff.1 hj).1
    simpa using this
  have e2 : v = .int .i64 ((xs.getD j 0 : Nat) : Int) := by
    simp [hjl] at hj
    rw [← hj]
    simp [List.getD, hjl]
  have : (⟨b, o, none⟩ : Addr).add j = ⟨b, o + j, none⟩ := by
    unfold Addr.add
    split
    · rename_i h; simp [h]
    · rfl
  rw [e2, this, ← hc j hjl]
  exact g.cell (p := ⟨b, o + j, none⟩) hb
set_option maxHeartbeats 4000000 in
theorem sizeOf_sz (n : Bool) (xs : List Nat) (v : Value) (w : World) (hv : Row w v (toI xs)) (hx : Nrm xs) (hl : xs.length ≤ 79) :
    Calls Tryz.prog 35 #[.agg #[.bool n, v]] w fun e w' => e = .returned (.agg (szV (val xs))) ∧ Old w w' := by
  have HV := hidP hv
  obtain ⟨a0, cap0, rfl⟩ := hv.sliceN
  clear hv
  obtain ⟨p1, p2⟩ := pad_nrm hx
  unfold szV
  rw [p1, p2]
  clear p1 p2
  have HPX : Hid ((ext xs).length = 80) := ext_len (by omega)
  have HPE : Hid ((ext ([] : List Nat)).length = 80) := ext_len (by simp)
  have HN : Hid ((xs.map (fun n : Nat => Value.int .i64 (n : Int))).length = Nat.min xs.length 80) := by
    show (xs.map (fun n : Nat => Value.int .i64 (n : Int))).length = min xs.length 80
    simp; omega
  have HFIT : Hid (0 + (xs.map (fun n : Nat => Value.int .i64 (n : Int))).length ≤ (szA (ext []) 0).toList.length) := by
    show 0 + (xs.map (fun n : Nat => Value.int .i64 (n : Int))).length ≤ (szA (ext []) 0).toList.length
    rw [szA_list]; simp [HPE.out]; omega
  have HSP : Hid ((splice (szA (ext []) 0).toList 0 (xs.map (fun n : Nat => Value.int .i64 (n : Int)))).toArray = szA (ext xs) 0) := szA_splice (by omega) 0
  have HLN : Hid ((xs.map (fun n : Nat => Value.int .i64 (n : Int))).length = xs.length) := List.length_map _
  have HONE := hidP (one_ints xs)
  obtain ⟨cs, hcs⟩ : ∃ cs, cs = xs.map (fun n : Nat => Value.int .i64 (n : Int)) := ⟨_, rfl⟩
  rw [← hcs] at HN HFIT HSP HLN HONE
  have HCS : Hid (0 < cs.length → ∃ ad, a0 = some ad ∧ ad.block < w.heap.size ∧ ∀ W, Old w W → ∀ (j : Nat) v, cs[j]? = some v → W.cell? (ad.add j) = some v) := fun h0 => by
    rw [hcs] at h0 ⊢
    exact row_src HV.out (by simpa using h0)
  clear hcs
  obtain ⟨cur, hcur⟩ : ∃ cur, cur = (szA (ext []) 0).toList := ⟨_, rfl⟩
  rw [← hcur] at HFIT HSP
  have HCUR : Hid (cur.toArray = szA (ext []) 0) := by rw [hcur]; exact Array.toArray_toList
  clear hcur
  have HW1 : Hid (∀ A B C k, Old w ((((w.alloc (.cells A 30)).alloc (.cells B 53)).alloc (.cells C 53)).drewN k)) := fun A B C k => ((((Old.refl w).alloc _).alloc _).alloc _).drewN _
  have HB1 : Hid (∀ A B k, ((((w.alloc (.cells A 30)).alloc (.cells B 53)).alloc (.cells Tryz.zeroCells53 53)).drewN k).heap[w.heap.size + 1 + 1]? = some (.cells cur.toArray 53 (0, 0))) := fun A B k => by
    rw [HCUR.out]
    exact (Sz.zero ((w.alloc (.cells A 30)).alloc (.cells B 53)) (w.heap.size + 1 + 1) (by simp)).blk
  have HR1 : Hid (∀ A C k, Sz ((((w.alloc (.cells A 30)).alloc (.cells Tryz.zeroCells53 53)).alloc (.cells C 53)).drewN k) (w.heap.size + 1) (ext []) 0) := fun A C k => ((Sz.zero (w.alloc (.cells A 30)) (w.heap.size + 1) (by simp)).alloc _).drew _
  go_enter Tryz.func35, Tryz.ntmps35
  go_wp2_with fail
  go_region_law (refine step_copy_splice rfl (.tmp 5) (.tmp 7) 23 23 rfl 3 Tryz.underlying23 infoIntSizeW (some ⟨w.heap.size + 1 + 1, 0, none⟩) a0 80 80 xs.length cap0 (by simp [Act.eval, Act.put]) (by simp [Act.eval, Act.put]) (w.heap.size + 1 + 1) 0 cur 53 (HB1.out _ _ 1) cs HN.out (fun h0 => ⟨rfl, by obtain ⟨ad, h1, _, h3⟩ := HCS.out h0; exact ⟨ad, h1, h3 _ (HW1.out _ _ _ 1)⟩⟩) HFIT.out HONE.out (w.heap.size + 1 + 1) _ (Below.refl _ _) (Nat.le_refl _) ?_; intro w4 hg4 hb4; have S4 : Sz w4 (w.heap.size + 1 + 1) (ext xs) 0 := ⟨by rw [← HSP.out]; exact hg4.out, HPX.out⟩; have c4 := S4.cnt; have f4 := S4.fro 80; have H4 := hidP S4; have R4 : Hid (Sz w4 (w.heap.size + 1) (ext []) 0) := ⟨by rw [hb4.block (w.heap.size + 1) (by omega)]; exact (HR1.out _ _ 1).blk, HPE.out⟩; have G4 : Hid (Old w w4) := Below.trans (HW1.out _ _ _ 1) (hb4.mono (by omega)); clear hg4 hb4 S4)
  all_goals
    have HD : Hid (Sz (w4.setCell ⟨w.heap.size + 1 + 1, 80, none⟩ (.int .i64 (cs.length : Int))) (w.heap.size + 1 + 1) (ext xs) cs.length) := H4.out.setc _
    have HR : Hid (Sz (w4.setCell ⟨w.heap.size + 1 + 1, 80, none⟩ (.int .i64 (cs.length : Int))) (w.heap.size + 1) (ext []) 0) := R4.out.other _ (by simp) _
    have HG : Hid (Old w (w4.setCell ⟨w.heap.size + 1 + 1, 80, none⟩ (.int .i64 (cs.length : Int)))) := G4.out.own (by simp; omega) _
    clear c4 f4 H4 R4 G4
    go_wp2_with (first | ((with_reducible refine load_sz HD.out ?_ ?_); exact rfl; simp only [Act.put, List.setIfInBounds_toArray, List.set_cons_succ, List.set_cons_zero]) | ((with_reducible refine store_sz HR.out (ext xs) cs.length HPX.out ?_ ?_ ?_); exact rfl; exact rfl; simp only [Act.put]) | ((with_reducible refine bodyPost_ret (ret_sz Tryz.results35 _ _ ?_ (HR.out.row (ext xs) cs.length HPX.out)) ?_ ?_); exact rfl; exact rfl; exact ⟨by rw [HLN.out], HG.out.row (by omega) _⟩))
end Go.Proofs.YtihjndakgncdaaaGreatDoor
/- Proved: sizes as rows of cells of any content: how they are loaded, stored and answered whole; the program's sizeOf at any limbs; no other function of the program. -/
namespace Go.Proofs.YtihjndakgncdaaaGreatDoor
open Go.ChangeShapes Go.WideShapes Go.ChangeAt Go.RowKit
open M2
set_option linter.unusedVariables false
set_option linter.unusedSimpArgs false
def Sq (S : Array Value) : Prop := S.size = 81 ∧ S.all (·.oneCell') = true
theorem sq_v {n : Nat} (h : cnt n ≤ 80) : Sq (szV n) := ⟨by unfold szV; exact szA_size (pad_len (by unfold cnt at h; omega)) _, szA_one _ _⟩
structure Sg (w : World) (g : Nat) (A : Array Value) : Prop where
  blk : w.heap[g]? = some (.cells A 53 (0, 0))
  sq : Sq A
theorem Sg.lt {w : World} {g : Nat} {A : Array Value} (h : Sg w g A) : g < w.heap.size := (Array.getElem?_eq_some_iff.1 h.blk).1
theorem Sg.old {w w' : World} {g : Nat} {A : Array Value} (h : Sg w g A) (o : Old w w') : Sg w' g A := ⟨by rw [o.block g h.lt]; exact h.blk, h.sq⟩
theorem Sg.row {w : World} {g : Nat} {A : Array Value} (h : Sg w g A) (B : Array Value) (hB : Sq B) : Sg (w.setRow g B) g B := ⟨setRow_heap w g _ _ _ _ h.blk, hB⟩
theorem Sg.otherRow {w : World} {g : Nat} {A : Array Value} (h : Sg w g A) {g' : Nat} (hg : g ≠ g') (cs : Array Value) : Sg (w.setRow g' cs) g A := ⟨by rw [setRow_other w g' g cs hg]; exact h.blk, h.sq⟩
theorem Sg.alloc {w : World} {g : Nat} {A : Array Value} (h : Sg w g A) (o : Obj) : Sg (w.alloc o) g A := ⟨by rw [show (w.alloc o).heap[g]? = w.heap[g]? from heap_alloc_old w o h.lt]; exact h.blk, h.sq⟩
theorem Sg.new (w : World) (A : Array Value) (g : Nat) (hA : Sq A) (hg : g = w.heap.size) : Sg (w.alloc (.cells A 53)) g A := by subst hg; exact ⟨heap_alloc_new w _, hA⟩
theorem sq_zero : Sq Tryz.zeroCells53 := by rw [szZero]; exact ⟨szA_size (ext_len (by simp)) _, szA_one _ _⟩
theorem Sg.zero (w : World) (g : Nat) (hg : g = w.heap.size) : Sg (w.alloc (.cells Tryz.zeroCells53 53)) g Tryz.zeroCells53 := Sg.new w _ g sq_zero hg
theorem Bk.otherRow {w : World} {k : Nat} {vs : Array Value} {t : TypeId} (h : Bk w k vs t) {g : Nat} (hg : k ≠ g) (cs : Array Value) : Bk (w.setRow g cs) k vs t := (setRow_other w g k cs hg).trans h
section
variable {ops : Array Oper} {rest : List Oper} {a : Act} {w : World} {Q : Exit → Act → World → Prop} {ty : TypeId} {pos : String} {d : Option Tmp} {x y : Operand}
theorem load_sg {af : Array Edge} {g : Nat} {A : Array Value} (hs : Sg w g A) (hx : a.eval x = .pointer (some ⟨g, 0, none⟩))
    (h : wpList Tryz.prog ops Q rest (a.put d (.agg A)) w) : wpList Tryz.prog ops Q (⟨d, .load 53 x, ty, pos, af, none⟩ :: rest) a w :=
  wpList_load_row rfl 53 x rfl g hx 53 A (0, 0) _ hs.blk Tryz.underlying53 rfl (by rw [hs.sq.1]; exact infoSz) h
theorem store_sg {af : Array Edge} {g : Nat} {A : Array Value} (hs : Sg w g A) (B : Array Value) (hB : Sq B) (hx : a.eval x = .pointer (some ⟨g, 0, none⟩)) (hy : a.eval y = .agg B)
    (h : wpList Tryz.prog ops Q rest (a.put d undef) (w.setRow g B)) : wpList Tryz.prog ops Q (⟨d, .store 53 x y, ty, pos, af, none⟩ :: rest) a w := by
  refine wpList_store_row rfl 53 x y rfl g B hx hy 53 A hs.blk (by rw [hB.1]; exact infoSz) (by rw [hs.sq.1, hB.1]) hB.2 h
end
theorem ret_sg {fn : Func} {p : Tmp} (h : fn.results = #[.cell p 53]) (tmps : Array Value) (w : World) {g : Nat} {A : Array Value} (hp : tmps.getD p undef = .pointer (some ⟨g, 0, none⟩)) (hs : Sg w g A) :
    (results fn tmps).run Tryz.prog w = .ok (.agg A) w :=
  results_cell_row h tmps w g 53 A (0, 0) _ hp hs.blk Tryz.underlying53 rfl (by rw [hs.sq.1]; exact infoSz)
theorem ret_sgi {fn : Func} {p u : Tmp} (h : fn.results = #[.cell p 53, .tmp u]) (tmps : Array Value) (w : World) {g : Nat} {A : Array Value} {y : Value} (hp : tmps.getD p undef = .pointer (some ⟨g, 0, none⟩)) (hu : tmps.getD u undef = y) (hs : Sg w g A) :
    (results fn tmps).run Tryz.prog w = .ok (.tuple #[.agg A, y]) w := by
  have hld := run_loadVar_row (P := Tryz.prog) w g 53 53 A (0, 0) _ hs.blk Tryz.underlying53 rfl (by rw [hs.sq.1]; exact infoSz)
  rw [results_cell_tmp h, hp, hu]
  simp [asAddr, Result.andThen, hld]
theorem row_srcI {w : World} {a0 : Option Addr} {cap : Nat} {xs : List Int} (h : Row w (.slice a0 xs.length cap) xs) (h0 : 0 < ((xs.take 80).map (Value.int .i64)).length) :
    ∃ ad, a0 = some ad ∧ ad.block < w.heap.size ∧ ∀ W, Old w W → ∀ (j : Nat) v, ((xs.take 80).map (Value.int .i64))[j]? = some v → W.cell? (ad.add j) = some v := by
  have h00 : 0 < xs.length := by simp at h0; omega
  rcases h with ⟨a, c, e, e2⟩ | ⟨b, o, c, e, hb, _, hc⟩
  · rw [e2] at h00
    simp at h00
  · simp only [Value.slice.injEq] at e
    obtain ⟨rfl, _, rfl⟩ := e
    refine ⟨_, rfl, hb, fun W g j v hj => ?_⟩
    have hjl : j < xs.length := by
      have := (List.getElem?_eq_some_iff.1 hj).1
      simp at this
      omega
    have e2 : v = .int .i64 (xs.getD j 0) := by
      rw [List.getElem?_map, List.getElem?_take] at hj
      split at hj
      · simp [hjl] at hj
        rw [← hj]
        simp [List.getD, hjl]
      · simp at hj
    have : (⟨b, o, none⟩ : Addr).add j = ⟨b, o + j, none⟩ := by
      unfold Addr.add
      split
      · rename_i h; simp [h]
      · rfl
    rw [e2, this, ← hc j hjl]
    exact g.cell (p := ⟨b, o + j, none⟩) hb
theorem splice_sz {cur cs : List Value} (h : 0 + cs.length ≤ cur.length) : (splice cur 0 cs).length = cur.length := by
  unfold splice
  simp
  omega
theorem one_splice {cur cs : List Value} (h1 : ∀ v ∈ cur, v.oneCell' = true) (h2 : ∀ v ∈ cs, v.oneCell' = true) : ∀ v ∈ splice cur 0 cs, v.oneCell' = true := by
  intro v hv
  unfold splice at hv
  simp at hv
  rcases hv with hv | hv
  · exact h2 v hv
  · exact h1 v (List.mem_of_mem_drop hv)
def sizA (xs : List Int) : Array Value := ((splice (szA (ext []) 0).toList 0 ((xs.take 80).map (Value.int .i64))).toArray).setIfInBounds 80 (.int .i64 (((xs.take 80).map (Value.int .i64)).length : Int))
set_option maxHeartbeats 4000000 in
theorem sizeOf_any (n : Bool) (xs : List Int) (v : Value) (w : World) (hv : Row w v xs) (hl0 : xs.length ≤ 9223372036854775807) :
    Calls Tryz.prog 35 #[.agg #[.bool n, v]] w fun e w' => e = .returned (.agg (sizA xs)) ∧ Sq (sizA xs) ∧ Old w w' := by
  have HV : Hid (Row w v xs) := hv
  obtain ⟨a0, cap0, rfl⟩ := hv.slice
  clear hv
  have HPE : Hid ((ext ([] : List Nat)).length = 80) := ext_len (by simp)
  have HN : Hid (((xs.take 80).map (Value.int .i64)).length = Nat.min xs.length 80) := by
    show ((xs.take 80).map (Value.int .i64)).length = min xs.length 80
    simp; omega
  have HFIT : Hid (0 + ((xs.take 80).map (Value.int .i64)).length ≤ (szA (ext []) 0).toList.length) := by
    show 0 + ((xs.take 80).map (Value.int .i64)).length ≤ (szA (ext []) 0).toList.length
    rw [szA_list]; simp [HPE.out]; omega
  have HONE : Hid (∀ v ∈ (xs.take 80).map (Value.int .i64), v.oneCell' = true) := fun v hv => by
    obtain ⟨n, _, rfl⟩ := List.mem_map.1 hv
    rfl
  have HLE : Hid (((xs.take 80).map (Value.int .i64)).length ≤ 80) := by
    show ((xs.take 80).map (Value.int .i64)).length ≤ 80
    simp; omega
  obtain ⟨cs, hcs⟩ : ∃ cs, cs = (xs.take 80).map (Value.int .i64) := ⟨_, rfl⟩
  rw [← hcs] at HN HFIT HONE HLE
  have HCS : Hid (0 < cs.length → ∃ ad, a0 = some ad ∧ ad.block < w.heap.size ∧ ∀ W, Old w W → ∀ (j : Nat) v, cs[j]? = some v → W.cell? (ad.add j) = some v) := fun h0 => by
    rw [hcs] at h0 ⊢
    exact row_srcI HV.out h0
  have HCSE : Hid (cs = (xs.take 80).map (Value.int .i64)) := hcs
  clear hcs
  obtain ⟨cur, hcur⟩ : ∃ cur, cur = (szA (ext []) 0).toList := ⟨_, rfl⟩
  have hcl : cur.length = 81 := by rw [hcur, szA_list]; simp [HPE.out]
  rw [← hcur] at HFIT
  have HSQ : Hid (Sq (splice cur 0 cs).toArray) := by
    refine ⟨?_, ?_⟩
    · show (splice cur 0 cs).length = 81
      rw [splice_sz HFIT.out, hcl]
    · rw [List.all_toArray, List.all_eq_true]
      refine one_splice (fun v hv => ?_) HONE.out
      rw [hcur, szA_list] at hv
      simp at hv
      rcases hv with ⟨m, _, rfl⟩ | rfl <;> rfl
  have HCUR : Hid (cur.toArray = szA (ext []) 0) := by rw [hcur]; exact Array.toArray_toList
  have HCUE : Hid (cur = (szA (ext []) 0).toList) := hcur
  clear hcur hcl
  obtain ⟨B4, hB4⟩ : ∃ B4, (splice cur 0 cs).toArray = B4 := ⟨_, rfl⟩
  have HB4 : Hid ((splice cur 0 cs).toArray = B4) := hB4
  rw [hB4] at HSQ
  clear hB4
  have HW1 : Hid (∀ A B C k, Old w ((((w.alloc (.cells A 30)).alloc (.cells B 53)).alloc (.cells C 53)).drewN k)) := fun A B C k => ((((Old.refl w).alloc _).alloc _).alloc _).drewN _
  have HB1 : Hid (∀ A B k, ((((w.alloc (.cells A 30)).alloc (.cells B 53)).alloc (.cells Tryz.zeroCells53 53)).drewN k).heap[w.heap.size + 1 + 1]? = some (.cells cur.toArray 53 (0, 0))) := fun A B k => by
    rw [HCUR.out]
    exact (Sz.zero ((w.alloc (.cells A 30)).alloc (.cells B 53)) (w.heap.size + 1 + 1) (by simp)).blk
  have HR1 : Hid (∀ A C k, Sz ((((w.alloc (.cells A 30)).alloc (.cells Tryz.zeroCells53 53)).alloc (.cells C 53)).drewN k) (w.heap.size + 1) (ext []) 0) := fun A C k => ((Sz.zero (w.alloc (.cells A 30)) (w.heap.size + 1) (by simp)).alloc _).drew _
  go_enter Tryz.func35, Tryz.ntmps35
  go_wp2_with fail
  go_region_law (refine step_copy_splice rfl (.tmp 5) (.tmp 7) 23 23 rfl 3 Tryz.underlying23 infoIntSizeW (some ⟨w.heap.size + 1 + 1, 0, none⟩) a0 80 80 xs.length cap0 (by simp [Act.eval, Act.put]) (by simp [Act.eval, Act.put]) (w.heap.size + 1 + 1) 0 cur 53 (HB1.out _ _ 1) cs HN.out (fun h0 => ⟨rfl, by obtain ⟨ad, h1, _, h3⟩ := HCS.out h0; exact ⟨ad, h1, h3 _ (HW1.out _ _ _ 1)⟩⟩) HFIT.out HONE.out (w.heap.size + 1 + 1) _ (Below.refl _ _) (Nat.le_refl _) ?_; intro w4 hg4 hb4; have S4 : Sg w4 (w.heap.size + 1 + 1) B4 := ⟨by rw [← HB4.out]; exact hg4.out, HSQ.out⟩; obtain ⟨x80, c4⟩ : ∃ x80, w4.cell? ⟨w.heap.size + 1 + 1, 80, none⟩ = some x80 := ⟨_, (cell_of_row _ _ _ _ _ _ S4.blk).trans (Array.getElem?_eq_getElem (by rw [HSQ.out.1]; decide))⟩; have f4 : w4.frozen? ⟨w.heap.size + 1 + 1, 80, none⟩ = false := frozen_of_row _ _ _ _ _ S4.blk; have H4 : Hid (Sg w4 (w.heap.size + 1 + 1) B4) := S4; have R4 : Hid (Sg w4 (w.heap.size + 1) (szA (ext []) 0)) := ⟨by rw [hb4.block (w.heap.size + 1) (by omega)]; exact (HR1.out _ _ 1).blk, by rw [← szZero]; exact sq_zero⟩; have G4 : Hid (Old w w4) := Below.trans (HW1.out _ _ _ 1) (hb4.mono (by omega)); clear hg4 hb4 S4)
  all_goals
    have HS5 : Hid (Sq (B4.setIfInBounds 80 (.int .i64 (cs.length : Int)))) := ⟨by rw [Array.size_setIfInBounds]; exact HSQ.out.1, by
      rw [Array.all_eq_true']
      intro v hv
      rcases Array.mem_or_eq_of_mem_setIfInBounds hv with h | h
      · exact (Array.all_eq_true'.1 HSQ.out.2) v h
      · rw [h]; rfl⟩
    have HD : Hid (Sg (w4.setCell ⟨w.heap.size + 1 + 1, 80, none⟩ (.int .i64 (cs.length : Int))) (w.heap.size + 1 + 1) (B4.setIfInBounds 80 (.int .i64 (cs.length : Int)))) := ⟨heap_setCell_same w4 _ 80 _ _ _ H4.out.blk, HS5.out⟩
    have HR : Hid (Sg (w4.setCell ⟨w.heap.size + 1 + 1, 80, none⟩ (.int .i64 (cs.length : Int))) (w.heap.size + 1) (szA (ext []) 0)) := ⟨by rw [heap_setCell_other w4 ⟨w.heap.size + 1 + 1, 80, none⟩ (w.heap.size + 1) _ (by simp)]; exact R4.out.blk, R4.out.sq⟩
    have HG : Hid (Old w (w4.setCell ⟨w.heap.size + 1 + 1, 80, none⟩ (.int .i64 (cs.length : Int)))) := G4.out.own (by simp; omega) _
    have HEQ : Hid (sizA xs = B4.setIfInBounds 80 (.int .i64 (cs.length : Int))) := by
      show sizA xs = _
      unfold sizA
      rw [← HCSE.out, ← HCUE.out, HB4.out]
    generalize B4.setIfInBounds 80 (.int .i64 (cs.length : Int)) = B5 at *
    clear c4 f4 H4 R4 G4
    go_wp2_with (first | ((with_reducible refine load_sg HD.out ?_ ?_); exact rfl; simp only [Act.put, List.setIfInBounds_toArray, List.set_cons_succ, List.set_cons_zero]) | ((with_reducible refine store_sg HR.out B5 HS5.out ?_ ?_ ?_); exact rfl; exact rfl; simp only [Act.put]) | ((with_reducible refine bodyPost_ret (ret_sg Tryz.results35 _ _ ?_ (HR.out.row B5 HS5.out)) ?_ ?_); exact rfl; exact rfl; exact ⟨by rw [HEQ.out], by rw [HEQ.out]; exact HS5.out, HG.out.row (by omega) _⟩))
end Go.Proofs.YtihjndakgncdaaaGreatDoor
/- Proved: what the model answers, as functions of the numbers: sums and products of whole numbers. -/
namespace Go.Proofs.YtihjndakgncdaaaGreatDoor
open Go.ChangeShapes Go.WideShapes Go.ChangeAt Go.RowKit
open M2
set_option linter.unusedVariables false
set_option linter.unusedSimpArgs false
def nat (xs : List Int) : List Nat := xs.map Int.toNat
theorem nat_len (xs : List Int) : (nat xs).length = xs.length := by simp [nat]
theorem nat_get (xs : List Int) (j : Nat) : (nat xs).getD j 0 = (xs.getD j 0).toNat := by
  simp only [nat, List.getD, List.getElem?_map]
  cases xs[j]? <;> rfl
theorem toI_nat {xs : List Int} (h : ∀ j, j < xs.length → 0 ≤ xs.getD j 0) : toI (nat xs) = xs := by
  apply List.ext_getElem
  · simp [toI, nat]
  · intro i h1 h2
    have := h i h2
    simp only [toI, nat, List.map_map, List.getElem_map, Function.comp]
    have e : xs.getD i 0 = xs[i] := by simp [List.getD, h2]
    rw [e] at this
    omega
theorem good_gw {n : Bool} {xs : List Int} (h : Good n xs) : toI (nat xs) = xs ∧ Gw n (nat xs) ∧ (nat xs).length ≤ 40 := by
  have hr := fun j hj => (h.2.2 j hj).1.1
  refine ⟨toI_nat hr, ⟨⟨?_, ?_⟩, ?_⟩, by rw [nat_len]; exact h.1⟩
  · intro x hx
    obtain ⟨j, hj, e⟩ := List.getElem_of_mem hx
    rw [nat_len] at hj
    have h2 := (h.2.2 j hj).1
    have h3 := nat_get xs j
    have e2 : (nat xs).getD j 0 = x := by rw [← e]; simp [List.getD, nat_len, hj]
    rw [e2] at h3
    unfold LB
    omega
  · intro hne h0
    have hl : 0 < xs.length := by
      rcases Nat.eq_zero_or_pos xs.length with h1 | h1
      · exact absurd (List.length_eq_zero_iff.1 (by rw [nat_len]; exact h1)) hne
      · exact h1
    rw [List.getLast_eq_getElem] at h0
    have hj : xs.length - 1 < xs.length := by omega
    have h2 := h.2.2 (xs.length - 1) hj
    have h3 := nat_get xs (xs.length - 1)
    have e2 : (nat xs).getD (xs.length - 1) 0 = 0 := by
      rw [← h0]
      simp [List.getD, nat_len, hj]
    rw [e2] at h3
    exact h2.2 ⟨by omega, by omega⟩
  · intro hn he
    have : xs.length = 0 := by rw [← nat_len, he]; rfl
    exact h.2.1 ⟨this, hn⟩
end Go.Proofs.YtihjndakgncdaaaGreatDoor
/- Proved: the contracts of the program's wholeWith and wholeWithin: a whole number out of a size. -/
namespace Go.Proofs.YtihjndakgncdaaaGreatDoor
open Go.ChangeShapes Go.WideShapes Go.ChangeAt Go.RowKit
open M2
set_option linter.unusedVariables false
set_option linter.unusedSimpArgs false

theorem made_blk {w : World} {base g n : Nat} {xs : List Value} (h : w.ownsRow base 3 1 (.slice (some ⟨g, 0, none⟩) n n) n xs) : ∃ cur : List Value, w.heap[g]? = some (.cells cur.toArray 3 (0, 0)) ∧ cur.length = n := by
  rcases h.2 with ⟨e, _⟩ | ⟨g', cap, cur, e, _, hg, _, _, hs, _⟩
  · cases e
  · simp only [Value.slice.injEq, Option.some.injEq, Addr.mk.injEq] at e
    obtain ⟨⟨rfl, _⟩, _, rfl⟩ := e
    exact ⟨cur.toList, by simpa using hg, by simpa using hs⟩
theorem splice_all {α : Type} (L cs : List α) (h : L.length = cs.length) : splice L 0 cs = cs := by
  unfold splice
  rw [List.take_zero, List.nil_append, Nat.zero_add, ← h, List.drop_length, List.append_nil]
theorem own_of {w : World} {base g : Nat} {xs : List Nat} (hg : w.heap[g]? = some (.cells (xs.map (fun n : Nat => Value.int .i64 (n : Int))).toArray 3 (0, 0))) (hb : base ≤ g) (hl : xs.length ≤ 80) : Own w base (.slice (some ⟨g, 0, none⟩) xs.length xs.length) (toI xs) := by
  unfold Own
  rw [toI_len]
  refine ⟨by simp [toI], Or.inr ⟨g, xs.length, _, rfl, hb, hg, Nat.le_refl _, by unfold maxLen; omega, by simp, ?_⟩⟩
  rw [Nat.mul_one]
  simp only [toI, List.map_map]
  exact List.take_of_length_le (by simp)
theorem sz_src {w : World} {g n : Nat} (h : Sz w g (pad n) (cnt n)) (hn : cnt n ≤ 80) : ∀ (j : Nat) v, ((dig n).map (fun n : Nat => Value.int .i64 (n : Int)))[j]? = some v → w.cell? ((⟨g, 0, none⟩ : Addr).add j) = some v := by
  intro j v hj
  have hjl : j < (dig n).length := by
    have := (List.getElem?_eq_some_iff.1 hj).1
    simpa using this
  have e2 : v = .int .i64 (((dig n).getD j 0 : Nat) : Int) := by
    simp [hjl] at hj
    rw [← hj]
    simp [List.getD, hjl]
  have : (⟨g, 0, none⟩ : Addr).add j = ⟨g, j, none⟩ := by
    unfold Addr.add
    split
    · rename_i h; simp [h]
    · simp
  rw [e2, this, h.at (j := j) (by unfold cnt at hn; omega), pad_getD]
theorem copy_out {ops : Array Oper} {rest : List Oper} {a : Act} {w : World} {Q : Exit → Act → World → Prop} {ty : TypeId} {pos : String} {d : Option Tmp} {x y : Operand} {af : Array Edge}
    (g k n : Nat) (cur : List Value) (hx : a.eval x = .slice (some ⟨g, 0, none⟩) k k) (hy : a.eval y = .slice (some ⟨n, 0, none⟩) 80 80) (hg : w.heap[g]? = some (.cells cur.toArray 3 (0, 0))) (cs : List Value) (hk : cs.length = k) (h80 : k ≤ 80)
    (hsrc : ∀ (j : Nat) v, cs[j]? = some v → w.cell? ((⟨n, 0, none⟩ : Addr).add j) = some v) (hcl : cur.length = k) (h1 : ∀ v ∈ cs, v.oneCell' = true)
    (h : ∀ w', Hid (w'.heap[g]? = some (.cells cs.toArray 3 (0, 0))) → Below g w w' → wpList Tryz.prog ops Q rest (a.put d (goInt k)) w') :
    wpList Tryz.prog ops Q (⟨d, .call { callee := .builtin .copy, args := #[x, y], argTypes := #[23, 23] }, ty, pos, af, none⟩ :: rest) a w := by
  refine wpList_copy_splice rfl x y 23 23 rfl 3 Tryz.underlying23 infoIntSizeW _ _ _ _ _ _ hx hy g 0 cur 3 hg cs (by rw [hk]; exact (Nat.min_eq_right h80).symm) (fun _ => ⟨rfl, _, rfl, hsrc⟩) (by rw [hk, hcl]; omega) h1 g w (Below.refl _ _) (Nat.le_refl _) ?_
  intro w' hg' hb'
  rw [hk]
  refine h w' ?_ hb'
  have := hg'.out
  rw [splice_all cur cs (by rw [hk, hcl])] at this
  exact this
set_option maxHeartbeats 4000000 in
theorem whole_none (neg : Bool) (w : World) :
    Calls Tryz.prog 27 #[.bool neg, .agg (szV 0)] w fun e w' => e = .returned (.agg #[.bool false, .slice none 0 0]) ∧ Old w w' := by
  have c0 := cnt_zero
  have HL := pad_len' (n := 0) (k := 80) (by rw [c0]; omega) (by omega)
  have a80 := szA_cnt HL (cnt 0)
  rw [c0] at a80
  unfold szV
  rw [c0]
  clear c0
  go_enter Tryz.func27, Tryz.ntmps27
  go_wp2_with fail
  refine bodyPost_ret (v := .agg #[.bool false, .slice none 0 0]) (by simp [results, Tryz.results27, go_sem]) rfl ⟨rfl, ?_⟩
  exact ((Old.refl w).alloc _).alloc _
set_option maxRecDepth 100000 in
set_option maxHeartbeats 4000000 in
theorem whole_some (neg : Bool) (n : Nat) (w : World) (h0 : n ≠ 0) (hn : cnt n ≤ 80) :
    Calls Tryz.prog 27 #[.bool neg, .agg (szV n)] w fun e w' => ∃ v, e = .returned (.agg #[.bool neg, v]) ∧ Old w w' ∧ Own w' w.heap.size v (toI (dig n)) := by
  obtain ⟨i0, hi, hz0, hz1, hz2⟩ := info_parts Tryz.infoInt
  have hc0 := cnt_pos h0
  have HL := pad_len' hn (by omega)
  have a80 := szA_cnt HL (cnt n)
  have d0 : ((cnt n : Int) == 0) = false := by simp; omega
  have HS0 : Hid (Sz ((w.alloc (.cells (szA (pad n) (cnt n)) 53)).alloc (.cells #[.bool false, .slice none 0 0] 30)) w.heap.size (pad n) (cnt n)) := (Sz.new w _ _ HL).alloc _
  have HT0 : Hid (StW ((w.alloc (.cells (szA (pad n) (cnt n)) 53)).alloc (.cells #[.bool false, .slice none 0 0] 30)) (w.heap.size + 1) (.bool false) (.slice none 0 0) 30) := by
    have := StW.new (w.alloc (.cells (szA (pad n) (cnt n)) 53)) (.bool false) (.slice none 0 0) 30
    rw [show (w.alloc (.cells (szA (pad n) (cnt n)) 53)).heap.size = w.heap.size + 1 by simp] at this
    exact this
  have HW0 : Hid (Old w ((w.alloc (.cells (szA (pad n) (cnt n)) 53)).alloc (.cells #[.bool false, .slice none 0 0] 30))) := ((Old.refl w).alloc _).alloc _
  have hsz : ((w.alloc (.cells (szA (pad n) (cnt n)) 53)).alloc (.cells #[.bool false, .slice none 0 0] 30)).heap.size = w.heap.size + 1 + 1 := by simp
  have HONE : Hid (∀ v ∈ (dig n).map (fun n : Nat => Value.int .i64 (n : Int)), v.oneCell' = true) := one_ints _
  have HLN : Hid (((dig n).map (fun n : Nat => Value.int .i64 (n : Int))).length = cnt n) := List.length_map _
  obtain ⟨cs, hcs⟩ : ∃ cs, cs = (dig n).map (fun n : Nat => Value.int .i64 (n : Int)) := ⟨_, rfl⟩
  have HCS := hidP hcs
  rw [← hcs] at HONE HLN
  have HSZ := hidP hsz
  clear hcs hsz
  unfold szV
  go_enter Tryz.func27, Tryz.ntmps27
  go_wp2_with (first
    | (at_make; refine wpList_make_full _ rfl _ _ 23 rfl (w.heap.size + 1 + 1) 3 i0 (.int .i64 0) 1 Tryz.underlying23 hi hz0 hz1 .i64 .i64 _ _ (cnt n) rfl rfl rfl rfl (by rw [hz2]; omega) (by unfold maxLen; omega) (by simp) ?_; intro w1 hown hgrow; obtain ⟨cur, hcur, hcl⟩ := made_blk hown; rw [HSZ.out] at hcur; have HC1 := hidP hcur; have HCL := hidP hcl; have HG1 : Hid (Old ((w.alloc (.cells (szA (pad n) (cnt n)) 53)).alloc (.cells #[.bool false, .slice none 0 0] 30)) w1) := grownBy_old hgrow; clear hown hgrow hcur hcl; simp only [Act.put, List.setIfInBounds_toArray, List.set_cons_succ, List.set_cons_zero]; rw [HSZ.out])
    | ((with_reducible refine copy_out (w.heap.size + 1 + 1) (cnt n) w.heap.size cur ?_ ?_ HC1.out cs HLN.out hn ?_ HCL.out HONE.out ?_); exact rfl; exact rfl; (rw [HCS.out]; exact sz_src (HS0.out.old HG1.out) hn); intro w2 hg2 hb2; have HT2 : Hid (StW w2 (w.heap.size + 1) (.bool false) (.slice none 0 0) 30) := (hb2.block (w.heap.size + 1) (by omega)).trans (HT0.out.old HG1.out); have t0 := HT2.out.c0; have t1 := HT2.out.c1; have u0 := HT2.out.f0; have u1 := HT2.out.f1; have HG2 : Hid (Old w w2) := Below.trans (Old.trans HW0.out HG1.out) (hb2.mono (by omega)); have HB2 := hg2; clear hg2 hb2; simp only [Act.put, List.setIfInBounds_toArray, List.set_cons_succ, List.set_cons_zero]))
  refine bodyPost_ret (v := .agg #[.bool neg, .slice (some ⟨w.heap.size + 1 + 1, 0, none⟩) (cnt n) (cnt n)]) (by simp [results, Tryz.results27, go_sem, t0, t1]) rfl ⟨_, rfl, ?_, ?_⟩
  · exact (HG2.out.own (p := ⟨w.heap.size + 1, 0, none⟩) (by simp) _).own (p := ⟨w.heap.size + 1, 1, none⟩) (by simp) _
  · refine own_of (g := w.heap.size + 1 + 1) ?_ (by omega) (by unfold cnt at hn; omega)
    rw [heap_setCell_other _ _ _ _ (by simp), heap_setCell_other _ _ _ _ (by simp), HB2.out, HCS.out]
end Go.Proofs.YtihjndakgncdaaaGreatDoor
