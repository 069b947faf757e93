/- Proved: contracts of the program's columnOf and WholesOf. -/
import Derived.Test.YtfgooclnohnkmaaGreatDoorNL
import Derived.Test.YtfgooclnohnkmaaGreatDoorFab
import Derived.Test.YtfgooclnohnkmaaGreatDoorCent
namespace Go.Proofs.YtfgooclnohnkmaaGreatDoor
open Go.ChangeShapes Go.WideShapes Go.ChangeAt Go.RowKit
open M2
set_option linter.unusedVariables false
set_option linter.unusedSimpArgs false
/-- the numbers at place k of all rows -/
def colZ (zss : List (List Int)) (k : Nat) : List Int := zss.map (fun r => r.getD k 0)
theorem colZ_len (zss : List (List Int)) (k : Nat) : (colZ zss k).length = zss.length := by simp [colZ]
theorem colZ_get (zss : List (List Int)) (k j : Nat) (h : j < zss.length) : (colZ zss k).getD j 0 = (zss.getD j []).getD k 0 := by simp [colZ, List.getD, h]
def cqN (zss : List (List Int)) (k : Nat) : List Nat := (colZ zss k).map Int.toNat
def pnN (ps : List Int) : List Nat := ps.map Int.toNat
/-- whether the number at place k is below 0, centred; and its size -/
def ctB (ps : List Int) (zss : List (List Int)) (k : Nat) : Bool := decide (prodN (pnN ps) ≤ coN (cqN zss k) (pnN ps) * 2)
def ctN (ps : List Int) (zss : List (List Int)) (k : Nat) : Nat := if coN (cqN zss k) (pnN ps) * 2 < prodN (pnN ps) then coN (cqN zss k) (pnN ps) else prodN (pnN ps) - coN (cqN zss k) (pnN ps)
def whB (n : Nat) (ps : List Int) (zss : List (List Int)) : List Bool := (List.range n).map (ctB ps zss)
def whX (n : Nat) (ps : List Int) (zss : List (List Int)) : List (List Int) := (List.range n).map (fun k => toI (dig (ctN ps zss k)))
theorem whB_len (n : Nat) (ps : List Int) (zss : List (List Int)) : (whB n ps zss).length = n := by simp [whB]
theorem whX_len (n : Nat) (ps : List Int) (zss : List (List Int)) : (whX n ps zss).length = n := by simp [whX]
theorem whB_get (n : Nat) (ps : List Int) (zss : List (List Int)) (k : Nat) (h : k < n) : (whB n ps zss).getD k false = ctB ps zss k := by simp [whB, List.getD, h]
theorem whX_get (n : Nat) (ps : List Int) (zss : List (List Int)) (k : Nat) (h : k < n) : (whX n ps zss).getD k [] = toI (dig (ctN ps zss k)) := by simp [whX, List.getD, h]
/-- rows of n numbers each, below their primes -/
structure Gr (n : Nat) (ps : List Int) (zss : List (List Int)) : Prop where
  bas : basB ps = true
  len : zss.length = ps.length
  row : ∀ j, j < ps.length → (zss.getD j []).length = n ∧ ∀ i, i < n → 0 ≤ (zss.getD j []).getD i 0 ∧ (zss.getD j []).getD i 0 < ps.getD j 0
theorem toZ_toNat {xs : List Int} (h : ∀ i, i < xs.length → 0 ≤ xs.getD i 0) : toZ (xs.map Int.toNat) = xs := by
  rw [toZ, List.map_map]
  refine (List.map_congr_left fun x hx => ?_).trans (List.map_id _)
  obtain ⟨i, hi, rfl⟩ := List.getElem_of_mem hx
  have := h i hi
  rw [show xs.getD i 0 = xs[i] by simp [List.getD, hi]] at this
  show ((xs[i].toNat : Nat) : Int) = xs[i]
  omega
theorem Gr.ps {n : Nat} {ps : List Int} {zss : List (List Int)} (h : Gr n ps zss) : ps = toZ (pnN ps) ∧ Bas (pnN ps) := by
  obtain ⟨qs, e, hb⟩ := basB_yes h.bas
  have : pnN ps = qs := by unfold pnN; rw [e]; exact toZ_back qs
  rw [this]
  exact ⟨e, hb⟩
theorem Gr.col {n : Nat} {ps : List Int} {zss : List (List Int)} (h : Gr n ps zss) (k : Nat) (hk : k < n) : colZ zss k = toZ (cqN zss k) ∧ Res (cqN zss k) (pnN ps) := by
  have e1 : colZ zss k = toZ (cqN zss k) := by
    unfold cqN
    rw [toZ_toNat]
    intro i hi
    rw [colZ_len] at hi
    rw [colZ_get zss k i hi]
    exact ((h.row i (by have := h.len; omega)).2 k hk).1
  refine ⟨e1, h.ps.2, ?_, fun i hi => ?_⟩
  · unfold cqN pnN
    rw [List.length_map, colZ_len, h.len, List.length_map]
  · have hi' : i < ps.length := by simpa [pnN] using hi
    have hz : i < zss.length := by have := h.len; omega
    have h1 := (h.row i hi').2 k hk
    have e2 : (cqN zss k).getD i 0 = ((zss.getD i []).getD k 0).toNat := by
      rw [← colZ_get zss k i hz]
      unfold cqN
      have : i < (colZ zss k).length := by rw [colZ_len]; exact hz
      simp [List.getD, this]
    have e3 : (pnN ps).getD i 0 = (ps.getD i 0).toNat := by simp [pnN, List.getD, hi']
    rw [e2, e3]
    omega
theorem ctN_cnt {n : Nat} {ps : List Int} {zss : List (List Int)} (h : Gr n ps zss) (k : Nat) (hk : k < n) : (dig (ctN ps zss k)).length ≤ 7 := by
  obtain ⟨_, hR⟩ := h.col k hk
  unfold ctN
  split
  · exact coN_cnt hR
  · exact Nat.le_trans (cnt_mono (Nat.sub_le _ _)) hR.bas.cnt
theorem whX_row {n : Nat} {ps : List Int} {zss : List (List Int)} (h : Gr n ps zss) : ∀ r ∈ whX n ps zss, r.length ≤ 7 := by
  intro r hr
  obtain ⟨k, hk, rfl⟩ := List.mem_map.1 hr
  have := ctN_cnt h k (by simpa using hk)
  simpa [toI] using this
theorem centred_p {n : Nat} {ps : List Int} {zss : List (List Int)} (h : Gr n ps zss) (k : Nat) (hk : k < n) (v u : Value) (W : World) (hv : Row W v (colZ zss k)) (hu : Row W u ps) (hf : Fit u) :
    Calls Tryz.prog 63 #[v, u] W fun e w' => ∃ v', e = .returned (.agg #[.bool (ctB ps zss k), v']) ∧ Old W w' ∧ Own w' W.heap.size v' (toI (dig (ctN ps zss k))) := by
  obtain ⟨e1, hR⟩ := h.col k hk
  obtain ⟨e2, hb⟩ := h.ps
  rw [e1] at hv
  rw [e2] at hu
  unfold ctB ctN
  by_cases hc : coN (cqN zss k) (pnN ps) * 2 < prodN (pnN ps)
  · rw [if_pos hc, decide_eq_false (by omega)]
    exact centred_low (cqN zss k) (pnN ps) v u W hv hu hf hR hc
  · rw [if_neg hc, decide_eq_true (by omega)]
    exact centred_high (cqN zss k) (pnN ps) v u W hv hu hf hR hc
set_option maxRecDepth 100000 in
set_option maxHeartbeats 4000000 in
theorem columnOf_any (zss : List (List Int)) (v : Value) (q : Nat) (w : World) (hv : RowS w v zss) (h0 : 1 ≤ zss.length ∧ zss.length ≤ 1000) (hq : ∀ j, j < zss.length → q < (zss.getD j []).length ∧ (zss.getD j []).length ≤ 1000) :
    Calls Tryz.prog 88 #[v, .int .i64 q] w fun e w' => e = .returned (.slice (some ⟨w.heap.size, 0, none⟩) zss.length zss.length) ∧ Old w w' ∧ Own w' w.heap.size (.slice (some ⟨w.heap.size, 0, none⟩) zss.length zss.length) (colZ zss q) := by
  obtain ⟨i0, hi, hz0, hz1, hz2⟩ := info_parts Tryz.infoInt
  obtain ⟨a0, cap0, ev⟩ := hv.slice
  subst ev
  rcases hv with ⟨a, cap, e, e2⟩ | ⟨b, o, cap, us, e, hb2, h3, hc⟩
  · subst e2
    simp at h0
  simp only [Value.slice.injEq, true_and] at e
  obtain ⟨rfl, rfl⟩ := e
  have HC : Hid (∀ j, j < zss.length → w.cell? ⟨b, o + j, none⟩ = some (us j) ∧ Row w (us j) (zss.getD j [])) := hc
  have HQ : Hid (∀ j, j < zss.length → q < (zss.getD j []).length ∧ (zss.getD j []).length ≤ 1000) := hq
  have HZ : Hid (∀ j, j < zss.length → (colZ zss q).getD j 0 = (zss.getD j []).getD q 0) := fun j hj => colZ_get zss q j hj
  have hlen : (colZ zss q).length = zss.length := colZ_len zss q
  generalize colZ zss q = zs at *
  clear hc hq
  go_enter Tryz.func88, Tryz.ntmps88
  go_wp2_with (at_make; refine wpList_make_full _ rfl _ _ 23 rfl w.heap.size 3 i0 (.int .i64 0) 1 Tryz.underlying23 hi hz0 hz1 .i64 .i64 _ _ zss.length rfl rfl rfl rfl (by rw [hz2]; omega) (by unfold maxLen; omega) (Nat.le_refl _) ?_; intro w3 hown hgrow)
  have HO : Hid (OwnI w3 w.heap.size w.heap.size zss.length (List.replicate zss.length 0)) := by
    rw [made_ints] at hown
    exact hown
  have HG3 : Hid (Old w w3) := Old.by_ (Old.refl _) hgrow (fun b hb => by cases hb)
  clear hown hgrow
  go_loopw [13, 6, 7] (fun i _ _ W => ∃ k : Nat, k ≤ zss.length ∧ i = .int .i64 k ∧ Hid (OwnI W w.heap.size w.heap.size zss.length (fillN zs k)) ∧ Hid (Old w W)) (fun i _ _ _ => zss.length - (intOf i).toNat)
  case atStart => exact ⟨0, by omega, rfl, (by show OwnI _ _ _ _ _; rw [fillN_zero, hlen]; exact HO.out), HG3⟩
  case round =>
    obtain ⟨k, hk, rfl, HO1, HG4⟩ := hrel
    clear HO HG3
    by_cases hlt : k < zss.length
    · have d1 : decide ((k : Int) < (zss.length : Int)) = true := by simp; omega
      obtain ⟨c0, r0⟩ := HC.out k hlt
      obtain ⟨l1, l2⟩ := HQ.out k hlt
      have hzk := HZ.out k hlt
      rcases r0 with ⟨x, y, e, e'⟩ | ⟨b3, o3, cap3, e, hb3, h03, hc3⟩
      · rw [e'] at l1
        simp at l1
      have q1 : wr.cell? ⟨b, o + k, none⟩ = some (.slice (some ⟨b3, o3, none⟩) (zss.getD k []).length cap3) := ((HG4.out.cell (p := ⟨b, o + k, none⟩) hb2).trans c0).trans (by rw [e])
      have q2 : wr.cell? ⟨b3, o3 + q, none⟩ = some (.int .i64 ((zss.getD k []).getD q 0)) := (HG4.out.cell (p := ⟨b3, o3 + q, none⟩) hb3).trans (hc3 q l1)
      have HPU : Hid (OwnI (wr.setCell ⟨w.heap.size, k, none⟩ (.int .i64 ((zss.getD k []).getD q 0))) w.heap.size w.heap.size zss.length (fillN zs (k + 1))) := by
        have := HO1.out.put k (zs.getD k 0)
        rw [fillN_set zs k (by omega), hzk] at this
        exact this
      have i1 : (k : Int) < (zss.length : Int) := by omega
      have i2 : (q : Int) < ((zss.getD k []).length : Int) := by omega
      have c3 := HO1.out.get (fillN_len zs k (by omega) |>.trans hlen) k hlt
      have c4 := HO1.out.free k
      generalize (fillN zs k).getD k 0 = oldv at *
      have HG6 : Hid (Old w (wr.setCell ⟨w.heap.size, k, none⟩ (.int .i64 ((zss.getD k []).getD q 0)))) := HG4.out.own (p := ⟨w.heap.size, k, none⟩) (Nat.le_refl _) _
      clear c0 e hc3 hzk HO1 l1
      generalize (zss.getD k []).getD q 0 = y at *
      generalize (zss.getD k []).length = n at *
      go_wp2_with fail
      exact ⟨⟨k + 1, by omega, by go_num, HPU, HG6⟩, by simp [intOf]; omega⟩
    · have d1 : decide ((k : Int) < (zss.length : Int)) = false := by simp; omega
      obtain rfl : k = zss.length := by omega
      have HF : Hid (Own wr w.heap.size (.slice (some ⟨w.heap.size, 0, none⟩) zss.length zss.length) zs) := by
        have := HO1.out.own ((fillN_len zs zss.length (by omega)).trans hlen)
        rw [show fillN zs zss.length = zs by rw [← hlen]; exact fillN_all zs] at this
        exact this
      go_wp2_with fail
      go_ret
      exact ⟨rfl, HG4.out, HF.out⟩
end Go.Proofs.YtfgooclnohnkmaaGreatDoor
