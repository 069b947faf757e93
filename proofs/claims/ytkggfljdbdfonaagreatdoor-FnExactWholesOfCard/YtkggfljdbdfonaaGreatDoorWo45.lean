/- Proved: several texts in one: what each proves is said ahead of it. -/
import Derived.Test.YtkggfljdbdfonaaGreatDoorWo11
import Derived.Test.YtkggfljdbdfonaaGreatDoorFab
import Derived.Test.YtkggfljdbdfonaaGreatDoorWo42
import Derived.Test.YtkggfljdbdfonaaGreatDoorRos
import Derived.Test.YtkggfljdbdfonaaGreatDoorLawWholesOf
import Derived.Test.YtkggfljdbdfonaaGreatDoorWo04
import Derived.Test.YtkggfljdbdfonaaGreatDoorWo15
/- Proved: contracts of the program's columnOf and WholesOf. -/
namespace Go.Proofs.YtkggfljdbdfonaaGreatDoor
open Go.ChangeShapes Go.WideShapes Go.ChangeAt Go.RowKit
open M2
set_option linter.unusedVariables false
set_option linter.unusedSimpArgs false
/-- the numbers at place k of all rows -/
def colZ (zss : List (List Int)) (k : Nat) : List Int := zss.map (fun r => r.getD k 0)
theorem colZ_len (zss : List (List Int)) (k : Nat) : (colZ zss k).length = zss.length := by simp [colZ]
theorem colZ_get (zss : List (List Int)) (k j : Nat) (h : j < zss.length) : (colZ zss k).getD j 0 = (zss.getD j []).getD k 0 := by simp [colZ, List.getD, h]
def cqN (zss : List (List Int)) (k : Nat) : List Nat := (colZ zss k).map Int.toNat
def pnN (ps : List Int) : List Nat := ps.map Int.toNat
/-- whether the number at place k is below 0, centred; and its size -/
def ctB (ps : List Int) (zss : List (List Int)) (k : Nat) : Bool := decide (prodN (pnN ps) ≤ coN (cqN zss k) (pnN ps) * 2)
def ctN (ps : List Int) (zss : List (List Int)) (k : Nat) : Nat := if coN (cqN zss k) (pnN ps) * 2 < prodN (pnN ps) then coN (cqN zss k) (pnN ps) else prodN (pnN ps) - coN (cqN zss k) (pnN ps)
def whB (n : Nat) (ps : List Int) (zss : List (List Int)) : List Bool := (List.range n).map (ctB ps zss)
def whX (n : Nat) (ps : List Int) (zss : List (List Int)) : List (List Int) := (List.range n).map (fun k => toI (dig (ctN ps zss k)))
theorem whB_len (n : Nat) (ps : List Int) (zss : List (List Int)) : (whB n ps zss).length = n := by simp [whB]
theorem whX_len (n : Nat) (ps : List Int) (zss : List (List Int)) : (whX n ps zss).length = n := by simp [whX]
theorem whB_get (n : Nat) (ps : List Int) (zss : List (List Int)) (k : Nat) (h : k < n) : (whB n ps zss).getD k false = ctB ps zss k := by simp [whB, List.getD, h]
theorem whX_get (n : Nat) (ps : List Int) (zss : List (List Int)) (k : Nat) (h : k < n) : (whX n ps zss).getD k [] = toI (dig (ctN ps zss k)) := by simp [whX, List.getD, h]
/-- rows of n numbers each, below their primes -/
structure Gr (n : Nat) (ps : List Int) (zss : List (List Int)) : Prop where
  bas : basB ps = true
  len : zss.length = ps.length
  row : ∀ j, j < ps.length → (zss.getD j []).length = n ∧ ∀ i, i < n → 0 ≤ (zss.getD j []).getD i 0 ∧ (zss.getD j []).getD i 0 < ps.getD j 0
theorem toZ_toNat {xs : List Int} (h : ∀ i, i < xs.length → 0 ≤ xs.getD i 0) : toZ (xs.map Int.toNat) = xs := by
  rw [toZ, List.map_map]
  refine (List.map_congr_left fun x hx => ?_).trans (List.map_id _)
  obtain ⟨i, hi, rfl⟩ := List.getElem_of_mem hx
  have := h i hi
  rw [show xs.getD i 0 = xs[i] by simp [List.getD, hi]] at this
  show ((xs[i].toNat : Nat) : Int) = xs[i]
  omega
theorem Gr.ps {n : Nat} {ps : List Int} {zss : List (List Int)} (h : Gr n ps zss) : ps = toZ (pnN ps) ∧ Bas (pnN ps) := by
  obtain ⟨qs, e, hb⟩ := basB_yes h.bas
  have : pnN ps = qs := by unfold pnN; rw [e]; exact toZ_back qs
  rw [this]
  exact ⟨e, hb⟩
theorem Gr.col {n : Nat} {ps : List Int} {zss : List (List Int)} (h : Gr n ps zss) (k : Nat) (hk : k < n) : colZ zss k = toZ (cqN zss k) ∧ Res (cqN zss k) (pnN ps) := by
  have e1 : colZ zss k = toZ (cqN zss k) := by
    unfold cqN
    rw [toZ_toNat]
    intro i hi
    rw [colZ_len] at hi
    rw [colZ_get zss k i hi]
    exact ((h.row i (by have := h.len; omega)).2 k hk).1
  refine ⟨e1, h.ps.2, ?_, fun i hi => ?_⟩
  · unfold cqN pnN
    rw [List.length_map, colZ_len, h.len, List.length_map]
  · have hi' : i < ps.length := by simpa [pnN] using hi
    have hz : i < zss.length := by have := h.len; omega
    have h1 := (h.row i hi').2 k hk
    have e2 : (cqN zss k).getD i 0 = ((zss.getD i []).getD k 0).toNat := by
      rw [← colZ_get zss k i hz]
      unfold cqN
      have : i < (colZ zss k).length := by rw [colZ_len]; exact hz
      simp [List.getD, this]
    have e3 : (pnN ps).getD i 0 = (ps.getD i 0).toNat := by simp [pnN, List.getD, hi']
    rw [e2, e3]
    omega
theorem ctN_cnt {n : Nat} {ps : List Int} {zss : List (List Int)} (h : Gr n ps zss) (k : Nat) (hk : k < n) : (dig (ctN ps zss k)).length ≤ 7 := by
  obtain ⟨_, hR⟩ := h.col k hk
  unfold ctN
  split
  · exact coN_cnt hR
  · exact Nat.le_trans (cnt_mono (Nat.sub_le _ _)) hR.bas.cnt
theorem whX_row {n : Nat} {ps : List Int} {zss : List (List Int)} (h : Gr n ps zss) : ∀ r ∈ whX n ps zss, r.length ≤ 7 := by
  intro r hr
  obtain ⟨k, hk, rfl⟩ := List.mem_map.1 hr
  have := ctN_cnt h k (by simpa using hk)
  simpa [toI] using this
theorem centred_p {n : Nat} {ps : List Int} {zss : List (List Int)} (h : Gr n ps zss) (k : Nat) (hk : k < n) (v u : Value) (W : World) (hv : Row W v (colZ zss k)) (hu : Row W u ps) (hf : Fit u) :
    Calls Tryz.prog 98 #[v, u] W fun e w' => ∃ v', e = .returned (.agg #[.bool (ctB ps zss k), v']) ∧ Old W w' ∧ Own w' W.heap.size v' (toI (dig (ctN ps zss k))) := by
  obtain ⟨e1, hR⟩ := h.col k hk
  obtain ⟨e2, hb⟩ := h.ps
  rw [e1] at hv
  rw [e2] at hu
  unfold ctB ctN
  by_cases hc : coN (cqN zss k) (pnN ps) * 2 < prodN (pnN ps)
  · rw [if_pos hc, decide_eq_false (by omega)]
    exact centred_low (cqN zss k) (pnN ps) v u W hv hu hf hR hc
  · rw [if_neg hc, decide_eq_true (by omega)]
    exact centred_high (cqN zss k) (pnN ps) v u W hv hu hf hR hc
set_option maxRecDepth 100000 in
set_option maxHeartbeats 4000000 in
theorem columnOf_any (zss : List (List Int)) (v : Value) (q : Nat) (w : World) (hv : RowS w v zss) (h0 : 1 ≤ zss.length ∧ zss.length ≤ 1000) (hq : ∀ j, j < zss.length → q < (zss.getD j []).length ∧ (zss.getD j []).length ≤ 1000) :
    Calls Tryz.prog 99 #[v, .int .i64 q] w fun e w' => e = .returned (.slice (some ⟨w.heap.size, 0, none⟩) zss.length zss.length) ∧ Old w w' ∧ Own w' w.heap.size (.slice (some ⟨w.heap.size, 0, none⟩) zss.length zss.length) (colZ zss q) := by
  obtain ⟨i0, hi, hz0, hz1, hz2⟩ := info_parts Tryz.infoInt
  obtain ⟨a0, cap0, ev⟩ := hv.slice
  subst ev
  rcases hv with ⟨a, cap, e, e2⟩ | ⟨b, o, cap, us, e, hb2, h3, hc⟩
  · subst e2
    simp at h0
  simp only [Value.slice.injEq, true_and] at e
  obtain ⟨rfl, rfl⟩ := e
  have HC : Hid (∀ j, j < zss.length → w.cell? ⟨b, o + j, none⟩ = some (us j) ∧ Row w (us j) (zss.getD j [])) := hc
  have HQ : Hid (∀ j, j < zss.length → q < (zss.getD j []).length ∧ (zss.getD j []).length ≤ 1000) := hq
  have HZ : Hid (∀ j, j < zss.length → (colZ zss q).getD j 0 = (zss.getD j []).getD q 0) := fun j hj => colZ_get zss q j hj
  have hlen : (colZ zss q).length = zss.length := colZ_len zss q
  generalize colZ zss q = zs at *
  clear hc hq
  go_enter Tryz.func99, Tryz.ntmps99
  go_wp2_with (at_make; refine wpList_make_full _ rfl _ _ 22 rfl w.heap.size 3 i0 (.int .i64 0) 1 Tryz.underlying22 hi hz0 hz1 .i64 .i64 _ _ zss.length rfl rfl rfl rfl (by rw [hz2]; omega) (by unfold maxLen; omega) (Nat.le_refl _) ?_; intro w3 hown hgrow)
  have HO : Hid (OwnI w3 w.heap.size w.heap.size zss.length (List.replicate zss.length 0)) := by
    rw [made_ints] at hown
    exact hown
  have HG3 : Hid (Old w w3) := Old.by_ (Old.refl _) hgrow (fun b hb => by cases hb)
  clear hown hgrow
  go_loopw [13, 6, 7] (fun i _ _ W => ∃ k : Nat, k ≤ zss.length ∧ i = .int .i64 k ∧ Hid (OwnI W w.heap.size w.heap.size zss.length (fillN zs k)) ∧ Hid (Old w W)) (fun i _ _ _ => zss.length - (intOf i).toNat)
  case atStart => exact ⟨0, by omega, rfl, (by show OwnI _ _ _ _ _; rw [fillN_zero, hlen]; exact HO.out), HG3⟩
  case round =>
    obtain ⟨k, hk, rfl, HO1, HG4⟩ := hrel
    clear HO HG3
    by_cases hlt : k < zss.length
    · have d1 : decide ((k : Int) < (zss.length : Int)) = true := by simp; omega
      obtain ⟨c0, r0⟩ := HC.out k hlt
      obtain ⟨l1, l2⟩ := HQ.out k hlt
      have hzk := HZ.out k hlt
      rcases r0 with ⟨x, y, e, e'⟩ | ⟨b3, o3, cap3, e, hb3, h03, hc3⟩
      · rw [e'] at l1
        simp at l1
      have q1 : wr.cell? ⟨b, o + k, none⟩ = some (.slice (some ⟨b3, o3, none⟩) (zss.getD k []).length cap3) := ((HG4.out.cell (p := ⟨b, o + k, none⟩) hb2).trans c0).trans (by rw [e])
      have q2 : wr.cell? ⟨b3, o3 + q, none⟩ = some (.int .i64 ((zss.getD k []).getD q 0)) := (HG4.out.cell (p := ⟨b3, o3 + q, none⟩) hb3).trans (hc3 q l1)
      have HPU : Hid (OwnI (wr.setCell ⟨w.heap.size, k, none⟩ (.int .i64 ((zss.getD k []).getD q 0))) w.heap.size w.heap.size zss.length (fillN zs (k + 1))) := by
        have := HO1.out.put k (zs.getD k 0)
        rw [fillN_set zs k (by omega), hzk] at this
        exact this
      have i1 : (k : Int) < (zss.length : Int) := by omega
      have i2 : (q : Int) < ((zss.getD k []).length : Int) := by omega
      have c3 := HO1.out.get (fillN_len zs k (by omega) |>.trans hlen) k hlt
      have c4 := HO1.out.free k
      generalize (fillN zs k).getD k 0 = oldv at *
      have HG6 : Hid (Old w (wr.setCell ⟨w.heap.size, k, none⟩ (.int .i64 ((zss.getD k []).getD q 0)))) := HG4.out.own (p := ⟨w.heap.size, k, none⟩) (Nat.le_refl _) _
      clear c0 e hc3 hzk HO1 l1
      generalize (zss.getD k []).getD q 0 = y at *
      generalize (zss.getD k []).length = n at *
      go_wp2_with fail
      exact ⟨⟨k + 1, by omega, by go_num, HPU, HG6⟩, by simp [intOf]; omega⟩
    · have d1 : decide ((k : Int) < (zss.length : Int)) = false := by simp; omega
      obtain rfl : k = zss.length := by omega
      have HF : Hid (Own wr w.heap.size (.slice (some ⟨w.heap.size, 0, none⟩) zss.length zss.length) zs) := by
        have := HO1.out.own ((fillN_len zs zss.length (by omega)).trans hlen)
        rw [show fillN zs zss.length = zs by rw [← hlen]; exact fillN_all zs] at this
        exact this
      go_wp2_with fail
      go_ret
      exact ⟨rfl, HG4.out, HF.out⟩
end Go.Proofs.YtkggfljdbdfonaaGreatDoor
/- Proved: the program's WholesOf. -/
namespace Go.Proofs.YtkggfljdbdfonaaGreatDoor
open Go.ChangeShapes Go.WideShapes Go.ChangeAt Go.RowKit
open M2
set_option linter.unusedVariables false
set_option linter.unusedSimpArgs false
set_option maxRecDepth 100000 in
set_option maxHeartbeats 4000000 in
theorem impl_WholesOf_no (N : Int) (ps : List Int) (a : Bool) (xss : List (List Int)) (v : Value) (a1 : Option Addr) (c1 : Nat) (w : World) (hv : Row w v ps)
    (cb : ∀ W, Old w W → Calls Tryz.prog 49 #[.agg #[.int .i64 N, v], .agg #[.bool a, .slice a1 xss.length c1]] W (Rs W false [] false)) :
    Calls Tryz.prog 11 #[.agg #[.int .i64 N, v], .agg #[.bool a, .slice a1 xss.length c1]] w (Ws w [] [] false) := by
  obtain ⟨a0, c0, rfl⟩ := hv.slice
  have HV : Hid (Row w (.slice a0 ps.length c0) ps) := hv
  have HA : Hid (Old w ((w.alloc (.cells #[.int .i64 N, .slice a0 ps.length c0] 33)).alloc (.cells #[.bool a, .slice a1 xss.length c1] 35))) := ((Old.refl w).alloc _).alloc _
  have BA : Hid (Bk ((w.alloc (.cells #[.int .i64 N, .slice a0 ps.length c0] 33)).alloc (.cells #[.bool a, .slice a1 xss.length c1] 35)) w.heap.size #[.int .i64 N, .slice a0 ps.length c0] 33) := (Bk.new' w _ _ rfl).alloc _
  clear hv
  go_enter Tryz.func11, Tryz.ntmps11
  go_wp2_with fail
  refine (cb _ HA.out).mono ?_
  rintro e w2 ⟨r0, rfl, g2, ab, cb', rfl, ob⟩
  have HG2 : Hid (Old w w2) := Old.trans HA.out g2
  clear g2 ob
  go_wp2_with fail
  go_ret2
  exact ws_nil (HG2.out.alloc _)
set_option maxRecDepth 100000 in
set_option maxHeartbeats 8000000 in
theorem centredWholes_any (Nn : Nat) (ps : List Int) (zss : List (List Int)) (v u : Value) (w : World) (hu : Row w u ps) (hf : Fit u) (hv : RowS w v zss) (hN : 1 ≤ Nn ∧ Nn ≤ 16) (hps : 1 ≤ ps.length ∧ ps.length ≤ 6) (hG : Gr Nn ps zss) :
    Calls Tryz.prog 50 #[v, u] w fun e w' => ∃ v', e = .returned v' ∧ Old w w' ∧ Ows (TS 51 2 Nn (elW (whB Nn ps zss) (whX Nn ps zss))) w' w.heap.size w'.heap.size [v'] := by
  obtain ⟨i0, hi, hz0, hz1, hz2⟩ := info_parts Tryz.infoWhole
  obtain ⟨a0, c0, rfl⟩ := hu.slice
  have hzl : zss.length = ps.length := hG.len
  have HCO : Hid (∀ k, k < Nn → ∀ W v', RowS W v' zss → Calls Tryz.prog 99 #[v', .int .i64 k] W fun e w' => e = .returned (.slice (some ⟨W.heap.size, 0, none⟩) ps.length ps.length) ∧ Old W w' ∧ Row w' (.slice (some ⟨W.heap.size, 0, none⟩) ps.length ps.length) (colZ zss k)) := fun k hk W v' hr => by
    have h1 := columnOf_any zss v' k W hr (by omega) (fun j hj => by have := (hG.row j (by omega)).1; omega)
    rw [hzl] at h1
    exact h1.mono fun e w' h => ⟨h.1, h.2.1, Own.row h.2.2⟩
  have HCE : Hid (∀ k, k < Nn → ∀ W v', Old w W → Row W v' (colZ zss k) → Calls Tryz.prog 98 #[v', .slice a0 ps.length c0] W fun e w' => ∃ v', e = .returned (.agg #[.bool ((whB Nn ps zss).getD k false), v']) ∧ Old W w' ∧ Own w' W.heap.size v' ((whX Nn ps zss).getD k [])) := fun k hk W v' g hr => by
    rw [whB_get Nn ps zss k hk, whX_get Nn ps zss k hk]
    exact centred_p hG k hk v' _ W hr (hu.old g) hf
  have HEL : Hid (∀ k, elW (whB Nn ps zss) (whX Nn ps zss) k = TB ((whB Nn ps zss).getD k false) (TI ((whX Nn ps zss).getD k []))) := fun k => rfl
  have HGD : Hid (∀ j, GoodT (elW (whB Nn ps zss) (whX Nn ps zss) j)) := good_elW _ _
  have RV : Hid (RowS w v zss) := hv
  obtain ⟨b, o, cap, ev, x0, u0, n0, cc0, eu⟩ : ∃ b o cap, v = .slice (some ⟨b, o, none⟩) ps.length cap ∧ ∃ x0 u0 n0 cc0, w.cell? ⟨b, o, none⟩ = some (.slice u0 Nn cc0) ∧ x0 = n0 ∧ n0 = cc0 := by
    rcases hv with ⟨a, cap, e, e2⟩ | ⟨b, o, cap, us, e, hb2, h3, hc⟩
    · rw [e2] at hzl
      simp at hzl
      omega
    · obtain ⟨h5, h6⟩ := hc 0 h3
      obtain ⟨ua, uc, ue⟩ := h6.slice
      have h7 := (hG.row 0 (by omega)).1
      rw [ue, h7] at h5
      exact ⟨b, o, cap, by rw [e, hzl], uc, ua, uc, uc, by simpa using h5, rfl, rfl⟩
  obtain ⟨q0, rfl, rfl⟩ := eu
  subst ev
  generalize elW (whB Nn ps zss) (whX Nn ps zss) = Es at *
  generalize whB Nn ps zss = bs at *
  generalize whX Nn ps zss = yss at *
  have p0 : (0 : Int) < (ps.length : Int) := by omega
  have p1 : 0 < ps.length := by omega
  clear hv hf hG hzl hu
  go_enter Tryz.func50, Tryz.ntmps50
  go_wp2_with (at_make; refine wpList_make_full _ rfl _ _ 30 rfl 0 51 i0 (.agg #[.bool false, .slice none 0 0]) 2 Tryz.underlying30 hi hz0 hz1 .i64 .i64 _ _ Nn rfl rfl rfl rfl (by rw [hz2]; omega) (by unfold maxLen; omega) (Nat.zero_le _) ?_; intro w3 hown hgrow)
  have HO : Hid (TSc 51 2 Nn 0 Es w3 w.heap.size Nn _ (fun _ _ => False)) := TSc.start (by simpa using hown)
  have HG3 : Hid (Old w w3) := Below.grown (Below.refl _ _) hgrow (Nat.le_refl _) (fun _ h => by cases h)
  clear hown hgrow q0
  go_loopw [14, 6] (fun i _ W => ∃ (k : Nat) (vs : List Value) (Bs : Nat → Nat → Prop), k ≤ Nn ∧ i = .int .i64 k ∧ Hid (TSc 51 2 Nn k Es W w.heap.size Nn vs Bs) ∧ Hid (∀ j b, j < k → Bs j b → w.heap.size < b) ∧ Hid (Old w W)) (fun i _ _ => Nn - (intOf i).toNat)
  case atStart => exact ⟨0, _, _, by omega, rfl, HO, (fun j b hj => by omega), HG3⟩
  case round =>
    obtain ⟨k, vs, Bs, hk, rfl, H1, HB, HG4⟩ := hrel
    clear HO HG3
    by_cases hlt : k < Nn
    · have d1 : decide ((k : Int) < (Nn : Int)) = true := by simp; omega
      have ilt : (k : Int) < (Nn : Int) := by omega
      have cc := HCO.out k hlt
      have ce := HCE.out k hlt
      have HEK : Hid (Es k = TB (bs.getD k false) (TI (yss.getD k []))) := HEL.out k
      have hsr : w.heap.size < wr.heap.size := ownsRow_lt H1.out.row
      generalize bs.getD k false = sg at *
      generalize yss.getD k [] = xs at *
      have HX : Hid (∀ w6 x6 c6 Bz, Old wr w6 → TI xs w6 Bz [.slice x6 xs.length c6] → (∀ b, Bz b → wr.heap.size ≤ b) → (∃ vs', TSc 51 2 Nn (k + 1) Es ((w6.setCell ⟨w.heap.size, k * 2, none⟩ (.bool sg)).setCell ⟨w.heap.size, k * 2 + 1, none⟩ (.slice x6 xs.length c6)) (w.heap.size) Nn vs' (fun q => if q = k then Bz else Bs q)) ∧ (∀ j b, j < k + 1 → (fun q => if q = k then Bz else Bs q) j b → w.heap.size < b) ∧ Old w ((w6.setCell ⟨w.heap.size, k * 2, none⟩ (.bool sg)).setCell ⟨w.heap.size, k * 2 + 1, none⟩ (.slice x6 xs.length c6))) := fun w6 x6 c6 Bz g6 hTI hlo => by
        refine ⟨(H1.out.old HGD.out g6).store2 HGD.out hlt _ _ (B := Bz) (fun W' hW' => ?_) (fun hb => by have := hlo _ hb; omega) (fun j hj b h1 h2 => ?_), fun j b hj hb => ?_, ?_⟩
        · rw [HEK.out]
          exact ⟨_, rfl, (good_TI xs).far hTI (fun b hb => hW' b (by have := hlo b hb; omega))⟩
        · have h4 := H1.out.lt HGD.out j b hj h1
          have := hlo b h2
          omega
        · by_cases e : j = k
          · simp only [e, if_true] at hb
            have := hlo b hb
            omega
          · simp only [e, if_false] at hb
            exact HB.out j b (by omega) hb
        · exact ((Old.trans HG4.out g6).own (p := ⟨w.heap.size, k * 2, none⟩) (by simp) _).own (p := ⟨w.heap.size, k * 2 + 1, none⟩) (by simp) _
      have HCL : Hid (∀ w6, Old wr w6 → ∀ i, i < 2 → (∃ z, w6.cell? ⟨w.heap.size, k * 2 + i, none⟩ = some z) ∧ w6.frozen? ⟨w.heap.size, k * 2 + i, none⟩ = false) := fun w6 g6 i hi2 => by
        have H2 := H1.out.old HGD.out g6
        have h5 := H2.cell k i hlt hi2
        have h6 := cellsJ_len H2.row.1 k hlt
        exact ⟨⟨_, h5.trans (List.getElem?_eq_getElem (by omega))⟩, H2.frozen _⟩
      have RB4 := RV.out.old HG4.out
      clear H1 HB HEK
      go_wp2_with fail
      refine (cc _ _ RB4).mono ?_
      rintro e w5 ⟨rfl, q5, o5⟩
      have Q5 : Hid (Old wr w5) := q5
      have O5 : Hid (Row w5 (.slice (some ⟨wr.heap.size, 0, none⟩) ps.length ps.length) (colZ zss k)) := o5
      clear q5 o5
      go_wp2_with fail
      refine (ce _ _ (Old.trans HG4.out Q5.out) O5.out).mono ?_
      rintro e w6 ⟨v6, rfl, q6, o6⟩
      obtain ⟨x6, c6, rfl⟩ := (Own.row o6).slice
      have Q6 : Hid (Old wr w6) := Old.trans Q5.out q6
      have O6 : Hid (Own w6 wr.heap.size (.slice x6 xs.length c6) xs) := o6.low Q5.out.size
      clear q6 o6
      obtain ⟨⟨z0, hz0⟩, hf0⟩ := HCL.out w6 Q6.out 0 (by omega)
      obtain ⟨⟨z1, hz1⟩, hf1⟩ := HCL.out w6 Q6.out 1 (by omega)
      simp only [Nat.add_zero] at hz0 hf0
      obtain ⟨Bz, hTI, hlo⟩ := TI.of O6.out
      obtain ⟨⟨vs', n1⟩, n2, n3⟩ := HX.out w6 x6 c6 Bz Q6.out hTI hlo
      have N1 : Hid (TSc 51 2 Nn (k + 1) Es ((w6.setCell ⟨w.heap.size, k * 2, none⟩ (.bool sg)).setCell ⟨w.heap.size, k * 2 + 1, none⟩ (.slice x6 xs.length c6)) w.heap.size Nn vs' (fun q => if q = k then Bz else Bs q)) := n1
      have N2 : Hid (∀ j b, j < k + 1 → (fun q => if q = k then Bz else Bs q) j b → w.heap.size < b) := n2
      have N3 : Hid (Old w ((w6.setCell ⟨w.heap.size, k * 2, none⟩ (.bool sg)).setCell ⟨w.heap.size, k * 2 + 1, none⟩ (.slice x6 xs.length c6))) := n3
      clear n1 n2 n3 hTI hlo HX HCL
      go_wp2_with fail
      exact ⟨⟨k + 1, vs', _, by omega, by go_num, N1, N2, N3⟩, by simp [intOf]; omega⟩
    · have d1 : decide ((k : Int) < (Nn : Int)) = false := by simp; omega
      obtain rfl : k = Nn := by omega
      have HE : Hid (Ows (TS 51 2 k Es) wr w.heap.size wr.heap.size [.slice (some ⟨w.heap.size, 0, none⟩) k k]) := H1.out.done HGD.out (Nat.le_refl _) (fun j b hj hb => Nat.le_of_lt (HB.out j b hj hb))
      go_wp2_with fail
      go_ret
      exact ⟨_, rfl, HG4.out, HE.out⟩
set_option maxRecDepth 100000 in
set_option maxHeartbeats 8000000 in
theorem impl_WholesOf_yes (Nn : Nat) (ps : List Int) (a : Bool) (xss zss : List (List Int)) (v : Value) (a1 : Option Addr) (c1 : Nat) (w : World) (hv : Row w v ps) (hf : Fit v) (hN : 1 ≤ Nn ∧ Nn ≤ 16) (hps : 1 ≤ ps.length ∧ ps.length ≤ 6) (hG : Gr Nn ps zss)
    (cb : ∀ W, Old w W → Calls Tryz.prog 49 #[.agg #[.int .i64 Nn, v], .agg #[.bool a, .slice a1 xss.length c1]] W (Rs W false zss true)) :
    Calls Tryz.prog 11 #[.agg #[.int .i64 Nn, v], .agg #[.bool a, .slice a1 xss.length c1]] w (Ws w (whB Nn ps zss) (whX Nn ps zss) true) := by
  obtain ⟨a0, c0, rfl⟩ := hv.slice
  have HA : Hid (Old w ((w.alloc (.cells #[.int .i64 Nn, .slice a0 ps.length c0] 33)).alloc (.cells #[.bool a, .slice a1 xss.length c1] 35))) := ((Old.refl w).alloc _).alloc _
  have BA : Hid (Bk ((w.alloc (.cells #[.int .i64 Nn, .slice a0 ps.length c0] 33)).alloc (.cells #[.bool a, .slice a1 xss.length c1] 35)) w.heap.size #[.int .i64 Nn, .slice a0 ps.length c0] 33) := (Bk.new' w _ _ rfl).alloc _
  have hzl : zss.length = ps.length := hG.len
  have HCW : Hid (∀ W v', Old w W → RowS W v' zss → Calls Tryz.prog 50 #[v', .slice a0 ps.length c0] W fun e w' => ∃ v', e = .returned v' ∧ Old W w' ∧ Ows (TS 51 2 Nn (elW (whB Nn ps zss) (whX Nn ps zss))) w' W.heap.size w'.heap.size [v']) := fun W v' g hr => centredWholes_any Nn ps zss v' _ W (hv.old g) hf hr hN hps hG
  have HF : Hid (∀ w' v', Old w w' → Ows (TS 51 2 Nn (elW (whB Nn ps zss) (whX Nn ps zss))) w' w.heap.size w'.heap.size [v'] → Ws w (whB Nn ps zss) (whX Nn ps zss) true (.returned (.tuple #[v', .bool true])) w') := fun w' v' g o => ⟨v', rfl, g, by show Ows (TS _ _ _ _) _ _ _ _; rw [whX_len]; exact o⟩
  have HSR : Hid (∀ W lo hi v', OwS zss W lo hi v' → RowS W v' zss) := fun W lo hi v' h => h.rowS
  have HTS : Hid (∀ W lo hi v', Ows (TS 51 2 Nn (elW (whB Nn ps zss) (whX Nn ps zss))) W lo hi [v'] → ∃ a c, v' = .slice a Nn c) := fun W lo hi v' h => by obtain ⟨_, B, hT, _⟩ := h; exact TS.slice hT
  generalize elW (whB Nn ps zss) (whX Nn ps zss) = Es at *
  generalize whB Nn ps zss = bs at *
  generalize whX Nn ps zss = yss at *
  clear hv hf hG
  go_enter Tryz.func11, Tryz.ntmps11
  go_wp2_with fail
  refine (cb _ HA.out).mono ?_
  rintro e w2 ⟨r0, rfl, g2, ab, cb', rfl, ob⟩
  rw [hzl] at ob ⊢
  have HG2 : Hid (Old w w2) := Old.trans HA.out g2
  have B2 : Hid (Bk w2 w.heap.size #[.int .i64 Nn, .slice a0 ps.length c0] 33) := BA.out.old g2
  have RB : Hid (RowS w2 (.slice ab ps.length cb') zss) := HSR.out _ _ _ _ ob
  have gA : Old w2 (w2.alloc (.cells #[.bool false, .slice ab ps.length cb'] 35)) := (Old.refl w2).alloc _
  have z1 := (B2.out.alloc (.cells #[.bool false, .slice ab ps.length cb'] 35)).c (i := 1) rfl
  have y1 : (w2.alloc (.cells #[.bool false, .slice ab ps.length cb'] 35)).cell? ⟨w2.heap.size, 1, none⟩ = some (.slice ab ps.length cb') := (cell_at _ _ _ _ 1 rfl).trans rfl
  have HG3 : Hid (Old w (w2.alloc (.cells #[.bool false, .slice ab ps.length cb'] 35))) := Old.trans HG2.out gA
  have CC := HCW.out _ _ HG3.out (RB.out.old gA)
  clear g2 ob cb hzl gA
  go_wp2_with fail
  refine CC.mono ?_
  rintro e w5 ⟨v5, rfl, g5, o5⟩
  have HG5 : Hid (Old w w5) := Old.trans HG3.out g5
  have O5 : Hid (Ows (TS 51 2 Nn Es) w5 w.heap.size w5.heap.size [v5]) := o5.low HG3.out.size (Nat.le_refl _) (Nat.le_refl _)
  obtain ⟨a5, c5, e5⟩ := HTS.out _ _ _ _ o5
  subst e5
  clear g5 o5 CC
  go_wp2_with fail
  go_ret2
  exact HF.out _ _ HG5.out O5.out
end Go.Proofs.YtkggfljdbdfonaaGreatDoor
/- Proved: contracts of the model's l5Wholes and WholesOf. -/
namespace Go.Proofs.YtkggfljdbdfonaaGreatDoor
open Go.ChangeShapes Go.WideShapes Go.ChangeAt Go.RowKit
open M2
set_option linter.unusedVariables false
set_option linter.unusedSimpArgs false
theorem TSW.rowW {T : TypeId} {bs : List Bool} {xss : List (List Int)} {W : World} {B : Nat → Prop} {v : Value} (hb : bs.length = xss.length) (h : TS T 2 xss.length (elW bs xss) W B [v]) : RowW W v bs xss := by
  refine ⟨hb, ?_⟩
  rcases h with ⟨h0, h1, _⟩ | ⟨p, cap, vs, Bs, e, hc, _⟩
  · simp at h1
    exact .inl ⟨none, 0, h1, List.length_eq_zero_iff.1 h0⟩
  · simp at e
    subst e
    rcases Nat.eq_zero_or_pos xss.length with h0 | h0
    · rw [h0]
      exact .inl ⟨_, _, rfl, List.length_eq_zero_iff.1 h0⟩
    · refine .inr ⟨p, 0, cap, fun j => (cellsJ 2 vs j).getD 1 (.slice none 0 0), rfl, ownsRow_lt hc.row, h0, fun j hj => ?_⟩
      obtain ⟨x, e0, e1, hE⟩ := TB.two (hc.el j hj)
      have c0 := hc.cell j 0 hj (by omega)
      have c1 := hc.cell j 1 hj (by omega)
      have ex : (cellsJ 2 vs j).getD 1 (.slice none 0 0) = x := by simp [List.getD, e1]
      show W.cell? ⟨p, 0 + j * 2, none⟩ = _ ∧ W.cell? ⟨p, 0 + j * 2 + 1, none⟩ = some ((cellsJ 2 vs j).getD 1 (.slice none 0 0)) ∧ Row W ((cellsJ 2 vs j).getD 1 (.slice none 0 0)) _
      rw [ex, Nat.zero_add]
      exact ⟨c0.trans e0, c1.trans e1, hE.row⟩
set_option maxRecDepth 100000 in
set_option maxHeartbeats 1000000 in
theorem spec_l5Wholes (Nn : Nat) (ps : List Int) (zss : List (List Int)) (v u : Value) (w : World) (hv : Row w v ps) (h1 : RowS w u zss) (hN : 1 ≤ Nn ∧ Nn ≤ 16) (hps : 1 ≤ ps.length ∧ ps.length ≤ 6) (hG : Gr Nn ps zss) :
    Calls Tryz.prog 45 #[.agg #[.int .i64 Nn, v], u] w fun e w' => ∃ v', e = .returned v' ∧ Old w w' ∧ RowW w' v' (whB Nn ps zss) (whX Nn ps zss) := by
  obtain ⟨i0, hi, hz0, hz1, hz2⟩ := info_parts Tryz.infoInt
  obtain ⟨j0, ji, jz0, jz1, jz2⟩ := info_parts Tryz.infoL2W
  obtain ⟨ep, hb⟩ := hG.ps
  have hzl : zss.length = ps.length := hG.len
  obtain ⟨a0, c0, ev⟩ := hv.slice
  obtain ⟨a1, cap1, e1⟩ := h1.slice
  rw [hzl] at e1
  subst ev e1
  obtain ⟨pz, hpz⟩ : ∃ pz, pz = toI (dig (prodN (pnN ps))) := ⟨_, rfl⟩
  obtain ⟨cz, hcz⟩ : ∃ cz : Nat → List Int, ∀ i, cz i = toI (dig (coN (cqN zss i) (pnN ps))) := ⟨_, fun i => rfl⟩
  have HPR : Hid (∀ W, Old w W → Calls Tryz.prog 91 #[.slice a0 ps.length c0] W fun e w' => ∃ v', e = .returned v' ∧ Old W w' ∧ Row w' v' pz) := fun W g => by rw [hpz]; exact spec_product (pnN ps) _ W (by rw [← ep]; exact hv.old g) hb.len6 hb.hi
  have HCP : Hid (∀ i, i < Nn → ∀ W v', Old w W → Row W v' (colZ zss i) → Calls Tryz.prog 93 #[v', .slice a0 ps.length c0] W fun e w' => ∃ v2, e = .returned v2 ∧ Old W w' ∧ Own w' W.heap.size v2 (cz i)) := fun i hi W v' g hr => by
    obtain ⟨e1, hR⟩ := hG.col i hi
    rw [hcz i]
    exact spec_composeO (cqN zss i) (pnN ps) v' _ W (by rw [← e1]; exact hr) (by rw [← ep]; exact hv.old g) hR
  have HCT : Hid (∀ i, i < Nn → ∀ W x y base, Own W base x (cz i) → base ≤ W.heap.size → Row W y pz → Calls Tryz.prog 92 #[x, y] W fun e w' => ∃ v3, e = .returned (.agg #[.bool ((whB Nn ps zss).getD i false), v3]) ∧ Old W w' ∧ Own w' base v3 ((whX Nn ps zss).getD i [])) := fun i hi W x y base hx hbase hy => by
    obtain ⟨e1, hR⟩ := hG.col i hi
    rw [whB_get Nn ps zss i hi, whX_get Nn ps zss i hi]
    rw [hcz i] at hx
    rw [hpz] at hy
    have hc2 : cnt (coN (cqN zss i) (pnN ps) * 2) ≤ 8 := by
      refine cnt_le ?_
      have h1 := cnt_lt (coN (cqN zss i) (pnN ps))
      have h3 : LB ^ cnt (coN (cqN zss i) (pnN ps)) ≤ LB ^ 7 := Nat.pow_le_pow_right LB_pos (coN_cnt hR)
      have h4 : LB ^ 8 = LB ^ 7 * LB := Nat.pow_succ ..
      have h5 : LB ^ 7 * 2 ≤ LB ^ 7 * LB := Nat.mul_le_mul_left _ (by decide)
      omega
    exact centre_anyO (coN (cqN zss i) (pnN ps)) (prodN (pnN ps)) base x y W hx hbase hy (Nat.le_trans (coN_cnt hR) (by omega)) (Nat.le_trans hb.cnt (by omega)) (Nat.le_trans hc2 (by omega)) (Nat.mod_lt _ (Nat.pos_of_ne_zero hb.pos))
  have HRL : Hid (∀ j, j < ps.length → (zss.getD j []).length = Nn) := fun j hj => (hG.row j hj).1
  have HCG : Hid (∀ i j, j < ps.length → (colZ zss i).getD j 0 = (zss.getD j []).getD i 0) := fun i j hj => colZ_get zss i j (by omega)
  have HCL : Hid (∀ i, (colZ zss i).length = ps.length) := fun i => by rw [colZ_len, hzl]
  have HBL : (whB Nn ps zss).length = (whX Nn ps zss).length := by rw [whB_len, whX_len]
  have HXL : Hid ((whX Nn ps zss).length = Nn) := whX_len Nn ps zss
  rcases h1 with ⟨a, cap, e, e'⟩ | ⟨b1, o1, cap, us1, e_1, hb1, h01, hc1⟩
  · subst e'
    simp at hzl
    omega
  simp only [Value.slice.injEq] at e_1
  obtain ⟨rfl, hle1, rfl⟩ := e_1
  clear hle1
  have HC1 : Hid (∀ j, j < ps.length → w.cell? ⟨b1, o1 + j, none⟩ = some (us1 j) ∧ Row w (us1 j) (zss.getD j [])) := fun j hj => hc1 j (by omega)
  have HAO : Hid (Old w (w.alloc (.cells #[.int .i64 Nn, .slice a0 ps.length c0] 33))) := (Old.refl w).alloc _
  have BA : Hid (Bk (w.alloc (.cells #[.int .i64 Nn, .slice a0 ps.length c0] 33)) w.heap.size #[.int .i64 Nn, .slice a0 ps.length c0] 33) := Bk.new' w _ _ rfl
  have HFI : Hid (∀ W v', Ows (TS 86 2 Nn (elW (whB Nn ps zss) (whX Nn ps zss))) W w.heap.size W.heap.size [v'] → RowW W v' (whB Nn ps zss) (whX Nn ps zss)) := fun W v' h2 => by
    obtain ⟨_, B, hT, _⟩ := h2
    refine TSW.rowW (T := 86) (B := B) HBL ?_
    rw [whX_len]
    exact hT
  have HEL : Hid (∀ k, elW (whB Nn ps zss) (whX Nn ps zss) k = TB ((whB Nn ps zss).getD k false) (TI ((whX Nn ps zss).getD k []))) := fun k => rfl
  have HGD : Hid (∀ j, GoodT (elW (whB Nn ps zss) (whX Nn ps zss) j)) := good_elW _ _
  generalize elW (whB Nn ps zss) (whX Nn ps zss) = Es at *
  generalize whB Nn ps zss = bs at *
  generalize whX Nn ps zss = yss at *
  clear hc1 hv hG hb ep hzl HBL hpz hcz
  go_enter Tryz.func45, Tryz.ntmps45
  go_wp2_with fail
  refine (HPR.out _ HAO.out).mono ?_
  rintro e w1 ⟨vq, rfl, g1, rq⟩
  obtain ⟨aq, cq, rfl⟩ := rq.slice
  have RQ : Hid (Row w1 (.slice aq pz.length cq) pz) := rq
  have HG1 : Hid (Old w w1) := Old.trans HAO.out g1
  have B1 : Hid (Bk w1 w.heap.size #[.int .i64 Nn, .slice a0 ps.length c0] 33) := BA.out.old g1
  clear g1 rq
  go_wp2_with fail
  go_loopw [6, 7] (fun x i W => ∃ (k : Nat) (a : Option Addr) (c : Nat), k ≤ Nn ∧ i = .int .i64 k ∧ x = .slice a k c ∧ Hid (Ows (TS 86 2 k Es) W w1.heap.size W.heap.size [.slice a k c]) ∧ Hid (Old w1 W)) (fun _ i _ => Nn - (intOf i).toNat)
  case atStart => exact ⟨0, none, 0, by omega, rfl, rfl, Ows.nil (Nat.le_refl _), Old.refl _⟩
  case round =>
    obtain ⟨k, a, c, hk, rfl, rfl, HO, HG2⟩ := hrel
    have HGW : Hid (Old w wr) := Old.trans HG1.out HG2.out
    have B2 : Hid (Bk wr w.heap.size #[.int .i64 Nn, .slice a0 ps.length c0] 33) := B1.out.old HG2.out
    have z0 := B2.out.c (i := 0) rfl
    have z1 := B2.out.c (i := 1) rfl
    have hsw := HGW.out.size
    have hsw1 := HG2.out.size
    by_cases hlt : k < Nn
    · have d1 : decide ((k : Int) < (Nn : Int)) = true := by simp; omega
      have ilt : (k : Int) < (Nn : Int) := by omega
      have kcp := HCP.out k hlt
      have kct := HCT.out k hlt
      have HT : Hid (∀ j, j < ps.length → (colZ zss k).take (j + 1) = (colZ zss k).take j ++ [(zss.getD j []).getD k 0]) := fun j hj => by
        rw [take_succI _ _ (by rw [HCL.out k]; exact hj), HCG.out k j hj]
      have HTL : Hid ((colZ zss k).length = ps.length) := HCL.out k
      generalize colZ zss k = zs at *
      generalize cz k = czk at *
      rename World => wq
      go_wp2_with fail
      go_loopw [8, 22, 9] (fun x i _ W => ∃ (j : Nat) (ra : Option Addr) (rc : Nat), j ≤ ps.length ∧ i = .int .i64 j ∧ x = .slice ra j rc ∧ Hid (Own W wq.heap.size (.slice ra j rc) (zs.take j)) ∧ Hid (Old wq W)) (fun _ i _ _ => ps.length - (intOf i).toNat)
      case atStart => exact ⟨0, none, 0, by omega, rfl, rfl, (by exact own_nil _ _), Old.refl _⟩
      case round =>
        obtain ⟨j, ra, rc, hj, rfl, rfl, HO2, HG3⟩ := hrel
        have hs2 := HG3.out.size
        have HGX : Hid (Old w wr) := Old.trans HGW.out HG3.out
        by_cases hjl : j < ps.length
        · have d2 : decide ((j : Int) < (ps.length : Int)) = true := by simp; omega
          have jlt : (j : Int) < (ps.length : Int) := by omega
          obtain ⟨p1, p2⟩ := HC1.out j hjl
          have hrl := HRL.out j hjl
          rcases p2 with ⟨x, y, e, e'⟩ | ⟨b3, o3, cap3, e, hb3, h03, hc3⟩
          · rw [e'] at hrl
            simp at hrl
            omega
          have q1 : wr.cell? ⟨b1, o1 + j, none⟩ = some (.slice (some ⟨b3, o3, none⟩) Nn cap3) := ((HGX.out.cell (p := ⟨b1, o1 + j, none⟩) hb1).trans p1).trans (by rw [e, hrl])
          have q2 : wr.cell? ⟨b3, o3 + k, none⟩ = some (.int .i64 ((zss.getD j []).getD k 0)) := (HGX.out.cell (p := ⟨b3, o3 + k, none⟩) hb3).trans (hc3 k (by omega))
          have htk : (zs.take j).length = j := by rw [List.length_take]; have := HTL.out; omega
          have HT2 : Hid (zs.take (j + 1) = zs.take j ++ [(zss.getD j []).getD k 0]) := HT.out j hjl
          clear p1 e hc3 hrl h03
          generalize (zss.getD j []).getD k 0 = q at *
          go_wp2_with (at_builtin; go_loud (refine wpList_append_own _ rfl _ _ 22 rfl wq.heap.size 3 i0 (.int .i64 0) 1 8 Tryz.underlying22 hi hz0 hz1 hz2 rfl (by decide) _ _ _ rfl (by have := HO2.out.alloc (.cells #[.int .i64 q] 3); unfold Own at this; rw [htk] at this; exact this) ⟨wr.heap.size, 0, none⟩ 1 1 [.int .i64 q] rfl rfl (one_cell _ _ _) (one_one _) (by unfold maxLen; omega) (by omega) (by simp; omega) ?_; intro v5 w5 o5 g5 x5; have O5 : Hid (Own w5 wq.heap.size v5 (zs.take (j + 1))) := (by have := HT2.out; show Own _ _ _ _; rw [this]; exact Own.snoc (by rw [htk]; exact o5)); have G5 : Hid (Old wq w5) := Below.grown (HG3.out.alloc (.cells #[.int .i64 q] 3)) g5 (HG3.out.alloc (.cells #[.int .i64 q] 3)).size (fun j hj => (HO2.out.lt j hj).1); clear o5 g5 x5))
          obtain ⟨a5, cap5, rfl⟩ := (Own.row O5.out).slice
          have htk1 : (zs.take (j + 1)).length = j + 1 := by rw [List.length_take]; have := HTL.out; omega
          rw [htk1] at O5 ⊢
          exact ⟨⟨j + 1, _, _, by omega, by go_num, rfl, O5, G5⟩, by simp [intOf]; omega⟩
        · have d2 : decide ((j : Int) < (ps.length : Int)) = false := by simp; omega
          obtain rfl : j = ps.length := by omega
          have RZ : Hid (Row wr (.slice ra ps.length rc) zs) := by
            have := HO2.out
            rw [List.take_of_length_le (by have := HTL.out; omega)] at this
            exact Own.row this
          have z1' : wr.cell? ⟨w.heap.size, 1, none⟩ = some (.slice a0 ps.length c0) := (B2.out.old HG3.out).c (i := 1) rfl
          clear HO2
          go_wp2_with fail
          refine (kcp _ _ HGX.out RZ.out).mono ?_
          rintro e w3 ⟨v3, rfl, g3, r3⟩
          obtain ⟨x3, y3, rfl⟩ := (Own.row r3).slice
          have R3 : Hid (Own w3 wr.heap.size (.slice x3 czk.length y3) czk) := r3
          have G3 : Hid (Old wq w3) := Old.trans HG3.out g3
          have hs3 := g3.size
          clear g3 r3
          go_wp2_with fail
          refine (kct _ _ _ wr.heap.size R3.out hs3 (RQ.out.old (Old.trans HG2.out G3.out))).mono ?_
          rintro e w4 ⟨v4, rfl, g4, r4⟩
          obtain ⟨x4, y4, rfl⟩ := (Own.row r4).slice
          have HEK : Hid (Es k = TB (bs.getD k false) (TI (yss.getD k []))) := HEL.out k
          generalize bs.getD k false = sg at *
          generalize yss.getD k [] = xs at *
          have G4 : Old wq w4 := Old.trans G3.out g4
          have HG4 : Hid (Old w w4) := Old.trans HGW.out G4
          obtain ⟨B, hTI, hBlo⟩ := TI.of r4
          have HAP : Hid (∀ o1 : Obj, ∃ vs, (w4.alloc o1).ownsRow 0 86 2 (.slice a k c) k vs ∧ (∀ b, (Value.slice a k c).ownBlock = some b → w1.heap.size ≤ b) ∧ ∀ v' w', w'.ownsRow 0 86 2 v' (k + 1) (vs ++ [.bool sg, .slice x4 xs.length y4]) → (w4.alloc o1).grownBy w' (Value.slice a k c).ownBlock → (v'.ownBlock = (Value.slice a k c).ownBlock ∨ v'.ownBlock = some (w4.alloc o1).heap.size) → Ows (TS 86 2 (k + 1) Es) w' w1.heap.size w'.heap.size [v']) := fun o1 => by
            have hE : TB sg (TI xs) (w4.alloc o1) B [.bool sg, .slice x4 xs.length y4] := ⟨_, rfl, (good_TI xs).far hTI (fun b hb => ((Old.refl w4).alloc o1).block b ((good_TI xs).lt hTI b hb))⟩
            obtain ⟨vs, p1, p2, p3⟩ := Ows.app HGD.out (good_TB sg (good_TI xs)) HO.out hsw1 (G4.alloc o1) hE (fun b hb => by have := hBlo b hb; omega) rfl
            refine ⟨vs, p1, p2, fun v' w' q1 q2 q3 => ?_⟩
            obtain ⟨hh, B', hT', hB'⟩ := p3 v' w' q1 q2 q3
            exact ⟨hh, B', TS.ext (fun j hj => by by_cases e : j = k <;> simp [e, HEK.out]) hT', hB'⟩
          obtain ⟨vs, p1, p2, p3⟩ := HAP.out (.cells #[.bool sg, .slice x4 xs.length y4] 86)
          have P1 : Hid ((w4.alloc (.cells #[.bool sg, .slice x4 xs.length y4] 86)).ownsRow 0 86 2 (.slice a k c) k vs) := p1
          have P2 : Hid (∀ b, (Value.slice a k c).ownBlock = some b → w1.heap.size ≤ b) := p2
          have P3 : Hid (∀ v' w', w'.ownsRow 0 86 2 v' (k + 1) (vs ++ [.bool sg, .slice x4 xs.length y4]) → (w4.alloc (.cells #[.bool sg, .slice x4 xs.length y4] 86)).grownBy w' (Value.slice a k c).ownBlock → (v'.ownBlock = (Value.slice a k c).ownBlock ∨ v'.ownBlock = some (w4.alloc (.cells #[.bool sg, .slice x4 xs.length y4] 86)).heap.size) → Ows (TS 86 2 (k + 1) Es) w' w1.heap.size w'.heap.size [v']) := p3
          have HGA : Hid (Old w1 (w4.alloc (.cells #[.bool sg, .slice x4 xs.length y4] 86))) := (Old.trans HG2.out G4).alloc _
          have HNW : Hid (∀ (j : Nat) (u : Value), [Value.bool sg, .slice x4 xs.length y4][j]? = some u → (w4.alloc (.cells #[.bool sg, .slice x4 xs.length y4] 86)).cell? ((⟨w4.heap.size, 0, none⟩ : Addr).add j) = some u) := two_newR _ _ _ _ rfl
          clear p1 p2 p3 HAP HO g4 r4 hTI hBlo HEK G4
          go_wp2_with (at_builtin; go_loud (refine wpList_append_own_at _ rfl _ _ 81 rfl 0 86 j0 (.agg #[.bool false, .slice none 0 0]) 2 32 Tryz.underlying81 ji jz0 jz1 jz2 rfl (by decide) _ _ _ rfl P1.out ⟨w4.heap.size, 0, none⟩ 1 1 [.bool sg, .slice x4 xs.length y4] rfl rfl HNW.out (by simp [Value.oneCell']) (by unfold maxLen; omega) (by omega) (Nat.zero_le _) ?_; intro v5 w5 o5 g5 x5 l5; have O5 : Hid (Ows (TS 86 2 (k + 1) Es) w5 w1.heap.size w5.heap.size [v5]) := P3.out v5 w5 o5 g5 l5; have G5 : Hid (Old w1 w5) := Below.grown HGA.out g5 HGA.out.size (fun j hj => P2.out j hj); clear o5 g5 x5 l5))
          obtain ⟨a5, c5, rfl⟩ : ∃ a c, v5 = .slice a (k + 1) c := by obtain ⟨_, B5, hT5, _⟩ := O5.out; exact TS.slice hT5
          exact ⟨⟨k + 1, a5, c5, by omega, by go_num, rfl, O5, G5⟩, by simp [intOf]; omega⟩
    · have d1 : decide ((k : Int) < (Nn : Int)) = false := by simp; omega
      obtain rfl : k = Nn := by omega
      have HE : Hid (RowW wr (.slice a k c) bs yss) := HFI.out _ _ (HO.out.low HG1.out.size (Nat.le_refl _) (Nat.le_refl _))
      go_wp2_with fail
      go_ret
      exact ⟨_, rfl, HGW.out, HE.out⟩
set_option maxRecDepth 100000 in
set_option maxHeartbeats 1000000 in
theorem spec_WholesOf_no (N : Int) (ps : List Int) (a : Bool) (xss : List (List Int)) (v : Value) (a1 : Option Addr) (c1 : Nat) (w : World) (hv : Row w v ps)
    (cg : ∀ W, Old w W → Calls Tryz.prog 44 #[.agg #[.int .i64 N, v], .agg #[.bool a, .slice a1 xss.length c1]] W fun e w' => e = .returned (.bool false) ∧ Old W w') :
    Calls Tryz.prog 8 #[.agg #[.int .i64 N, v], .agg #[.bool a, .slice a1 xss.length c1]] w (Ws w [] [] false) := by
  obtain ⟨a0, c0, rfl⟩ := hv.slice
  have HA : Hid (Old w ((w.alloc (.cells #[.int .i64 N, .slice a0 ps.length c0] 33)).alloc (.cells #[.bool a, .slice a1 xss.length c1] 35))) := ((Old.refl w).alloc _).alloc _
  have BA : Hid (Bk ((w.alloc (.cells #[.int .i64 N, .slice a0 ps.length c0] 33)).alloc (.cells #[.bool a, .slice a1 xss.length c1] 35)) w.heap.size #[.int .i64 N, .slice a0 ps.length c0] 33) := (Bk.new' w _ _ rfl).alloc _
  have BR : Hid (Bk ((w.alloc (.cells #[.int .i64 N, .slice a0 ps.length c0] 33)).alloc (.cells #[.bool a, .slice a1 xss.length c1] 35)) (w.heap.size + 1) #[.bool a, .slice a1 xss.length c1] 35) := Bk.new' _ _ _ (by simp)
  clear hv
  go_enter Tryz.func8, Tryz.ntmps8
  go_wp2_with fail
  refine (cg _ HA.out).mono ?_
  rintro e w2 ⟨rfl, g2⟩
  have HG2 : Hid (Old w w2) := Old.trans HA.out g2
  clear g2
  go_wp2_with fail
  go_ret2
  exact ws_nil HG2.out
set_option maxRecDepth 100000 in
set_option maxHeartbeats 2000000 in
theorem spec_WholesOf_yes (N : Int) (ps : List Int) (a : Bool) (xss zss : List (List Int)) (bs : List Bool) (yss : List (List Int)) (n : Nat) (v : Value) (a1 : Option Addr) (c1 : Nat) (w : World) (hv : Row w v ps) (hN : 1 ≤ n ∧ n ≤ 16) (hyl : yss.length = n)
    (hout : ∀ k, k < n → ∀ W u, Row W u (yss.getD k []) → Calls Tryz.prog 47 #[.agg #[.bool (bs.getD k false), u]] W fun e w' => ∃ v, e = .returned (.tuple #[.agg #[.bool (bs.getD k false), v], .bool true]) ∧ Old W w' ∧ Own w' W.heap.size v (yss.getD k []))
    (cg : ∀ W, Old w W → Calls Tryz.prog 44 #[.agg #[.int .i64 N, v], .agg #[.bool a, .slice a1 xss.length c1]] W fun e w' => e = .returned (.bool true) ∧ Old W w')
    (cb : ∀ W, Old w W → Calls Tryz.prog 46 #[.agg #[.int .i64 N, v], .agg #[.bool a, .slice a1 xss.length c1]] W fun e w' => ∃ x y z, e = .returned (.slice x y z) ∧ Old W w' ∧ RowS w' (.slice x y z) zss)
    (cw : ∀ W u, Old w W → RowS W u zss → Calls Tryz.prog 45 #[.agg #[.int .i64 N, v], u] W fun e w' => ∃ x z, e = .returned (.slice x n z) ∧ Old W w' ∧ RowW w' (.slice x n z) bs yss) :
    Calls Tryz.prog 8 #[.agg #[.int .i64 N, v], .agg #[.bool a, .slice a1 xss.length c1]] w (Ws w bs yss true) := by
  obtain ⟨i0, hi, hz0, hz1, hz2⟩ := info_parts Tryz.infoWhole
  obtain ⟨a0, c0, rfl⟩ := hv.slice
  have HA : Hid (Old w ((w.alloc (.cells #[.int .i64 N, .slice a0 ps.length c0] 33)).alloc (.cells #[.bool a, .slice a1 xss.length c1] 35))) := ((Old.refl w).alloc _).alloc _
  have BA : Hid (Bk ((w.alloc (.cells #[.int .i64 N, .slice a0 ps.length c0] 33)).alloc (.cells #[.bool a, .slice a1 xss.length c1] 35)) w.heap.size #[.int .i64 N, .slice a0 ps.length c0] 33) := (Bk.new' w _ _ rfl).alloc _
  have BR : Hid (Bk ((w.alloc (.cells #[.int .i64 N, .slice a0 ps.length c0] 33)).alloc (.cells #[.bool a, .slice a1 xss.length c1] 35)) (w.heap.size + 1) #[.bool a, .slice a1 xss.length c1] 35) := Bk.new' _ _ _ (by simp)
  have HOU : Hid (∀ k, k < n → ∀ W u, Row W u (yss.getD k []) → Calls Tryz.prog 47 #[.agg #[.bool (bs.getD k false), u]] W fun e w' => ∃ v, e = .returned (.tuple #[.agg #[.bool (bs.getD k false), v], .bool true]) ∧ Old W w' ∧ Own w' W.heap.size v (yss.getD k [])) := hout
  have HF : Hid (∀ w' v', Old w w' → Ows (TS 51 2 n (elW bs yss)) w' w.heap.size w'.heap.size [v'] → Ws w bs yss true (.returned (.tuple #[v', .bool true])) w') := fun w' v' g o => ⟨v', rfl, g, by show Ows (TS _ _ _ _) _ _ _ _; rw [hyl]; exact o⟩
  have HEL : Hid (∀ k, elW bs yss k = TB (bs.getD k false) (TI (yss.getD k []))) := fun k => rfl
  have HGD : Hid (∀ j, GoodT (elW bs yss j)) := good_elW _ _
  have HYL : Hid (yss.length = n) := hyl
  generalize elW bs yss = Es at *
  clear hv hout hyl
  go_enter Tryz.func8, Tryz.ntmps8
  go_wp2_with fail
  refine (cg _ HA.out).mono ?_
  rintro e w1 ⟨rfl, g1⟩
  have HG1 : Hid (Old w w1) := Old.trans HA.out g1
  have HAS : Hid (∀ W', Old w1 W' → (W'.cell? ⟨w.heap.size, 0, none⟩ = some (.int .i64 N) ∧ W'.cell? ⟨w.heap.size, 1, none⟩ = some (.slice a0 ps.length c0) ∧ W'.cell? ⟨w.heap.size + 1, 0, none⟩ = some (.bool a) ∧ W'.cell? ⟨w.heap.size + 1, 1, none⟩ = some (.slice a1 xss.length c1))) := fun W' q => by
    have b1 := (BA.out.old g1).old q
    have b2 := (BR.out.old g1).old q
    exact ⟨b1.c (i := 0) rfl, b1.c (i := 1) rfl, b2.c (i := 0) rfl, b2.c (i := 1) rfl⟩
  clear g1 cg
  obtain ⟨s0, s1, s2, s3⟩ := HAS.out w1 (Old.refl _)
  go_wp2_with fail
  go_region_held3 (fun W' => W'.cell? ⟨w.heap.size, 0, none⟩ = some (.int .i64 N) ∧ W'.cell? ⟨w.heap.size, 1, none⟩ = some (.slice a0 ps.length c0) ∧ W'.cell? ⟨w.heap.size + 1, 0, none⟩ = some (.bool a) ∧ W'.cell? ⟨w.heap.size + 1, 1, none⟩ = some (.slice a1 xss.length c1)) (first | with_reducible exact HAS.out _ Q6.out | with_reducible exact HAS.out _ Q5.out | with_reducible exact HAS.out _ (Below.drew (Old.refl _)) | with_reducible exact HAS.out _ (Old.refl _)) (first
    | (go_at_call 46; refine (cb _ (Below.drew HG1.out)).mono ?_; rintro e w5 ⟨x5, y5, z5, rfl, q5, o5⟩; have Q5 : Hid (Old w1 w5) := Old.trans (Below.drew (Old.refl _)) q5; have O5 : Hid (RowS w5 (.slice x5 y5 z5) zss) := o5; clear q5 o5)
    | (go_at_call 45; refine (cw _ _ (Old.trans HG1.out Q5.out) O5.out).mono ?_; rintro e w6 ⟨x6, z6, rfl, q6, o6⟩; have Q6 : Hid (Old w1 w6) := Old.trans Q5.out q6; have O6 : Hid (RowW w6 (.slice x6 n z6) bs yss) := o6; clear q6 o6)
    | fail)
  have HG6 : Hid (Old w w6) := Old.trans HG1.out Q6.out
  obtain ⟨us, b, o, ex6, hb, hcc⟩ : ∃ us : Nat → Value, ∃ b o, x6 = some ⟨b, o, none⟩ ∧ b < w6.heap.size ∧ ∀ j, j < n → w6.cell? ⟨b, o + j * 2, none⟩ = some (.bool (bs.getD j false)) ∧ w6.cell? ⟨b, o + j * 2 + 1, none⟩ = some (us j) ∧ Row w6 (us j) (yss.getD j []) := by
    obtain ⟨_, ⟨a, cap, e, e2⟩ | ⟨b, o, cap, us, e, hb2, h3, hc⟩⟩ := O6.out
    · have := HYL.out
      rw [e2] at this
      simp at this
      omega
    · simp only [Value.slice.injEq] at e
      exact ⟨us, b, o, e.1, hb2, fun j hj => hc j (by rw [HYL.out]; exact hj)⟩
  subst ex6
  have HC : Hid (∀ j, j < n → w6.cell? ⟨b, o + j * 2, none⟩ = some (.bool (bs.getD j false)) ∧ w6.cell? ⟨b, o + j * 2 + 1, none⟩ = some (us j) ∧ Row w6 (us j) (yss.getD j [])) := hcc
  clear hcc s0 s1 s2 s3 cb cw HAS O6 O5
  go_wp2_with fail
  go_loopw [21, 6, 8, 9, 10] (fun i x _ _ _ W => ∃ (k : Nat) (a : Option Addr) (c : Nat), k ≤ n ∧ i = .int .i64 k ∧ x = .slice a k c ∧ Hid (Ows (TS 51 2 k Es) W w6.heap.size W.heap.size [.slice a k c]) ∧ Hid (Old w6 W)) (fun i _ _ _ _ _ => n - (intOf i).toNat)
  case atStart => exact ⟨0, none, 0, by omega, rfl, rfl, Ows.nil (Nat.le_refl _), Old.refl _⟩
  case round =>
    obtain ⟨k, a, c, hk, rfl, rfl, H1, HG4⟩ := hrel
    have HG5 : Hid (Old w wr) := Old.trans HG6.out HG4.out
    by_cases hlt : k < n
    · have d1 : decide ((k : Int) < (n : Int)) = true := by simp; omega
      obtain ⟨e0, e1, r0⟩ := HC.out k hlt
      obtain ⟨x1, y1, e2⟩ := r0.slice
      rw [e2] at e1 r0
      have q0 := (HG4.out.cell (p := ⟨b, o + k * 2, none⟩) hb).trans e0
      have q1 := (HG4.out.cell (p := ⟨b, o + k * 2 + 1, none⟩) hb).trans e1
      have R1 : Hid (Row wr (.slice x1 (yss.getD k []).length y1) (yss.getD k [])) := r0.old HG4.out
      have ko := HOU.out k hlt
      have HEK : Hid (Es k = TB (bs.getD k false) (TI (yss.getD k []))) := HEL.out k
      clear e0 e1 r0 e2
      generalize bs.getD k false = sg at *
      generalize yss.getD k [] = xs at *
      go_wp2_with fail
      refine (ko _ _ (R1.out.old ((Old.refl wr).alloc _))).mono ?_
      rintro e w3 ⟨v3, rfl, g3, o3⟩
      obtain ⟨a2, c2, rfl⟩ := (Own.row o3).slice
      obtain ⟨B, hTI, hBlo⟩ := TI.of o3
      have G3 : Old wr w3 := Old.trans ((Old.refl wr).alloc _) g3
      have hsw := HG4.out.size
      have hBl2 : ∀ b, B b → wr.heap.size ≤ b := fun b hb => by have := hBlo b hb; simp at this; omega
      have HAP : Hid (∀ o1 o2 : Obj, ∃ vs, ((w3.alloc o1).alloc o2).ownsRow 0 51 2 (.slice a k c) k vs ∧ (∀ b, (Value.slice a k c).ownBlock = some b → w6.heap.size ≤ b) ∧ ∀ v' w', w'.ownsRow 0 51 2 v' (k + 1) (vs ++ [.bool sg, .slice a2 xs.length c2]) → ((w3.alloc o1).alloc o2).grownBy w' (Value.slice a k c).ownBlock → (v'.ownBlock = (Value.slice a k c).ownBlock ∨ v'.ownBlock = some ((w3.alloc o1).alloc o2).heap.size) → Ows (TS 51 2 (k + 1) Es) w' w6.heap.size w'.heap.size [v']) := fun o1 o2 => by
        have hE : TB sg (TI xs) ((w3.alloc o1).alloc o2) B [.bool sg, .slice a2 xs.length c2] := ⟨_, rfl, (good_TI xs).far hTI (fun b hb => (((Old.refl w3).alloc o1).alloc o2).block b ((good_TI xs).lt hTI b hb))⟩
        obtain ⟨vs, p1, p2, p3⟩ := Ows.app HGD.out (good_TB sg (good_TI xs)) H1.out hsw ((G3.alloc o1).alloc o2) hE hBl2 rfl
        refine ⟨vs, p1, p2, fun v' w' q1 q2 q3 => ?_⟩
        obtain ⟨hh, B', hT', hB'⟩ := p3 v' w' q1 q2 q3
        exact ⟨hh, B', TS.ext (fun j hj => by by_cases e : j = k <;> simp [e, HEK.out]) hT', hB'⟩
      obtain ⟨vs, p1, p2, p3⟩ := HAP.out (.cells #[.bool sg, .slice a2 xs.length c2] 51) (.cells #[.bool sg, .slice a2 xs.length c2] 51)
      have P1 : Hid (((w3.alloc (.cells #[.bool sg, .slice a2 xs.length c2] 51)).alloc (.cells #[.bool sg, .slice a2 xs.length c2] 51)).ownsRow 0 51 2 (.slice a k c) k vs) := p1
      have P2 : Hid (∀ b, (Value.slice a k c).ownBlock = some b → w6.heap.size ≤ b) := p2
      have P3 : Hid (∀ v' w', w'.ownsRow 0 51 2 v' (k + 1) (vs ++ [.bool sg, .slice a2 xs.length c2]) → ((w3.alloc (.cells #[.bool sg, .slice a2 xs.length c2] 51)).alloc (.cells #[.bool sg, .slice a2 xs.length c2] 51)).grownBy w' (Value.slice a k c).ownBlock → (v'.ownBlock = (Value.slice a k c).ownBlock ∨ v'.ownBlock = some ((w3.alloc (.cells #[.bool sg, .slice a2 xs.length c2] 51)).alloc (.cells #[.bool sg, .slice a2 xs.length c2] 51)).heap.size) → Ows (TS 51 2 (k + 1) Es) w' w6.heap.size w'.heap.size [v']) := p3
      have HGA : Hid (Old w6 ((w3.alloc (.cells #[.bool sg, .slice a2 xs.length c2] 51)).alloc (.cells #[.bool sg, .slice a2 xs.length c2] 51))) := ((Old.trans HG4.out G3).alloc _).alloc _
      have HNW : Hid (∀ (j : Nat) (u : Value), [Value.bool sg, .slice a2 xs.length c2][j]? = some u → ((w3.alloc (.cells #[.bool sg, .slice a2 xs.length c2] 51)).alloc (.cells #[.bool sg, .slice a2 xs.length c2] 51)).cell? ((⟨w3.heap.size + 1, 0, none⟩ : Addr).add j) = some u) := two_newR _ _ _ _ (by simp)
      clear p1 p2 p3 HAP H1 g3 o3 hTI hBlo hBl2 G3 HEK
      go_wp2_with (at_builtin; go_loud (refine wpList_append_own_at _ rfl _ _ 30 rfl 0 51 i0 (.agg #[.bool false, .slice none 0 0]) 2 32 Tryz.underlying30 hi hz0 hz1 hz2 rfl (by decide) _ _ _ rfl P1.out ⟨w3.heap.size + 1, 0, none⟩ 1 1 [.bool sg, .slice a2 xs.length c2] rfl rfl HNW.out (by simp [Value.oneCell']) (by unfold maxLen; omega) (by omega) (Nat.zero_le _) ?_; intro v5 w5 o5 g5 x5 l5; have O5 : Hid (Ows (TS 51 2 (k + 1) Es) w5 w6.heap.size w5.heap.size [v5]) := P3.out v5 w5 o5 g5 l5; have G5 : Hid (Old w6 w5) := Below.grown HGA.out g5 HGA.out.size (fun j hj => P2.out j hj); clear o5 g5 x5 l5))
      obtain ⟨a5, c5, rfl⟩ : ∃ a c, v5 = .slice a (k + 1) c := by obtain ⟨_, B5, hT5, _⟩ := O5.out; exact TS.slice hT5
      exact ⟨⟨k + 1, a5, c5, by omega, by go_num, rfl, O5, G5⟩, by simp [intOf]; omega⟩
    · have d1 : decide ((k : Int) < (n : Int)) = false := by simp; omega
      obtain rfl : k = n := by omega
      go_wp2_with fail
      go_ret2
      exact HF.out _ _ HG5.out (H1.out.low HG6.out.size (Nat.le_refl _) (Nat.le_refl _))
end Go.Proofs.YtkggfljdbdfonaaGreatDoor
/- Proved: the statement on WholesOf at every space and rows, in a world in which the two tables are laid. -/
namespace Go.Proofs.YtkggfljdbdfonaaGreatDoor
open Go.ChangeShapes Go.WideShapes Go.ChangeAt Go.RowKit
set_option linter.unusedVariables false
set_option linter.unusedSimpArgs false
open M1 M2
theorem invL_ltW (P N R : Nat) (xs : List Nat) (hP : 0 < P) : ∀ x ∈ invL P N R xs, x < P := fun x hx => by
  unfold invL at hx
  rw [List.mem_map] at hx
  obtain ⟨i, _, rfl⟩ := hx
  exact Nat.mod_lt _ hP
theorem toZ_bd {P : Nat} {ys : List Nat} (h : ∀ y ∈ ys, y < P) (i : Nat) (hi : i < ys.length) : 0 ≤ (toZ ys).getD i 0 ∧ (toZ ys).getD i 0 < (P : Int) := by
  have e : (toZ ys).getD i 0 = ((ys[i] : Nat) : Int) := by simp [toZ, List.getD, hi]
  have := h ys[i] (List.getElem_mem hi)
  rw [e]
  omega
theorem gr_back {N : Int} {ps : List Int} {xss : List (List Int)} {Rf : Nat → Int} (n : Bool) (hR : ∀ k, RingOk (ps.getD k 0) N → ((0 ≤ Rf k ∧ Rf k < ps.getD k 0) ∧ (∀ W, PrsW W → TabW W → Calls Tryz.prog 153 #[.int .i64 (ps.getD k 0), .int .i64 N] W fun e w' => e = .returned (.tuple #[.agg #[.int .i64 (ps.getD k 0), .int .i64 N, .int .i64 (Rf k)], .bool true]) ∧ Old W w')) ∧ (∀ W, Calls Tryz.prog 141 #[.int .i64 (ps.getD k 0), .int .i64 N] W fun e w' => e = .returned (.tuple #[.agg #[.int .i64 (ps.getD k 0), .int .i64 N, .int .i64 (Rf k)], .bool true]) ∧ Old W w') ∧ ∃ P M R : Nat, ps.getD k 0 = P ∧ N = M ∧ Rf k = R ∧ R < P ∧ RingOk P M ∧ (F1.Pr P → Rt P (2 * M) R)) (h : grB N ps xss = true) (Nn : Nat) (hn : N = Nn) :
    Gr Nn ps (mkL (backF N n) ps Rf xss) := by
  have hs : spB N ps = true := by
    unfold grB at h
    rw [Bool.and_eq_true] at h
    exact h.1
  refine ⟨(sp_ring hs).2.1, mkL_len _ _ _ _, fun j hj => ?_⟩
  rw [mkL_get _ _ _ _ j hj]
  obtain ⟨P, M, R, ys, e1, e2, e3, e4, hlt, hP2, hS, la, ha, r1, r2⟩ := row_open hR h j hj
  have hM : M = Nn := by omega
  subst hM
  rw [e1, e3, e4, e2]
  unfold backF
  cases n
  · simp only [Bool.false_eq_true, if_false]
    refine ⟨by rw [toZ_len, la], fun i hi => toZ_bd ha i (by omega)⟩
  · simp only [if_true]
    rw [bkZ_toZ]
    refine ⟨by rw [toZ_len, invL_len], fun i hi => toZ_bd (invL_ltW P M R ys (by omega)) i (by rw [invL_len]; exact hi)⟩
set_option maxRecDepth 100000 in
theorem WholesOf_any (N : Int) (ps : List Int) (n : Bool) (xss : List (List Int)) (v u : Value) (w : World) (hv : Row w v ps) (hl : ps.length ≤ 9223372036854775807) (hx : ∀ x ∈ ps, -9223372036854775808 ≤ x ∧ x ≤ 9223372036854775807) (hu : RowS w u xss) (hlx : xss.length ≤ 9223372036854775807) (hlr : ∀ r ∈ xss, r.length ≤ 9223372036854775807) (hP : PrsW w) (hT : TabW w) :
    Calls Tryz.prog 3 #[.agg #[.int .i64 N, v], .agg #[.bool n, u]] w fun e w' => e = .returned (.bool true) ∧ Old w w' := by
  obtain ⟨Rf, hR⟩ := Rings_both N ps
  obtain ⟨a0, c0, rfl⟩ := hv.slice
  obtain ⟨a1, c1, rfl⟩ := hu.slice
  have bnd : ∀ {A : Prop}, ¬ leftN 1048576 ps.length < 0 → ¬ leftSS (leftN 1048576 ps.length) xss < 0 → (ps.length ≤ 1048576 → xss.length ≤ 1048576 → (∀ r ∈ xss, r.length ≤ 1048576) → offL xss xss.length ≤ 1048576 → A) → A := fun h1 h2 k => by
    obtain ⟨q1, q2, q3⟩ := leftN_ok h1 (by omega)
    obtain ⟨p1, p2, p3, p4⟩ := leftSS_ok q3 h2
    have o1 := offL_leftSS q3 h2
    exact k (by omega) (by omega) (fun r hr => by have := p4 r hr; omega) (by omega)
  obtain ⟨bs, yss, ok, hb, z1, z2, hcase⟩ : ∃ (bs : List Bool) (yss : List (List Int)) (ok : Bool), bs.length = yss.length ∧ yss.length ≤ 16 ∧ (∀ r ∈ yss, r.length ≤ 7) ∧ ((grB N ps xss = false ∧ bs = [] ∧ yss = [] ∧ ok = false) ∨ (grB N ps xss = true ∧ ok = true ∧ ∃ Nn : Nat, N = Nn ∧ (1 ≤ Nn ∧ Nn ≤ 16) ∧ (1 ≤ ps.length ∧ ps.length ≤ 6) ∧ Gr Nn ps (mkL (backF N n) ps Rf xss) ∧ bs = whB Nn ps (mkL (backF N n) ps Rf xss) ∧ yss = whX Nn ps (mkL (backF N n) ps Rf xss))) := by
    cases h : grB N ps xss
    · exact ⟨[], [], false, rfl, by simp, (fun r hr => by cases hr), .inl ⟨rfl, rfl, rfl, rfl⟩⟩
    · have hs : spB N ps = true := by
        unfold grB at h
        rw [Bool.and_eq_true] at h
        exact h.1
      have hN := (sp_ring hs).1
      have hb := (bas_at (sp_ring hs).2.1).1
      have hG := gr_back n hR h N.toNat (by omega)
      exact ⟨_, _, true, by rw [whB_len, whX_len], by rw [whX_len]; omega, whX_row hG, .inr ⟨rfl, rfl, N.toNat, by omega, by omega, hb, hG, rfl, rfl⟩⟩
  have ho : offW yss yss.length ≤ 128 := by
    have := offW_row z2
    omega
  have z2' : ∀ r ∈ yss, r.length ≤ 1048576 := fun r hr => by have := z2 r hr; omega
  refine law9_WholesOf w N ps.length a0 c0 n xss.length a1 c1 yss.length ok (leftN 1048576 ps.length) (leftSS (leftN 1048576 ps.length) xss)
    (fun W g => ks_sz N a0 ps.length c0 1048576 W hl (by omega) (by omega))
    (fun h W g => by
      obtain ⟨q1, q2, q3⟩ := leftN_ok h (by omega)
      exact kr_sz n xss _ _ W (hu.old g) hlx hlr q3 (by omega))
    (XS N ps) (far_XS N ps) shape_XS (fun h1 h2 W g => bnd h1 h2 fun d1 d2 d3 d6 => ks_to N ps _ W (hv.old g) d1) (fun h1 h2 W lo hi g lo' hi' g' k k' => bnd h1 h2 fun d1 d2 d3 d6 => ks_eq N ps W lo hi g lo' hi' g' k k' (by omega))
    (1 + ps.length) (by omega) (fun h1 h2 W lo hi g k => bnd h1 h2 fun d1 d2 d3 d6 => ks_mark N ps 1 W lo hi g k d1 (by omega) (by omega))
    (XR n xss) (far_XR n xss) shape_XR (fun h1 h2 W g => bnd h1 h2 fun d1 d2 d3 d6 => kr_to n xss _ W (hu.old g) d2 d3) (fun h1 h2 W lo hi g lo' hi' g' k k' => bnd h1 h2 fun d1 d2 d3 d6 => kr_eq n xss W lo hi g lo' hi' g' k k' d2 d3)
    (1 + ps.length + offL xss xss.length) (by omega) (fun h1 h2 W lo hi g k => bnd h1 h2 fun d1 d2 d3 d6 => (kr_mark n xss _ W lo hi g k d2 d3 (by omega) (by omega)).mono (fun e w' h => ⟨h.1, h.2.1⟩))
    (YW bs yss) (far_YW _ _) shape_YW (YW bs yss) (far_YW _ _) shape_YW (YWm 1 yss) (far_YWm _ _) shape_YWm
    (fun h1 h2 W lo0 hi0 g0 lo1 hi1 g1 k0 k1 q => bnd h1 h2 fun d1 d2 d3 d6 => ?_) (fun h1 h2 W lo0 hi0 g0 lo1 hi1 g1 k0 k1 q => bnd h1 h2 fun d1 d2 d3 d6 => ?_)
    (fun h1 h2 W lo hi p lo' hi' p' k k' => yw_eq bs yss hb W lo hi p lo' hi' p' k k' (by omega) z2')
    (1 + offW yss yss.length) (by omega) (fun h1 h2 W lo hi p k => yw_mark bs yss 1 W lo hi p k (by omega) z2' (by omega) (by omega))
    (fun h1 h2 W lo hi p k => yw_held yss 1 W lo hi p k (by omega) z2' (by omega) (by omega))
  · obtain ⟨a, c, rfl, o, f⟩ := k0
    obtain ⟨a', c', rfl, o'⟩ := k1
    have cg := fun W' (g : Old W W') => spec_goodRows N ps n xss _ _ W' (o.row.old g) f (o'.rowS.old g) d1 hx d2 d3
    obtain ⟨hg, rfl, rfl, rfl⟩ | ⟨hg, rfl, Nn, hNn, hN, hps, hG, eb, ey⟩ := hcase
    · rw [hg] at cg
      exact spec_WholesOf_no N ps n xss _ _ _ W o.row cg
    · rw [hg] at cg
      refine spec_WholesOf_yes N ps n xss (mkL (backF N n) ps Rf xss) bs yss Nn _ _ _ W o.row hN (by rw [ey, whX_len]) (fun k hk W' u' hr => ?_) cg (fun W' g => (spec_l5Back_any N ps n xss Rf hR _ _ W' (o.row.old g) (o'.rowS.old g) hg).mono fun e w' h => ?_) (fun W' u' g hr => ?_)
      · rw [eb, ey, whB_get _ _ _ k hk, whX_get _ _ _ k hk] at *
        exact out_any _ (dig (ctN ps (mkL (backF N n) ps Rf xss) k)) u' W' hr (by have := ctN_cnt hG k hk; omega)
      · obtain ⟨v', rfl, g', o2⟩ := h
        obtain ⟨x, z, rfl⟩ := o2.slice
        exact ⟨_, _, _, rfl, g', o2.rowS⟩
      · rw [hNn] at hr hG eb ey ⊢
        rw [eb, ey]
        refine (spec_l5Wholes Nn ps _ _ u' W' (o.row.old g) hr hN hps hG).mono fun e w' h => ?_
        obtain ⟨v', rfl, g', o2⟩ := h
        obtain ⟨x, z, e⟩ := o2.slice
        rw [whX_len] at e
        subst e
        exact ⟨_, _, rfl, g', o2⟩
  · obtain ⟨a, c, rfl, o, f⟩ := k0
    obtain ⟨a', c', rfl, o'⟩ := k1
    obtain ⟨hg, rfl, rfl, rfl⟩ | ⟨hg, rfl, Nn, hNn, hN, hps, hG, eb, ey⟩ := hcase
    · exact impl_WholesOf_no N ps n xss _ _ _ W o.row (fun W' g => (impl_BackRows N ps n xss Rf hR _ _ W' _ _ ((hP.old q).old g) ((hT.old q).old g) (o.row.old g) f ((far_OwS xss).old o' g o'.1) d1 d2 d3).mono fun e w' h => h.2 hg)
    · rw [hNn] at hG eb ey ⊢
      rw [eb, ey]
      refine impl_WholesOf_yes Nn ps n xss _ _ _ _ W o.row f hN hps hG (fun W' g => ?_)
      rw [← hNn]
      exact (impl_BackRows N ps n xss Rf hR _ _ W' _ _ ((hP.old q).old g) ((hT.old q).old g) (o.row.old g) f ((far_OwS xss).old o' g o'.1) d1 d2 d3).mono fun e w' h => h.1 hg
end Go.Proofs.YtkggfljdbdfonaaGreatDoor
