/- Proved: contracts of the program's composedSize and ComposeWhole. -/
import Derived.Test.YtcbbljadjibfeaaDoorSum
import Derived.Test.YtcbbljadjibfeaaDoorDzc
import Derived.Test.YtcbbljadjibfeaaDoorRsb
namespace Go.Proofs.YtcbbljadjibfeaaDoor
open Go.ChangeShapes Go.WideShapes Go.ChangeAt Go.RowKit
open M2
set_option linter.unusedVariables false
set_option linter.unusedSimpArgs false
/-- the number that has the residues -/
def coN (rs ps : List Nat) : Nat := sumN rs ps ps.length % prodN ps
/-- residues of a basis -/
structure Res (rs ps : List Nat) : Prop where
  bas : Bas ps
  len : rs.length = ps.length
  lt : ∀ i, i < ps.length → rs.getD i 0 < ps.getD i 0
theorem coN_cnt {rs ps : List Nat} (h : Res rs ps) : cnt (coN rs ps) ≤ 7 := Nat.le_trans (cnt_mono (Nat.mod_le _ _)) (sumN_cnt h.bas _ (Nat.le_refl _))
theorem rsB_yes {rs xs : List Int} {ps : List Nat} (hx : xs = toZ ps) (hb : Bas ps) (h : rsB rs xs = true) : ∃ qs : List Nat, rs = toZ qs ∧ Res qs ps := by
  subst hx
  simp only [rsB, Bool.and_eq_true, decide_eq_true_eq] at h
  obtain ⟨h1, h2⟩ := h
  have h3 : ∀ i, i < rs.length → 0 ≤ rs.getD i 0 ∧ rs.getD i 0 < ((ps.getD i 0 : Nat) : Int) := fun i hi => by
    have := of_decide_eq_true h2 i (by omega) (Nat.zero_le _)
    simp only [resB, Bool.and_eq_true, decide_eq_true_eq] at this
    rw [toZ_get] at this
    exact this
  have e : rs = toZ (rs.map Int.toNat) := by
    rw [toZ, List.map_map]
    refine (List.map_id rs).symm.trans (List.map_congr_left fun x hx => ?_)
    obtain ⟨j, hj, e⟩ := List.getElem_of_mem hx
    have h4 := (h3 j hj).1
    have e2 : rs.getD j 0 = x := by simp [List.getD, hj, e]
    rw [e2] at h4
    simp
    omega
  refine ⟨rs.map Int.toNat, e, hb, by rw [List.length_map, h1, toZ_len], fun i hi => ?_⟩
  have hi2 : i < rs.length := by rw [h1, toZ_len]; exact hi
  have h5 := h3 i hi2
  have e3 : (rs.map Int.toNat).getD i 0 = (rs.getD i 0).toNat := by simp [List.getD, hi2]
  rw [e3]
  omega
theorem wholeF_any (n : Nat) (w : World) (hn : cnt n ≤ 80) :
    Calls Tryd.prog 60 #[.bool false, .agg (szV n)] w fun e w' => ∃ v, e = .returned (.agg #[.bool false, v]) ∧ Old w w' ∧ Own w' w.heap.size v (toI (dig n)) := by
  by_cases h0 : n = 0
  · subst h0
    refine (whole_none false w).mono ?_
    rintro e w1 ⟨rfl, g1⟩
    refine ⟨_, rfl, g1, ?_⟩
    rw [dig_zero]
    exact nil_own _ _
  · exact whole_some false n w h0 hn
set_option maxRecDepth 100000 in
set_option maxHeartbeats 4000000 in
theorem composed_any (rs ps : List Nat) (v u : Value) (w : World) (hv : Row w v (toZ rs)) (hu : Row w u (toZ ps)) (hf : Fit u) (h : Res rs ps) :
    Calls Tryd.prog 101 #[v, u] w fun e w' => e = .returned (.agg (szV (coN rs ps))) ∧ Old w w' := by
  have hb := h.bas
  have c1 := fun W h1 h2 => sum_any rs ps v u W h1 h2 hf hb h.len h.lt
  have c2 := fun W h2 => productSize_sz ps u W h2 hb.len6 hb.hi
  have hpos : 0 < prodN ps := Nat.pos_of_ne_zero hb.pos
  have c3 := fun W => divide_sz (sumN rs ps ps.length) (prodN ps) W (Nat.le_trans (sumN_cnt hb _ (Nat.le_refl _)) (by omega)) (Nat.le_trans hb.cnt (by omega)) hpos
  have HE : Hid (sumN rs ps ps.length % prodN ps = coN rs ps) := rfl
  rw [HE.out] at c3
  have HLQ : Hid ((pad (sumN rs ps ps.length / prodN ps)).length = 80) := pad_len' (Nat.le_trans (cnt_mono (Nat.div_le_self _ _)) (sumN_cnt hb _ (Nat.le_refl _))) (by omega)
  have HLR : Hid ((pad (coN rs ps)).length = 80) := pad_len' (coN_cnt h) (by omega)
  have HV : Hid (Row w v (toZ rs)) := hv
  have HU : Hid (Row w u (toZ ps)) := hu
  obtain ⟨va, vc, rfl⟩ : ∃ a c, v = .slice a rs.length c := by have := hv.slice; rwa [toZ_len] at this
  obtain ⟨ua, uc, rfl⟩ : ∃ a c, u = .slice a ps.length c := by have := hu.slice; rwa [toZ_len] at this
  have HZ : Hid (Sz (w.alloc (.cells Tryd.zeroCells82 82)) w.heap.size (ext []) 0) := Sz.zero _ _ rfl
  unfold szV at *
  clear hv hu hf h hb hpos HE
  generalize coN rs ps = r at *
  generalize sumN rs ps ps.length / prodN ps = q at *
  generalize sumN rs ps ps.length = S at *
  generalize prodN ps = P at *
  go_enter Tryd.func101, Tryd.ntmps101
  go_wp2_with fail
  refine (c1 _ (HV.out.old ((Old.refl w).alloc _)) (HU.out.old ((Old.refl w).alloc _))).mono ?_
  rintro e w1 ⟨rfl, g1⟩
  have HG1 : Hid (Old w w1) := Old.trans ((Old.refl w).alloc _) g1
  have HZ1 : Hid (Sz w1 w.heap.size (ext []) 0) := HZ.out.old g1
  clear g1
  go_wp2_with fail
  refine (c2 _ (HU.out.old HG1.out)).mono ?_
  rintro e w2 ⟨rfl, g2⟩
  have HG2 : Hid (Old w w2) := Old.trans HG1.out g2
  have HZ2 : Hid (Sz w2 w.heap.size (ext []) 0) := HZ1.out.old g2
  clear g2
  go_wp2_with fail
  refine (c3 _).mono ?_
  rintro e w3 ⟨rfl, g3⟩
  have HG3 : Hid (Old w ((w3.alloc (.cells Tryd.zeroCells82 82)).alloc (.cells Tryd.zeroCells82 82))) := ((Old.trans HG2.out g3).alloc _).alloc _
  have HZ3 : Hid (Sz ((w3.alloc (.cells Tryd.zeroCells82 82)).alloc (.cells Tryd.zeroCells82 82)) w.heap.size (ext []) 0) := ((HZ2.out.old g3).alloc _).alloc _
  have HA3 : Hid (Sz ((w3.alloc (.cells Tryd.zeroCells82 82)).alloc (.cells Tryd.zeroCells82 82)) w3.heap.size (ext []) 0) := (Sz.zero _ _ rfl).alloc _
  have HB3 : Hid (Sz ((w3.alloc (.cells Tryd.zeroCells82 82)).alloc (.cells Tryd.zeroCells82 82)) (w3.heap.size + 1) (ext []) 0) := Sz.zero _ _ (by simp)
  have hs3 : w.heap.size < w3.heap.size := (HZ2.out.old g3).lt
  have HB4 : Hid (Sz (((w3.alloc (.cells Tryd.zeroCells82 82)).alloc (.cells Tryd.zeroCells82 82)).setRow w3.heap.size (szA (pad q) (cnt q))) (w3.heap.size + 1) (ext []) 0) := HB3.out.otherRow (by omega) _
  have HB5 : Hid (Sz ((((w3.alloc (.cells Tryd.zeroCells82 82)).alloc (.cells Tryd.zeroCells82 82)).setRow w3.heap.size (szA (pad q) (cnt q))).setRow (w3.heap.size + 1) (szA (pad r) (cnt r))) (w3.heap.size + 1) (pad r) (cnt r)) := HB4.out.row (pad r) (cnt r) HLR.out
  have HZ5 : Hid (Sz ((((w3.alloc (.cells Tryd.zeroCells82 82)).alloc (.cells Tryd.zeroCells82 82)).setRow w3.heap.size (szA (pad q) (cnt q))).setRow (w3.heap.size + 1) (szA (pad r) (cnt r))) w.heap.size (ext []) 0) := (HZ3.out.otherRow (by omega) _).otherRow (by omega) _
  clear g3
  go_wp2_with (first | ((with_reducible refine store_sz HA3.out (pad q) (cnt q) HLQ.out ?_ ?_ ?_); exact rfl; exact rfl; simp only [Act.put]) | ((with_reducible refine store_sz HB4.out (pad r) (cnt r) HLR.out ?_ ?_ ?_); exact rfl; exact rfl; simp only [Act.put]) | ((with_reducible refine load_sz HB5.out ?_ ?_); exact rfl; simp only [Act.put, List.setIfInBounds_toArray, List.set_cons_succ, List.set_cons_zero]) | ((with_reducible refine store_sz HZ5.out (pad r) (cnt r) HLR.out ?_ ?_ ?_); exact rfl; exact rfl; simp only [Act.put]) | ((with_reducible refine bodyPost_ret (ret_sz Tryd.results101 _ _ ?_ (HZ5.out.row (pad r) (cnt r) HLR.out)) ?_ ?_); exact rfl; exact rfl; exact ⟨rfl, ((HG3.out.row (by omega) _).row (by omega) _).row (Nat.le_refl _) _⟩))
end Go.Proofs.YtcbbljadjibfeaaDoor
