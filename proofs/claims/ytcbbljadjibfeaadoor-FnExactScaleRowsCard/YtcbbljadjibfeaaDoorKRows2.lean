/- Proved: rows of rows as a law carries them: comparisons, and rows with their mark. -/
import Derived.Test.YtcbbljadjibfeaaDoorKRows
namespace Go.Proofs.YtcbbljadjibfeaaDoor
open Go.ChangeShapes Go.WideShapes Go.ChangeAt Go.RowKit
set_option linter.unusedVariables false
set_option linter.unusedSimpArgs false
theorem OwS.rowS {xss : List (List Int)} {W : World} {lo hi : Nat} {v : Value} (h : OwS xss W lo hi v) : RowS W v xss := by
  obtain ⟨hh, h | ⟨p, cap, vs, rfl, hcap, hlo, hhi, ho, hvl, hj, hd⟩⟩ := h
  · obtain ⟨rfl, rfl⟩ := h
    exact Or.inl ⟨_, _, rfl, rfl⟩
  · rcases Nat.eq_zero_or_pos xss.length with h0 | h0
    · obtain rfl := List.length_eq_zero_iff.1 h0
      exact Or.inl ⟨_, _, rfl, rfl⟩
    · refine Or.inr ⟨p, 0, cap, fun j => vs.getD j (.slice none 0 0), rfl, by omega, h0, fun j hjl => ?_⟩
      obtain ⟨a, c, e, hc, o, hb⟩ := hj j hjl
      have e2 : vs.getD j (.slice none 0 0) = .slice a (xss.getD j []).length c := by simp [List.getD, e]
      show W.cell? ⟨p, 0 + j, none⟩ = some (vs.getD j (.slice none 0 0)) ∧ Row W (vs.getD j (.slice none 0 0)) _
      rw [e2]
      refine ⟨?_, o.row⟩
      rw [Nat.zero_add, World.ownsRow.cellAt ho j (by omega)]
      exact e
theorem OwS.fit {xss : List (List Int)} {W : World} {lo hi : Nat} {v : Value} (h : OwS xss W lo hi v) (j : Nat) (hj : j < xss.length) : ∃ p cap a c, v = .slice (some ⟨p, 0, none⟩) xss.length cap ∧ W.cell? ⟨p, j, none⟩ = some (.slice a (xss.getD j []).length c) ∧ (xss.getD j []).length ≤ c ∧ Row W (.slice a (xss.getD j []).length c) (xss.getD j []) := by
  obtain ⟨hh, h | ⟨p, cap, vs, rfl, hcap, hlo, hhi, ho, hvl, hjj, hd⟩⟩ := h
  · obtain ⟨rfl, rfl⟩ := h
    simp at hj
  · obtain ⟨a, c, e, hc, o, hb⟩ := hjj j hj
    refine ⟨p, cap, a, c, rfl, ?_, hc, o.row⟩
    rw [World.ownsRow.cellAt ho j (by omega)]
    exact e
theorem far_OwS (xss : List (List Int)) : Far (OwS xss) := fun W W' lo hi v h hf hs => by
  obtain ⟨hh, h | ⟨p, cap, vs, e, hcap, hlo, hhi, ho, hvl, hj, hd⟩⟩ := h
  · exact ⟨by omega, Or.inl h⟩
  · refine ⟨by omega, Or.inr ⟨p, cap, vs, e, hcap, hlo, hhi, ⟨ho.1, ?_⟩, hvl, fun j hjl => ?_, hd⟩⟩
    · rcases ho.2 with hn | ⟨p', cap', cur, e', hb', hgg, rest⟩
      · exact .inl hn
      · refine .inr ⟨p', cap', cur, e', hb', ?_, rest⟩
        have : p' = p := by
          simp only [Value.slice.injEq, Option.some.injEq, Addr.mk.injEq] at e'
          exact e'.1.1.symm
        subst this
        rw [hf p' hlo hhi]
        exact hgg
    · obtain ⟨a, c, e1, hc, o, hb⟩ := hj j hjl
      exact ⟨a, c, e1, hc, far_OwI _ W W' lo hi _ o hf hs, hb⟩
set_option maxRecDepth 100000 in
set_option maxHeartbeats 2000000 in
theorem eqIntSS_yes (xss : List (List Int)) (v u : Value) (w : World) (hv : RowS w v xss) (hu : RowS w u xss) (hl : xss.length ≤ 1048576) (hr : ∀ r ∈ xss, r.length ≤ 1048576) :
    Calls Tryd.prog 70 #[v, u] w fun e w' => e = .returned (.bool true) ∧ Old w w' := by
  obtain ⟨a0, cap0, ev⟩ := hv.slice
  obtain ⟨a1, cap1, eu⟩ := hu.slice
  subst ev eu
  have HR : Hid (∀ r ∈ xss, r.length ≤ 1048576) := hr
  have HV : Hid (RowS w (.slice a0 xss.length cap0) xss) := hv
  have HU : Hid (RowS w (.slice a1 xss.length cap1) xss) := hu
  have dn : ((xss.length : Int) != (xss.length : Int)) = false := by simp
  clear hv hu hr
  go_enter Tryd.func70, Tryd.ntmps70
  go_wp2_with fail
  go_loopw [5] (fun i W => ∃ k : Nat, k ≤ xss.length ∧ i = .int .i64 k ∧ Hid (Old w W)) (fun i _ => xss.length - (intOf i).toNat)
  case atStart => exact ⟨0, by omega, rfl, Old.refl _⟩
  case round =>
    obtain ⟨k, hk, rfl, HG⟩ := hrel
    by_cases hlt : k < xss.length
    · have d1 : decide ((k : Int) < (xss.length : Int)) = true := by simp; omega
      rcases HV.out with ⟨a, cap, e, e2⟩ | ⟨b, o, cap, us, e, hb2, h3, hc⟩
      · subst e2
        simp at hlt
      rcases HU.out with ⟨a', cap', e', e2'⟩ | ⟨b', o', cap', us', e', hb2', h3', hc'⟩
      · subst e2'
        simp at hlt
      simp only [Value.slice.injEq, true_and] at e e'
      obtain ⟨rfl, rfl⟩ := e
      obtain ⟨rfl, rfl⟩ := e'
      obtain ⟨c0, r0⟩ := hc k hlt
      obtain ⟨c0', r0'⟩ := hc' k hlt
      have hm : xss.getD k [] ∈ xss := by simp [List.getD, hlt]
      have hrl := HR.out _ hm
      obtain ⟨x1, y1, e1⟩ := r0.slice
      obtain ⟨x2, y2, e3⟩ := r0'.slice
      rw [e1] at c0 r0
      rw [e3] at c0' r0'
      have q1 : wr.cell? ⟨b, o + k, none⟩ = some (.slice x1 (xss.getD k []).length y1) := (HG.out.cell (p := ⟨b, o + k, none⟩) hb2).trans c0
      have q2 : wr.cell? ⟨b', o' + k, none⟩ = some (.slice x2 (xss.getD k []).length y2) := (HG.out.cell (p := ⟨b', o' + k, none⟩) hb2').trans c0'
      have R1 : Hid (Row wr (.slice x1 (xss.getD k []).length y1) (xss.getD k [])) := r0.old HG.out
      have R2 : Hid (Row wr (.slice x2 (xss.getD k []).length y2) (xss.getD k [])) := r0'.old HG.out
      have hbr : b < wr.heap.size := Nat.lt_of_lt_of_le hb2 HG.out.size
      have hbr' : b' < wr.heap.size := Nat.lt_of_lt_of_le hb2' HG.out.size
      generalize xss.getD k [] = xs at *
      have HAS : Hid (∀ W' : World, Old wr W' → (W'.cell? ⟨b, o + k, none⟩ = some (.slice x1 xs.length y1) ∧ W'.cell? ⟨b', o' + k, none⟩ = some (.slice x2 xs.length y2))) := fun W' g => ⟨(g.cell (p := ⟨b, o + k, none⟩) hbr).trans q1, (g.cell (p := ⟨b', o' + k, none⟩) hbr').trans q2⟩
      clear hc hc' c0 c0' r0 r0' e1 e3 hm
      go_wp2_with fail
      go_region_held3 (fun W' => W'.cell? ⟨b, o + k, none⟩ = some (.slice x1 xs.length y1) ∧ W'.cell? ⟨b', o' + k, none⟩ = some (.slice x2 xs.length y2)) (first | with_reducible exact HAS.out _ GE.out | with_reducible exact HAS.out _ (Below.drew (Old.refl wr)) | with_reducible exact HAS.out _ (Old.refl wr)) (first
        | (go_at_call 15; refine (eqInts_yes xs _ _ _ (R1.out.old (Below.drew (Old.refl wr))) (R2.out.old (Below.drew (Old.refl wr))) (by omega)).mono ?_; rintro e w2 ⟨rfl, ge⟩; have GE : Hid (Old wr w2) := Old.trans (Below.drew (Old.refl wr)) ge; clear ge)
        | fail)
      have HG2 : Hid (Old w w2) := Old.trans HG.out GE.out
      go_wp2_with fail
      exact ⟨⟨k + 1, by omega, by go_num, HG2⟩, by simp [intOf]; omega⟩
    · have d1 : decide ((k : Int) < (xss.length : Int)) = false := by simp; omega
      go_wp2_with fail
      go_ret
      exact ⟨rfl, HG.out⟩
theorem OwS.slice {xss : List (List Int)} {W : World} {lo hi : Nat} {v : Value} (h : OwS xss W lo hi v) : ∃ a c, v = .slice a xss.length c := h.rowS.slice
theorem OwS.put {xss : List (List Int)} {W : World} {lo hi k j : Nat} {v x : Value} (h : OwS xss W lo hi v) (hk : k < lo ∨ hi ≤ k) : OwS xss (W.setCell ⟨k, j, none⟩ x) lo hi v :=
  far_OwS xss W _ lo hi v h (fun b h1 h2 => heap_setCell_other _ _ _ _ (by show b ≠ k; omega)) (by simp)
theorem OwS.low {xss : List (List Int)} {W : World} {lo lo' hi : Nat} {v : Value} (h : OwS xss W lo hi v) (hl : lo' ≤ lo) : OwS xss W lo' hi v := by
  obtain ⟨hh, h | ⟨p, cap, vs, e, hcap, hlo, hhi, ho, hvl, hj, hd⟩⟩ := h
  · exact ⟨hh, Or.inl h⟩
  · refine ⟨hh, Or.inr ⟨p, cap, vs, e, hcap, by omega, hhi, ⟨ho.1, ?_⟩, hvl, fun j hjl => ?_, hd⟩⟩
    · rcases ho.2 with hn | ⟨p', cap', cur, e', hb', rest⟩
      · exact .inl hn
      · exact .inr ⟨p', cap', cur, e', by omega, rest⟩
    · obtain ⟨a, c, e1, hc, o, hb⟩ := hj j hjl
      exact ⟨a, c, e1, hc, ⟨Own.low o.1 hl, o.2.1, o.2.2⟩, hb⟩
theorem OwS.high {xss : List (List Int)} {W : World} {lo hi hi' : Nat} {v : Value} (h : OwS xss W lo hi v) (hl : hi ≤ hi') (hs : hi' ≤ W.heap.size) : OwS xss W lo hi' v := by
  obtain ⟨hh, h | ⟨p, cap, vs, e, hcap, hlo, hhi, ho, hvl, hj, hd⟩⟩ := h
  · exact ⟨hs, Or.inl h⟩
  · refine ⟨hs, Or.inr ⟨p, cap, vs, e, hcap, hlo, by omega, ho, hvl, fun j hjl => ?_, hd⟩⟩
    obtain ⟨a, c, e1, hc, o, hb⟩ := hj j hjl
    exact ⟨a, c, e1, hc, ⟨o.1, hs, fun b hb => by have := o.2.2 b hb; omega⟩, hb⟩
/-- rows' copy -/
def XR (n : Bool) (xss : List (List Int)) (W : World) (lo hi : Nat) (g : Array Value) : Prop := ∃ a c, g = #[.bool n, .slice a xss.length c] ∧ OwS xss W lo hi (.slice a xss.length c)
theorem far_XR (n : Bool) (xss : List (List Int)) : Far (XR n xss) := fun W W' lo hi v h hf hs => by
  obtain ⟨a, c, e, o⟩ := h
  exact ⟨a, c, e, far_OwS xss W W' lo hi _ o hf hs⟩
theorem shape_XR {n : Bool} {xss : List (List Int)} (W : World) (lo hi : Nat) (g : Array Value) (h : XR n xss W lo hi g) : ∃ a c, g = #[.bool n, .slice a xss.length c] := by
  obtain ⟨a, c, e, o⟩ := h
  exact ⟨a, c, e⟩
theorem kr_sz (n : Bool) (xss : List (List Int)) (v : Value) (left : Int) (w : World) (hv : RowS w v xss) (hl : xss.length ≤ 9223372036854775807) (hr : ∀ r ∈ xss, r.length ≤ 9223372036854775807) (h0 : 0 ≤ left) (h1 : left ≤ 1048576) :
    Calls Tryd.prog 29 #[.agg #[.bool n, v], .int .i64 left] w fun e w' => e = .returned (.int .i64 (leftSS left xss)) ∧ Old w w' := by
  have c := fun W (h : RowS W v xss) => szIntSS_any xss v left W h hl hr h0 h1
  have HV : Hid (RowS w v xss) := hv
  obtain ⟨a0, cap0, ev⟩ := hv.slice
  subst ev
  have hle : ∀ z : Int, leftSS left xss = z → ¬ z < 0 → 0 ≤ z := fun z _ h => by omega
  have hneg : leftSS left xss < 0 → leftSS left xss = -1 := fun h => by
    unfold leftSS at h ⊢
    split
    · rfl
    · rename_i h2
      rw [if_neg h2] at h
      have key : ∀ (l : List (List Int)) (z : Int), 0 ≤ z → leftL z l < 0 → leftL z l = -1 := fun l => by
        induction l with
        | nil => intro z hz h; unfold leftL at h; omega
        | cons r rs ih =>
          intro z hz h
          unfold leftL at h ⊢
          by_cases hq : leftN z r.length < 0
          · rw [if_pos hq]
          · rw [if_neg hq] at h ⊢
            exact ih _ (by omega) h
      exact key _ _ (by omega) h
  clear hv hr
  by_cases hz : leftSS left xss < 0
  · rw [hneg hz] at c ⊢
    clear hz hneg hle
    go_enter Tryd.func29, Tryd.ntmps29
    go_wp2_with fail
    refine (c _ (HV.out.old ((Old.refl w).alloc _))).mono ?_
    rintro e w1 ⟨rfl, g1⟩
    have HG : Hid (Old w w1) := Old.trans ((Old.refl w).alloc _) g1
    clear g1
    go_wp2_with fail
    go_ret
    exact ⟨rfl, HG.out⟩
  · have d : decide (leftSS left xss < 0) = false := decide_eq_false hz
    generalize leftSS left xss = z at *
    clear hneg hle
    go_enter Tryd.func29, Tryd.ntmps29
    go_wp2_with fail
    refine (c _ (HV.out.old ((Old.refl w).alloc _))).mono ?_
    rintro e w1 ⟨rfl, g1⟩
    have HG : Hid (Old w w1) := Old.trans ((Old.refl w).alloc _) g1
    clear g1
    go_wp2_with fail
    go_ret
    exact ⟨rfl, HG.out⟩
set_option maxHeartbeats 1000000 in
theorem kr_to (n : Bool) (xss : List (List Int)) (v : Value) (w : World) (h : RowS w v xss) (hl : xss.length ≤ 1048576) (hr : ∀ r ∈ xss, r.length ≤ 1048576) :
    Calls Tryd.prog 31 #[.agg #[.bool n, v]] w fun e w' => ∃ g, e = .returned (.agg g) ∧ Old w w' ∧ XR n xss w' w.heap.size w'.heap.size g := by
  have HR : Hid (RowS w v xss) := h
  have HRR : Hid (∀ r ∈ xss, r.length ≤ 1048576) := hr
  obtain ⟨a0, cap0, ev⟩ := h.slice
  subst ev
  clear h hr
  go_enter Tryd.func31, Tryd.ntmps31
  go_wp2_with fail
  refine (toIntSS_any xss _ _ (HR.out.old (((Old.refl w).alloc _).alloc _ |>.alloc _)) hl HRR.out).mono ?_
  rintro e w1 ⟨v1, rfl, g1, o1, a1, c1, rfl⟩
  have q20 : w1.cell? ⟨w.heap.size + 1 + 1, 0, none⟩ = some (Value.bool n) := (g1.cell (p := ⟨w.heap.size + 1 + 1, 0, none⟩) (by simp; try omega)).trans (by simp [cell_at, cell_lt, fro_at, fro_lt])
  have q21 : w1.cell? ⟨w.heap.size + 1 + 1, 1, none⟩ = some (Value.slice none 0 0) := (g1.cell (p := ⟨w.heap.size + 1 + 1, 1, none⟩) (by simp; try omega)).trans (by simp [cell_at, cell_lt, fro_at, fro_lt])
  have q10 : w1.cell? ⟨w.heap.size + 1, 0, none⟩ = some (Value.bool false) := (g1.cell (p := ⟨w.heap.size + 1, 0, none⟩) (by simp; try omega)).trans (by simp [cell_at, cell_lt, fro_at, fro_lt])
  have q11 : w1.cell? ⟨w.heap.size + 1, 1, none⟩ = some (Value.slice none 0 0) := (g1.cell (p := ⟨w.heap.size + 1, 1, none⟩) (by simp; try omega)).trans (by simp [cell_at, cell_lt, fro_at, fro_lt])
  have f21 : w1.frozen? ⟨w.heap.size + 1 + 1, 1, none⟩ = false := (g1.frozen (p := ⟨w.heap.size + 1 + 1, 1, none⟩) (by simp; try omega)).trans (by simp [cell_at, cell_lt, fro_at, fro_lt])
  have f10 : w1.frozen? ⟨w.heap.size + 1, 0, none⟩ = false := (g1.frozen (p := ⟨w.heap.size + 1, 0, none⟩) (by simp; try omega)).trans (by simp [cell_at, cell_lt, fro_at, fro_lt])
  have f11 : w1.frozen? ⟨w.heap.size + 1, 1, none⟩ = false := (g1.frozen (p := ⟨w.heap.size + 1, 1, none⟩) (by simp; try omega)).trans (by simp [cell_at, cell_lt, fro_at, fro_lt])
  have HG : Hid (Old w w1) := Old.trans (((Old.refl w).alloc _).alloc _ |>.alloc _) g1
  have HO : Hid (OwS xss w1 (w.heap.size + 1 + 1 + 1) w1.heap.size (.slice a1 xss.length c1)) := by
    have := o1
    simp at this
    exact this
  clear g1 o1 HR
  go_wp2_with fail
  refine bodyPost_ret (v := .agg #[.bool n, .slice a1 xss.length c1]) (by simp [results, Tryd.results31, go_sem, q10, q11]) rfl ⟨_, rfl, ?_, a1, c1, rfl, ?_⟩
  · exact ((HG.out.own (p := ⟨w.heap.size + 1 + 1, 1, none⟩) (by simp; omega) _).own (p := ⟨w.heap.size + 1, 0, none⟩) (by simp) _).own (p := ⟨w.heap.size + 1, 1, none⟩) (by simp) _
  · have h1 : OwS xss w1 w.heap.size w1.heap.size (.slice a1 xss.length c1) := HO.out.low (by omega)
    have h2 := ((HO.out.put (k := w.heap.size + 1 + 1) (j := 1) (x := .slice a1 xss.length c1) (by omega)).put (k := w.heap.size + 1) (j := 0) (x := .bool n) (by omega)).put (k := w.heap.size + 1) (j := 1) (x := .slice a1 xss.length c1) (by omega)
    have h3 := h2.low (lo' := w.heap.size) (by omega)
    exact h3.high (by simp) (Nat.le_refl _)
set_option maxHeartbeats 1000000 in
theorem kr_eq (n : Bool) (xss : List (List Int)) (w : World) (lo hi : Nat) (g : Array Value) (lo' hi' : Nat) (g' : Array Value) (h : XR n xss w lo hi g) (h' : XR n xss w lo' hi' g') (hl : xss.length ≤ 1048576) (hr : ∀ r ∈ xss, r.length ≤ 1048576) :
    Calls Tryd.prog 33 #[.agg g, .agg g'] w fun e w' => e = .returned (.bool true) ∧ Old w w' := by
  obtain ⟨a0, cap0, rfl, o⟩ := h
  obtain ⟨a1, cap1, rfl, o'⟩ := h'
  have HR : Hid (RowS w (.slice a0 xss.length cap0) xss) := o.rowS
  have HK : Hid (RowS w (.slice a1 xss.length cap1) xss) := o'.rowS
  have HRR : Hid (∀ r ∈ xss, r.length ≤ 1048576) := hr
  clear o o' hr
  have dn : (n != n) = false := by simp
  go_enter Tryd.func33, Tryd.ntmps33
  go_wp2_with fail
  refine (eqIntSS_yes xss _ _ _ (HR.out.old (((Old.refl w).alloc _).alloc _)) (HK.out.old (((Old.refl w).alloc _).alloc _)) hl HRR.out).mono ?_
  rintro e w1 ⟨rfl, g1⟩
  have HG : Hid (Old w w1) := Old.trans (((Old.refl w).alloc _).alloc _) g1
  clear g1
  go_wp2_with fail
  go_ret
  exact ⟨rfl, HG.out⟩
end Go.Proofs.YtcbbljadjibfeaaDoor
