/- Proved: several texts in one: what each proves is said ahead of it. -/
import Derived.Test.YtglbegbhekcddaaDoorRw14
import Derived.Deep.RegionHeld3
import Derived.Test.YtglbegbhekcddaaDoorRw10
import Derived.Test.YtglbegbhekcddaaDoorRw12
import Derived.Test.YtglbegbhekcddaaDoorRw01
/- Proved: rows of rows as a law carries them: sizes, copies, comparisons. -/
namespace Go.Proofs.YtglbegbhekcddaaDoor
open Go.ChangeShapes Go.WideShapes Go.ChangeAt Go.RowKit
set_option linter.unusedVariables false
set_option linter.unusedSimpArgs false
def RowS (w : World) (v : Value) (xss : List (List Int)) : Prop :=
  (∃ a cap, v = .slice a 0 cap ∧ xss = []) ∨ ∃ b o cap, ∃ us : Nat → Value, v = .slice (some ⟨b, o, none⟩) xss.length cap ∧ b < w.heap.size ∧ 0 < xss.length ∧ ∀ j, j < xss.length → w.cell? ⟨b, o + j, none⟩ = some (us j) ∧ Row w (us j) (xss.getD j [])
theorem RowS.old {w w' : World} {v : Value} {xss : List (List Int)} (h : RowS w v xss) (g : Old w w') : RowS w' v xss := by
  rcases h with h1 | ⟨b, o, cap, us, e, hb, h0, hc⟩
  · exact Or.inl h1
  · exact Or.inr ⟨b, o, cap, us, e, Nat.lt_of_lt_of_le hb g.size, h0, fun j hj => ⟨(g.cell (p := ⟨b, o + j, none⟩) hb).trans (hc j hj).1, (hc j hj).2.old g⟩⟩
theorem RowS.slice {w : World} {v : Value} {xss : List (List Int)} (h : RowS w v xss) : ∃ a cap, v = .slice a xss.length cap := by
  rcases h with ⟨a, cap, e, e2⟩ | ⟨b, o, cap, us, e, _⟩
  · exact ⟨a, cap, by rw [e, e2]; rfl⟩
  · exact ⟨_, cap, e⟩
theorem Tryd.infoInts : (Tryd.prog.info? 23).map (fun i => (i.zero, i.size, i.bytes)) = some (some (.slice none 0 0), 1, 24) := by kernel_rfl
def OwS (xss : List (List Int)) (W : World) (lo hi : Nat) (v : Value) : Prop :=
  hi ≤ W.heap.size ∧ ((v = .slice none 0 0 ∧ xss = []) ∨ ∃ (p cap : Nat) (vs : List Value), v = .slice (some ⟨p, 0, none⟩) xss.length cap ∧ xss.length ≤ cap ∧ lo ≤ p ∧ p < hi ∧ W.ownsRow lo 23 1 (.slice (some ⟨p, 0, none⟩) xss.length cap) xss.length vs ∧ vs.length = xss.length
    ∧ (∀ j, j < xss.length → ∃ a c, vs[j]? = some (.slice a (xss.getD j []).length c) ∧ (xss.getD j []).length ≤ c ∧ OwI (xss.getD j []) W lo hi (.slice a (xss.getD j []).length c) ∧ (∀ b, (Value.slice a (xss.getD j []).length c).ownBlock = some b → b ≠ p))
    ∧ (∀ (i j : Nat) (x y : Value) (b : Nat), i < j → vs[i]? = some x → vs[j]? = some y → x.ownBlock = some b → y.ownBlock = some b → False))
end Go.Proofs.YtglbegbhekcddaaDoor
/- Proved: rows of rows as a law carries them: comparisons, and rows with their mark. -/
namespace Go.Proofs.YtglbegbhekcddaaDoor
open Go.ChangeShapes Go.WideShapes Go.ChangeAt Go.RowKit
set_option linter.unusedVariables false
set_option linter.unusedSimpArgs false
theorem OwS.rowS {xss : List (List Int)} {W : World} {lo hi : Nat} {v : Value} (h : OwS xss W lo hi v) : RowS W v xss := by
  obtain ⟨hh, h | ⟨p, cap, vs, rfl, hcap, hlo, hhi, ho, hvl, hj, hd⟩⟩ := h
  · obtain ⟨rfl, rfl⟩ := h
    exact Or.inl ⟨_, _, rfl, rfl⟩
  · rcases Nat.eq_zero_or_pos xss.length with h0 | h0
    · obtain rfl := List.length_eq_zero_iff.1 h0
      exact Or.inl ⟨_, _, rfl, rfl⟩
    · refine Or.inr ⟨p, 0, cap, fun j => vs.getD j (.slice none 0 0), rfl, by omega, h0, fun j hjl => ?_⟩
      obtain ⟨a, c, e, hc, o, hb⟩ := hj j hjl
      have e2 : vs.getD j (.slice none 0 0) = .slice a (xss.getD j []).length c := by simp [List.getD, e]
      show W.cell? ⟨p, 0 + j, none⟩ = some (vs.getD j (.slice none 0 0)) ∧ Row W (vs.getD j (.slice none 0 0)) _
      rw [e2]
      refine ⟨?_, o.row⟩
      rw [Nat.zero_add, World.ownsRow.cellAt ho j (by omega)]
      exact e
theorem far_OwS (xss : List (List Int)) : Far (OwS xss) := fun W W' lo hi v h hf hs => by
  obtain ⟨hh, h | ⟨p, cap, vs, e, hcap, hlo, hhi, ho, hvl, hj, hd⟩⟩ := h
  · exact ⟨by omega, Or.inl h⟩
  · refine ⟨by omega, Or.inr ⟨p, cap, vs, e, hcap, hlo, hhi, ⟨ho.1, ?_⟩, hvl, fun j hjl => ?_, hd⟩⟩
    · rcases ho.2 with hn | ⟨p', cap', cur, e', hb', hgg, rest⟩
      · exact .inl hn
      · refine .inr ⟨p', cap', cur, e', hb', ?_, rest⟩
        have : p' = p := by
          simp only [Value.slice.injEq, Option.some.injEq, Addr.mk.injEq] at e'
          exact e'.1.1.symm
        subst this
        rw [hf p' hlo hhi]
        exact hgg
    · obtain ⟨a, c, e1, hc, o, hb⟩ := hj j hjl
      exact ⟨a, c, e1, hc, far_OwI _ W W' lo hi _ o hf hs, hb⟩
theorem OwS.slice {xss : List (List Int)} {W : World} {lo hi : Nat} {v : Value} (h : OwS xss W lo hi v) : ∃ a c, v = .slice a xss.length c := h.rowS.slice
theorem OwS.put {xss : List (List Int)} {W : World} {lo hi k j : Nat} {v x : Value} (h : OwS xss W lo hi v) (hk : k < lo ∨ hi ≤ k) : OwS xss (W.setCell ⟨k, j, none⟩ x) lo hi v :=
  far_OwS xss W _ lo hi v h (fun b h1 h2 => heap_setCell_other _ _ _ _ (by show b ≠ k; omega)) (by simp)
theorem OwS.low {xss : List (List Int)} {W : World} {lo lo' hi : Nat} {v : Value} (h : OwS xss W lo hi v) (hl : lo' ≤ lo) : OwS xss W lo' hi v := by
  obtain ⟨hh, h | ⟨p, cap, vs, e, hcap, hlo, hhi, ho, hvl, hj, hd⟩⟩ := h
  · exact ⟨hh, Or.inl h⟩
  · refine ⟨hh, Or.inr ⟨p, cap, vs, e, hcap, by omega, hhi, ⟨ho.1, ?_⟩, hvl, fun j hjl => ?_, hd⟩⟩
    · rcases ho.2 with hn | ⟨p', cap', cur, e', hb', rest⟩
      · exact .inl hn
      · exact .inr ⟨p', cap', cur, e', by omega, rest⟩
    · obtain ⟨a, c, e1, hc, o, hb⟩ := hj j hjl
      exact ⟨a, c, e1, hc, ⟨Own.low o.1 hl, o.2.1, o.2.2⟩, hb⟩
theorem OwS.high {xss : List (List Int)} {W : World} {lo hi hi' : Nat} {v : Value} (h : OwS xss W lo hi v) (hl : hi ≤ hi') (hs : hi' ≤ W.heap.size) : OwS xss W lo hi' v := by
  obtain ⟨hh, h | ⟨p, cap, vs, e, hcap, hlo, hhi, ho, hvl, hj, hd⟩⟩ := h
  · exact ⟨hs, Or.inl h⟩
  · refine ⟨hs, Or.inr ⟨p, cap, vs, e, hcap, hlo, by omega, ho, hvl, fun j hjl => ?_, hd⟩⟩
    obtain ⟨a, c, e1, hc, o, hb⟩ := hj j hjl
    exact ⟨a, c, e1, hc, ⟨o.1, hs, fun b hb => by have := o.2.2 b hb; omega⟩, hb⟩
def XR (n : Bool) (xss : List (List Int)) (W : World) (lo hi : Nat) (g : Array Value) : Prop := ∃ a c, g = #[.bool n, .slice a xss.length c] ∧ OwS xss W lo hi (.slice a xss.length c)
end Go.Proofs.YtglbegbhekcddaaDoor
/- Proved: whether rows are as they should be, as the model tells it. -/
namespace Go.Proofs.YtglbegbhekcddaaDoor
open Go.ChangeShapes Go.WideShapes Go.ChangeAt Go.RowKit
open M1
set_option linter.unusedVariables false
set_option linter.unusedSimpArgs false
def rwA (N : Int) (ps : List Int) (xss : List (List Int)) (k : Nat) : Bool := decide (∀ i, i < ps.length → k ≤ i → polyB (ps.getD i 0) N (xss.getD i []) = true)
theorem rwA_end {N : Int} {ps : List Int} {xss : List (List Int)} {k : Nat} (h : ps.length ≤ k) : rwA N ps xss k = true := decide_eq_true (fun i h1 h2 => by omega)
theorem rwA_no {N : Int} {ps : List Int} {xss : List (List Int)} {k : Nat} (h : k < ps.length) (hk : polyB (ps.getD k 0) N (xss.getD k []) = false) : rwA N ps xss k = false :=
  decide_eq_false (fun f => by rw [f k h (Nat.le_refl _)] at hk; cases hk)
theorem rwA_yes {N : Int} {ps : List Int} {xss : List (List Int)} {k : Nat} (hk : polyB (ps.getD k 0) N (xss.getD k []) = true) : rwA N ps xss k = rwA N ps xss (k + 1) := by
  unfold rwA
  apply decide_eq_decide.2
  constructor
  · exact fun f i h1 h2 => f i h1 (by omega)
  · intro f i h1 h2
    rcases Nat.eq_or_lt_of_le h2 with e | e
    · subst e
      exact hk
    · exact f i h1 e
def rwB (N : Int) (ps : List Int) (xss : List (List Int)) : Bool := decide (xss.length = ps.length) && rwA N ps xss 0
def grB (N : Int) (ps : List Int) (xss : List (List Int)) : Bool := spB N ps && rwB N ps xss
set_option maxRecDepth 100000 in
set_option maxHeartbeats 2000000 in
theorem spec_l5Rows (N : Int) (ps : List Int) (xss : List (List Int)) (v u : Value) (w : World) (hv : Row w v ps) (hu : RowS w u xss) (hl : xss.length ≤ 1048576) (hr : ∀ r ∈ xss, r.length ≤ 1048576) (hs : spB N ps = true) :
    Calls Tryd.prog 32 #[.agg #[.int .i64 N, v], u] w fun e w' => e = .returned (.bool (rwB N ps xss)) ∧ Old w w' := by
  obtain ⟨hz, hbb, hring⟩ := sp_ring hs
  have hlen := (bas_at hbb).1
  have HPM : Hid (∀ k, k < ps.length → pmB (ps.getD k 0) = true) := (bas_at hbb).2
  have HR : Hid (∀ r ∈ xss, r.length ≤ 1048576) := hr
  obtain ⟨a0, cap0, ev⟩ := hv.slice
  obtain ⟨a1, cap1, eu⟩ := hu.slice
  subst ev eu
  have HV : Hid (Row w (.slice a0 ps.length cap0) ps) := hv
  have HU : Hid (RowS w (.slice a1 xss.length cap1) xss) := hu
  have hN : 2 ≤ N ∧ N ≤ 16 := by omega
  clear hv hu hr hring hbb hz hs
  by_cases hn : xss.length = ps.length
  · have HB : Hid (rwA N ps xss 0 = rwB N ps xss) := by show _ = _; unfold rwB; rw [decide_eq_true hn]; rfl
    have dn : ((xss.length : Int) != (ps.length : Int)) = false := by simp; omega
    generalize rwB N ps xss = B at *
    rcases HV.out with ⟨a, cap, e, e2⟩ | ⟨b, o, cap, e, hb, h1, hc⟩
    · subst e2
      simp at hlen
    simp only [Value.slice.injEq, true_and] at e
    obtain ⟨rfl, rfl⟩ := e
    rcases HU.out with ⟨a, cap, e, e2⟩ | ⟨b', o', cap, us, e, hb', h1', hc'⟩
    · subst e2
      simp at hn
      omega
    simp only [Value.slice.injEq, true_and] at e
    obtain ⟨rfl, rfl⟩ := e
    have HC : Hid (∀ j, j < ps.length → w.cell? ⟨b, o + j, none⟩ = some (.int .i64 (ps.getD j 0))) := hc
    have HC' : Hid (∀ j, j < xss.length → w.cell? ⟨b', o' + j, none⟩ = some (us j) ∧ Row w (us j) (xss.getD j [])) := hc'
    have HNN : Hid (xss.length = ps.length) := hn
    clear hc hc' hn
    have HN : Hid (Old w (w.alloc (.cells #[.int .i64 N, .slice (some ⟨b, o, none⟩) ps.length cap0] 25))) := (Old.refl w).alloc _
    go_enter Tryd.func32, Tryd.ntmps32
    go_wp2_with fail
    go_loopw [16] (fun i W => ∃ k : Nat, k ≤ ps.length ∧ i = .int .i64 k ∧ Hid (rwA N ps xss k = B) ∧ Hid (Old (w.alloc (.cells #[.int .i64 N, .slice (some ⟨b, o, none⟩) ps.length cap0] 25)) W)) (fun i _ => ps.length - (intOf i).toNat)
    case atStart => exact ⟨0, by omega, rfl, HB, Old.refl _⟩
    case round =>
      obtain ⟨k, hk, rfl, H1, HG⟩ := hrel
      clear HB
      have HGw : Hid (Old w wr) := Old.trans HN.out HG.out
      have hsw : w.heap.size < wr.heap.size := by have := HG.out.size; simp at this; omega
      by_cases hlt : k < ps.length
      · have d1 : decide ((k : Int) < (ps.length : Int)) = true := by simp; omega
        have hx := HNN.out
        have d2 : decide ((k : Int) < (xss.length : Int)) = true := by simp; omega
        have hkx : k < xss.length := by omega
        have c1 : wr.cell? ⟨b, o + k, none⟩ = some (.int .i64 (ps.getD k 0)) := (HGw.out.cell (p := ⟨b, o + k, none⟩) hb).trans (HC.out k hlt)
        obtain ⟨c2, r2⟩ := HC'.out k hkx
        obtain ⟨x1, y1, e1⟩ := r2.slice
        rw [e1] at c2 r2
        have hp := pm_bd (HPM.out k hlt)
        have hm : xss.getD k [] ∈ xss := by simp [List.getD, hkx]
        have hrl := HR.out _ hm
        have c3 : wr.cell? ⟨b', o' + k, none⟩ = some (.slice x1 (xss.getD k []).length y1) := (HGw.out.cell (p := ⟨b', o' + k, none⟩) hb').trans c2
        have R3 : Hid (Row wr (.slice x1 (xss.getD k []).length y1) (xss.getD k [])) := r2.old HGw.out
        have s0 : wr.cell? ⟨w.heap.size, 0, none⟩ = some (.int .i64 N) := (HG.out.cell (p := ⟨w.heap.size, 0, none⟩) (by simp)).trans (cell_at _ _ _ _ _ rfl)
        have HY : Hid (polyB (ps.getD k 0) N (xss.getD k []) = true → rwA N ps xss (k + 1) = B) := fun h => by have := H1.out; rw [rwA_yes h] at this; exact this
        have HNo : Hid (polyB (ps.getD k 0) N (xss.getD k []) = false → false = B) := fun h => by have := H1.out; rw [rwA_no hlt h] at this; exact this
        generalize xss.getD k [] = xs at *
        generalize ps.getD k 0 = p at *
        have cp := fun W (h : Row W (.slice x1 xs.length y1) xs) => spec_poly p N 0 xs _ W h (by omega) hp
        obtain ⟨q, hq⟩ : ∃ q, polyB p N xs = q := ⟨_, rfl⟩
        rw [hq] at cp HY HNo
        have hbr : b < wr.heap.size := Nat.lt_of_lt_of_le hb HGw.out.size
        have hbr' : b' < wr.heap.size := Nat.lt_of_lt_of_le hb' HGw.out.size
        have HAS : Hid (∀ W' : World, Old wr W' → (W'.cell? ⟨w.heap.size, 0, none⟩ = some (.int .i64 N) ∧ W'.cell? ⟨b', o' + k, none⟩ = some (.slice x1 xs.length y1))) := fun W' g => ⟨(g.cell (p := ⟨w.heap.size, 0, none⟩) hsw).trans s0, (g.cell (p := ⟨b', o' + k, none⟩) hbr').trans c3⟩
        clear H1 c2 r2 e1 hm hq hx
        cases q
        · have H3 : Hid (false = B) := HNo.out rfl
          clear HY HNo
          go_wp2_with fail
          go_region_held3 (fun W' => W'.cell? ⟨w.heap.size, 0, none⟩ = some (.int .i64 N) ∧ W'.cell? ⟨b', o' + k, none⟩ = some (.slice x1 xs.length y1)) (first | with_reducible exact HAS.out _ GE.out | with_reducible exact HAS.out _ (Below.drew (Old.refl wr)) | with_reducible exact HAS.out _ (Old.refl wr)) (first
            | (go_at_call 49; refine (cp _ (R3.out.old (Below.drew (Old.refl wr)))).mono ?_; rintro e w2 ⟨rfl, ge⟩; have GE : Hid (Old wr w2) := Old.trans (Below.drew (Old.refl wr)) ge; clear ge)
            | fail)
          have HG2 : Hid (Old w w2) := Old.trans HGw.out GE.out
          go_wp2_with fail
          go_ret
          exact ⟨ret_bb H3.out, HG2.out⟩
        · have H3 : Hid (rwA N ps xss (k + 1) = B) := HY.out rfl
          clear HY HNo
          go_wp2_with fail
          go_region_held3 (fun W' => W'.cell? ⟨w.heap.size, 0, none⟩ = some (.int .i64 N) ∧ W'.cell? ⟨b', o' + k, none⟩ = some (.slice x1 xs.length y1)) (first | with_reducible exact HAS.out _ GE.out | with_reducible exact HAS.out _ (Below.drew (Old.refl wr)) | with_reducible exact HAS.out _ (Old.refl wr)) (first
            | (go_at_call 49; refine (cp _ (R3.out.old (Below.drew (Old.refl wr)))).mono ?_; rintro e w2 ⟨rfl, ge⟩; have GE : Hid (Old wr w2) := Old.trans (Below.drew (Old.refl wr)) ge; clear ge)
            | fail)
          have HG2 : Hid (Old (w.alloc (.cells #[.int .i64 N, .slice (some ⟨b, o, none⟩) ps.length cap0] 25)) w2) := Old.trans HG.out GE.out
          go_wp2_with fail
          exact ⟨⟨k + 1, by omega, by go_num, H3, HG2⟩, by simp [intOf]; omega⟩
      · have d1 : decide ((k : Int) < (ps.length : Int)) = false := by simp; omega
        have H2 : Hid (true = B) := by have := H1.out; rw [rwA_end (by omega)] at this; exact this
        clear H1
        go_wp2_with fail
        go_ret
        exact ⟨ret_bb H2.out, HGw.out⟩
  · have HB : Hid (false = rwB N ps xss) := by show _ = _; unfold rwB; rw [decide_eq_false hn]; rfl
    have dn : ((xss.length : Int) != (ps.length : Int)) = true := by simp; omega
    generalize rwB N ps xss = B at *
    clear hn
    go_enter Tryd.func32, Tryd.ntmps32
    go_wp2_with fail
    go_ret
    exact ⟨ret_bb HB.out, (Old.refl w).alloc _⟩
theorem spec_goodRows (N : Int) (ps : List Int) (n : Bool) (xss : List (List Int)) (v u : Value) (w : World) (hv : Row w v ps) (hf : Fit v) (hu : RowS w u xss) (hlp : ps.length ≤ 1048576) (hx : ∀ x ∈ ps, -9223372036854775808 ≤ x ∧ x ≤ 9223372036854775807) (hl : xss.length ≤ 1048576) (hr : ∀ r ∈ xss, r.length ≤ 1048576) :
    Calls Tryd.prog 31 #[.agg #[.int .i64 N, v], .agg #[.bool n, u]] w fun e w' => e = .returned (.bool (grB N ps xss)) ∧ Old w w' := by
  have cg := fun W (h : Row W v ps) => spec_goodSpace N ps v W h hf (by omega) hx
  have cr := fun W (h : Row W v ps) (k : RowS W u xss) (hs : spB N ps = true) => spec_l5Rows N ps xss v u W h k hl hr hs
  have HV : Hid (Row w v ps) := hv
  have HU : Hid (RowS w u xss) := hu
  obtain ⟨a0, cap0, ev⟩ := hv.slice
  obtain ⟨a1, cap1, eu⟩ := hu.slice
  subst ev eu
  have HN : Hid (Old w ((w.alloc (.cells #[.int .i64 N, .slice a0 ps.length cap0] 25)).alloc (.cells #[.bool n, .slice a1 xss.length cap1] 28))) := ((Old.refl w).alloc _).alloc _
  clear hv hu hf hx hr
  cases hs : spB N ps
  · have HB : Hid (false = grB N ps xss) := by show _ = _; unfold grB; rw [hs]; rfl
    rw [hs] at cg
    generalize grB N ps xss = B at *
    clear hs cr
    go_enter Tryd.func31, Tryd.ntmps31
    go_wp2_with fail
    refine (cg _ (HV.out.old HN.out)).mono ?_
    rintro e w1 ⟨rfl, g1⟩
    have HG : Hid (Old w w1) := Old.trans HN.out g1
    clear g1
    go_wp2_with fail
    go_ret
    exact ⟨ret_bb HB.out, HG.out⟩
  · have HB : Hid (rwB N ps xss = grB N ps xss) := by show _ = _; unfold grB; rw [hs]; rfl
    rw [hs] at cg
    have cr2 := fun W (h : Row W (.slice a0 ps.length cap0) ps) (k : RowS W (.slice a1 xss.length cap1) xss) => cr W h k hs
    generalize grB N ps xss = B at *
    clear hs cr
    go_enter Tryd.func31, Tryd.ntmps31
    go_wp2_with fail
    refine (cg _ (HV.out.old HN.out)).mono ?_
    rintro e w1 ⟨rfl, g1⟩
    have HG : Hid (Old w w1) := Old.trans HN.out g1
    have s0 : w1.cell? ⟨w.heap.size, 0, none⟩ = some (.int .i64 N) := (g1.cell (p := ⟨w.heap.size, 0, none⟩) (by simp; omega)).trans (by simp [cell_at, cell_lt])
    have s1 : w1.cell? ⟨w.heap.size, 1, none⟩ = some (.slice a0 ps.length cap0) := (g1.cell (p := ⟨w.heap.size, 1, none⟩) (by simp; omega)).trans (by simp [cell_at, cell_lt])
    have s2 : w1.cell? ⟨w.heap.size + 1, 1, none⟩ = some (.slice a1 xss.length cap1) := (g1.cell (p := ⟨w.heap.size + 1, 1, none⟩) (by simp)).trans (by simp [cell_at, cell_lt])
    clear g1
    go_wp2_with fail
    refine (cr2 _ (HV.out.old HG.out) (HU.out.old HG.out)).mono ?_
    rintro e w2 ⟨rfl, g2⟩
    have HG2 : Hid (Old w w2) := Old.trans HG.out g2
    clear g2
    go_wp2_with fail
    go_ret
    exact ⟨ret_bb HB.out, HG2.out⟩
end Go.Proofs.YtglbegbhekcddaaDoor
/- Proved: rows of rows as a law carries them: marks. -/
namespace Go.Proofs.YtglbegbhekcddaaDoor
open Go.ChangeShapes Go.WideShapes Go.ChangeAt Go.RowKit
set_option linter.unusedVariables false
set_option linter.unusedSimpArgs false
def offL : List (List Int) → Nat → Nat
  | [], _ => 0
  | _ :: _, 0 => 0
  | r :: rs, j + 1 => r.length + offL rs j
def OwM (k : Int) (xss : List (List Int)) (W : World) (lo hi : Nat) (v : Value) : Prop :=
  ∃ yss : List (List Int), yss.length = xss.length ∧ (∀ j, j < xss.length → yss.getD j [] = marks (k + offL xss j) (xss.getD j []).length) ∧ OwS yss W lo hi v
end Go.Proofs.YtglbegbhekcddaaDoor
/- Proved: rows of rows that grow row by row. -/
namespace Go.Proofs.YtglbegbhekcddaaDoor
open Go.ChangeShapes Go.WideShapes Go.ChangeAt Go.RowKit
open M1
set_option linter.unusedVariables false
set_option linter.unusedSimpArgs false
theorem getD_app1 (yss : List (List Int)) (r : List Int) (j : Nat) (h : j < yss.length) : (yss ++ [r]).getD j [] = yss.getD j [] := by
  simp [List.getD, List.getElem?_append_left h]
theorem getD_app2 (yss : List (List Int)) (r : List Int) : (yss ++ [r]).getD yss.length [] = r := by
  simp [List.getD]
theorem OwS.app {yss : List (List Int)} {wr W : World} {lo : Nat} {x : Value} {r : List Int} {a : Option Addr} {c : Nat} (h : OwS yss wr lo wr.heap.size x) (hlo : lo ≤ wr.heap.size) (g : Old wr W) (o : Own W wr.heap.size (.slice a r.length c) r) (hc : r.length ≤ c) :
    ∃ vs, W.ownsRow lo 23 1 x yss.length vs ∧ (∀ v' w', w'.ownsRow lo 23 1 v' (yss.length + 1) (vs ++ [.slice a r.length c]) → W.grownBy w' x.ownBlock → (v'.ownBlock = x.ownBlock ∨ v'.ownBlock = some W.heap.size) → OwS (yss ++ [r]) w' lo w'.heap.size v') := by
  have key : ∃ vs : List Value, W.ownsRow lo 23 1 x yss.length vs ∧ vs.length = yss.length ∧ (∀ p, x.ownBlock = some p → p < wr.heap.size)
      ∧ (∀ j, j < yss.length → ∃ a c, vs[j]? = some (.slice a (yss.getD j []).length c) ∧ (yss.getD j []).length ≤ c ∧ Own wr lo (.slice a (yss.getD j []).length c) (yss.getD j []) ∧ (∀ b, (Value.slice a (yss.getD j []).length c).ownBlock = some b → x.ownBlock ≠ some b))
      ∧ (∀ (i j : Nat) (x y : Value) (b : Nat), i < j → vs[i]? = some x → vs[j]? = some y → x.ownBlock = some b → y.ownBlock = some b → False) := by
    obtain ⟨hh, ⟨e, e2⟩ | ⟨p, cap, vs, e, hcap, hl, hhi, ho, hvl, hj, hd⟩⟩ := h
    · subst e e2
      refine ⟨[], ⟨rfl, Or.inl ⟨rfl, rfl⟩⟩, rfl, (fun p hp => by cases hp), (fun j hj => by simp at hj), (fun i j x y b hij hx => by simp at hx)⟩
    · subst e
      refine ⟨vs, ?_, hvl, fun q hq => ?_, fun j hjl => ?_, hd⟩
      · refine ⟨ho.1, ?_⟩
        rcases ho.2 with ⟨hn, _⟩ | ⟨p', cap', cur, e', hb', hgg, rest⟩
        · cases hn
        · refine .inr ⟨p', cap', cur, e', hb', ?_, rest⟩
          rw [g.block p' (Array.getElem?_eq_some_iff.1 hgg).1]
          exact hgg
      · simp only [Value.ownBlock, Option.some.injEq] at hq
        omega
      · obtain ⟨a2, c2, e3, hc2, oj, hb2⟩ := hj j hjl
        refine ⟨a2, c2, e3, hc2, oj.1, fun b hb hx => hb2 b hb ?_⟩
        simp only [Value.ownBlock, Option.some.injEq] at hx
        exact hx.symm
  obtain ⟨vs, ho, hvl, hp, hj, hd⟩ := key
  refine ⟨vs, ho, fun v' w' ho' gr hv' => ?_⟩
  have hsz := g.size
  have hsz' := gr.size
  have hrow : ∀ j, j < yss.length → ∃ a c, vs[j]? = some (.slice a (yss.getD j []).length c) ∧ (yss.getD j []).length ≤ c ∧ Own w' lo (.slice a (yss.getD j []).length c) (yss.getD j []) ∧ (∀ b, (Value.slice a (yss.getD j []).length c).ownBlock = some b → b < wr.heap.size ∧ v'.ownBlock ≠ some b) := fun j hjl => by
    obtain ⟨a2, c2, e3, hc2, oj, hb2⟩ := hj j hjl
    refine ⟨a2, c2, e3, hc2, Own.by_ (oj.old g) gr (fun q y hx hy hxy => ?_), fun b hb => ⟨(oj.lt b hb).2, fun hx => ?_⟩⟩
    · subst hxy
      exact hb2 q hx hy
    · rcases hv' with e | e
      · exact hb2 b hb (e.symm.trans hx)
      · rw [e] at hx
        have := (oj.lt b hb).2
        simp only [Option.some.injEq] at hx
        omega
  have hnew : Own w' lo (.slice a r.length c) r := Own.low (Own.by_ o gr (fun q y hx hy hxy => by
    subst hxy
    have h1 := (o.lt q hx).1
    have h2 := hp q hy
    omega)) hlo
  have hnewb : ∀ b, (Value.slice a r.length c).ownBlock = some b → wr.heap.size ≤ b ∧ b < W.heap.size ∧ v'.ownBlock ≠ some b := fun b hb => by
    obtain ⟨h1, h2⟩ := o.lt b hb
    refine ⟨h1, h2, fun hx => ?_⟩
    rcases hv' with e | e
    · have := hp b (e.symm.trans hx)
      omega
    · rw [e] at hx
      simp only [Option.some.injEq] at hx
      omega
  have ho2 := ho'
  rcases ho'.2 with ⟨_, h0⟩ | ⟨p', cap', cur, e', hb', hgg, hnc, rest⟩
  · omega
  subst e'
  have hlt' : p' < w'.heap.size := (Array.getElem?_eq_some_iff.1 hgg).1
  refine ⟨Nat.le_refl _, Or.inr ⟨p', cap', vs ++ [.slice a r.length c], by simp, by simpa using hnc, hb', hlt', by simpa using ho2, by simp [hvl], fun j hjl => ?_, fun i j x y b hij hx hy hbx hby => ?_⟩⟩
  · simp at hjl
    rcases Nat.lt_or_ge j yss.length with h1 | h1
    · rw [getD_app1 yss r j h1]
      obtain ⟨a2, c2, e3, hc2, oj, hb2⟩ := hrow j h1
      refine ⟨a2, c2, by rw [List.getElem?_append_left (by omega)]; exact e3, hc2, ⟨oj, Nat.le_refl _, fun b hb => (oj.lt b hb).2⟩, fun b hb hx => (hb2 b hb).2 ?_⟩
      rw [hx]
      rfl
    · obtain rfl : j = yss.length := by omega
      rw [getD_app2 yss r]
      refine ⟨a, c, by rw [← hvl]; simp, hc, ⟨hnew, Nat.le_refl _, fun b hb => (hnew.lt b hb).2⟩, fun b hb hx => (hnewb b hb).2.2 ?_⟩
      rw [hx]
      rfl
  · have hjl : j < vs.length + 1 := by
      have := (List.getElem?_eq_some_iff.1 hy).1
      simpa using this
    rcases Nat.lt_or_ge j vs.length with h1 | h1
    · rw [List.getElem?_append_left (by omega)] at hx hy
      exact hd i j x y b hij hx hy hbx hby
    · obtain rfl : j = vs.length := by omega
      rw [List.getElem?_append_left (by omega)] at hx
      simp at hy
      subst hy
      obtain ⟨a2, c2, e3, hc2, oj, hb2⟩ := hrow i (by omega)
      rw [e3] at hx
      obtain rfl := Option.some.inj hx
      have h3 := (hb2 b hbx).1
      have h4 := (hnewb b hby).1
      omega
def pairR (f : Int → Int → Int → Int) (p : Int) (xs ys : List Int) : List Int := (List.range xs.length).map fun i => f p (xs.getD i 0) (ys.getD i 0)
def pairL (f : Int → Int → Int → Int) (ps : List Int) (xss yss : List (List Int)) : List (List Int) := (List.range ps.length).map fun k => pairR f (ps.getD k 0) (xss.getD k []) (yss.getD k [])
theorem pairR_len (f : Int → Int → Int → Int) (p : Int) (xs ys : List Int) : (pairR f p xs ys).length = xs.length := by simp [pairR]
theorem pairR_get (f : Int → Int → Int → Int) (p : Int) (xs ys : List Int) (i : Nat) (h : i < xs.length) : (pairR f p xs ys).getD i 0 = f p (xs.getD i 0) (ys.getD i 0) := by simp [pairR, List.getD, h]
theorem pairL_len (f : Int → Int → Int → Int) (ps : List Int) (xss yss : List (List Int)) : (pairL f ps xss yss).length = ps.length := by simp [pairL]
theorem pairL_get (f : Int → Int → Int → Int) (ps : List Int) (xss yss : List (List Int)) (k : Nat) (h : k < ps.length) : (pairL f ps xss yss).getD k [] = pairR f (ps.getD k 0) (xss.getD k []) (yss.getD k []) := by simp [pairL, List.getD, h]
theorem take_succL (xs : List (List Int)) (k : Nat) (h : k < xs.length) : xs.take (k + 1) = xs.take k ++ [xs.getD k []] := by
  rw [List.take_add_one]
  simp [List.getD, h]
def addF (p x y : Int) : Int := (x + y) % p
end Go.Proofs.YtglbegbhekcddaaDoor
/- Proved: rows of rows that are made whole and filled row by row. -/
namespace Go.Proofs.YtglbegbhekcddaaDoor
open Go.ChangeShapes Go.WideShapes Go.ChangeAt Go.RowKit
set_option linter.unusedVariables false
set_option linter.unusedSimpArgs false
theorem Row.recap {W : World} {a : Option Addr} {n c c' : Nat} {xs : List Int} (h : Row W (.slice a n c) xs) (h0 : xs ≠ []) : Row W (.slice a n c') xs := by
  rcases h with ⟨_, _, e, e'⟩ | ⟨b, o, cap, e, r⟩
  · exact absurd e' h0
  · simp only [Value.slice.injEq] at e
    obtain ⟨rfl, rfl, rfl⟩ := e
    exact Or.inr ⟨b, o, c', rfl, r⟩
end Go.Proofs.YtglbegbhekcddaaDoor
/- Proved: rows of rows as a law carries them: marks that are held still. -/
namespace Go.Proofs.YtglbegbhekcddaaDoor
open Go.ChangeShapes Go.WideShapes Go.ChangeAt Go.RowKit
set_option linter.unusedVariables false
set_option linter.unusedSimpArgs false
def XM (n : Bool) (k : Int) (xss : List (List Int)) (W : World) (lo hi : Nat) (g : Array Value) : Prop := ∃ a c, g = #[.bool n, .slice a xss.length c] ∧ OwM k xss W lo hi (.slice a xss.length c)
end Go.Proofs.YtglbegbhekcddaaDoor
/- Proved: laws.sameRows says yes of equal rows. -/
namespace Go.Proofs.YtglbegbhekcddaaDoor
open Go.ChangeShapes Go.WideShapes Go.ChangeAt Go.RowKit
set_option linter.unusedVariables false
set_option linter.unusedSimpArgs false
set_option maxRecDepth 100000 in
set_option maxHeartbeats 2000000 in
theorem sameRows_yes (xss : List (List Int)) (v u : Value) (w : World) (hv : RowS w v xss) (hu : RowS w u xss) (hl : xss.length ≤ 1048576) (hr : ∀ r ∈ xss, r.length ≤ 1048576) :
    Calls Tryd.prog 11 #[v, u] w fun e w' => e = .returned (.bool true) ∧ Old w w' := by
  obtain ⟨a0, cap0, ev⟩ := hv.slice
  obtain ⟨a1, cap1, eu⟩ := hu.slice
  subst ev eu
  have HR : Hid (∀ r ∈ xss, r.length ≤ 1048576) := hr
  have HV : Hid (RowS w (.slice a0 xss.length cap0) xss) := hv
  have HU : Hid (RowS w (.slice a1 xss.length cap1) xss) := hu
  have dn : ((xss.length : Int) != (xss.length : Int)) = false := by simp
  clear hv hu hr
  go_enter Tryd.func11, Tryd.ntmps11
  go_wp2_with fail
  go_loopw [13, 5] (fun i _ W => ∃ k : Nat, k ≤ xss.length ∧ i = .int .i64 k ∧ Hid (Old w W)) (fun i _ _ => xss.length - (intOf i).toNat)
  case atStart => exact ⟨0, by omega, rfl, Old.refl _⟩
  case round =>
    obtain ⟨k, hk, rfl, HG⟩ := hrel
    by_cases hlt : k < xss.length
    · have d1 : decide ((k : Int) < (xss.length : Int)) = true := by simp; omega
      rcases HV.out with ⟨a, cap, e, e2⟩ | ⟨b, o, cap, us, e, hb2, h3, hc⟩
      · subst e2
        simp at hlt
      rcases HU.out with ⟨a', cap', e', e2'⟩ | ⟨b', o', cap', us', e', hb2', h3', hc'⟩
      · subst e2'
        simp at hlt
      simp only [Value.slice.injEq, true_and] at e e'
      obtain ⟨rfl, rfl⟩ := e
      obtain ⟨rfl, rfl⟩ := e'
      obtain ⟨c0, r0⟩ := hc k hlt
      obtain ⟨c0', r0'⟩ := hc' k hlt
      have hm : xss.getD k [] ∈ xss := by simp [List.getD, hlt]
      have hrl := HR.out _ hm
      obtain ⟨x1, y1, e1⟩ := r0.slice
      obtain ⟨x2, y2, e3⟩ := r0'.slice
      rw [e1] at c0 r0
      rw [e3] at c0' r0'
      have q1 : wr.cell? ⟨b, o + k, none⟩ = some (.slice x1 (xss.getD k []).length y1) := (HG.out.cell (p := ⟨b, o + k, none⟩) hb2).trans c0
      have q2 : wr.cell? ⟨b', o' + k, none⟩ = some (.slice x2 (xss.getD k []).length y2) := (HG.out.cell (p := ⟨b', o' + k, none⟩) hb2').trans c0'
      have R1 : Hid (Row wr (.slice x1 (xss.getD k []).length y1) (xss.getD k [])) := r0.old HG.out
      have R2 : Hid (Row wr (.slice x2 (xss.getD k []).length y2) (xss.getD k [])) := r0'.old HG.out
      have hbr : b < wr.heap.size := Nat.lt_of_lt_of_le hb2 HG.out.size
      have hbr' : b' < wr.heap.size := Nat.lt_of_lt_of_le hb2' HG.out.size
      generalize xss.getD k [] = xs at *
      have HAS : Hid (∀ W' : World, Old wr W' → (W'.cell? ⟨b, o + k, none⟩ = some (.slice x1 xs.length y1) ∧ W'.cell? ⟨b', o' + k, none⟩ = some (.slice x2 xs.length y2))) := fun W' g => ⟨(g.cell (p := ⟨b, o + k, none⟩) hbr).trans q1, (g.cell (p := ⟨b', o' + k, none⟩) hbr').trans q2⟩
      clear hc hc' c0 c0' r0 r0' e1 e3 hm
      go_wp2_with fail
      go_region_held3 (fun W' => W'.cell? ⟨b, o + k, none⟩ = some (.slice x1 xs.length y1) ∧ W'.cell? ⟨b', o' + k, none⟩ = some (.slice x2 xs.length y2)) (first | with_reducible exact HAS.out _ GE.out | with_reducible exact HAS.out _ (Below.drew (Old.refl wr)) | with_reducible exact HAS.out _ (Old.refl wr)) (first
        | (go_at_call 22; refine (same_yes xs _ _ _ (R1.out.old (Below.drew (Old.refl wr))) (R2.out.old (Below.drew (Old.refl wr))) (by omega)).mono ?_; rintro e w2 ⟨rfl, ge⟩; have GE : Hid (Old wr w2) := Old.trans (Below.drew (Old.refl wr)) ge; clear ge)
        | fail)
      have HG2 : Hid (Old w w2) := Old.trans HG.out GE.out
      go_wp2_with fail
      exact ⟨⟨k + 1, by omega, by go_num, HG2⟩, by simp [intOf]; omega⟩
    · have d1 : decide ((k : Int) < (xss.length : Int)) = false := by simp; omega
      go_wp2_with fail
      go_ret
      exact ⟨rfl, HG.out⟩
end Go.Proofs.YtglbegbhekcddaaDoor
