/- Proved: several texts in one: what each proves is said ahead of it. -/
import Derived.Test.YtpebikjckhcgfaaGreatDoorZ33
import Derived.Test.YtpebikjckhcgfaaGreatDoorZ20
import Derived.Test.YtpebikjckhcgfaaGreatDoorZ23
import Derived.Test.YtpebikjckhcgfaaGreatDoorZ21
/- Proved: a row copied by the program, and its changes madeAhead and madeBack. -/
namespace Go.Proofs.YtpebikjckhcgfaaGreatDoor
open Go.ChangeShapes Go.WideShapes Go.ChangeAt Go.RowKit
set_option linter.unusedVariables false
set_option linter.unusedSimpArgs false
theorem own_some {W : World} {base : Nat} {v : Value} {zs : List Int} (h : Own W base v zs) (h0 : 0 < zs.length) : ∃ g rc, v = .slice (some ⟨g, 0, none⟩) zs.length rc ∧ zs.length ≤ rc := by
  rcases h.2 with ⟨e, hn⟩ | ⟨_, _, _, e, _, _, hn, _⟩
  · omega
  · exact ⟨_, _, e, hn⟩
end Go.Proofs.YtpebikjckhcgfaaGreatDoor
/- Proved: the program's picked, and the change that TurnRows makes of a row. -/
namespace Go.Proofs.YtpebikjckhcgfaaGreatDoor
open Go.ChangeShapes Go.WideShapes Go.ChangeAt Go.RowKit
open M1
set_option linter.unusedVariables false
set_option linter.unusedSimpArgs false
set_option maxRecDepth 100000 in
set_option maxHeartbeats 8000000 in
theorem impl_picked (p r : Int) (n : Bool) (Nn : Nat) (xs ts zs : List Int) (ua : Option Addr) (tv : Value) (w : World) (hv : Row w (.slice ua Nn Nn) xs) (ht : Row w tv ts) (hN : 2 ≤ Nn ∧ Nn ≤ 16) (la : xs.length = Nn) (lt : ts.length = Nn) (lz : zs.length = Nn) (hz : ∀ i, i < Nn → (0 ≤ ts.getD i 0 ∧ ts.getD i 0 < Nn) ∧ zs.getD i 0 = xs.getD (ts.getD i 0).toNat 0) :
    Calls Tryz.prog 27 #[.agg #[.int .i64 p, .int .i64 Nn, .int .i64 r, .bool n, .slice ua Nn Nn], tv] w fun e w' => ∃ g cp, e = .returned (.slice (some ⟨g, 0, none⟩) Nn cp) ∧ Nn ≤ cp ∧ Old w w' ∧ Own w' w.heap.size (.slice (some ⟨g, 0, none⟩) Nn cp) zs := by
  obtain ⟨i0, hi, hz0, hz1, hz2⟩ := info_parts Tryz.infoInt
  obtain ⟨at0, tc, et⟩ := ht.slice
  rw [lt] at et
  subst et
  rcases hv with ⟨_, _, e, e'⟩ | ⟨b1, o1, cap1, e, hb1, h01, hc1⟩
  · subst e'
    simp at la
    omega
  rcases ht with ⟨_, _, e', e''⟩ | ⟨b2, o2, cap2, e', hb2, h02, hc2⟩
  · subst e''
    simp at lt
    omega
  simp only [Value.slice.injEq] at e e'
  obtain ⟨rfl, e7, e8⟩ := e
  obtain ⟨rfl, e9, e10⟩ := e'
  have HC1 : Hid (∀ j, j < Nn → w.cell? ⟨b1, o1 + j, none⟩ = some (.int .i64 (xs.getD j 0))) := fun j hj => hc1 j (by omega)
  have HC2 : Hid (∀ j, j < Nn → w.cell? ⟨b2, o2 + j, none⟩ = some (.int .i64 (ts.getD j 0))) := fun j hj => hc2 j (by omega)
  have HE : Hid (∀ i, i < Nn → (0 ≤ ts.getD i 0 ∧ ts.getD i 0 < Nn) ∧ zs.getD i 0 = xs.getD (ts.getD i 0).toNat 0) := hz
  clear hc1 hc2 e7 e8 e9 e10 h01 h02 hz la lt
  obtain ⟨wB, hwB⟩ : ∃ wB, wB = w.alloc (.cells #[.int .i64 p, .int .i64 Nn, .int .i64 r, .bool n, .slice (some ⟨b1, o1, none⟩) Nn Nn] 55) := ⟨_, rfl⟩
  have HWB : Hid (Old w wB) := by rw [hwB]; exact (Old.refl w).alloc _
  have HB : Hid (∀ W', Old wB W' → (W'.cell? ⟨w.heap.size, 1, none⟩ = some (.int .i64 Nn) ∧ W'.cell? ⟨w.heap.size, 4, none⟩ = some (.slice (some ⟨b1, o1, none⟩) Nn Nn))) := fun W' g => by
    rw [hwB] at g
    exact ⟨(g.cell (p := ⟨w.heap.size, 1, none⟩) (by simp)).trans (cell_at _ _ _ _ _ rfl), (g.cell (p := ⟨w.heap.size, 4, none⟩) (by simp)).trans (cell_at _ _ _ _ _ rfl)⟩
  have HSZ : wB.heap.size = w.heap.size + 1 := by rw [hwB]; simp
  go_enter Tryz.func27, Tryz.ntmps27
  go_wp2_with (at_make; rw [← hwB]; refine wpList_make_full _ rfl _ _ 22 rfl wB.heap.size 3 i0 (.int .i64 0) 1 Tryz.underlying22 hi hz0 hz1 .i64 .i64 _ _ Nn rfl rfl rfl rfl (by rw [hz2]; omega) (by unfold maxLen; omega) (Nat.le_refl _) ?_; intro w1 hown hgrow; have HO1 : Hid (OwnI w1 (w.heap.size + 1) (w.heap.size + 1) Nn (List.replicate Nn 0)) := (by rw [made_ints, HSZ] at hown; exact hown); have HG1 : Hid (Old wB w1) := Old.by_ (Old.refl _) hgrow (fun b hb => by cases hb); rw [HSZ]; clear hown hgrow)
  go_loopw [14] (fun i W => ∃ k : Nat, k ≤ Nn ∧ i = .int .i64 k ∧ Hid (OwnI W (w.heap.size + 1) (w.heap.size + 1) Nn (fillN zs k)) ∧ Hid (Old wB W)) (fun i _ => Nn - (intOf i).toNat)
  case atStart => exact ⟨0, by omega, rfl, (by show OwnI _ _ _ _ _; rw [fillN_zero, lz]; exact HO1.out), HG1⟩
  case round =>
    obtain ⟨k, hk, rfl, HO, HG2⟩ := hrel
    have HGW : Hid (Old w wr) := Old.trans HWB.out HG2.out
    by_cases hlt : k < Nn
    · have d1 : decide ((k : Int) < (Nn : Int)) = true := by simp; omega
      have i1 : (k : Int) < (Nn : Int) := by omega
      obtain ⟨⟨t1, t2⟩, hzk⟩ := HE.out k hlt
      obtain ⟨m, hm⟩ : ∃ m : Nat, ts.getD k 0 = m := ⟨(ts.getD k 0).toNat, by omega⟩
      have c2 : wr.cell? ⟨b2, o2 + k, none⟩ = some (.int .i64 (ts.getD k 0)) := (HGW.out.cell (p := ⟨b2, o2 + k, none⟩) hb2).trans (HC2.out k hlt)
      rw [hm] at c2 t2 hzk
      rw [Int.toNat_natCast] at hzk
      have i2 : (m : Int) < (Nn : Int) := t2
      have c1 : wr.cell? ⟨b1, o1 + m, none⟩ = some (.int .i64 (xs.getD m 0)) := (HGW.out.cell (p := ⟨b1, o1 + m, none⟩) hb1).trans (HC1.out m (by omega))
      obtain ⟨z1, z4⟩ := HB.out wr HG2.out
      have c3 := HO.out.get (fillN_len zs k (by omega) |>.trans lz) k hlt
      have c4 := HO.out.free k
      have HP : Hid (OwnI (wr.setCell ⟨w.heap.size + 1, k, none⟩ (.int .i64 (xs.getD m 0))) (w.heap.size + 1) (w.heap.size + 1) Nn (fillN zs (k + 1))) := by
        have := HO.out.put k (xs.getD m 0)
        rw [← hzk, fillN_set zs k (by omega)] at this
        rw [← hzk]
        exact this
      have HN2 : Hid (Old wB (wr.setCell ⟨w.heap.size + 1, k, none⟩ (.int .i64 (xs.getD m 0)))) := HG2.out.own (p := ⟨w.heap.size + 1, k, none⟩) (by rw [HSZ]; exact Nat.le_refl _) _
      generalize xs.getD m 0 = x at *
      generalize (fillN zs k).getD k 0 = oldv at *
      clear HO1 HG1 hzk hm
      go_wp2_with fail
      exact ⟨⟨k + 1, by omega, by go_num, HP.out, HN2.out⟩, by simp [intOf]; omega⟩
    · have d1 : decide ((k : Int) < (Nn : Int)) = false := by simp; omega
      obtain rfl : k = Nn := by omega
      have HF : Hid (Own wr (w.heap.size + 1) (.slice (some ⟨w.heap.size + 1, 0, none⟩) k k) zs) := by
        have := HO.out.own ((fillN_len zs k (by omega)).trans lz)
        rw [show fillN zs k = zs by rw [← lz]; exact fillN_all zs] at this
        exact this
      go_wp2_with fail
      go_ret
      exact ⟨_, _, rfl, Nat.le_refl _, HGW.out, HF.out.low (by omega)⟩
set_option maxRecDepth 100000 in
set_option maxHeartbeats 8000000 in
theorem turn_change_true (p r t : Int) (Nn : Nat) (zs : List Int) (ua : Option Addr) (tb gb : Nat) (at0 : Option Addr) (tl tc : Nat) (w : World) (ht : w.cell? ⟨tb, 0, none⟩ = some (.slice at0 tl tc)) (hg : w.cell? ⟨gb, 0, none⟩ = some (.int .i64 t)) (KC : ∀ W, Old w W → Calls Tryz.prog 27 #[.agg #[.int .i64 p, .int .i64 Nn, .int .i64 r, .bool true, .slice ua Nn Nn], .slice at0 tl tc] W fun e w' => ∃ g cp, e = .returned (.slice (some ⟨g, 0, none⟩) Nn cp) ∧ Nn ≤ cp ∧ Old W w' ∧ Own w' W.heap.size (.slice (some ⟨g, 0, none⟩) Nn cp) zs) :
    Calls Tryz.prog 26 #[.agg #[.int .i64 p, .int .i64 Nn, .int .i64 r, .bool true, .slice ua Nn Nn], .pointer (some ⟨tb, 0, none⟩), .pointer (some ⟨gb, 0, none⟩)] w fun e w' => ∃ g cp, e = .returned (.slice (some ⟨g, 0, none⟩) Nn cp) ∧ Nn ≤ cp ∧ Old w w' ∧ Own w' w.heap.size (.slice (some ⟨g, 0, none⟩) Nn cp) zs := by
  have htb := block_lt_of_cell ht
  have hgb := block_lt_of_cell hg
  obtain ⟨wB, hwB⟩ : ∃ wB, wB = w.alloc (.cells #[.int .i64 p, .int .i64 Nn, .int .i64 r, .bool true, .slice ua Nn Nn] 55) := ⟨_, rfl⟩
  have HWB : Hid (Old w wB) := by rw [hwB]; exact (Old.refl w).alloc _
  have kc := KC wB HWB.out
  have k1 := (HWB.out.cell (p := ⟨tb, 0, none⟩) htb).trans ht
  have k2 := (HWB.out.cell (p := ⟨gb, 0, none⟩) hgb).trans hg
  rw [hwB] at k1 k2
  clear KC ht hg
  go_enter Tryz.func26, Tryz.ntmps26
  go_wp2_with fail
  rw [← hwB]
  refine kc.mono ?_
  rintro e w2 ⟨g, cp, rfl, hcp, g2, o2⟩
  have HG2 : Hid (Old w w2) := Old.trans HWB.out g2
  have HO2 : Hid (Own w2 w.heap.size (.slice (some ⟨g, 0, none⟩) Nn cp) zs) := o2.low HWB.out.size
  clear g2 o2
  go_wp2_with fail
  go_ret
  exact ⟨g, cp, rfl, hcp, HG2.out, HO2.out⟩
set_option maxRecDepth 100000 in
set_option maxHeartbeats 8000000 in
theorem turn_change_false (p r t : Int) (Nn : Nat) (zs : List Int) (ua : Option Addr) (tb gb : Nat) (at0 : Option Addr) (tl tc : Nat) (w : World) (ht : w.cell? ⟨tb, 0, none⟩ = some (.slice at0 tl tc)) (hg : w.cell? ⟨gb, 0, none⟩ = some (.int .i64 t)) (KC : ∀ W, Old w W → Calls Tryz.prog 28 #[.agg #[.int .i64 p, .int .i64 Nn, .int .i64 r], .slice ua Nn Nn, .int .i64 t] W fun e w' => ∃ v', e = .returned v' ∧ Old W w' ∧ Own w' W.heap.size v' zs) (hz : zs.length = Nn) (h0 : 0 < Nn) :
    Calls Tryz.prog 26 #[.agg #[.int .i64 p, .int .i64 Nn, .int .i64 r, .bool false, .slice ua Nn Nn], .pointer (some ⟨tb, 0, none⟩), .pointer (some ⟨gb, 0, none⟩)] w fun e w' => ∃ g cp, e = .returned (.slice (some ⟨g, 0, none⟩) Nn cp) ∧ Nn ≤ cp ∧ Old w w' ∧ Own w' w.heap.size (.slice (some ⟨g, 0, none⟩) Nn cp) zs := by
  have htb := block_lt_of_cell ht
  have hgb := block_lt_of_cell hg
  obtain ⟨wB, hwB⟩ : ∃ wB, wB = w.alloc (.cells #[.int .i64 p, .int .i64 Nn, .int .i64 r, .bool false, .slice ua Nn Nn] 55) := ⟨_, rfl⟩
  have HWB : Hid (Old w wB) := by rw [hwB]; exact (Old.refl w).alloc _
  have kc := KC wB HWB.out
  have k1 := (HWB.out.cell (p := ⟨tb, 0, none⟩) htb).trans ht
  have k2 := (HWB.out.cell (p := ⟨gb, 0, none⟩) hgb).trans hg
  rw [hwB] at k1 k2
  clear KC ht hg
  go_enter Tryz.func26, Tryz.ntmps26
  go_wp2_with fail
  rw [← hwB]
  refine kc.mono ?_
  rintro e w2 ⟨v2, rfl, g2, o2⟩
  have HG2 : Hid (Old w w2) := Old.trans HWB.out g2
  obtain ⟨g, cp, e2, hcp⟩ := own_some o2 (by omega)
  rw [hz] at e2 hcp
  subst e2
  have HO2 : Hid (Own w2 w.heap.size (.slice (some ⟨g, 0, none⟩) Nn cp) zs) := o2.low HWB.out.size
  clear g2 o2
  go_wp2_with fail
  go_ret
  exact ⟨g, cp, rfl, hcp, HG2.out, HO2.out⟩
end Go.Proofs.YtpebikjckhcgfaaGreatDoor
