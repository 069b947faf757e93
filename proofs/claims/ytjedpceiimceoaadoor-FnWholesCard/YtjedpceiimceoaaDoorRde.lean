/- Proved: the program's ReadWhole tells what a text is worth. -/
import Derived.Test.YtjedpceiimceoaaDoorRdc
import Derived.Test.YtjedpceiimceoaaDoorRdd
import Derived.Test.YtjedpceiimceoaaDoorV16
import Derived.Test.YtjedpceiimceoaaDoorV09
import Derived.Test.YtjedpceiimceoaaDoorV24
import Derived.Test.YtjedpceiimceoaaDoorV26
import Derived.Test.YtjedpceiimceoaaDoorV13
import Derived.Test.YtjedpceiimceoaaDoorDrw
namespace Go.Proofs.YtjedpceiimceoaaDoor
open Go.ChangeShapes Go.WideShapes Go.ChangeAt Go.RowKit
open M2
set_option linter.unusedVariables false
set_option linter.unusedSimpArgs false
theorem nil_ownRd (w : World) (base : Nat) : Own w base (.slice none 0 0) (toI []) := ⟨rfl, Or.inl ⟨rfl, rfl⟩⟩
theorem sz_count {W : World} {g n : Nat} (h : Sg W g (szV n)) (hc : cnt n ≤ 80) : W.cell? ⟨g, 80, none⟩ = some (.int .i64 (cnt n : Int)) := by
  rw [cell_of_row W g 80 _ _ (0, 0) h.blk]
  unfold szV
  exact szA_cnt (pad_len (by unfold cnt at hc; omega)) _
theorem cnt_stepRd {V m : Nat} (h : cnt V ≤ 40) (hm : m ≤ 9) : cnt (V * 10 + m) ≤ 80 := by
  have h1 : cnt (V + 1) ≤ 41 := cnt_add V 1 h (by decide)
  have h2 := cnt_mul (V + 1) 10
  have h3 : cnt 10 = 1 := by decide
  have h4 := cnt_mono (show V * 10 + m ≤ (V + 1) * 10 by omega)
  omega
def RdA (s : ByteArray) (w : World) (e : Ending) (w' : World) : Prop := ∃ v', e = .returned (.tuple #[.agg #[.bool (rdW s).1, v'], .bool (rdW s).2.2]) ∧ Old w w' ∧ Own w' w.heap.size v' (toI (rdW s).2.1)
theorem rdW_no {s : ByteArray} (h : ¬ (rdB s = true ∧ cnt (rdV (dgT s) (dgT s).size) ≤ 40)) : rdW s = nought := by
  unfold rdW
  rw [if_neg h]
theorem whole_rd (g : Bool) (V : Nat) (w : World) (h0 : V = 0 → g = false) (hc : cnt V ≤ 80) : Calls Tryd.prog 27 #[.bool g, .agg (szV V)] w fun e w' => ∃ v, e = .returned (.agg #[.bool g, v]) ∧ Old w w' ∧ Own w' w.heap.size v (toI (dig V)) := by
  by_cases h : V = 0
  · rw [h0 h, h]
    refine (whole_none false w).mono ?_
    rintro e w1 ⟨rfl, g1⟩
    refine ⟨_, rfl, g1, ?_⟩
    rw [dig_zero]
    exact nil_ownRd _ _
  · exact whole_some g V w h hc
theorem szV_zeroRd : szV 0 = Tryd.zeroCells50 := by
  rw [szZero]
  rfl
set_option maxRecDepth 100000 in
set_option maxHeartbeats 4000000 in
theorem impl_ReadWhole (s : ByteArray) (w : World) (hs : s.size ≤ 9223372036854775807) :
    Calls Tryd.prog 15 #[.string s] w (RdA s w) := by
  have K1 := fun W => cutPrefix_c s W hs
  have K2 := fun W => isNumeral_any (dgT s) W (Nat.le_trans (dgT_size s) hs)
  have HA : Hid (Old w (w.alloc (.cells #[.bool false, .slice none 0 0] 25))) := (Old.refl w).alloc _
  have BR : Hid (Bk (w.alloc (.cells #[.bool false, .slice none 0 0] 25)) w.heap.size #[.bool false, .slice none 0 0] 25) := Bk.new' w _ _ rfl
  have hds := Nat.le_trans (dgT_size s) hs
  cases hN : numB (dgT s)
  · have HB : Hid (rdW s = nought) := rdW_no (fun h => by have h1 := h.1; unfold rdB at h1; rw [hN] at h1; cases h1)
    rw [hN] at K2
    clear hN hds
    generalize dgT s = DD at K1 K2
    generalize sgB s = g at K1
    go_enter Tryd.func15, Tryd.ntmps15
    go_wp2_with fail
    refine (K1 _).mono ?_
    rintro e w1 ⟨rfl, g1⟩
    have O1 := hid (Old.trans HA.out g1)
    have R1 := hid (BR.out.old g1)
    clear g1
    go_wp2_with fail
    refine (K2 _).mono ?_
    rintro e w2 ⟨rfl, g2⟩
    have O2 := hid (Old.trans O1.out g2)
    have R2 := hid (R1.out.old g2)
    clear g2 O1 R1
    have y0 := R2.out.c (i := 0) rfl
    have y1 := R2.out.c (i := 1) rfl
    have f0 := frozen_of_row _ _ 0 _ _ R2.out
    have f1 := frozen_of_row _ _ 1 _ _ R2.out
    go_wp2_with fail
    have q0 := (bk_put1W (bk_put0W R2.out (.bool false)) (.slice none 0 0)).c (i := 0) rfl
    have q1 := (bk_put1W (bk_put0W R2.out (.bool false)) (.slice none 0 0)).c (i := 1) rfl
    refine bodyPost_ret (v := .tuple #[.agg #[.bool false, .slice none 0 0], .bool false]) (by simp [results, Tryd.results15, go_sem, q0, q1]) rfl ?_
    unfold RdA
    rw [HB.out]
    exact ⟨_, rfl, (O2.out.own (p := ⟨w.heap.size, 0, none⟩) (Nat.le_refl _) _).own (p := ⟨w.heap.size, 1, none⟩) (Nat.le_refl _) _, nil_ownRd _ _⟩
  obtain ⟨n1, n2, n3⟩ := numB_yes hN
  have hZ := toList_one (dgT s)
  cases hbd : (sgB s && ((dgT s).toList == [48]))
  rotate_left
  · have HB : Hid (rdW s = nought) := rdW_no (fun h => by have h1 := h.1; unfold rdB at h1; rw [hbd, hN] at h1; cases h1)
    rw [Bool.and_eq_true] at hbd
    have hz := hbd.2
    rw [hN] at K2
    rw [hbd.1] at K1
    clear hN hds hbd n1 n2 n3 hZ
    generalize dgT s = DD at K1 K2 hz
    go_enter Tryd.func15, Tryd.ntmps15
    go_wp2_with fail
    refine (K1 _).mono ?_
    rintro e w1 ⟨rfl, g1⟩
    have O1 := hid (Old.trans HA.out g1)
    have R1 := hid (BR.out.old g1)
    clear g1
    go_wp2_with fail
    refine (K2 _).mono ?_
    rintro e w2 ⟨rfl, g2⟩
    have O2 := hid (Old.trans O1.out g2)
    have R2 := hid (R1.out.old g2)
    clear g2 O1 R1
    have y0 := R2.out.c (i := 0) rfl
    have y1 := R2.out.c (i := 1) rfl
    have f0 := frozen_of_row _ _ 0 _ _ R2.out
    have f1 := frozen_of_row _ _ 1 _ _ R2.out
    go_wp2_with fail
    have q0 := (bk_put1W (bk_put0W R2.out (.bool false)) (.slice none 0 0)).c (i := 0) rfl
    have q1 := (bk_put1W (bk_put0W R2.out (.bool false)) (.slice none 0 0)).c (i := 1) rfl
    refine bodyPost_ret (v := .tuple #[.agg #[.bool false, .slice none 0 0], .bool false]) (by simp [results, Tryd.results15, go_sem, q0, q1]) rfl ?_
    unfold RdA
    rw [HB.out]
    exact ⟨_, rfl, (O2.out.own (p := ⟨w.heap.size, 0, none⟩) (Nat.le_refl _) _).own (p := ⟨w.heap.size, 1, none⟩) (Nat.le_refl _) _, nil_ownRd _ _⟩
  have hR : rdB s = true := by unfold rdB; rw [hN, hbd]; rfl
  have HEND : Hid (cnt (rdV (dgT s) (dgT s).size) ≤ 40 → rdW s = (sgB s, dig (rdV (dgT s) (dgT s).size), true)) := fun h => by
    unfold rdW
    rw [if_pos ⟨hR, h⟩]
  have HBIG : Hid (∀ k, k ≤ (dgT s).size → 40 < cnt (rdV (dgT s) k) → rdW s = nought) := fun k hk h => rdW_no (fun h2 => by have := cnt_mono (rdV_mono (dgT s) hk); omega)
  have HG0 : Hid (rdV (dgT s) (dgT s).size = 0 → sgB s = false) := rdB_zero hR
  have HDG : Hid (∀ k, k < (dgT s).size → ∃ b : Nat, 48 ≤ b ∧ b ≤ 57 ∧ (∀ W, (Instr.index 9 (.string (dgT s)) (.int .i64 (k : Int))).run Tryd.prog W = .ok (.int .u8 (b : Int)) W) ∧ rdV (dgT s) (k + 1) = rdV (dgT s) k * 10 + (b - 48)) := fun k hk => ⟨byt (dgT s) k, (n3 k hk).1, (n3 k hk).2, fun W => byt_ix (dgT s) k hk W, rfl⟩
  have HV0 : Hid (rdV (dgT s) 0 = 0) := rfl
  obtain ⟨z, hz⟩ : ∃ z, ((dgT s).toList == [48]) = z := ⟨_, rfl⟩
  rw [hN] at K2
  rw [hz] at hbd
  have hgz : (sgB s && z) = false := hbd
  clear hN hR n1 n2 n3 hZ hbd
  generalize hDS : (dgT s).size = DS at *
  generalize rdV (dgT s) = V at *
  generalize hDD : dgT s = DD at *
  generalize sgB s = g at *
  have HDS : Hid (DD.size = DS) := hDS
  clear hDD
  cases g
  · clear hgz hz
    go_enter Tryd.func15, Tryd.ntmps15
    go_wp2_with fail
    refine (K1 _).mono ?_
    rintro e w1 ⟨rfl, g1⟩
    have O1 := hid (Old.trans HA.out g1)
    have R1 := hid (BR.out.old g1)
    clear g1
    go_wp2_with fail
    refine (K2 _).mono ?_
    rintro e w2 ⟨rfl, g2⟩
    have O2 := hid (Old.trans O1.out g2)
    have R2 := hid (R1.out.old g2)
    clear g2 O1 R1
    have S0 : Hid (Sg (w2.alloc (.cells Tryd.zeroCells50 50)) w2.heap.size Tryd.zeroCells50) := Sg.zero _ _ rfl
    have O3 : Hid (Old w (w2.alloc (.cells Tryd.zeroCells50 50))) := O2.out.alloc _
    have R3 : Hid (Bk (w2.alloc (.cells Tryd.zeroCells50 50)) w.heap.size #[.bool false, .slice none 0 0] 25) := R2.out.alloc _
    have lk : w.heap.size < w2.heap.size := R2.out.lt
    rw [← szV_zeroRd] at S0
    obtain ⟨kb, hkb⟩ : ∃ kb, w2.heap.size = kb := ⟨_, rfl⟩
    rw [hkb] at S0 lk
    clear O2 R2
    go_wp2_with fail
    go_loopw [26] (fun i W => ∃ k : Nat, k ≤ DS ∧ i = .int .i64 (k : Int) ∧ Hid (Old w W) ∧ Hid (Bk W w.heap.size #[.bool false, .slice none 0 0] 25) ∧ Hid (Sg W kb (szV (V k))) ∧ Hid (cnt (V k) ≤ 40)) (fun i _ => DS - (intOf i).toNat)
    case atStart => exact ⟨0, by omega, rfl, O3, R3, by rw [HV0.out]; exact S0, by rw [HV0.out]; exact (by decide : cnt 0 ≤ 40)⟩
    case round =>
      obtain ⟨k, hk, rfl, HO, HR, HS, HC⟩ := hrel
      clear O3 R3 S0 hkb
      by_cases hlt : k < DS
      · have d1 : decide ((k : Int) < (DS : Int)) = true := decide_eq_true (by omega)
        have d2 : decide (k < DS) = true := decide_eq_true hlt
        obtain ⟨b, hb1, hb2, hix, hVs⟩ := HDG.out k hlt
        have HVS : Hid (V (k + 1) = V k * 10 + (b - 48)) := hVs
        have HIX : Hid (∀ W, (Instr.index 9 (.string DD) (.int .i64 (k : Int))).run Tryd.prog W = .ok (.int .u8 (b : Int)) W) := hix
        obtain ⟨m, hm⟩ : ∃ m : Nat, b - 48 = m := ⟨_, rfl⟩
        have h8 : IntKind.u8.wrap ((b : Int) - 48) = (m : Int) := by simp only [IntKind.wrap_u8]; omega
        have hm9 : m ≤ 9 := by omega
        have hc2 : cnt (V k * 10 + m) ≤ 80 := cnt_stepRd HC.out hm9
        have hZ : Hid (Sq (szV (V k * 10 + m))) := sq_v hc2
        rw [hm] at HVS
        clear hVs hix hm hb1 hb2
        go_wp2_with fail
        refine reg_Rw wr DD k b m kb (szV (V k)) (szV (V k * 10 + m)) HS.out.blk HS.out.sq.1 hZ.out HIX.out h8 (by omega) (fun W _ => scaled_sz (V k) 10 m W (by have := HC.out; omega) (by omega) (by omega)) _ _ ?_ ?_ ?_ ?_ ?_
        iterate 4 (· exact rfl)
        intro us W q
        simp only [putAll, Act.put, slotRw, List.range, List.range.loop, List.map_cons, List.map_nil, List.getD_cons_zero, List.getD_cons_succ, List.setIfInBounds_toArray, List.set_cons_succ, List.set_cons_zero]
        have HO2 : Hid (Old w (W.setRow kb (szV (V k * 10 + m)))) := Old.row (Old.trans HO.out q) (by omega) _
        have HR2 : Hid (Bk (W.setRow kb (szV (V k * 10 + m))) w.heap.size #[.bool false, .slice none 0 0] 25) := (HR.out.old q).otherRow (by omega) _
        have HS2 : Hid (Sg (W.setRow kb (szV (V k * 10 + m))) kb (szV (V k * 10 + m))) := (HS.out.old q).row _ hZ.out
        have kc := sz_count HS2.out hc2
        clear q HIX h8 HO HR HS hZ
        by_cases h40 : cnt (V k * 10 + m) ≤ 40
        · have e1 : decide ((40 : Int) < (cnt (V k * 10 + m) : Int)) = false := decide_eq_false (by omega)
          have e2 : decide (40 < cnt (V k * 10 + m)) = false := decide_eq_false (by omega)
          have HS3 : Hid (Sg (W.setRow kb (szV (V k * 10 + m))) kb (szV (V (k + 1)))) := by rw [HVS.out]; exact HS2.out
          have HC2 : Hid (cnt (V (k + 1)) ≤ 40) := by rw [HVS.out]; exact h40
          clear HS2
          generalize cnt (V k * 10 + m) = C at *
          clear HVS h40 hc2
          generalize W.setRow kb (szV (V k * 10 + m)) = W5 at *
          go_wp2_with fail
          exact ⟨⟨k + 1, by omega, by go_num, HO2, HR2, HS3, HC2⟩, by simp [intOf]; omega⟩
        · have e1 : decide ((40 : Int) < (cnt (V k * 10 + m) : Int)) = true := decide_eq_true (by omega)
          have e2 : decide (40 < cnt (V k * 10 + m)) = true := decide_eq_true (by omega)
          have HB : Hid (rdW s = nought) := HBIG.out (k + 1) (by omega) (by rw [HVS.out]; omega)
          generalize cnt (V k * 10 + m) = C at *
          clear HVS h40 hc2
          generalize W.setRow kb (szV (V k * 10 + m)) = W5 at *
          have y0 := HR2.out.c (i := 0) rfl
          have y1 := HR2.out.c (i := 1) rfl
          have f0 := frozen_of_row _ _ 0 _ _ HR2.out
          have f1 := frozen_of_row _ _ 1 _ _ HR2.out
          go_wp2_with fail
          have q0 := (bk_put1W (bk_put0W HR2.out (.bool false)) (.slice none 0 0)).c (i := 0) rfl
          have q1 := (bk_put1W (bk_put0W HR2.out (.bool false)) (.slice none 0 0)).c (i := 1) rfl
          refine bodyPost_ret (v := .tuple #[.agg #[.bool false, .slice none 0 0], .bool false]) (by simp [results, Tryd.results15, go_sem, q0, q1]) rfl ?_
          unfold RdA
          rw [HB.out]
          exact ⟨_, rfl, (HO2.out.own (p := ⟨w.heap.size, 0, none⟩) (Nat.le_refl _) _).own (p := ⟨w.heap.size, 1, none⟩) (Nat.le_refl _) _, nil_ownRd _ _⟩
      · have d1 : decide ((k : Int) < (DS : Int)) = false := decide_eq_false (by omega)
        have d2 : decide (k < DS) = false := decide_eq_false hlt
        obtain rfl : k = DS := by omega
        have HW := HEND.out HC.out
        have KW := fun W => whole_rd false (V k) W (fun _ => rfl) (by have := HC.out; omega)
        have HZ : Hid (rdW s = (false, dig (V k), true)) := HW
        clear HW
        generalize dig (V k) = DV at *
        generalize szV (V k) = SV at *
        go_wp2_with (first | ((with_reducible refine load_sg HS.out ?_ ?_); exact rfl; simp only [Act.put, List.setIfInBounds_toArray, List.set_cons_succ, List.set_cons_zero]))
        refine (KW _).mono ?_
        rintro e w6 ⟨v6, rfl, g6, o6⟩
        have O6 := hid (Old.trans HO.out g6)
        have R6 := hid (HR.out.old g6)
        have hz6 := HR.out.lt
        have HO6 := hid o6
        obtain ⟨x4, m4, rfl⟩ := (Own.row o6).slice
        clear g6 o6
        have y0 := R6.out.c (i := 0) rfl
        have y1 := R6.out.c (i := 1) rfl
        have f0 := frozen_of_row _ _ 0 _ _ R6.out
        have f1 := frozen_of_row _ _ 1 _ _ R6.out
        go_wp2_with fail
        have q0 := (bk_put1W (bk_put0W R6.out (.bool false)) (.slice x4 (toI DV).length m4)).c (i := 0) rfl
        have q1 := (bk_put1W (bk_put0W R6.out (.bool false)) (.slice x4 (toI DV).length m4)).c (i := 1) rfl
        refine bodyPost_ret (v := .tuple #[.agg #[.bool false, .slice x4 (toI DV).length m4], .bool true]) (by simp [results, Tryd.results15, go_sem, q0, q1]) rfl ?_
        unfold RdA
        rw [HZ.out]
        refine ⟨_, rfl, (O6.out.own (p := ⟨w.heap.size, 0, none⟩) (Nat.le_refl _) _).own (p := ⟨w.heap.size, 1, none⟩) (Nat.le_refl _) _, ?_⟩
        refine Own.low (base := wr.heap.size) ?_ (Nat.le_of_lt hz6)
        unfold Own
        exact row_far HO6.out (fun b' hb' _ => (heap_setCell_other _ _ _ _ (by show b' ≠ w.heap.size; omega)).trans (heap_setCell_other _ _ _ _ (by show b' ≠ w.heap.size; omega)))
  · obtain rfl : z = false := hgz
    go_enter Tryd.func15, Tryd.ntmps15
    go_wp2_with fail
    refine (K1 _).mono ?_
    rintro e w1 ⟨rfl, g1⟩
    have O1 := hid (Old.trans HA.out g1)
    have R1 := hid (BR.out.old g1)
    clear g1
    go_wp2_with fail
    refine (K2 _).mono ?_
    rintro e w2 ⟨rfl, g2⟩
    have O2 := hid (Old.trans O1.out g2)
    have R2 := hid (R1.out.old g2)
    clear g2 O1 R1
    have S0 : Hid (Sg (w2.alloc (.cells Tryd.zeroCells50 50)) w2.heap.size Tryd.zeroCells50) := Sg.zero _ _ rfl
    have O3 : Hid (Old w (w2.alloc (.cells Tryd.zeroCells50 50))) := O2.out.alloc _
    have R3 : Hid (Bk (w2.alloc (.cells Tryd.zeroCells50 50)) w.heap.size #[.bool false, .slice none 0 0] 25) := R2.out.alloc _
    have lk : w.heap.size < w2.heap.size := R2.out.lt
    rw [← szV_zeroRd] at S0
    obtain ⟨kb, hkb⟩ : ∃ kb, w2.heap.size = kb := ⟨_, rfl⟩
    rw [hkb] at S0 lk
    clear O2 R2
    go_wp2_with fail
    go_loopw [26] (fun i W => ∃ k : Nat, k ≤ DS ∧ i = .int .i64 (k : Int) ∧ Hid (Old w W) ∧ Hid (Bk W w.heap.size #[.bool false, .slice none 0 0] 25) ∧ Hid (Sg W kb (szV (V k))) ∧ Hid (cnt (V k) ≤ 40)) (fun i _ => DS - (intOf i).toNat)
    case atStart => exact ⟨0, by omega, rfl, O3, R3, by rw [HV0.out]; exact S0, by rw [HV0.out]; exact (by decide : cnt 0 ≤ 40)⟩
    case round =>
      obtain ⟨k, hk, rfl, HO, HR, HS, HC⟩ := hrel
      clear O3 R3 S0 hkb
      by_cases hlt : k < DS
      · have d1 : decide ((k : Int) < (DS : Int)) = true := decide_eq_true (by omega)
        have d2 : decide (k < DS) = true := decide_eq_true hlt
        obtain ⟨b, hb1, hb2, hix, hVs⟩ := HDG.out k hlt
        have HVS : Hid (V (k + 1) = V k * 10 + (b - 48)) := hVs
        have HIX : Hid (∀ W, (Instr.index 9 (.string DD) (.int .i64 (k : Int))).run Tryd.prog W = .ok (.int .u8 (b : Int)) W) := hix
        obtain ⟨m, hm⟩ : ∃ m : Nat, b - 48 = m := ⟨_, rfl⟩
        have h8 : IntKind.u8.wrap ((b : Int) - 48) = (m : Int) := by simp only [IntKind.wrap_u8]; omega
        have hm9 : m ≤ 9 := by omega
        have hc2 : cnt (V k * 10 + m) ≤ 80 := cnt_stepRd HC.out hm9
        have hZ : Hid (Sq (szV (V k * 10 + m))) := sq_v hc2
        rw [hm] at HVS
        clear hVs hix hm hb1 hb2
        go_wp2_with fail
        refine reg_Rw wr DD k b m kb (szV (V k)) (szV (V k * 10 + m)) HS.out.blk HS.out.sq.1 hZ.out HIX.out h8 (by omega) (fun W _ => scaled_sz (V k) 10 m W (by have := HC.out; omega) (by omega) (by omega)) _ _ ?_ ?_ ?_ ?_ ?_
        iterate 4 (· exact rfl)
        intro us W q
        simp only [putAll, Act.put, slotRw, List.range, List.range.loop, List.map_cons, List.map_nil, List.getD_cons_zero, List.getD_cons_succ, List.setIfInBounds_toArray, List.set_cons_succ, List.set_cons_zero]
        have HO2 : Hid (Old w (W.setRow kb (szV (V k * 10 + m)))) := Old.row (Old.trans HO.out q) (by omega) _
        have HR2 : Hid (Bk (W.setRow kb (szV (V k * 10 + m))) w.heap.size #[.bool false, .slice none 0 0] 25) := (HR.out.old q).otherRow (by omega) _
        have HS2 : Hid (Sg (W.setRow kb (szV (V k * 10 + m))) kb (szV (V k * 10 + m))) := (HS.out.old q).row _ hZ.out
        have kc := sz_count HS2.out hc2
        clear q HIX h8 HO HR HS hZ
        by_cases h40 : cnt (V k * 10 + m) ≤ 40
        · have e1 : decide ((40 : Int) < (cnt (V k * 10 + m) : Int)) = false := decide_eq_false (by omega)
          have e2 : decide (40 < cnt (V k * 10 + m)) = false := decide_eq_false (by omega)
          have HS3 : Hid (Sg (W.setRow kb (szV (V k * 10 + m))) kb (szV (V (k + 1)))) := by rw [HVS.out]; exact HS2.out
          have HC2 : Hid (cnt (V (k + 1)) ≤ 40) := by rw [HVS.out]; exact h40
          clear HS2
          generalize cnt (V k * 10 + m) = C at *
          clear HVS h40 hc2
          generalize W.setRow kb (szV (V k * 10 + m)) = W5 at *
          go_wp2_with fail
          exact ⟨⟨k + 1, by omega, by go_num, HO2, HR2, HS3, HC2⟩, by simp [intOf]; omega⟩
        · have e1 : decide ((40 : Int) < (cnt (V k * 10 + m) : Int)) = true := decide_eq_true (by omega)
          have e2 : decide (40 < cnt (V k * 10 + m)) = true := decide_eq_true (by omega)
          have HB : Hid (rdW s = nought) := HBIG.out (k + 1) (by omega) (by rw [HVS.out]; omega)
          generalize cnt (V k * 10 + m) = C at *
          clear HVS h40 hc2
          generalize W.setRow kb (szV (V k * 10 + m)) = W5 at *
          have y0 := HR2.out.c (i := 0) rfl
          have y1 := HR2.out.c (i := 1) rfl
          have f0 := frozen_of_row _ _ 0 _ _ HR2.out
          have f1 := frozen_of_row _ _ 1 _ _ HR2.out
          go_wp2_with fail
          have q0 := (bk_put1W (bk_put0W HR2.out (.bool false)) (.slice none 0 0)).c (i := 0) rfl
          have q1 := (bk_put1W (bk_put0W HR2.out (.bool false)) (.slice none 0 0)).c (i := 1) rfl
          refine bodyPost_ret (v := .tuple #[.agg #[.bool false, .slice none 0 0], .bool false]) (by simp [results, Tryd.results15, go_sem, q0, q1]) rfl ?_
          unfold RdA
          rw [HB.out]
          exact ⟨_, rfl, (HO2.out.own (p := ⟨w.heap.size, 0, none⟩) (Nat.le_refl _) _).own (p := ⟨w.heap.size, 1, none⟩) (Nat.le_refl _) _, nil_ownRd _ _⟩
      · have d1 : decide ((k : Int) < (DS : Int)) = false := decide_eq_false (by omega)
        have d2 : decide (k < DS) = false := decide_eq_false hlt
        obtain rfl : k = DS := by omega
        have HW := HEND.out HC.out
        have KW := fun W => whole_rd true (V k) W HG0.out (by have := HC.out; omega)
        have HZ : Hid (rdW s = (true, dig (V k), true)) := HW
        clear HW
        generalize dig (V k) = DV at *
        generalize szV (V k) = SV at *
        go_wp2_with (first | ((with_reducible refine load_sg HS.out ?_ ?_); exact rfl; simp only [Act.put, List.setIfInBounds_toArray, List.set_cons_succ, List.set_cons_zero]))
        refine (KW _).mono ?_
        rintro e w6 ⟨v6, rfl, g6, o6⟩
        have O6 := hid (Old.trans HO.out g6)
        have R6 := hid (HR.out.old g6)
        have hz6 := HR.out.lt
        have HO6 := hid o6
        obtain ⟨x4, m4, rfl⟩ := (Own.row o6).slice
        clear g6 o6
        have y0 := R6.out.c (i := 0) rfl
        have y1 := R6.out.c (i := 1) rfl
        have f0 := frozen_of_row _ _ 0 _ _ R6.out
        have f1 := frozen_of_row _ _ 1 _ _ R6.out
        go_wp2_with fail
        have q0 := (bk_put1W (bk_put0W R6.out (.bool true)) (.slice x4 (toI DV).length m4)).c (i := 0) rfl
        have q1 := (bk_put1W (bk_put0W R6.out (.bool true)) (.slice x4 (toI DV).length m4)).c (i := 1) rfl
        refine bodyPost_ret (v := .tuple #[.agg #[.bool true, .slice x4 (toI DV).length m4], .bool true]) (by simp [results, Tryd.results15, go_sem, q0, q1]) rfl ?_
        unfold RdA
        rw [HZ.out]
        refine ⟨_, rfl, (O6.out.own (p := ⟨w.heap.size, 0, none⟩) (Nat.le_refl _) _).own (p := ⟨w.heap.size, 1, none⟩) (Nat.le_refl _) _, ?_⟩
        refine Own.low (base := wr.heap.size) ?_ (Nat.le_of_lt hz6)
        unfold Own
        exact row_far HO6.out (fun b' hb' _ => (heap_setCell_other _ _ _ _ (by show b' ≠ w.heap.size; omega)).trans (heap_setCell_other _ _ _ _ (by show b' ≠ w.heap.size; omega)))
end Go.Proofs.YtjedpceiimceoaaDoor
