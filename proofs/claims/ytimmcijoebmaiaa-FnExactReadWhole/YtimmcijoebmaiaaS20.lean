/- Proved: several texts in one: what each proves is said ahead of it. -/
import Derived.Test.YtimmcijoebmaiaaS08
import Derived.Test.YtimmcijoebmaiaaRdd
import Derived.Test.YtimmcijoebmaiaaSzg
import Derived.Test.YtimmcijoebmaiaaS14
import Derived.Test.YtimmcijoebmaiaaSzOut
import Derived.Test.YtimmcijoebmaiaaRegTwo
import Derived.Test.YtimmcijoebmaiaaS02
import Derived.Test.YtimmcijoebmaiaaDrw
import Derived.Test.YtimmcijoebmaiaaS10
import Derived.Test.YtimmcijoebmaiaaS00
/- Proved: the program's ReadWhole tells what a text is worth. -/
namespace Go.Proofs.Ytimmcijoebmaiaa
open Go.ChangeShapes Go.WideShapes Go.ChangeAt Go.RowKit
open M2
set_option linter.unusedVariables false
set_option linter.unusedSimpArgs false
theorem nil_ownRd (w : World) (base : Nat) : Own w base (.slice none 0 0) (toI []) := ⟨rfl, Or.inl ⟨rfl, rfl⟩⟩
theorem sz_count {W : World} {g n : Nat} (h : Sg W g (szV n)) (hc : cnt n ≤ 80) : W.cell? ⟨g, 80, none⟩ = some (.int .i64 (cnt n : Int)) := by
  rw [cell_of_row W g 80 _ _ (0, 0) h.blk]
  unfold szV
  exact szA_cnt (pad_len (by unfold cnt at hc; omega)) _
theorem cnt_stepRd {V m : Nat} (h : cnt V ≤ 40) (hm : m ≤ 9) : cnt (V * 10 + m) ≤ 80 := by
  have h1 : cnt (V + 1) ≤ 41 := cnt_add V 1 h (by decide)
  have h2 := cnt_mul (V + 1) 10
  have h3 : cnt 10 = 1 := by decide
  have h4 := cnt_mono (show V * 10 + m ≤ (V + 1) * 10 by omega)
  omega
def RdA (s : ByteArray) (w : World) (e : Ending) (w' : World) : Prop := ∃ v', e = .returned (.tuple #[.agg #[.bool (rdW s).1, v'], .bool (rdW s).2.2]) ∧ Old w w' ∧ Own w' w.heap.size v' (toI (rdW s).2.1)
theorem rdW_no {s : ByteArray} (h : ¬ (rdB s = true ∧ cnt (rdV (dgT s) (dgT s).size) ≤ 40)) : rdW s = nought := by
  unfold rdW
  rw [if_neg h]
theorem whole_rd (g : Bool) (V : Nat) (w : World) (h0 : V = 0 → g = false) (hc : cnt V ≤ 80) : Calls Try.prog 39 #[.bool g, .agg (szV V)] w fun e w' => ∃ v, e = .returned (.agg #[.bool g, v]) ∧ Old w w' ∧ Own w' w.heap.size v (toI (dig V)) := by
  by_cases h : V = 0
  · rw [h0 h, h]
    refine (whole_none false w).mono ?_
    rintro e w1 ⟨rfl, g1⟩
    refine ⟨_, rfl, g1, ?_⟩
    rw [dig_zero]
    exact nil_ownRd _ _
  · exact whole_some g V w h hc
theorem szV_zeroRd : szV 0 = Try.zeroCells45 := by
  rw [szZero]
  rfl
set_option maxRecDepth 100000 in
set_option maxHeartbeats 4000000 in
theorem impl_ReadWhole (s : ByteArray) (w : World) (hs : s.size ≤ 9223372036854775807) :
    Calls Try.prog 13 #[.string s] w (RdA s w) := by
  have K1 := fun W => cutPrefix_c s W hs
  have K2 := fun W => isNumeral_any (dgT s) W (Nat.le_trans (dgT_size s) hs)
  have HA : Hid (Old w (w.alloc (.cells #[.bool false, .slice none 0 0] 25))) := (Old.refl w).alloc _
  have BR : Hid (Bk (w.alloc (.cells #[.bool false, .slice none 0 0] 25)) w.heap.size #[.bool false, .slice none 0 0] 25) := Bk.new' w _ _ rfl
  have hds := Nat.le_trans (dgT_size s) hs
  cases hN : numB (dgT s)
  · have HB : Hid (rdW s = nought) := rdW_no (fun h => by have h1 := h.1; unfold rdB at h1; rw [hN] at h1; cases h1)
    rw [hN] at K2
    clear hN hds
    generalize dgT s = DD at K1 K2
    generalize sgB s = g at K1
    go_enter Try.func13, Try.ntmps13
    go_wp2_with fail
    refine (K1 _).mono ?_
    rintro e w1 ⟨rfl, g1⟩
    have O1 := hid (Old.trans HA.out g1)
    have R1 := hid (BR.out.old g1)
    clear g1
    go_wp2_with fail
    refine (K2 _).mono ?_
    rintro e w2 ⟨rfl, g2⟩
    have O2 := hid (Old.trans O1.out g2)
    have R2 := hid (R1.out.old g2)
    clear g2 O1 R1
    have y0 := R2.out.c (i := 0) rfl
    have y1 := R2.out.c (i := 1) rfl
    have f0 := frozen_of_row _ _ 0 _ _ R2.out
    have f1 := frozen_of_row _ _ 1 _ _ R2.out
    go_wp2_with fail
    have q0 := (bk_put1W (bk_put0W R2.out (.bool false)) (.slice none 0 0)).c (i := 0) rfl
    have q1 := (bk_put1W (bk_put0W R2.out (.bool false)) (.slice none 0 0)).c (i := 1) rfl
    refine bodyPost_ret (v := .tuple #[.agg #[.bool false, .slice none 0 0], .bool false]) (by simp [results, Try.results13, go_sem, q0, q1]) rfl ?_
    unfold RdA
    rw [HB.out]
    exact ⟨_, rfl, (O2.out.own (p := ⟨w.heap.size, 0, none⟩) (Nat.le_refl _) _).own (p := ⟨w.heap.size, 1, none⟩) (Nat.le_refl _) _, nil_ownRd _ _⟩
  obtain ⟨n1, n2, n3⟩ := numB_yes hN
  have hZ := toList_one (dgT s)
  cases hbd : (sgB s && ((dgT s).toList == [48]))
  rotate_left
  · have HB : Hid (rdW s = nought) := rdW_no (fun h => by have h1 := h.1; unfold rdB at h1; rw [hbd, hN] at h1; cases h1)
    rw [Bool.and_eq_true] at hbd
    have hz := hbd.2
    rw [hN] at K2
    rw [hbd.1] at K1
    clear hN hds hbd n1 n2 n3 hZ
    generalize dgT s = DD at K1 K2 hz
    go_enter Try.func13, Try.ntmps13
    go_wp2_with fail
    refine (K1 _).mono ?_
    rintro e w1 ⟨rfl, g1⟩
    have O1 := hid (Old.trans HA.out g1)
    have R1 := hid (BR.out.old g1)
    clear g1
    go_wp2_with fail
    refine (K2 _).mono ?_
    rintro e w2 ⟨rfl, g2⟩
    have O2 := hid (Old.trans O1.out g2)
    have R2 := hid (R1.out.old g2)
    clear g2 O1 R1
    have y0 := R2.out.c (i := 0) rfl
    have y1 := R2.out.c (i := 1) rfl
    have f0 := frozen_of_row _ _ 0 _ _ R2.out
    have f1 := frozen_of_row _ _ 1 _ _ R2.out
    go_wp2_with fail
    have q0 := (bk_put1W (bk_put0W R2.out (.bool false)) (.slice none 0 0)).c (i := 0) rfl
    have q1 := (bk_put1W (bk_put0W R2.out (.bool false)) (.slice none 0 0)).c (i := 1) rfl
    refine bodyPost_ret (v := .tuple #[.agg #[.bool false, .slice none 0 0], .bool false]) (by simp [results, Try.results13, go_sem, q0, q1]) rfl ?_
    unfold RdA
    rw [HB.out]
    exact ⟨_, rfl, (O2.out.own (p := ⟨w.heap.size, 0, none⟩) (Nat.le_refl _) _).own (p := ⟨w.heap.size, 1, none⟩) (Nat.le_refl _) _, nil_ownRd _ _⟩
  have hR : rdB s = true := by unfold rdB; rw [hN, hbd]; rfl
  have HEND : Hid (cnt (rdV (dgT s) (dgT s).size) ≤ 40 → rdW s = (sgB s, dig (rdV (dgT s) (dgT s).size), true)) := fun h => by
    unfold rdW
    rw [if_pos ⟨hR, h⟩]
  have HBIG : Hid (∀ k, k ≤ (dgT s).size → 40 < cnt (rdV (dgT s) k) → rdW s = nought) := fun k hk h => rdW_no (fun h2 => by have := cnt_mono (rdV_mono (dgT s) hk); omega)
  have HG0 : Hid (rdV (dgT s) (dgT s).size = 0 → sgB s = false) := rdB_zero hR
  have HDG : Hid (∀ k, k < (dgT s).size → ∃ b : Nat, 48 ≤ b ∧ b ≤ 57 ∧ (∀ W, (Instr.index 9 (.string (dgT s)) (.int .i64 (k : Int))).run Try.prog W = .ok (.int .u8 (b : Int)) W) ∧ rdV (dgT s) (k + 1) = rdV (dgT s) k * 10 + (b - 48)) := fun k hk => ⟨byt (dgT s) k, (n3 k hk).1, (n3 k hk).2, fun W => byt_ix (dgT s) k hk W, rfl⟩
  have HV0 : Hid (rdV (dgT s) 0 = 0) := rfl
  obtain ⟨z, hz⟩ : ∃ z, ((dgT s).toList == [48]) = z := ⟨_, rfl⟩
  rw [hN] at K2
  rw [hz] at hbd
  have hgz : (sgB s && z) = false := hbd
  clear hN hR n1 n2 n3 hZ hbd
  generalize hDS : (dgT s).size = DS at *
  generalize rdV (dgT s) = V at *
  generalize hDD : dgT s = DD at *
  generalize sgB s = g at *
  have HDS : Hid (DD.size = DS) := hDS
  clear hDD
  cases g
  · clear hgz hz
    go_enter Try.func13, Try.ntmps13
    go_wp2_with fail
    refine (K1 _).mono ?_
    rintro e w1 ⟨rfl, g1⟩
    have O1 := hid (Old.trans HA.out g1)
    have R1 := hid (BR.out.old g1)
    clear g1
    go_wp2_with fail
    refine (K2 _).mono ?_
    rintro e w2 ⟨rfl, g2⟩
    have O2 := hid (Old.trans O1.out g2)
    have R2 := hid (R1.out.old g2)
    clear g2 O1 R1
    have S0 : Hid (Sg (w2.alloc (.cells Try.zeroCells45 45)) w2.heap.size Try.zeroCells45) := Sg.zero _ _ rfl
    have O3 : Hid (Old w (w2.alloc (.cells Try.zeroCells45 45))) := O2.out.alloc _
    have R3 : Hid (Bk (w2.alloc (.cells Try.zeroCells45 45)) w.heap.size #[.bool false, .slice none 0 0] 25) := R2.out.alloc _
    have lk : w.heap.size < w2.heap.size := R2.out.lt
    rw [← szV_zeroRd] at S0
    obtain ⟨kb, hkb⟩ : ∃ kb, w2.heap.size = kb := ⟨_, rfl⟩
    rw [hkb] at S0 lk
    clear O2 R2
    go_wp2_with fail
    go_loopw [26] (fun i W => ∃ k : Nat, k ≤ DS ∧ i = .int .i64 (k : Int) ∧ Hid (Old w W) ∧ Hid (Bk W w.heap.size #[.bool false, .slice none 0 0] 25) ∧ Hid (Sg W kb (szV (V k))) ∧ Hid (cnt (V k) ≤ 40)) (fun i _ => DS - (intOf i).toNat)
    case atStart => exact ⟨0, by omega, rfl, O3, R3, by rw [HV0.out]; exact S0, by rw [HV0.out]; exact (by decide : cnt 0 ≤ 40)⟩
    case round =>
      obtain ⟨k, hk, rfl, HO, HR, HS, HC⟩ := hrel
      clear O3 R3 S0 hkb
      by_cases hlt : k < DS
      · have d1 : decide ((k : Int) < (DS : Int)) = true := decide_eq_true (by omega)
        have d2 : decide (k < DS) = true := decide_eq_true hlt
        obtain ⟨b, hb1, hb2, hix, hVs⟩ := HDG.out k hlt
        have HVS : Hid (V (k + 1) = V k * 10 + (b - 48)) := hVs
        have HIX : Hid (∀ W, (Instr.index 9 (.string DD) (.int .i64 (k : Int))).run Try.prog W = .ok (.int .u8 (b : Int)) W) := hix
        obtain ⟨m, hm⟩ : ∃ m : Nat, b - 48 = m := ⟨_, rfl⟩
        have h8 : IntKind.u8.wrap ((b : Int) - 48) = (m : Int) := by simp only [IntKind.wrap_u8]; omega
        have hm9 : m ≤ 9 := by omega
        have hc2 : cnt (V k * 10 + m) ≤ 80 := cnt_stepRd HC.out hm9
        have hZ : Hid (Sq (szV (V k * 10 + m))) := sq_v hc2
        rw [hm] at HVS
        clear hVs hix hm hb1 hb2
        go_wp2_with fail
        refine reg_Rw wr DD k b m kb (szV (V k)) (szV (V k * 10 + m)) HS.out.blk HS.out.sq.1 hZ.out HIX.out h8 (by omega) (fun W _ => scaled_sz (V k) 10 m W (by have := HC.out; omega) (by omega) (by omega)) _ _ ?_ ?_ ?_ ?_ ?_
        iterate 4 (· exact rfl)
        intro us W q
        simp only [putAll, Act.put, slotRw, List.range, List.range.loop, List.map_cons, List.map_nil, List.getD_cons_zero, List.getD_cons_succ, List.setIfInBounds_toArray, List.set_cons_succ, List.set_cons_zero]
        have HO2 : Hid (Old w (W.setRow kb (szV (V k * 10 + m)))) := Old.row (Old.trans HO.out q) (by omega) _
        have HR2 : Hid (Bk (W.setRow kb (szV (V k * 10 + m))) w.heap.size #[.bool false, .slice none 0 0] 25) := (HR.out.old q).otherRow (by omega) _
        have HS2 : Hid (Sg (W.setRow kb (szV (V k * 10 + m))) kb (szV (V k * 10 + m))) := (HS.out.old q).row _ hZ.out
        have kc := sz_count HS2.out hc2
        clear q HIX h8 HO HR HS hZ
        by_cases h40 : cnt (V k * 10 + m) ≤ 40
        · have e1 : decide ((40 : Int) < (cnt (V k * 10 + m) : Int)) = false := decide_eq_false (by omega)
          have e2 : decide (40 < cnt (V k * 10 + m)) = false := decide_eq_false (by omega)
          have HS3 : Hid (Sg (W.setRow kb (szV (V k * 10 + m))) kb (szV (V (k + 1)))) := by rw [HVS.out]; exact HS2.out
          have HC2 : Hid (cnt (V (k + 1)) ≤ 40) := by rw [HVS.out]; exact h40
          clear HS2
          generalize cnt (V k * 10 + m) = C at *
          clear HVS h40 hc2
          generalize W.setRow kb (szV (V k * 10 + m)) = W5 at *
          go_wp2_with fail
          exact ⟨⟨k + 1, by omega, by go_num, HO2, HR2, HS3, HC2⟩, by simp [intOf]; omega⟩
        · have e1 : decide ((40 : Int) < (cnt (V k * 10 + m) : Int)) = true := decide_eq_true (by omega)
          have e2 : decide (40 < cnt (V k * 10 + m)) = true := decide_eq_true (by omega)
          have HB : Hid (rdW s = nought) := HBIG.out (k + 1) (by omega) (by rw [HVS.out]; omega)
          generalize cnt (V k * 10 + m) = C at *
          clear HVS h40 hc2
          generalize W.setRow kb (szV (V k * 10 + m)) = W5 at *
          have y0 := HR2.out.c (i := 0) rfl
          have y1 := HR2.out.c (i := 1) rfl
          have f0 := frozen_of_row _ _ 0 _ _ HR2.out
          have f1 := frozen_of_row _ _ 1 _ _ HR2.out
          go_wp2_with fail
          have q0 := (bk_put1W (bk_put0W HR2.out (.bool false)) (.slice none 0 0)).c (i := 0) rfl
          have q1 := (bk_put1W (bk_put0W HR2.out (.bool false)) (.slice none 0 0)).c (i := 1) rfl
          refine bodyPost_ret (v := .tuple #[.agg #[.bool false, .slice none 0 0], .bool false]) (by simp [results, Try.results13, go_sem, q0, q1]) rfl ?_
          unfold RdA
          rw [HB.out]
          exact ⟨_, rfl, (HO2.out.own (p := ⟨w.heap.size, 0, none⟩) (Nat.le_refl _) _).own (p := ⟨w.heap.size, 1, none⟩) (Nat.le_refl _) _, nil_ownRd _ _⟩
      · have d1 : decide ((k : Int) < (DS : Int)) = false := decide_eq_false (by omega)
        have d2 : decide (k < DS) = false := decide_eq_false hlt
        obtain rfl : k = DS := by omega
        have HW := HEND.out HC.out
        have KW := fun W => whole_rd false (V k) W (fun _ => rfl) (by have := HC.out; omega)
        have HZ : Hid (rdW s = (false, dig (V k), true)) := HW
        clear HW
        generalize dig (V k) = DV at *
        generalize szV (V k) = SV at *
        go_wp2_with (first | ((with_reducible refine load_sg HS.out ?_ ?_); exact rfl; simp only [Act.put, List.setIfInBounds_toArray, List.set_cons_succ, List.set_cons_zero]))
        refine (KW _).mono ?_
        rintro e w6 ⟨v6, rfl, g6, o6⟩
        have O6 := hid (Old.trans HO.out g6)
        have R6 := hid (HR.out.old g6)
        have hz6 := HR.out.lt
        have HO6 := hid o6
        obtain ⟨x4, m4, rfl⟩ := (Own.row o6).slice
        clear g6 o6
        have y0 := R6.out.c (i := 0) rfl
        have y1 := R6.out.c (i := 1) rfl
        have f0 := frozen_of_row _ _ 0 _ _ R6.out
        have f1 := frozen_of_row _ _ 1 _ _ R6.out
        go_wp2_with fail
        have q0 := (bk_put1W (bk_put0W R6.out (.bool false)) (.slice x4 (toI DV).length m4)).c (i := 0) rfl
        have q1 := (bk_put1W (bk_put0W R6.out (.bool false)) (.slice x4 (toI DV).length m4)).c (i := 1) rfl
        refine bodyPost_ret (v := .tuple #[.agg #[.bool false, .slice x4 (toI DV).length m4], .bool true]) (by simp [results, Try.results13, go_sem, q0, q1]) rfl ?_
        unfold RdA
        rw [HZ.out]
        refine ⟨_, rfl, (O6.out.own (p := ⟨w.heap.size, 0, none⟩) (Nat.le_refl _) _).own (p := ⟨w.heap.size, 1, none⟩) (Nat.le_refl _) _, ?_⟩
        refine Own.low (base := wr.heap.size) ?_ (Nat.le_of_lt hz6)
        unfold Own
        exact row_far HO6.out (fun b' hb' _ => (heap_setCell_other _ _ _ _ (by show b' ≠ w.heap.size; omega)).trans (heap_setCell_other _ _ _ _ (by show b' ≠ w.heap.size; omega)))
  · obtain rfl : z = false := hgz
    go_enter Try.func13, Try.ntmps13
    go_wp2_with fail
    refine (K1 _).mono ?_
    rintro e w1 ⟨rfl, g1⟩
    have O1 := hid (Old.trans HA.out g1)
    have R1 := hid (BR.out.old g1)
    clear g1
    go_wp2_with fail
    refine (K2 _).mono ?_
    rintro e w2 ⟨rfl, g2⟩
    have O2 := hid (Old.trans O1.out g2)
    have R2 := hid (R1.out.old g2)
    clear g2 O1 R1
    have S0 : Hid (Sg (w2.alloc (.cells Try.zeroCells45 45)) w2.heap.size Try.zeroCells45) := Sg.zero _ _ rfl
    have O3 : Hid (Old w (w2.alloc (.cells Try.zeroCells45 45))) := O2.out.alloc _
    have R3 : Hid (Bk (w2.alloc (.cells Try.zeroCells45 45)) w.heap.size #[.bool false, .slice none 0 0] 25) := R2.out.alloc _
    have lk : w.heap.size < w2.heap.size := R2.out.lt
    rw [← szV_zeroRd] at S0
    obtain ⟨kb, hkb⟩ : ∃ kb, w2.heap.size = kb := ⟨_, rfl⟩
    rw [hkb] at S0 lk
    clear O2 R2
    go_wp2_with fail
    go_loopw [26] (fun i W => ∃ k : Nat, k ≤ DS ∧ i = .int .i64 (k : Int) ∧ Hid (Old w W) ∧ Hid (Bk W w.heap.size #[.bool false, .slice none 0 0] 25) ∧ Hid (Sg W kb (szV (V k))) ∧ Hid (cnt (V k) ≤ 40)) (fun i _ => DS - (intOf i).toNat)
    case atStart => exact ⟨0, by omega, rfl, O3, R3, by rw [HV0.out]; exact S0, by rw [HV0.out]; exact (by decide : cnt 0 ≤ 40)⟩
    case round =>
      obtain ⟨k, hk, rfl, HO, HR, HS, HC⟩ := hrel
      clear O3 R3 S0 hkb
      by_cases hlt : k < DS
      · have d1 : decide ((k : Int) < (DS : Int)) = true := decide_eq_true (by omega)
        have d2 : decide (k < DS) = true := decide_eq_true hlt
        obtain ⟨b, hb1, hb2, hix, hVs⟩ := HDG.out k hlt
        have HVS : Hid (V (k + 1) = V k * 10 + (b - 48)) := hVs
        have HIX : Hid (∀ W, (Instr.index 9 (.string DD) (.int .i64 (k : Int))).run Try.prog W = .ok (.int .u8 (b : Int)) W) := hix
        obtain ⟨m, hm⟩ : ∃ m : Nat, b - 48 = m := ⟨_, rfl⟩
        have h8 : IntKind.u8.wrap ((b : Int) - 48) = (m : Int) := by simp only [IntKind.wrap_u8]; omega
        have hm9 : m ≤ 9 := by omega
        have hc2 : cnt (V k * 10 + m) ≤ 80 := cnt_stepRd HC.out hm9
        have hZ : Hid (Sq (szV (V k * 10 + m))) := sq_v hc2
        rw [hm] at HVS
        clear hVs hix hm hb1 hb2
        go_wp2_with fail
        refine reg_Rw wr DD k b m kb (szV (V k)) (szV (V k * 10 + m)) HS.out.blk HS.out.sq.1 hZ.out HIX.out h8 (by omega) (fun W _ => scaled_sz (V k) 10 m W (by have := HC.out; omega) (by omega) (by omega)) _ _ ?_ ?_ ?_ ?_ ?_
        iterate 4 (· exact rfl)
        intro us W q
        simp only [putAll, Act.put, slotRw, List.range, List.range.loop, List.map_cons, List.map_nil, List.getD_cons_zero, List.getD_cons_succ, List.setIfInBounds_toArray, List.set_cons_succ, List.set_cons_zero]
        have HO2 : Hid (Old w (W.setRow kb (szV (V k * 10 + m)))) := Old.row (Old.trans HO.out q) (by omega) _
        have HR2 : Hid (Bk (W.setRow kb (szV (V k * 10 + m))) w.heap.size #[.bool false, .slice none 0 0] 25) := (HR.out.old q).otherRow (by omega) _
        have HS2 : Hid (Sg (W.setRow kb (szV (V k * 10 + m))) kb (szV (V k * 10 + m))) := (HS.out.old q).row _ hZ.out
        have kc := sz_count HS2.out hc2
        clear q HIX h8 HO HR HS hZ
        by_cases h40 : cnt (V k * 10 + m) ≤ 40
        · have e1 : decide ((40 : Int) < (cnt (V k * 10 + m) : Int)) = false := decide_eq_false (by omega)
          have e2 : decide (40 < cnt (V k * 10 + m)) = false := decide_eq_false (by omega)
          have HS3 : Hid (Sg (W.setRow kb (szV (V k * 10 + m))) kb (szV (V (k + 1)))) := by rw [HVS.out]; exact HS2.out
          have HC2 : Hid (cnt (V (k + 1)) ≤ 40) := by rw [HVS.out]; exact h40
          clear HS2
          generalize cnt (V k * 10 + m) = C at *
          clear HVS h40 hc2
          generalize W.setRow kb (szV (V k * 10 + m)) = W5 at *
          go_wp2_with fail
          exact ⟨⟨k + 1, by omega, by go_num, HO2, HR2, HS3, HC2⟩, by simp [intOf]; omega⟩
        · have e1 : decide ((40 : Int) < (cnt (V k * 10 + m) : Int)) = true := decide_eq_true (by omega)
          have e2 : decide (40 < cnt (V k * 10 + m)) = true := decide_eq_true (by omega)
          have HB : Hid (rdW s = nought) := HBIG.out (k + 1) (by omega) (by rw [HVS.out]; omega)
          generalize cnt (V k * 10 + m) = C at *
          clear HVS h40 hc2
          generalize W.setRow kb (szV (V k * 10 + m)) = W5 at *
          have y0 := HR2.out.c (i := 0) rfl
          have y1 := HR2.out.c (i := 1) rfl
          have f0 := frozen_of_row _ _ 0 _ _ HR2.out
          have f1 := frozen_of_row _ _ 1 _ _ HR2.out
          go_wp2_with fail
          have q0 := (bk_put1W (bk_put0W HR2.out (.bool false)) (.slice none 0 0)).c (i := 0) rfl
          have q1 := (bk_put1W (bk_put0W HR2.out (.bool false)) (.slice none 0 0)).c (i := 1) rfl
          refine bodyPost_ret (v := .tuple #[.agg #[.bool false, .slice none 0 0], .bool false]) (by simp [results, Try.results13, go_sem, q0, q1]) rfl ?_
          unfold RdA
          rw [HB.out]
          exact ⟨_, rfl, (HO2.out.own (p := ⟨w.heap.size, 0, none⟩) (Nat.le_refl _) _).own (p := ⟨w.heap.size, 1, none⟩) (Nat.le_refl _) _, nil_ownRd _ _⟩
      · have d1 : decide ((k : Int) < (DS : Int)) = false := decide_eq_false (by omega)
        have d2 : decide (k < DS) = false := decide_eq_false hlt
        obtain rfl : k = DS := by omega
        have HW := HEND.out HC.out
        have KW := fun W => whole_rd true (V k) W HG0.out (by have := HC.out; omega)
        have HZ : Hid (rdW s = (true, dig (V k), true)) := HW
        clear HW
        generalize dig (V k) = DV at *
        generalize szV (V k) = SV at *
        go_wp2_with (first | ((with_reducible refine load_sg HS.out ?_ ?_); exact rfl; simp only [Act.put, List.setIfInBounds_toArray, List.set_cons_succ, List.set_cons_zero]))
        refine (KW _).mono ?_
        rintro e w6 ⟨v6, rfl, g6, o6⟩
        have O6 := hid (Old.trans HO.out g6)
        have R6 := hid (HR.out.old g6)
        have hz6 := HR.out.lt
        have HO6 := hid o6
        obtain ⟨x4, m4, rfl⟩ := (Own.row o6).slice
        clear g6 o6
        have y0 := R6.out.c (i := 0) rfl
        have y1 := R6.out.c (i := 1) rfl
        have f0 := frozen_of_row _ _ 0 _ _ R6.out
        have f1 := frozen_of_row _ _ 1 _ _ R6.out
        go_wp2_with fail
        have q0 := (bk_put1W (bk_put0W R6.out (.bool true)) (.slice x4 (toI DV).length m4)).c (i := 0) rfl
        have q1 := (bk_put1W (bk_put0W R6.out (.bool true)) (.slice x4 (toI DV).length m4)).c (i := 1) rfl
        refine bodyPost_ret (v := .tuple #[.agg #[.bool true, .slice x4 (toI DV).length m4], .bool true]) (by simp [results, Try.results13, go_sem, q0, q1]) rfl ?_
        unfold RdA
        rw [HZ.out]
        refine ⟨_, rfl, (O6.out.own (p := ⟨w.heap.size, 0, none⟩) (Nat.le_refl _) _).own (p := ⟨w.heap.size, 1, none⟩) (Nat.le_refl _) _, ?_⟩
        refine Own.low (base := wr.heap.size) ?_ (Nat.le_of_lt hz6)
        unfold Own
        exact row_far HO6.out (fun b' hb' _ => (heap_setCell_other _ _ _ _ (by show b' ≠ w.heap.size; omega)).trans (heap_setCell_other _ _ _ _ (by show b' ≠ w.heap.size; omega)))
end Go.Proofs.Ytimmcijoebmaiaa
/- Proved: the model's ReadWhole tells what a text is worth. -/
namespace Go.Proofs.Ytimmcijoebmaiaa
open Go.ChangeShapes Go.WideShapes Go.ChangeAt Go.RowKit
open M2
set_option linter.unusedVariables false
set_option linter.unusedSimpArgs false
def RwV (n : Nat) (W : World) (v : Value) : Prop := ∃ a c, v = .slice a (dig n).length c ∧ Row W (.slice a (dig n).length c) (toI (dig n))
theorem RwV.old {n : Nat} {W W' : World} {v : Value} (h : RwV n W v) (q : Old W W') : RwV n W' v := by
  obtain ⟨a, c, e, r⟩ := h
  exact ⟨a, c, e, r.old q⟩
theorem RwV.row {n : Nat} {W : World} {v : Value} (h : RwV n W v) : Row W v (toI (dig n)) := by
  obtain ⟨a, c, e, r⟩ := h
  rw [e]
  exact r
theorem RwV.own {n base : Nat} {W : World} {v : Value} (h : Own W base v (toI (dig n))) : RwV n W v := by
  obtain ⟨a, c, e⟩ := (Own.row h).sliceN
  exact ⟨a, c, e, by rw [← e]; exact Own.row h⟩
theorem rwV_ten (W : World) : RwV 10 (W.alloc (.cells #[.int .i64 10] 3)) (.slice (some ⟨W.heap.size, 0, none⟩) 1 1) := by
  have e : dig 10 = [10] := by decide
  refine ⟨some ⟨W.heap.size, 0, none⟩, 1, by rw [e]; rfl, ?_⟩
  rw [e]
  exact row_lit3 W [10] (by decide) 3
theorem dig_tenRd {V : Nat} (h : (dig V).length ≤ 1048000) : (dig (V * 10)).length ≤ 1048576 := by
  have h5 := cnt_mul V 10
  have h6 : cnt 10 = 1 := by decide
  unfold cnt at h5 h6
  omega
theorem dig_nineRd {m : Nat} (h : m ≤ 9) : (dig m).length ≤ 1048576 := by
  have h5 := cnt_mono h
  have h6 : cnt 9 = 1 := by decide
  unfold cnt at h5 h6
  omega
theorem rdV_cntJ {D : ByteArray} {n : Nat} (h : ∀ j, j < n → 48 ≤ byt D j ∧ byt D j ≤ 57) : ∀ k, k ≤ n → rdV D k < LB ^ k
  | 0, _ => by
    show 0 < 1
    omega
  | k + 1, hk => by
    have h1 := rdV_cntJ h k (by omega)
    have h2 := h k (by omega)
    show rdV D k * 10 + (byt D k - 48) < LB ^ (k + 1)
    rw [Nat.pow_succ]
    have h3 : (rdV D k + 1) * LB ≤ LB ^ k * LB := Nat.mul_le_mul_right _ h1
    have h4 : (rdV D k + 1) * 268435456 = (rdV D k + 1) * LB := rfl
    omega
theorem numB_no0 {D : ByteArray} (h : D.size = 0) : numB D = false := by
  unfold numB
  rw [decide_eq_false (by omega)]
  rfl
theorem numB_noD {D : ByteArray} {k : Nat} (hk : k < D.size) (h : ¬ (48 ≤ byt D k ∧ byt D k ≤ 57)) : numB D = false := by
  cases hN : numB D
  · rfl
  · exact absurd ((numB_yes hN).2.2 k hk) h
theorem allDg_of (s : ByteArray) (h : ∀ k, k < s.size → 48 ≤ byt s k ∧ byt s k ≤ 57) : ∀ n, n ≤ s.size → allDg s n = true
  | 0, _ => rfl
  | n + 1, hn => by
    show (isDg (byt s (s.size - (n + 1))) && allDg s n) = true
    rw [allDg_of s h n (by omega), Bool.and_true]
    unfold isDg
    rw [decide_eq_true (h _ (by omega)).1, decide_eq_true (h _ (by omega)).2]
    rfl
theorem numB_of {D : ByteArray} (h0 : 0 < D.size) (h1 : byt D 0 = 48 → D.size = 1) (h : ∀ k, k < D.size → 48 ≤ byt D k ∧ byt D k ≤ 57) : numB D = true := by
  unfold numB
  rw [allDg_of D h D.size (Nat.le_refl _), decide_eq_true h0]
  by_cases h2 : byt D 0 = 48
  · rw [decide_eq_false (show ¬ 1 < D.size by have := h1 h2; omega)]
    simp
  · rw [show (byt D 0 == 48) = false by simpa using h2]
    rfl
theorem nought_num {s : ByteArray} (h : numB (dgT s) = false) : rdW s = nought := rdW_no (fun h2 => by have h1 := h2.1; unfold rdB at h1; rw [h] at h1; cases h1)
set_option maxRecDepth 100000 in
set_option maxHeartbeats 8000000 in
theorem spec_rd_false (s : ByteArray) (DS : Nat) (B V : Nat → Nat) (w : World) (hs0 : 0 < s.size) (hs : s.size ≤ 1048576) (hDS : s.size = DS) (h45 : B 0 ≠ 45)
    (hix : ∀ k : Nat, k < DS → ∀ W, (Instr.index 9 (.string s) (.int .i64 (k : Int))).run Try.prog W = .ok (.int .u8 ((B k : Nat) : Int)) W)
    (hst : ∀ k, V (k + 1) = V k * 10 + (B k - 48)) (hv0 : V 0 = 0) (hdg : ∀ k, k < DS → ¬ (48 ≤ B k ∧ B k ≤ 57) → rdW s = nought) (hbig : 40 < (dig (V DS)).length → rdW s = nought)
    (hcl : DS ≤ 480 → ∀ k, k ≤ DS → (∀ j, j < k → 48 ≤ B j ∧ B j ≤ 57) → (dig (V k)).length ≤ 1048000)
    (hend : 0 < DS → ¬ (B 0 = 48 ∧ (1 < DS ∨ false = true)) → (∀ j, j < DS → 48 ≤ B j ∧ B j ≤ 57) → (dig (V DS)).length ≤ 40 → rdW s = (false, dig (V DS), true))
    (hb1 : DS = 0 → rdW s = nought) (hb2 : 480 < DS → rdW s = nought) (hb3 : B 0 = 48 → 1 < DS → rdW s = nought) (hb4 : false = true → B 0 = 48 → rdW s = nought) :
    Calls Try.prog 12 #[.string s] w (RdA s w) := by
  have HA : Hid (Old w (w.alloc (.cells #[.bool false, .slice none 0 0] 25))) := (Old.refl w).alloc _
  have BR : Hid (Bk (w.alloc (.cells #[.bool false, .slice none 0 0] 25)) w.heap.size #[.bool false, .slice none 0 0] 25) := Bk.new' w _ _ rfl
  have hds : DS ≤ 1048576 := by
    rw [← hDS]
    exact hs
  have p0 : decide ((0 : Int) < (s.size : Int)) = true := decide_eq_true (by omega)
  have p1 : decide (0 < s.size) = true := decide_eq_true hs0
  have hI0 : ∀ W, (Instr.index 9 (.string s) (.int .i64 0)).run Try.prog W = .ok (.int .u8 ((B 0 : Nat) : Int)) W := fun W => hix 0 (by omega) W
  have e45 : (((B 0 : Nat) : Int) == 45) = false := by simp; omega
  rw [hDS] at p0 p1 hs0 hs
  by_cases z0 : DS = 0
  · have HB : Hid (rdW s = nought) := hb1 z0
    have q1 : decide ((DS : Int) < 1) = true := decide_eq_true (by omega)
    have q2 : decide (DS < 1) = true := decide_eq_true (by omega)
    clear z0 hix hst hv0 hdg hbig hcl hend hb1 hb2 hb3 hb4
    go_enter Try.func12, Try.ntmps12
    have y0 := BR.out.c (i := 0) rfl
    have y1 := BR.out.c (i := 1) rfl
    have f0 := frozen_of_row _ _ 0 _ _ BR.out
    have f1 := frozen_of_row _ _ 1 _ _ BR.out
    go_wp2_with fail
    refine bodyPost_ret (v := .tuple #[.agg #[.bool false, .slice none 0 0], .bool false]) (by simp [results, Try.results12, go_sem, y0, y1]) rfl ?_
    unfold RdA
    rw [HB.out]
    exact ⟨_, rfl, HA.out, nil_ownRd _ _⟩
  have q1 : decide ((DS : Int) < 1) = false := decide_eq_false (by omega)
  have q2 : decide (DS < 1) = false := decide_eq_false (by omega)
  by_cases z1 : 480 < DS
  · have HB : Hid (rdW s = nought) := hb2 z1
    have q3 : decide ((480 : Int) < (DS : Int)) = true := decide_eq_true (by omega)
    have q4 : decide (480 < DS) = true := decide_eq_true z1
    clear hix hst hv0 hdg hbig hcl hend hb1 hb2 hb3 hb4
    go_enter Try.func12, Try.ntmps12
    have y0 := BR.out.c (i := 0) rfl
    have y1 := BR.out.c (i := 1) rfl
    have f0 := frozen_of_row _ _ 0 _ _ BR.out
    have f1 := frozen_of_row _ _ 1 _ _ BR.out
    go_wp2_with fail
    refine bodyPost_ret (v := .tuple #[.agg #[.bool false, .slice none 0 0], .bool false]) (by simp [results, Try.results12, go_sem, y0, y1]) rfl ?_
    unfold RdA
    rw [HB.out]
    exact ⟨_, rfl, HA.out, nil_ownRd _ _⟩
  have q3 : decide ((480 : Int) < (DS : Int)) = false := decide_eq_false (by omega)
  have q4 : decide (480 < DS) = false := decide_eq_false z1
  have hJ0 : ∀ W, (Instr.index 9 (.string s) (.int .i64 0)).run Try.prog W = .ok (.int .u8 ((B 0 : Nat) : Int)) W := fun W => hix 0 (by omega) W
  have HIX : Hid (∀ k : Nat, k < DS → ∀ W, (Instr.index 9 (.string s) (.int .i64 (k : Int))).run Try.prog W = .ok (.int .u8 ((B k : Nat) : Int)) W) := hix
  have HST : Hid (∀ k, V (k + 1) = V k * 10 + (B k - 48)) := hst
  have HV0 : Hid (V 0 = 0) := hv0
  have HDG : Hid (∀ k, k < DS → ¬ (48 ≤ B k ∧ B k ≤ 57) → rdW s = nought) := hdg
  have HBIG : Hid (40 < (dig (V DS)).length → rdW s = nought) := hbig
  have HCL : Hid (∀ k, k ≤ DS → (∀ j, j < k → 48 ≤ B j ∧ B j ≤ 57) → (dig (V k)).length ≤ 1048000) := hcl (by omega)
  have HEN : Hid (¬ (B 0 = 48 ∧ (1 < DS ∨ false = true)) → (∀ j, j < DS → 48 ≤ B j ∧ B j ≤ 57) → (dig (V DS)).length ≤ 40 → rdW s = (false, dig (V DS), true)) := hend (by omega)
  clear hix hst hv0 hdg hbig hcl hend hb1 hb2
  by_cases z2 : B 0 = 48
  · have e48 : (((B 0 : Nat) : Int) == 48) = true := by rw [z2]; rfl
    by_cases z3 : 1 < DS
    · have HB : Hid (rdW s = nought) := hb3 z2 z3
      have q5 : decide ((1 : Int) < (DS : Int)) = true := decide_eq_true (by omega)
      have q6 : decide (1 < DS) = true := decide_eq_true z3
      clear HIX HST HV0 HDG HBIG HCL HEN hb3 hb4
      generalize B 0 = B0 at *
      clear z2
      go_enter Try.func12, Try.ntmps12
      have y0 := BR.out.c (i := 0) rfl
      have y1 := BR.out.c (i := 1) rfl
      have f0 := frozen_of_row _ _ 0 _ _ BR.out
      have f1 := frozen_of_row _ _ 1 _ _ BR.out
      go_wp2_with fail
      refine bodyPost_ret (v := .tuple #[.agg #[.bool false, .slice none 0 0], .bool false]) (by simp [results, Try.results12, go_sem, y0, y1]) rfl ?_
      unfold RdA
      rw [HB.out]
      exact ⟨_, rfl, HA.out, nil_ownRd _ _⟩
    have q5 : decide ((1 : Int) < (DS : Int)) = false := decide_eq_false (by omega)
    have q6 : decide (1 < DS) = false := decide_eq_false z3
    have HEND : Hid ((∀ j, j < DS → 48 ≤ B j ∧ B j ≤ 57) → (dig (V DS)).length ≤ 40 → rdW s = (false, dig (V DS), true)) := HEN.out (fun h => h.2.elim z3 (fun h1 => by cases h1))
    clear HEN hb3 hb4 z2 z1
    go_enter Try.func12, Try.ntmps12
    go_wp2_with fail
    go_loopw [7, 6] (fun i nv W => ∃ (k : Nat) (a : Option Addr) (c : Nat), k ≤ DS ∧ i = .int .i64 (k : Int) ∧ nv = .slice a (dig (V k)).length c ∧ Hid (Old w W) ∧ Hid (Bk W w.heap.size #[.bool false, .slice none 0 0] 25) ∧ Hid (Row W (.slice a (dig (V k)).length c) (toI (dig (V k)))) ∧ Hid (∀ j, j < k → 48 ≤ B j ∧ B j ≤ 57)) (fun i _ _ => DS - (intOf i).toNat)
    case atStart => exact ⟨0, none, 0, by omega, rfl, by rw [HV0.out]; rfl, HA, BR, by rw [HV0.out]; exact .inl ⟨_, _, rfl, rfl⟩, fun j hj => by omega⟩
    case round =>
      obtain ⟨k, na, nc, hk, rfl, rfl, HO, HR, HN, HJ⟩ := hrel
      clear HA BR
      by_cases hlt : k < DS
      · have d1 : decide ((k : Int) < (DS : Int)) = true := decide_eq_true (by omega)
        have d2 : decide (k < DS) = true := decide_eq_true hlt
        have hix := HIX.out k hlt
        have HVS : Hid (V (k + 1) = V k * 10 + (B k - 48)) := HST.out k
        have hcl := HCL.out k (by omega) HJ.out
        have HBN : Hid (¬ (48 ≤ B k ∧ B k ≤ 57) → rdW s = nought) := HDG.out k hlt
        have HJ2 : Hid ((48 ≤ B k ∧ B k ≤ 57) → ∀ j, j < k + 1 → 48 ≤ B j ∧ B j ≤ 57) := fun h j hj => by
              rcases Nat.lt_or_ge j k with h1 | h1
              · exact HJ.out j h1
              · rw [show j = k by omega]; exact h
        obtain ⟨b, hb⟩ : ∃ b, B k = b := ⟨_, rfl⟩
        rw [hb] at hix HVS HBN HJ2
        clear hb HJ
        by_cases hb1 : b < 48
        · have HB : Hid (rdW s = nought) := HBN.out (by omega)
          have e1 : decide ((b : Int) < 48) = true := decide_eq_true (by omega)
          have n1 : decide (b < 48) = true := decide_eq_true hb1
          clear HBN HJ2 HVS
          have y0 := HR.out.c (i := 0) rfl
          have y1 := HR.out.c (i := 1) rfl
          have f0 := frozen_of_row _ _ 0 _ _ HR.out
          have f1 := frozen_of_row _ _ 1 _ _ HR.out
          go_wp2_with fail
          have q0 := (bk_put1W (bk_put0W HR.out (.bool false)) (.slice none 0 0)).c (i := 0) rfl
          have q1 := (bk_put1W (bk_put0W HR.out (.bool false)) (.slice none 0 0)).c (i := 1) rfl
          refine bodyPost_ret (v := .tuple #[.agg #[.bool false, .slice none 0 0], .bool false]) (by simp [results, Try.results12, go_sem, q0, q1]) rfl ?_
          unfold RdA
          rw [HB.out]
          exact ⟨_, rfl, (HO.out.own (p := ⟨w.heap.size, 0, none⟩) (Nat.le_refl _) _).own (p := ⟨w.heap.size, 1, none⟩) (Nat.le_refl _) _, nil_ownRd _ _⟩
        have e1 : decide ((b : Int) < 48) = false := decide_eq_false (by omega)
        have n1 : decide (b < 48) = false := decide_eq_false hb1
        by_cases hb2 : 57 < b
        · have HB : Hid (rdW s = nought) := HBN.out (by omega)
          have e2 : decide ((57 : Int) < (b : Int)) = true := decide_eq_true (by omega)
          have n2 : decide (57 < b) = true := decide_eq_true hb2
          clear HBN HJ2 HVS
          have y0 := HR.out.c (i := 0) rfl
          have y1 := HR.out.c (i := 1) rfl
          have f0 := frozen_of_row _ _ 0 _ _ HR.out
          have f1 := frozen_of_row _ _ 1 _ _ HR.out
          go_wp2_with fail
          have q0 := (bk_put1W (bk_put0W HR.out (.bool false)) (.slice none 0 0)).c (i := 0) rfl
          have q1 := (bk_put1W (bk_put0W HR.out (.bool false)) (.slice none 0 0)).c (i := 1) rfl
          refine bodyPost_ret (v := .tuple #[.agg #[.bool false, .slice none 0 0], .bool false]) (by simp [results, Try.results12, go_sem, q0, q1]) rfl ?_
          unfold RdA
          rw [HB.out]
          exact ⟨_, rfl, (HO.out.own (p := ⟨w.heap.size, 0, none⟩) (Nat.le_refl _) _).own (p := ⟨w.heap.size, 1, none⟩) (Nat.le_refl _) _, nil_ownRd _ _⟩
        have e2 : decide ((57 : Int) < (b : Int)) = false := decide_eq_false (by omega)
        have n2 : decide (57 < b) = false := decide_eq_false hb2
        have HJ3 := hid (HJ2.out ⟨by omega, by omega⟩)
        obtain ⟨m, hm⟩ : ∃ m : Nat, b - 48 = m := ⟨_, rfl⟩
        have h8 : IntKind.u8.wrap ((b : Int) - 48) = (m : Int) := by simp only [IntKind.wrap_u8]; omega
        have hm9 : m ≤ 9 := by omega
        rw [hm] at HVS
        clear hm HBN HJ2
        have HIX1 := hid hix
        have KM : ∀ W, Old wr W → ∀ u, RwV 10 W u → Calls Try.prog 35 #[.slice na (dig (V k)).length nc, u] W fun e w' => ∃ v, e = .returned v ∧ Old W w' ∧ RwV (V k * 10) w' v := fun W q u h => (mul_any (dig (V k)) (dig 10) _ u W (HN.out.old q) h.row (dig_lim _) (dig_lim _) (by omega) (by decide)).mono fun e w' h => by
              obtain ⟨v, e1, g, o⟩ := h
              rw [val_dig, val_dig] at o
              exact ⟨v, e1, g, RwV.own o⟩
        have KO : ∀ W, Old wr W → Calls Try.prog 36 #[.int .i64 (m : Int)] W fun e w' => ∃ v, e = .returned v ∧ Old W w' ∧ RwV m w' v := fun W q => (of_any m W (by omega)).mono fun e w' h => by
              obtain ⟨v, e1, g, o⟩ := h
              exact ⟨v, e1, g, RwV.own o⟩
        have hc10 : (dig (V k * 10)).length ≤ 1048576 := dig_tenRd hcl
        have KS : ∀ W, Old wr W → ∀ u, RwV (V k * 10) W u → ∀ x, RwV m W x → Calls Try.prog 34 #[u, x] W fun e w' => ∃ v, e = .returned v ∧ Old W w' ∧ RwV (V (k + 1)) w' v := fun W q u h x h2 => (add_any (dig (V k * 10)) (dig m) u x W h.row h2.row (dig_lim _) (dig_lim _) hc10 (dig_nineRd hm9)).mono fun e w' h => by
              obtain ⟨v, e1, g, o⟩ := h
              rw [val_dig, val_dig, ← HVS.out] at o
              exact ⟨v, e1, g, RwV.own o⟩
        have HKM := hid KM
        have HKO := hid KO
        have HKS := hid KS
        clear KM KO KS hc10 hcl
        go_wp2_with fail
        refine reg_Rs wr s k b m (.slice na (dig (V k)).length nc) (RwV 10) (RwV (V k * 10)) (RwV m) (RwV (V (k + 1))) (fun W W' v h q => h.old q) (fun W W' v h q => h.old q) (fun W W' v h q => h.old q) (fun W W' v h q => h.old q) rwV_ten HIX1.out h8 (by omega) HKM.out HKO.out (fun W q u x h h2 => HKS.out W q u h x h2) _ _ ?_ ?_ ?_ ?_ ?_
        iterate 4 (· exact rfl)
        intro us W q hp
        obtain ⟨pa, pc, ep, rp⟩ := hp
        simp only [putAll, Act.put, slotRs, List.range, List.range.loop, List.map_cons, List.map_nil, List.getD_cons_zero, List.getD_cons_succ, List.setIfInBounds_toArray, List.set_cons_succ, List.set_cons_zero]
        simp only [ep]
        have HO2 := hid (Old.trans HO.out q)
        have HR2 := hid (HR.out.old q)
        have HN2 := hid rp
        clear q rp ep HKM HKO HKS h8 HIX1 hix HVS HO HR HN
        go_wp2_with fail
        exact ⟨⟨k + 1, pa, pc, by omega, by go_num, rfl, HO2, HR2, HN2, HJ3⟩, by simp [intOf]; omega⟩
      · have d1 : decide ((k : Int) < (DS : Int)) = false := decide_eq_false (by omega)
        have d2 : decide (k < DS) = false := decide_eq_false hlt
        obtain rfl : k = DS := by omega
        have hc480 := HCL.out k (Nat.le_refl _) HJ.out
        by_cases h40 : (dig (V k)).length ≤ 40
        · have HW := HEND.out HJ.out h40
          have HZ : Hid (rdW s = (false, dig (V k), true)) := HW
          clear HW
          have KW := out_any false (dig (V k)) _ wr HN.out h40
          clear h40 hc480 HEND HBIG
          generalize dig (V k) = DV at *
          go_wp2_with fail
          refine KW.mono ?_
          rintro e w6 ⟨v6, rfl, g6, o6⟩
          have O6 := hid (Old.trans HO.out g6)
          have R6 := hid (HR.out.old g6)
          have hz6 := HR.out.lt
          have HO6 := hid o6
          obtain ⟨x4, m4, rfl⟩ := (Own.row o6).slice
          clear g6 o6 KW
          have y0 := R6.out.c (i := 0) rfl
          have y1 := R6.out.c (i := 1) rfl
          have f0 := frozen_of_row _ _ 0 _ _ R6.out
          have f1 := frozen_of_row _ _ 1 _ _ R6.out
          go_wp2_with fail
          have q0 := (bk_put1W (bk_put0W R6.out (.bool false)) (.slice x4 (toI DV).length m4)).c (i := 0) rfl
          have q1 := (bk_put1W (bk_put0W R6.out (.bool false)) (.slice x4 (toI DV).length m4)).c (i := 1) rfl
          refine bodyPost_ret (v := .tuple #[.agg #[.bool false, .slice x4 (toI DV).length m4], .bool true]) (by simp [results, Try.results12, go_sem, q0, q1]) rfl ?_
          unfold RdA
          rw [HZ.out]
          refine ⟨_, rfl, (O6.out.own (p := ⟨w.heap.size, 0, none⟩) (Nat.le_refl _) _).own (p := ⟨w.heap.size, 1, none⟩) (Nat.le_refl _) _, ?_⟩
          refine Own.low (base := wr.heap.size) ?_ (Nat.le_of_lt hz6)
          unfold Own
          exact row_far HO6.out (fun b' hb' _ => (heap_setCell_other _ _ _ _ (by show b' ≠ w.heap.size; omega)).trans (heap_setCell_other _ _ _ _ (by show b' ≠ w.heap.size; omega)))
        · have HB : Hid (rdW s = nought) := HBIG.out (by omega)
          have KW := out_no false na (dig (V k)).length nc wr (by omega) (by omega)
          clear h40 hc480 HEND HBIG
          generalize (dig (V k)).length = DL at *
          go_wp2_with fail
          refine KW.mono ?_
          rintro e w6 ⟨rfl, g6⟩
          have O6 := hid (Old.trans HO.out g6)
          have R6 := hid (HR.out.old g6)
          clear g6 KW
          have y0 := R6.out.c (i := 0) rfl
          have y1 := R6.out.c (i := 1) rfl
          have f0 := frozen_of_row _ _ 0 _ _ R6.out
          have f1 := frozen_of_row _ _ 1 _ _ R6.out
          go_wp2_with fail
          have q0 := (bk_put1W (bk_put0W R6.out (.bool false)) (.slice none 0 0)).c (i := 0) rfl
          have q1 := (bk_put1W (bk_put0W R6.out (.bool false)) (.slice none 0 0)).c (i := 1) rfl
          refine bodyPost_ret (v := .tuple #[.agg #[.bool false, .slice none 0 0], .bool false]) (by simp [results, Try.results12, go_sem, q0, q1]) rfl ?_
          unfold RdA
          rw [HB.out]
          exact ⟨_, rfl, (O6.out.own (p := ⟨w.heap.size, 0, none⟩) (Nat.le_refl _) _).own (p := ⟨w.heap.size, 1, none⟩) (Nat.le_refl _) _, nil_ownRd _ _⟩
  · have e48 : (((B 0 : Nat) : Int) == 48) = false := by simp; omega
    have HEND : Hid ((∀ j, j < DS → 48 ≤ B j ∧ B j ≤ 57) → (dig (V DS)).length ≤ 40 → rdW s = (false, dig (V DS), true)) := HEN.out (fun h => z2 h.1)
    clear HEN hb3 hb4 z2 z1
    go_enter Try.func12, Try.ntmps12
    go_wp2_with fail
    go_loopw [7, 6] (fun i nv W => ∃ (k : Nat) (a : Option Addr) (c : Nat), k ≤ DS ∧ i = .int .i64 (k : Int) ∧ nv = .slice a (dig (V k)).length c ∧ Hid (Old w W) ∧ Hid (Bk W w.heap.size #[.bool false, .slice none 0 0] 25) ∧ Hid (Row W (.slice a (dig (V k)).length c) (toI (dig (V k)))) ∧ Hid (∀ j, j < k → 48 ≤ B j ∧ B j ≤ 57)) (fun i _ _ => DS - (intOf i).toNat)
    case atStart => exact ⟨0, none, 0, by omega, rfl, by rw [HV0.out]; rfl, HA, BR, by rw [HV0.out]; exact .inl ⟨_, _, rfl, rfl⟩, fun j hj => by omega⟩
    case round =>
      obtain ⟨k, na, nc, hk, rfl, rfl, HO, HR, HN, HJ⟩ := hrel
      clear HA BR
      by_cases hlt : k < DS
      · have d1 : decide ((k : Int) < (DS : Int)) = true := decide_eq_true (by omega)
        have d2 : decide (k < DS) = true := decide_eq_true hlt
        have hix := HIX.out k hlt
        have HVS : Hid (V (k + 1) = V k * 10 + (B k - 48)) := HST.out k
        have hcl := HCL.out k (by omega) HJ.out
        have HBN : Hid (¬ (48 ≤ B k ∧ B k ≤ 57) → rdW s = nought) := HDG.out k hlt
        have HJ2 : Hid ((48 ≤ B k ∧ B k ≤ 57) → ∀ j, j < k + 1 → 48 ≤ B j ∧ B j ≤ 57) := fun h j hj => by
              rcases Nat.lt_or_ge j k with h1 | h1
              · exact HJ.out j h1
              · rw [show j = k by omega]; exact h
        obtain ⟨b, hb⟩ : ∃ b, B k = b := ⟨_, rfl⟩
        rw [hb] at hix HVS HBN HJ2
        clear hb HJ
        by_cases hb1 : b < 48
        · have HB : Hid (rdW s = nought) := HBN.out (by omega)
          have e1 : decide ((b : Int) < 48) = true := decide_eq_true (by omega)
          have n1 : decide (b < 48) = true := decide_eq_true hb1
          clear HBN HJ2 HVS
          have y0 := HR.out.c (i := 0) rfl
          have y1 := HR.out.c (i := 1) rfl
          have f0 := frozen_of_row _ _ 0 _ _ HR.out
          have f1 := frozen_of_row _ _ 1 _ _ HR.out
          go_wp2_with fail
          have q0 := (bk_put1W (bk_put0W HR.out (.bool false)) (.slice none 0 0)).c (i := 0) rfl
          have q1 := (bk_put1W (bk_put0W HR.out (.bool false)) (.slice none 0 0)).c (i := 1) rfl
          refine bodyPost_ret (v := .tuple #[.agg #[.bool false, .slice none 0 0], .bool false]) (by simp [results, Try.results12, go_sem, q0, q1]) rfl ?_
          unfold RdA
          rw [HB.out]
          exact ⟨_, rfl, (HO.out.own (p := ⟨w.heap.size, 0, none⟩) (Nat.le_refl _) _).own (p := ⟨w.heap.size, 1, none⟩) (Nat.le_refl _) _, nil_ownRd _ _⟩
        have e1 : decide ((b : Int) < 48) = false := decide_eq_false (by omega)
        have n1 : decide (b < 48) = false := decide_eq_false hb1
        by_cases hb2 : 57 < b
        · have HB : Hid (rdW s = nought) := HBN.out (by omega)
          have e2 : decide ((57 : Int) < (b : Int)) = true := decide_eq_true (by omega)
          have n2 : decide (57 < b) = true := decide_eq_true hb2
          clear HBN HJ2 HVS
          have y0 := HR.out.c (i := 0) rfl
          have y1 := HR.out.c (i := 1) rfl
          have f0 := frozen_of_row _ _ 0 _ _ HR.out
          have f1 := frozen_of_row _ _ 1 _ _ HR.out
          go_wp2_with fail
          have q0 := (bk_put1W (bk_put0W HR.out (.bool false)) (.slice none 0 0)).c (i := 0) rfl
          have q1 := (bk_put1W (bk_put0W HR.out (.bool false)) (.slice none 0 0)).c (i := 1) rfl
          refine bodyPost_ret (v := .tuple #[.agg #[.bool false, .slice none 0 0], .bool false]) (by simp [results, Try.results12, go_sem, q0, q1]) rfl ?_
          unfold RdA
          rw [HB.out]
          exact ⟨_, rfl, (HO.out.own (p := ⟨w.heap.size, 0, none⟩) (Nat.le_refl _) _).own (p := ⟨w.heap.size, 1, none⟩) (Nat.le_refl _) _, nil_ownRd _ _⟩
        have e2 : decide ((57 : Int) < (b : Int)) = false := decide_eq_false (by omega)
        have n2 : decide (57 < b) = false := decide_eq_false hb2
        have HJ3 := hid (HJ2.out ⟨by omega, by omega⟩)
        obtain ⟨m, hm⟩ : ∃ m : Nat, b - 48 = m := ⟨_, rfl⟩
        have h8 : IntKind.u8.wrap ((b : Int) - 48) = (m : Int) := by simp only [IntKind.wrap_u8]; omega
        have hm9 : m ≤ 9 := by omega
        rw [hm] at HVS
        clear hm HBN HJ2
        have HIX1 := hid hix
        have KM : ∀ W, Old wr W → ∀ u, RwV 10 W u → Calls Try.prog 35 #[.slice na (dig (V k)).length nc, u] W fun e w' => ∃ v, e = .returned v ∧ Old W w' ∧ RwV (V k * 10) w' v := fun W q u h => (mul_any (dig (V k)) (dig 10) _ u W (HN.out.old q) h.row (dig_lim _) (dig_lim _) (by omega) (by decide)).mono fun e w' h => by
              obtain ⟨v, e1, g, o⟩ := h
              rw [val_dig, val_dig] at o
              exact ⟨v, e1, g, RwV.own o⟩
        have KO : ∀ W, Old wr W → Calls Try.prog 36 #[.int .i64 (m : Int)] W fun e w' => ∃ v, e = .returned v ∧ Old W w' ∧ RwV m w' v := fun W q => (of_any m W (by omega)).mono fun e w' h => by
              obtain ⟨v, e1, g, o⟩ := h
              exact ⟨v, e1, g, RwV.own o⟩
        have hc10 : (dig (V k * 10)).length ≤ 1048576 := dig_tenRd hcl
        have KS : ∀ W, Old wr W → ∀ u, RwV (V k * 10) W u → ∀ x, RwV m W x → Calls Try.prog 34 #[u, x] W fun e w' => ∃ v, e = .returned v ∧ Old W w' ∧ RwV (V (k + 1)) w' v := fun W q u h x h2 => (add_any (dig (V k * 10)) (dig m) u x W h.row h2.row (dig_lim _) (dig_lim _) hc10 (dig_nineRd hm9)).mono fun e w' h => by
              obtain ⟨v, e1, g, o⟩ := h
              rw [val_dig, val_dig, ← HVS.out] at o
              exact ⟨v, e1, g, RwV.own o⟩
        have HKM := hid KM
        have HKO := hid KO
        have HKS := hid KS
        clear KM KO KS hc10 hcl
        go_wp2_with fail
        refine reg_Rs wr s k b m (.slice na (dig (V k)).length nc) (RwV 10) (RwV (V k * 10)) (RwV m) (RwV (V (k + 1))) (fun W W' v h q => h.old q) (fun W W' v h q => h.old q) (fun W W' v h q => h.old q) (fun W W' v h q => h.old q) rwV_ten HIX1.out h8 (by omega) HKM.out HKO.out (fun W q u x h h2 => HKS.out W q u h x h2) _ _ ?_ ?_ ?_ ?_ ?_
        iterate 4 (· exact rfl)
        intro us W q hp
        obtain ⟨pa, pc, ep, rp⟩ := hp
        simp only [putAll, Act.put, slotRs, List.range, List.range.loop, List.map_cons, List.map_nil, List.getD_cons_zero, List.getD_cons_succ, List.setIfInBounds_toArray, List.set_cons_succ, List.set_cons_zero]
        simp only [ep]
        have HO2 := hid (Old.trans HO.out q)
        have HR2 := hid (HR.out.old q)
        have HN2 := hid rp
        clear q rp ep HKM HKO HKS h8 HIX1 hix HVS HO HR HN
        go_wp2_with fail
        exact ⟨⟨k + 1, pa, pc, by omega, by go_num, rfl, HO2, HR2, HN2, HJ3⟩, by simp [intOf]; omega⟩
      · have d1 : decide ((k : Int) < (DS : Int)) = false := decide_eq_false (by omega)
        have d2 : decide (k < DS) = false := decide_eq_false hlt
        obtain rfl : k = DS := by omega
        have hc480 := HCL.out k (Nat.le_refl _) HJ.out
        by_cases h40 : (dig (V k)).length ≤ 40
        · have HW := HEND.out HJ.out h40
          have HZ : Hid (rdW s = (false, dig (V k), true)) := HW
          clear HW
          have KW := out_any false (dig (V k)) _ wr HN.out h40
          clear h40 hc480 HEND HBIG
          generalize dig (V k) = DV at *
          go_wp2_with fail
          refine KW.mono ?_
          rintro e w6 ⟨v6, rfl, g6, o6⟩
          have O6 := hid (Old.trans HO.out g6)
          have R6 := hid (HR.out.old g6)
          have hz6 := HR.out.lt
          have HO6 := hid o6
          obtain ⟨x4, m4, rfl⟩ := (Own.row o6).slice
          clear g6 o6 KW
          have y0 := R6.out.c (i := 0) rfl
          have y1 := R6.out.c (i := 1) rfl
          have f0 := frozen_of_row _ _ 0 _ _ R6.out
          have f1 := frozen_of_row _ _ 1 _ _ R6.out
          go_wp2_with fail
          have q0 := (bk_put1W (bk_put0W R6.out (.bool false)) (.slice x4 (toI DV).length m4)).c (i := 0) rfl
          have q1 := (bk_put1W (bk_put0W R6.out (.bool false)) (.slice x4 (toI DV).length m4)).c (i := 1) rfl
          refine bodyPost_ret (v := .tuple #[.agg #[.bool false, .slice x4 (toI DV).length m4], .bool true]) (by simp [results, Try.results12, go_sem, q0, q1]) rfl ?_
          unfold RdA
          rw [HZ.out]
          refine ⟨_, rfl, (O6.out.own (p := ⟨w.heap.size, 0, none⟩) (Nat.le_refl _) _).own (p := ⟨w.heap.size, 1, none⟩) (Nat.le_refl _) _, ?_⟩
          refine Own.low (base := wr.heap.size) ?_ (Nat.le_of_lt hz6)
          unfold Own
          exact row_far HO6.out (fun b' hb' _ => (heap_setCell_other _ _ _ _ (by show b' ≠ w.heap.size; omega)).trans (heap_setCell_other _ _ _ _ (by show b' ≠ w.heap.size; omega)))
        · have HB : Hid (rdW s = nought) := HBIG.out (by omega)
          have KW := out_no false na (dig (V k)).length nc wr (by omega) (by omega)
          clear h40 hc480 HEND HBIG
          generalize (dig (V k)).length = DL at *
          go_wp2_with fail
          refine KW.mono ?_
          rintro e w6 ⟨rfl, g6⟩
          have O6 := hid (Old.trans HO.out g6)
          have R6 := hid (HR.out.old g6)
          clear g6 KW
          have y0 := R6.out.c (i := 0) rfl
          have y1 := R6.out.c (i := 1) rfl
          have f0 := frozen_of_row _ _ 0 _ _ R6.out
          have f1 := frozen_of_row _ _ 1 _ _ R6.out
          go_wp2_with fail
          have q0 := (bk_put1W (bk_put0W R6.out (.bool false)) (.slice none 0 0)).c (i := 0) rfl
          have q1 := (bk_put1W (bk_put0W R6.out (.bool false)) (.slice none 0 0)).c (i := 1) rfl
          refine bodyPost_ret (v := .tuple #[.agg #[.bool false, .slice none 0 0], .bool false]) (by simp [results, Try.results12, go_sem, q0, q1]) rfl ?_
          unfold RdA
          rw [HB.out]
          exact ⟨_, rfl, (O6.out.own (p := ⟨w.heap.size, 0, none⟩) (Nat.le_refl _) _).own (p := ⟨w.heap.size, 1, none⟩) (Nat.le_refl _) _, nil_ownRd _ _⟩
set_option maxRecDepth 100000 in
set_option maxHeartbeats 8000000 in
theorem spec_rd_true (s DD : ByteArray) (DS : Nat) (B V : Nat → Nat) (w : World) (hs0 : 0 < s.size) (hs : s.size ≤ 1048576) (hDS : DD.size = DS) (b0 : Nat) (h45 : b0 = 45) (hI0 : ∀ W, (Instr.index 9 (.string s) (.int .i64 0)).run Try.prog W = .ok (.int .u8 (b0 : Int)) W) (hDD : s.extract 1 s.size = DD)
    (hix : ∀ k : Nat, k < DS → ∀ W, (Instr.index 9 (.string DD) (.int .i64 (k : Int))).run Try.prog W = .ok (.int .u8 ((B k : Nat) : Int)) W)
    (hst : ∀ k, V (k + 1) = V k * 10 + (B k - 48)) (hv0 : V 0 = 0) (hdg : ∀ k, k < DS → ¬ (48 ≤ B k ∧ B k ≤ 57) → rdW s = nought) (hbig : 40 < (dig (V DS)).length → rdW s = nought)
    (hcl : DS ≤ 480 → ∀ k, k ≤ DS → (∀ j, j < k → 48 ≤ B j ∧ B j ≤ 57) → (dig (V k)).length ≤ 1048000)
    (hend : 0 < DS → ¬ (B 0 = 48 ∧ (1 < DS ∨ true = true)) → (∀ j, j < DS → 48 ≤ B j ∧ B j ≤ 57) → (dig (V DS)).length ≤ 40 → rdW s = (true, dig (V DS), true))
    (hb1 : DS = 0 → rdW s = nought) (hb2 : 480 < DS → rdW s = nought) (hb3 : B 0 = 48 → 1 < DS → rdW s = nought) (hb4 : true = true → B 0 = 48 → rdW s = nought) :
    Calls Try.prog 12 #[.string s] w (RdA s w) := by
  have HA : Hid (Old w (w.alloc (.cells #[.bool false, .slice none 0 0] 25))) := (Old.refl w).alloc _
  have BR : Hid (Bk (w.alloc (.cells #[.bool false, .slice none 0 0] 25)) w.heap.size #[.bool false, .slice none 0 0] 25) := Bk.new' w _ _ rfl
  have hds : DS ≤ 1048576 := by
    rw [← hDS]
    rw [← hDD, ByteArray.size_extract]
    omega
  have p0 : decide ((0 : Int) < (s.size : Int)) = true := decide_eq_true (by omega)
  have p1 : decide (0 < s.size) = true := decide_eq_true hs0
  have e45 : ((b0 : Int) == 45) = true := by rw [h45]; rfl
  have l1 : (1 : Int) ≤ (s.size : Int) := by omega
  clear h45
  by_cases z0 : DS = 0
  · have HB : Hid (rdW s = nought) := hb1 z0
    have q1 : decide ((DS : Int) < 1) = true := decide_eq_true (by omega)
    have q2 : decide (DS < 1) = true := decide_eq_true (by omega)
    clear z0 hix hst hv0 hdg hbig hcl hend hb1 hb2 hb3 hb4
    go_enter Try.func12, Try.ntmps12
    have y0 := BR.out.c (i := 0) rfl
    have y1 := BR.out.c (i := 1) rfl
    have f0 := frozen_of_row _ _ 0 _ _ BR.out
    have f1 := frozen_of_row _ _ 1 _ _ BR.out
    go_wp2_with fail
    refine bodyPost_ret (v := .tuple #[.agg #[.bool false, .slice none 0 0], .bool false]) (by simp [results, Try.results12, go_sem, y0, y1]) rfl ?_
    unfold RdA
    rw [HB.out]
    exact ⟨_, rfl, HA.out, nil_ownRd _ _⟩
  have q1 : decide ((DS : Int) < 1) = false := decide_eq_false (by omega)
  have q2 : decide (DS < 1) = false := decide_eq_false (by omega)
  by_cases z1 : 480 < DS
  · have HB : Hid (rdW s = nought) := hb2 z1
    have q3 : decide ((480 : Int) < (DS : Int)) = true := decide_eq_true (by omega)
    have q4 : decide (480 < DS) = true := decide_eq_true z1
    clear hix hst hv0 hdg hbig hcl hend hb1 hb2 hb3 hb4
    go_enter Try.func12, Try.ntmps12
    have y0 := BR.out.c (i := 0) rfl
    have y1 := BR.out.c (i := 1) rfl
    have f0 := frozen_of_row _ _ 0 _ _ BR.out
    have f1 := frozen_of_row _ _ 1 _ _ BR.out
    go_wp2_with fail
    refine bodyPost_ret (v := .tuple #[.agg #[.bool false, .slice none 0 0], .bool false]) (by simp [results, Try.results12, go_sem, y0, y1]) rfl ?_
    unfold RdA
    rw [HB.out]
    exact ⟨_, rfl, HA.out, nil_ownRd _ _⟩
  have q3 : decide ((480 : Int) < (DS : Int)) = false := decide_eq_false (by omega)
  have q4 : decide (480 < DS) = false := decide_eq_false z1
  have hJ0 : ∀ W, (Instr.index 9 (.string DD) (.int .i64 0)).run Try.prog W = .ok (.int .u8 ((B 0 : Nat) : Int)) W := fun W => hix 0 (by omega) W
  have HIX : Hid (∀ k : Nat, k < DS → ∀ W, (Instr.index 9 (.string DD) (.int .i64 (k : Int))).run Try.prog W = .ok (.int .u8 ((B k : Nat) : Int)) W) := hix
  have HST : Hid (∀ k, V (k + 1) = V k * 10 + (B k - 48)) := hst
  have HV0 : Hid (V 0 = 0) := hv0
  have HDG : Hid (∀ k, k < DS → ¬ (48 ≤ B k ∧ B k ≤ 57) → rdW s = nought) := hdg
  have HBIG : Hid (40 < (dig (V DS)).length → rdW s = nought) := hbig
  have HCL : Hid (∀ k, k ≤ DS → (∀ j, j < k → 48 ≤ B j ∧ B j ≤ 57) → (dig (V k)).length ≤ 1048000) := hcl (by omega)
  have HEN : Hid (¬ (B 0 = 48 ∧ (1 < DS ∨ true = true)) → (∀ j, j < DS → 48 ≤ B j ∧ B j ≤ 57) → (dig (V DS)).length ≤ 40 → rdW s = (true, dig (V DS), true)) := hend (by omega)
  clear hix hst hv0 hdg hbig hcl hend hb1 hb2
  by_cases z2 : B 0 = 48
  · have e48 : (((B 0 : Nat) : Int) == 48) = true := by rw [z2]; rfl
    by_cases z3 : 1 < DS
    · have HB : Hid (rdW s = nought) := hb3 z2 z3
      have q5 : decide ((1 : Int) < (DS : Int)) = true := decide_eq_true (by omega)
      have q6 : decide (1 < DS) = true := decide_eq_true z3
      clear HIX HST HV0 HDG HBIG HCL HEN hb3 hb4
      generalize B 0 = B0 at *
      clear z2
      go_enter Try.func12, Try.ntmps12
      have y0 := BR.out.c (i := 0) rfl
      have y1 := BR.out.c (i := 1) rfl
      have f0 := frozen_of_row _ _ 0 _ _ BR.out
      have f1 := frozen_of_row _ _ 1 _ _ BR.out
      go_wp2_with fail
      refine bodyPost_ret (v := .tuple #[.agg #[.bool false, .slice none 0 0], .bool false]) (by simp [results, Try.results12, go_sem, y0, y1]) rfl ?_
      unfold RdA
      rw [HB.out]
      exact ⟨_, rfl, HA.out, nil_ownRd _ _⟩
    have q5 : decide ((1 : Int) < (DS : Int)) = false := decide_eq_false (by omega)
    have q6 : decide (1 < DS) = false := decide_eq_false z3
    have HB : Hid (rdW s = nought) := hb4 rfl z2
    clear HIX HST HV0 HDG HBIG HCL HEN hb3 hb4
    generalize B 0 = B0 at *
    clear z2
    go_enter Try.func12, Try.ntmps12
    have y0 := BR.out.c (i := 0) rfl
    have y1 := BR.out.c (i := 1) rfl
    have f0 := frozen_of_row _ _ 0 _ _ BR.out
    have f1 := frozen_of_row _ _ 1 _ _ BR.out
    go_wp2_with fail
    refine bodyPost_ret (v := .tuple #[.agg #[.bool false, .slice none 0 0], .bool false]) (by simp [results, Try.results12, go_sem, y0, y1]) rfl ?_
    unfold RdA
    rw [HB.out]
    exact ⟨_, rfl, HA.out, nil_ownRd _ _⟩
  · have e48 : (((B 0 : Nat) : Int) == 48) = false := by simp; omega
    have HEND : Hid ((∀ j, j < DS → 48 ≤ B j ∧ B j ≤ 57) → (dig (V DS)).length ≤ 40 → rdW s = (true, dig (V DS), true)) := HEN.out (fun h => z2 h.1)
    clear HEN hb3 hb4 z2 z1
    go_enter Try.func12, Try.ntmps12
    go_wp2_with fail
    go_loopw [7, 6] (fun i nv W => ∃ (k : Nat) (a : Option Addr) (c : Nat), k ≤ DS ∧ i = .int .i64 (k : Int) ∧ nv = .slice a (dig (V k)).length c ∧ Hid (Old w W) ∧ Hid (Bk W w.heap.size #[.bool false, .slice none 0 0] 25) ∧ Hid (Row W (.slice a (dig (V k)).length c) (toI (dig (V k)))) ∧ Hid (∀ j, j < k → 48 ≤ B j ∧ B j ≤ 57)) (fun i _ _ => DS - (intOf i).toNat)
    case atStart => exact ⟨0, none, 0, by omega, rfl, by rw [HV0.out]; rfl, HA, BR, by rw [HV0.out]; exact .inl ⟨_, _, rfl, rfl⟩, fun j hj => by omega⟩
    case round =>
      obtain ⟨k, na, nc, hk, rfl, rfl, HO, HR, HN, HJ⟩ := hrel
      clear HA BR
      by_cases hlt : k < DS
      · have d1 : decide ((k : Int) < (DS : Int)) = true := decide_eq_true (by omega)
        have d2 : decide (k < DS) = true := decide_eq_true hlt
        have hix := HIX.out k hlt
        have HVS : Hid (V (k + 1) = V k * 10 + (B k - 48)) := HST.out k
        have hcl := HCL.out k (by omega) HJ.out
        have HBN : Hid (¬ (48 ≤ B k ∧ B k ≤ 57) → rdW s = nought) := HDG.out k hlt
        have HJ2 : Hid ((48 ≤ B k ∧ B k ≤ 57) → ∀ j, j < k + 1 → 48 ≤ B j ∧ B j ≤ 57) := fun h j hj => by
              rcases Nat.lt_or_ge j k with h1 | h1
              · exact HJ.out j h1
              · rw [show j = k by omega]; exact h
        obtain ⟨b, hb⟩ : ∃ b, B k = b := ⟨_, rfl⟩
        rw [hb] at hix HVS HBN HJ2
        clear hb HJ
        by_cases hb1 : b < 48
        · have HB : Hid (rdW s = nought) := HBN.out (by omega)
          have e1 : decide ((b : Int) < 48) = true := decide_eq_true (by omega)
          have n1 : decide (b < 48) = true := decide_eq_true hb1
          clear HBN HJ2 HVS
          have y0 := HR.out.c (i := 0) rfl
          have y1 := HR.out.c (i := 1) rfl
          have f0 := frozen_of_row _ _ 0 _ _ HR.out
          have f1 := frozen_of_row _ _ 1 _ _ HR.out
          go_wp2_with fail
          have q0 := (bk_put1W (bk_put0W HR.out (.bool false)) (.slice none 0 0)).c (i := 0) rfl
          have q1 := (bk_put1W (bk_put0W HR.out (.bool false)) (.slice none 0 0)).c (i := 1) rfl
          refine bodyPost_ret (v := .tuple #[.agg #[.bool false, .slice none 0 0], .bool false]) (by simp [results, Try.results12, go_sem, q0, q1]) rfl ?_
          unfold RdA
          rw [HB.out]
          exact ⟨_, rfl, (HO.out.own (p := ⟨w.heap.size, 0, none⟩) (Nat.le_refl _) _).own (p := ⟨w.heap.size, 1, none⟩) (Nat.le_refl _) _, nil_ownRd _ _⟩
        have e1 : decide ((b : Int) < 48) = false := decide_eq_false (by omega)
        have n1 : decide (b < 48) = false := decide_eq_false hb1
        by_cases hb2 : 57 < b
        · have HB : Hid (rdW s = nought) := HBN.out (by omega)
          have e2 : decide ((57 : Int) < (b : Int)) = true := decide_eq_true (by omega)
          have n2 : decide (57 < b) = true := decide_eq_true hb2
          clear HBN HJ2 HVS
          have y0 := HR.out.c (i := 0) rfl
          have y1 := HR.out.c (i := 1) rfl
          have f0 := frozen_of_row _ _ 0 _ _ HR.out
          have f1 := frozen_of_row _ _ 1 _ _ HR.out
          go_wp2_with fail
          have q0 := (bk_put1W (bk_put0W HR.out (.bool false)) (.slice none 0 0)).c (i := 0) rfl
          have q1 := (bk_put1W (bk_put0W HR.out (.bool false)) (.slice none 0 0)).c (i := 1) rfl
          refine bodyPost_ret (v := .tuple #[.agg #[.bool false, .slice none 0 0], .bool false]) (by simp [results, Try.results12, go_sem, q0, q1]) rfl ?_
          unfold RdA
          rw [HB.out]
          exact ⟨_, rfl, (HO.out.own (p := ⟨w.heap.size, 0, none⟩) (Nat.le_refl _) _).own (p := ⟨w.heap.size, 1, none⟩) (Nat.le_refl _) _, nil_ownRd _ _⟩
        have e2 : decide ((57 : Int) < (b : Int)) = false := decide_eq_false (by omega)
        have n2 : decide (57 < b) = false := decide_eq_false hb2
        have HJ3 := hid (HJ2.out ⟨by omega, by omega⟩)
        obtain ⟨m, hm⟩ : ∃ m : Nat, b - 48 = m := ⟨_, rfl⟩
        have h8 : IntKind.u8.wrap ((b : Int) - 48) = (m : Int) := by simp only [IntKind.wrap_u8]; omega
        have hm9 : m ≤ 9 := by omega
        rw [hm] at HVS
        clear hm HBN HJ2
        have HIX1 := hid hix
        have KM : ∀ W, Old wr W → ∀ u, RwV 10 W u → Calls Try.prog 35 #[.slice na (dig (V k)).length nc, u] W fun e w' => ∃ v, e = .returned v ∧ Old W w' ∧ RwV (V k * 10) w' v := fun W q u h => (mul_any (dig (V k)) (dig 10) _ u W (HN.out.old q) h.row (dig_lim _) (dig_lim _) (by omega) (by decide)).mono fun e w' h => by
              obtain ⟨v, e1, g, o⟩ := h
              rw [val_dig, val_dig] at o
              exact ⟨v, e1, g, RwV.own o⟩
        have KO : ∀ W, Old wr W → Calls Try.prog 36 #[.int .i64 (m : Int)] W fun e w' => ∃ v, e = .returned v ∧ Old W w' ∧ RwV m w' v := fun W q => (of_any m W (by omega)).mono fun e w' h => by
              obtain ⟨v, e1, g, o⟩ := h
              exact ⟨v, e1, g, RwV.own o⟩
        have hc10 : (dig (V k * 10)).length ≤ 1048576 := dig_tenRd hcl
        have KS : ∀ W, Old wr W → ∀ u, RwV (V k * 10) W u → ∀ x, RwV m W x → Calls Try.prog 34 #[u, x] W fun e w' => ∃ v, e = .returned v ∧ Old W w' ∧ RwV (V (k + 1)) w' v := fun W q u h x h2 => (add_any (dig (V k * 10)) (dig m) u x W h.row h2.row (dig_lim _) (dig_lim _) hc10 (dig_nineRd hm9)).mono fun e w' h => by
              obtain ⟨v, e1, g, o⟩ := h
              rw [val_dig, val_dig, ← HVS.out] at o
              exact ⟨v, e1, g, RwV.own o⟩
        have HKM := hid KM
        have HKO := hid KO
        have HKS := hid KS
        clear KM KO KS hc10 hcl
        go_wp2_with fail
        refine reg_Rs wr DD k b m (.slice na (dig (V k)).length nc) (RwV 10) (RwV (V k * 10)) (RwV m) (RwV (V (k + 1))) (fun W W' v h q => h.old q) (fun W W' v h q => h.old q) (fun W W' v h q => h.old q) (fun W W' v h q => h.old q) rwV_ten HIX1.out h8 (by omega) HKM.out HKO.out (fun W q u x h h2 => HKS.out W q u h x h2) _ _ ?_ ?_ ?_ ?_ ?_
        iterate 4 (· exact rfl)
        intro us W q hp
        obtain ⟨pa, pc, ep, rp⟩ := hp
        simp only [putAll, Act.put, slotRs, List.range, List.range.loop, List.map_cons, List.map_nil, List.getD_cons_zero, List.getD_cons_succ, List.setIfInBounds_toArray, List.set_cons_succ, List.set_cons_zero]
        simp only [ep]
        have HO2 := hid (Old.trans HO.out q)
        have HR2 := hid (HR.out.old q)
        have HN2 := hid rp
        clear q rp ep HKM HKO HKS h8 HIX1 hix HVS HO HR HN
        go_wp2_with fail
        exact ⟨⟨k + 1, pa, pc, by omega, by go_num, rfl, HO2, HR2, HN2, HJ3⟩, by simp [intOf]; omega⟩
      · have d1 : decide ((k : Int) < (DS : Int)) = false := decide_eq_false (by omega)
        have d2 : decide (k < DS) = false := decide_eq_false hlt
        obtain rfl : k = DS := by omega
        have hc480 := HCL.out k (Nat.le_refl _) HJ.out
        by_cases h40 : (dig (V k)).length ≤ 40
        · have HW := HEND.out HJ.out h40
          have HZ : Hid (rdW s = (true, dig (V k), true)) := HW
          clear HW
          have KW := out_any true (dig (V k)) _ wr HN.out h40
          clear h40 hc480 HEND HBIG
          generalize dig (V k) = DV at *
          go_wp2_with fail
          refine KW.mono ?_
          rintro e w6 ⟨v6, rfl, g6, o6⟩
          have O6 := hid (Old.trans HO.out g6)
          have R6 := hid (HR.out.old g6)
          have hz6 := HR.out.lt
          have HO6 := hid o6
          obtain ⟨x4, m4, rfl⟩ := (Own.row o6).slice
          clear g6 o6 KW
          have y0 := R6.out.c (i := 0) rfl
          have y1 := R6.out.c (i := 1) rfl
          have f0 := frozen_of_row _ _ 0 _ _ R6.out
          have f1 := frozen_of_row _ _ 1 _ _ R6.out
          go_wp2_with fail
          have q0 := (bk_put1W (bk_put0W R6.out (.bool true)) (.slice x4 (toI DV).length m4)).c (i := 0) rfl
          have q1 := (bk_put1W (bk_put0W R6.out (.bool true)) (.slice x4 (toI DV).length m4)).c (i := 1) rfl
          refine bodyPost_ret (v := .tuple #[.agg #[.bool true, .slice x4 (toI DV).length m4], .bool true]) (by simp [results, Try.results12, go_sem, q0, q1]) rfl ?_
          unfold RdA
          rw [HZ.out]
          refine ⟨_, rfl, (O6.out.own (p := ⟨w.heap.size, 0, none⟩) (Nat.le_refl _) _).own (p := ⟨w.heap.size, 1, none⟩) (Nat.le_refl _) _, ?_⟩
          refine Own.low (base := wr.heap.size) ?_ (Nat.le_of_lt hz6)
          unfold Own
          exact row_far HO6.out (fun b' hb' _ => (heap_setCell_other _ _ _ _ (by show b' ≠ w.heap.size; omega)).trans (heap_setCell_other _ _ _ _ (by show b' ≠ w.heap.size; omega)))
        · have HB : Hid (rdW s = nought) := HBIG.out (by omega)
          have KW := out_no true na (dig (V k)).length nc wr (by omega) (by omega)
          clear h40 hc480 HEND HBIG
          generalize (dig (V k)).length = DL at *
          go_wp2_with fail
          refine KW.mono ?_
          rintro e w6 ⟨rfl, g6⟩
          have O6 := hid (Old.trans HO.out g6)
          have R6 := hid (HR.out.old g6)
          clear g6 KW
          have y0 := R6.out.c (i := 0) rfl
          have y1 := R6.out.c (i := 1) rfl
          have f0 := frozen_of_row _ _ 0 _ _ R6.out
          have f1 := frozen_of_row _ _ 1 _ _ R6.out
          go_wp2_with fail
          have q0 := (bk_put1W (bk_put0W R6.out (.bool false)) (.slice none 0 0)).c (i := 0) rfl
          have q1 := (bk_put1W (bk_put0W R6.out (.bool false)) (.slice none 0 0)).c (i := 1) rfl
          refine bodyPost_ret (v := .tuple #[.agg #[.bool false, .slice none 0 0], .bool false]) (by simp [results, Try.results12, go_sem, q0, q1]) rfl ?_
          unfold RdA
          rw [HB.out]
          exact ⟨_, rfl, (O6.out.own (p := ⟨w.heap.size, 0, none⟩) (Nat.le_refl _) _).own (p := ⟨w.heap.size, 1, none⟩) (Nat.le_refl _) _, nil_ownRd _ _⟩
end Go.Proofs.Ytimmcijoebmaiaa
/- Proved: the model's ReadWhole, at every text. -/
namespace Go.Proofs.Ytimmcijoebmaiaa
open Go.ChangeShapes Go.WideShapes Go.ChangeAt Go.RowKit
open M2
set_option linter.unusedVariables false
set_option linter.unusedSimpArgs false
theorem rd_cl {D : ByteArray} (h480 : D.size ≤ 480) (k : Nat) (hk : k ≤ D.size) (h : ∀ j, j < k → 48 ≤ byt D j ∧ byt D j ≤ 57) : (dig (rdV D k)).length ≤ 1048000 := by
  have h7 := cnt_le (rdV_cntJ (D := D) (n := k) h k (Nat.le_refl _))
  unfold cnt at h7
  omega
theorem rd_b2 {s : ByteArray} (h : 480 < (dgT s).size) : rdW s = nought := by
  cases hN : numB (dgT s)
  · exact nought_num hN
  · exact rdW_no (fun h2 => by
      have h4 := long_big hN h
      have h3 := h2.2
      omega)
theorem rd_b3 {s : ByteArray} (h : byt (dgT s) 0 = 48) (h2 : 1 < (dgT s).size) : rdW s = nought := by
  cases hN : numB (dgT s)
  · exact nought_num hN
  · have := (numB_yes hN).2.1 h
    omega
theorem rd_b4 {s : ByteArray} (hg : sgB s = true) (h : byt (dgT s) 0 = 48) : rdW s = nought := by
  rcases Nat.lt_or_ge 1 (dgT s).size with h1 | h1
  · exact rd_b3 h h1
  · rcases Nat.eq_zero_or_pos (dgT s).size with h0 | h0
    · exact nought_num (numB_no0 h0)
    · refine rdW_no (fun h3 => ?_)
      have h4 := h3.1
      unfold rdB at h4
      rw [toList_one, hg, h, decide_eq_true (show (dgT s).size = 1 by omega)] at h4
      simp at h4
theorem rd_end {s : ByteArray} {g : Bool} (hg : sgB s = g) (h0 : 0 < (dgT s).size) (h1 : ¬ (byt (dgT s) 0 = 48 ∧ (1 < (dgT s).size ∨ g = true))) (h2 : ∀ j, j < (dgT s).size → 48 ≤ byt (dgT s) j ∧ byt (dgT s) j ≤ 57) (h3 : (dig (rdV (dgT s) (dgT s).size)).length ≤ 40) : rdW s = (g, dig (rdV (dgT s) (dgT s).size), true) := by
  have hN : numB (dgT s) = true := numB_of h0 (fun h => by
    rcases Nat.lt_or_ge 1 (dgT s).size with h6 | h6
    · exact absurd ⟨h, .inl h6⟩ h1
    · omega) h2
  have hR : rdB s = true := by
    unfold rdB
    rw [hN, hg, toList_one]
    cases g
    · rfl
    · rw [show (byt (dgT s) 0 == 48) = false by
        have : ¬ byt (dgT s) 0 = 48 := fun h => h1 ⟨h, .inr rfl⟩
        simpa using this, Bool.and_false]
      rfl
  unfold rdW
  rw [if_pos ⟨hR, by unfold cnt; exact h3⟩, hg]
set_option maxRecDepth 100000 in
set_option maxHeartbeats 8000000 in
theorem spec_ReadWhole (s : ByteArray) (w : World) (hs : s.size ≤ 1048576) :
    Calls Try.prog 12 #[.string s] w (RdA s w) := by
  by_cases h0 : s.size = 0
  · have hD : dgT s = s := by
      unfold dgT sgB
      rw [decide_eq_false (by omega)]
      rfl
    have HB : Hid (rdW s = nought) := nought_num (numB_no0 (by rw [hD]; exact h0))
    have HA : Hid (Old w (w.alloc (.cells #[.bool false, .slice none 0 0] 25))) := (Old.refl w).alloc _
    have BR : Hid (Bk (w.alloc (.cells #[.bool false, .slice none 0 0] 25)) w.heap.size #[.bool false, .slice none 0 0] 25) := Bk.new' w _ _ rfl
    clear hD
    go_enter Try.func12, Try.ntmps12
    have y0 := BR.out.c (i := 0) rfl
    have y1 := BR.out.c (i := 1) rfl
    have f0 := frozen_of_row _ _ 0 _ _ BR.out
    have f1 := frozen_of_row _ _ 1 _ _ BR.out
    go_wp2_with fail
    refine bodyPost_ret (v := .tuple #[.agg #[.bool false, .slice none 0 0], .bool false]) (by simp [results, Try.results12, go_sem, y0, y1]) rfl ?_
    unfold RdA
    rw [HB.out]
    exact ⟨_, rfl, HA.out, nil_ownRd _ _⟩
  have hsg : sgB s = (byt s 0 == 45) := by
    unfold sgB
    rw [decide_eq_true (show 0 < s.size by omega)]
    rfl
  by_cases h45 : byt s 0 = 45
  · have hg : sgB s = true := by rw [hsg, h45]; rfl
    have hD : s.extract 1 s.size = dgT s := by unfold dgT; rw [hg]; rfl
    exact spec_rd_true s (dgT s) (dgT s).size (byt (dgT s)) (rdV (dgT s)) w (by omega) hs rfl (byt s 0) h45 (fun W => byt_ix s 0 (by omega) W) hD (fun k hk W => byt_ix (dgT s) k hk W) (fun k => rfl) rfl (fun k hk h => nought_num (numB_noD hk h)) (fun h => rdW_no (fun h2 => by have h3 := h2.2; unfold cnt at h3; omega)) (fun h k hk h2 => rd_cl h k hk h2) (fun h1 h2 h3 h4 => rd_end hg h1 h2 h3 h4) (fun h => nought_num (numB_no0 h)) rd_b2 rd_b3 (fun _ h => rd_b4 hg h)
  · have hg : sgB s = false := by rw [hsg]; simpa using h45
    have hD : dgT s = s := by unfold dgT; rw [hg]; rfl
    have hdg : ∀ k, k < s.size → ¬ (48 ≤ byt s k ∧ byt s k ≤ 57) → rdW s = nought := fun k hk h => nought_num (numB_noD (D := dgT s) (k := k) (by rw [hD]; exact hk) (by rw [hD]; exact h))
    have hen := rd_end (s := s) hg
    have hb2 := rd_b2 (s := s)
    have hb3 := rd_b3 (s := s)
    have hbg : 40 < (dig (rdV (dgT s) (dgT s).size)).length → rdW s = nought := fun h => rdW_no (fun h2 => by have h3 := h2.2; unfold cnt at h3; omega)
    have hb1 : (dgT s).size = 0 → rdW s = nought := fun h => nought_num (numB_no0 h)
    rw [hD] at hen hb2 hb3 hbg hb1
    exact spec_rd_false s s.size (byt s) (rdV s) w (by omega) hs rfl h45 (fun k hk W => byt_ix s k hk W) (fun k => rfl) rfl hdg hbg (fun h k hk h2 => rd_cl h k hk h2) (fun h1 h2 h3 h4 => hen h1 h2 h3 h4) hb1 hb2 hb3 (fun h => by cases h)
theorem rdW_len (s : ByteArray) : (rdW s).2.1.length ≤ 1000 := by
  unfold rdW
  split
  · rename_i h
    have h2 := h.2
    unfold cnt at h2
    show (dig _).length ≤ 1000
    omega
  · exact Nat.zero_le _
end Go.Proofs.Ytimmcijoebmaiaa
