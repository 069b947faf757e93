/- Proved: contracts of the model's l5Of and RowsOf. -/
import Derived.Test.YtfgooclnohnkmaaDoorRof
import Derived.Test.YtfgooclnohnkmaaDoorKD
import Derived.Test.YtfgooclnohnkmaaDoorResS
namespace Go.Proofs.YtfgooclnohnkmaaDoor
open Go.ChangeShapes Go.WideShapes Go.ChangeAt Go.RowKit
open M2
set_option linter.unusedVariables false
set_option linter.unusedSimpArgs false
set_option maxRecDepth 100000 in
set_option maxHeartbeats 8000000 in
theorem spec_l5Of (N : Int) (ps : List Int) (bs : List Bool) (xss : List (List Int)) (v u1 : Value) (w : World) (hv : Row w v ps) (h1 : RowW w u1 bs xss) (hps : 1 ≤ ps.length ∧ ps.length ≤ 6) (hx : 1 ≤ xss.length ∧ xss.length ≤ 16)
    (hm : ∀ k, k < ps.length → ∀ j, j < xss.length → ∀ W u, Row W u (xss.getD j []) → Calls Tryd.prog 61 #[.agg #[.bool (bs.getD j false), u], .int .i64 (ps.getD k 0)] W fun e w' => e = .returned (.int .i64 ((lbZ bs xss (ps.getD k 0)).getD j 0)) ∧ Old W w') :
    Calls Tryd.prog 98 #[.agg #[.int .i64 N, v], u1] w fun e w' => ∃ v', e = .returned v' ∧ Old w w' ∧ OwS (rofX bs xss ps) w' w.heap.size w'.heap.size v' := by
  obtain ⟨i0, hi, hz0, hz1, hz2⟩ := info_parts Tryd.infoInt
  obtain ⟨j0, ji, jz0, jz1, jz2⟩ := info_parts Tryd.infoInts
  obtain ⟨a0, cap0, ev⟩ := hv.slice
  obtain ⟨a1, cap1, e1⟩ := h1.slice
  subst ev e1
  rcases hv with ⟨a, cap, e, e'⟩ | ⟨b, o, cap, e, hb, h0, hc⟩
  · subst e'
    simp at hps
  obtain ⟨_, ⟨a, cap, e, e'⟩ | ⟨b1, o1, cap, us1, e_1, hb1, h01, hc1⟩⟩ := h1
  · subst e'
    simp at hx
  simp only [Value.slice.injEq, true_and] at e e_1
  obtain ⟨rfl, rfl⟩ := e
  obtain ⟨rfl, rfl⟩ := e_1
  have HC : Hid (∀ j, j < ps.length → w.cell? ⟨b, o + j, none⟩ = some (.int .i64 (ps.getD j 0))) := hc
  have HC1 : Hid (∀ j, j < xss.length → w.cell? ⟨b1, o1 + j * 2, none⟩ = some (.bool (bs.getD j false)) ∧ w.cell? ⟨b1, o1 + j * 2 + 1, none⟩ = some (us1 j) ∧ Row w (us1 j) (xss.getD j [])) := hc1
  have HMM : Hid (∀ k, k < ps.length → ∀ j, j < xss.length → ∀ W u, Row W u (xss.getD j []) → Calls Tryd.prog 61 #[.agg #[.bool (bs.getD j false), u], .int .i64 (ps.getD k 0)] W fun e w' => e = .returned (.int .i64 ((lbZ bs xss (ps.getD k 0)).getD j 0)) ∧ Old W w') := hm
  have HZ : Hid (∀ k, k < ps.length → (rofX bs xss ps).take (k + 1) = (rofX bs xss ps).take k ++ [lbZ bs xss (ps.getD k 0)]) := fun k hk => by
    rw [take_succL _ _ (by rw [rofX_len]; exact hk), rofX_get _ _ _ _ hk]
  have HZL : Hid ((rofX bs xss ps).length = ps.length) := rofX_len _ _ _
  generalize rofX bs xss ps = zss at *
  clear hc hc1 hm
  have HAO : Hid (Old w (w.alloc (.cells #[.int .i64 N, .slice (some ⟨b, o, none⟩) ps.length cap0] 57))) := (Old.refl w).alloc _
  go_enter Tryd.func98, Tryd.ntmps98
  go_wp2_with fail
  go_loopw [5, 14] (fun x i W => ∃ (k : Nat) (a : Option Addr) (cap : Nat), k ≤ ps.length ∧ i = .int .i64 k ∧ x = .slice a k cap ∧ Hid (OwS (zss.take k) W w.heap.size W.heap.size (.slice a k cap)) ∧ Hid (Old w W)) (fun _ i _ => ps.length - (intOf i).toNat)
  case atStart => exact ⟨0, none, 0, by omega, rfl, rfl, ⟨Nat.le_refl _, Or.inl ⟨rfl, by simp⟩⟩, HAO⟩
  case round =>
    obtain ⟨k, a, cap, hk, rfl, rfl, HO, HG⟩ := hrel
    have hsr := HG.out.size
    by_cases hlt : k < ps.length
    · have d1 : decide ((k : Int) < (ps.length : Int)) = true := by simp; omega
      have c0 : wr.cell? ⟨b, o + k, none⟩ = some (.int .i64 (ps.getD k 0)) := (HG.out.cell (p := ⟨b, o + k, none⟩) hb).trans (HC.out k hlt)
      have HMK := HMM.out k hlt
      have HT : Hid (∀ i, i < xss.length → (lbZ bs xss (ps.getD k 0)).take (i + 1) = (lbZ bs xss (ps.getD k 0)).take i ++ [(lbZ bs xss (ps.getD k 0)).getD i 0]) := fun i hi' => take_succI _ _ (by rw [lbZ_len]; exact hi')
      have HTL : Hid ((lbZ bs xss (ps.getD k 0)).length = xss.length) := lbZ_len _ _ _
      have HZK : Hid (zss.take (k + 1) = zss.take k ++ [lbZ bs xss (ps.getD k 0)]) := HZ.out k hlt
      have hbr1 : b1 < wr.heap.size := by omega
      generalize lbZ bs xss (ps.getD k 0) = zs at *
      generalize ps.getD k 0 = p at *
      have HMJ : Hid (∀ j, j < xss.length → ∀ W u, Row W u (xss.getD j []) → Calls Tryd.prog 61 #[.agg #[.bool (bs.getD j false), u], .int .i64 p] W fun e w' => e = .returned (.int .i64 (zs.getD j 0)) ∧ Old W w') := HMK
      clear HMK
      have HEMB : Hid (∀ (W : World) (ra : Option Addr) (rc : Nat), Old wr W → Own W wr.heap.size (.slice ra zs.length rc) zs → zs.length ≤ rc → ∃ vs, W.ownsRow w.heap.size 23 1 (.slice a k cap) k vs ∧ (∀ v' w', w'.ownsRow w.heap.size 23 1 v' (k + 1) (vs ++ [.slice ra zs.length rc]) → W.grownBy w' (Value.slice a k cap).ownBlock → (v'.ownBlock = (Value.slice a k cap).ownBlock ∨ v'.ownBlock = some W.heap.size) → OwS (zss.take (k + 1)) w' w.heap.size w'.heap.size v')) := fun W ra rc g o hc => by
        have hl : (zss.take k).length = k := by rw [List.length_take]; have := HZL.out; omega
        have := OwS.app HO.out hsr g o hc
        rw [hl] at this
        rw [HZK.out]
        exact this
      have HOB : Hid (∀ p, (Value.slice a k cap).ownBlock = some p → w.heap.size ≤ p) := fun p hp => by
        obtain ⟨hh, ⟨e, e2⟩ | ⟨p', cap', vs, e, hcap, hl, hhi, _⟩⟩ := HO.out
        · rw [e] at hp
          cases hp
        · rw [e] at hp
          simp only [Value.ownBlock, Option.some.injEq] at hp
          omega
      rename World => wq
      go_wp2_with fail
      go_loopw [8, 20] (fun x i W => ∃ (j : Nat) (a : Option Addr) (cap : Nat), j ≤ xss.length ∧ i = .int .i64 j ∧ x = .slice a j cap ∧ Hid (Own W wq.heap.size (.slice a j cap) (zs.take j)) ∧ Hid (Old wq W)) (fun _ i _ => xss.length - (intOf i).toNat)
      case atStart => exact ⟨0, none, 0, by omega, rfl, rfl, (by exact own_nil _ _), Old.refl _⟩
      case round =>
        obtain ⟨j, ra, rc, hj, rfl, rfl, HO2, HG2⟩ := hrel
        have hs2 := HG2.out.size
        by_cases hjl : j < xss.length
        · have d2 : decide ((j : Int) < (xss.length : Int)) = true := by simp; omega
          obtain ⟨s0, c1, r1⟩ := HC1.out j hjl
          obtain ⟨x1, y1, f1⟩ := r1.slice
          rw [f1] at c1 r1
          have HGW : Hid (Old w wr) := Old.trans HG.out HG2.out
          have k0 : wr.cell? ⟨b1, o1 + j * 2, none⟩ = some (.bool (bs.getD j false)) := (HGW.out.cell (p := ⟨b1, o1 + j * 2, none⟩) hb1).trans s0
          have k1 : wr.cell? ⟨b1, o1 + j * 2 + 1, none⟩ = some (.slice x1 (xss.getD j []).length y1) := (HGW.out.cell (p := ⟨b1, o1 + j * 2 + 1, none⟩) hb1).trans c1
          have R1 : Hid (Row wr (.slice x1 (xss.getD j []).length y1) (xss.getD j [])) := r1.old HGW.out
          have htk : (zs.take j).length = j := by rw [List.length_take]; have := HTL.out; omega
          have HT2 : Hid (zs.take (j + 1) = zs.take j ++ [zs.getD j 0]) := HT.out j hjl
          have cm := HMJ.out j hjl
          clear s0 c1 r1 f1
          generalize bs.getD j false = s at *
          generalize xss.getD j [] = xs at *
          generalize zs.getD j 0 = q at *
          go_wp2_with fail
          refine (cm _ _ (R1.out.old ((Old.refl wr).alloc _))).mono ?_
          rintro e w4 ⟨rfl, g4⟩
          have g5 : Old wr w4 := Old.trans ((Old.refl wr).alloc _) g4
          have HO4 : Hid (Own w4 wq.heap.size (.slice ra j rc) (zs.take j)) := HO2.out.old g5
          have HG4 : Hid (Old wq w4) := Old.trans HG2.out g5
          have hs4 := g5.size
          clear g4 g5 k0 k1 cm R1 HO2
          go_wp2_with (at_builtin; go_loud (refine wpList_append_own _ rfl _ _ 23 rfl wq.heap.size 3 i0 (.int .i64 0) 1 8 Tryd.underlying23 hi hz0 hz1 hz2 rfl (by decide) _ _ _ rfl (by have := HO4.out.alloc (.cells #[.int .i64 q] 3); unfold Own at this; rw [htk] at this; exact this) ⟨w4.heap.size, 0, none⟩ 1 1 [.int .i64 q] rfl rfl (one_cell _ _ _) (one_one _) (by unfold maxLen; omega) (by omega) (by simp; omega) ?_; intro v5 w5 o5 g5 x5; have O5 : Hid (Own w5 wq.heap.size v5 (zs.take (j + 1))) := (by have := HT2.out; show Own _ _ _ _; rw [this]; exact Own.snoc (by rw [htk]; exact o5)); have G5 : Hid (Old wq w5) := Below.grown (HG4.out.alloc (.cells #[.int .i64 q] 3)) g5 (HG4.out.alloc (.cells #[.int .i64 q] 3)).size (fun j hj => (HO4.out.lt j hj).1); clear o5 g5 x5))
          obtain ⟨a5, cap5, rfl⟩ := (Own.row O5.out).slice
          have htk1 : (zs.take (j + 1)).length = j + 1 := by rw [List.length_take]; have := HTL.out; omega
          rw [htk1] at O5 ⊢
          exact ⟨⟨j + 1, _, _, by omega, by go_num, rfl, O5, G5⟩, by simp [intOf]; omega⟩
        · have d2 : decide ((j : Int) < (xss.length : Int)) = false := by simp; omega
          obtain rfl : j = xss.length := by omega
          have hzl := HTL.out
          have own2 := HO2.out
          rw [List.take_of_length_le (by omega)] at own2
          have hrc : xss.length ≤ rc := by
            rcases own2.2 with ⟨e, hn⟩ | ⟨_, _, _, e, _, _, hn, _⟩
            · simp only [Value.slice.injEq] at e
              omega
            · simp only [Value.slice.injEq, true_and] at e
              omega
          rw [← hzl] at own2 hrc
          obtain ⟨vs, ov, hem⟩ := HEMB.out (wr.alloc (.cells #[.slice ra zs.length rc] 23)) ra rc (HG2.out.alloc _) (own2.alloc _) hrc
          rw [hzl] at ov hem
          have OV : Hid ((wr.alloc (.cells #[.slice ra xss.length rc] 23)).ownsRow w.heap.size 23 1 (.slice a k cap) k vs) := ov
          have HEM : Hid (∀ v' w', w'.ownsRow w.heap.size 23 1 v' (k + 1) (vs ++ [.slice ra xss.length rc]) → (wr.alloc (.cells #[.slice ra xss.length rc] 23)).grownBy w' (Value.slice a k cap).ownBlock → (v'.ownBlock = (Value.slice a k cap).ownBlock ∨ v'.ownBlock = some (wr.alloc (.cells #[.slice ra xss.length rc] 23)).heap.size) → OwS (zss.take (k + 1)) w' w.heap.size w'.heap.size v') := hem
          have HWW : Hid (Old w (wr.alloc (.cells #[.slice ra xss.length rc] 23))) := (Old.trans HG.out HG2.out).alloc _
          clear own2 ov hem hzl hrc HO2
          go_wp2_with (at_builtin; (refine wpList_append_own_at _ rfl _ _ 52 rfl w.heap.size 23 j0 (.slice none 0 0) 1 24 Tryd.underlying52 ji jz0 jz1 jz2 rfl (by decide) _ _ _ rfl OV.out ⟨wr.heap.size, 0, none⟩ 1 1 [.slice ra xss.length rc] rfl rfl (one_cell _ _ _) (one_sl _ _ _) (by unfold maxLen; omega) (by omega) (by simp; omega) ?_; intro v5 w5 o5 g5 x5 l5; have O5 : Hid (OwS (zss.take (k + 1)) w5 w.heap.size w5.heap.size v5) := HEM.out v5 w5 o5 g5 l5; have G5 : Hid (Old w w5) := Below.grown HWW.out g5 HWW.out.size (fun j hj => HOB.out j hj); clear o5 g5 x5 l5))
          have hl1 : (zss.take (k + 1)).length = k + 1 := by rw [List.length_take]; have := HZL.out; omega
          obtain ⟨a5, cap5, e5⟩ := O5.out.slice
          subst e5
          rw [hl1] at O5 ⊢
          exact ⟨⟨k + 1, _, _, by omega, by go_num, rfl, O5, G5⟩, by simp [intOf]; omega⟩
    · have d1 : decide ((k : Int) < (ps.length : Int)) = false := by simp; omega
      obtain rfl : k = ps.length := by omega
      have HF : Hid (OwS zss wr w.heap.size wr.heap.size (.slice a ps.length cap)) := by
        have := HO.out
        rw [List.take_of_length_le (by have := HZL.out; omega)] at this
        exact this
      go_wp2_with fail
      go_ret
      exact ⟨_, rfl, HG.out, HF.out⟩
theorem Tryd.infoL2W : (Tryd.prog.info? 91).map (fun i => (i.zero, i.size, i.bytes)) = some (some (.agg #[.bool false, .slice none 0 0]), 2, 32) := by kernel_rfl
theorem two_newR (w : World) (x y : Value) (t : TypeId) {k : Nat} (hk : w.heap.size = k) (j : Nat) (u : Value) (h : [x, y][j]? = some u) : (w.alloc (.cells #[x, y] t)).cell? ((⟨k, 0, none⟩ : Addr).add j) = some u := by
  have hb : Bk (w.alloc (.cells #[x, y] t)) k #[x, y] t := Bk.new' w _ _ hk
  match j with
  | 0 =>
    simp at h
    subst h
    exact hb.c (i := 0) rfl
  | 1 =>
    simp at h
    subst h
    exact hb.c (i := 1) rfl
  | j + 2 => simp at h
/-- cells that are known, and own no block -/
def TC (cs0 : List Value) : Thing := fun W B cs => cs = cs0 ∧ ∀ b, ¬ B b
theorem good_TC (cs0 : List Value) : GoodT (TC cs0) := ⟨fun h _ => h, fun h b hb => absurd hb (h.2 b)⟩
theorem TC.rowW {T : TypeId} {bs : List Bool} {xss : List (List Int)} {us : Nat → Value} {W : World} {lo hi : Nat} {v : Value} (hb : bs.length = xss.length) (hu : ∀ j, j < xss.length → Row W (us j) (xss.getD j [])) (h : Ows (TS T 2 xss.length (fun j => TC [.bool (bs.getD j false), us j])) W lo hi [v]) : RowW W v bs xss := by
  obtain ⟨_, B, hT, _⟩ := h
  refine ⟨hb, ?_⟩
  rcases hT with ⟨h0, h1, _⟩ | ⟨p, cap, vs, Bs, e, hc, _⟩
  · simp at h1
    exact .inl ⟨none, 0, h1, List.length_eq_zero_iff.1 h0⟩
  · simp at e
    subst e
    rcases Nat.eq_zero_or_pos xss.length with h0 | h0
    · rw [h0]
      exact .inl ⟨_, _, rfl, List.length_eq_zero_iff.1 h0⟩
    · refine .inr ⟨p, 0, cap, us, rfl, ownsRow_lt hc.row, h0, fun j hj => ?_⟩
      have e1 := (hc.el j hj).1
      have c0 := hc.cell j 0 hj (by omega)
      have c1 := hc.cell j 1 hj (by omega)
      rw [e1] at c0 c1
      rw [Nat.zero_add]
      exact ⟨c0, c1, hu j hj⟩
/-- the rows that are told -/
def roX (N : Int) (ps : List Int) (bs : List Bool) (xss : List (List Int)) : List (List Int) := if roB N ps bs xss then rofX bs xss ps else []
set_option maxRecDepth 100000 in
set_option maxHeartbeats 8000000 in
theorem spec_RowsOf (N : Int) (ps : List Int) (bs : List Bool) (xss : List (List Int)) (v u : Value) (w : World) (hv : Row w v ps) (hf : Fit v) (hlp : ps.length ≤ 1048576) (hx : ∀ x ∈ ps, -9223372036854775808 ≤ x ∧ x ≤ 9223372036854775807) (hu : RowW w u bs xss) (hl : xss.length ≤ 1048576) (hr : ∀ r ∈ xss, r.length ≤ 1048576) :
    Calls Tryd.prog 29 #[.agg #[.int .i64 N, v], u] w (Rs w false (roX N ps bs xss) (roB N ps bs xss)) := by
  obtain ⟨i0, hi, hz0, hz1, hz2⟩ := info_parts Tryd.infoL2W
  obtain ⟨a0, c0, rfl⟩ := hv.slice
  have HV : Hid (Row w (.slice a0 ps.length c0) ps) := hv
  obtain ⟨a1, c1, eu⟩ := hu.slice
  subst eu
  have HU : Hid (RowW w (.slice a1 xss.length c1) bs xss) := hu
  have HA : Hid (Old w ((w.alloc (.cells #[.int .i64 N, .slice a0 ps.length c0] 57)).alloc (.cells #[.bool false, .slice none 0 0] 54))) := ((Old.refl w).alloc _).alloc _
  have BA : Hid (Bk ((w.alloc (.cells #[.int .i64 N, .slice a0 ps.length c0] 57)).alloc (.cells #[.bool false, .slice none 0 0] 54)) w.heap.size #[.int .i64 N, .slice a0 ps.length c0] 57) := (Bk.new' w _ _ rfl).alloc _
  have BR : Hid (Bk ((w.alloc (.cells #[.int .i64 N, .slice a0 ps.length c0] 57)).alloc (.cells #[.bool false, .slice none 0 0] 54)) (w.heap.size + 1) #[.bool false, .slice none 0 0] 54) := Bk.new' _ _ _ (by simp)
  have K1 : ∀ W, Old w W → Calls Tryd.prog 97 #[.agg #[.int .i64 N, .slice a0 ps.length c0]] W fun e w' => e = .returned (.bool (spB N ps)) ∧ Old W w' := fun W g => spec_goodSpace N ps _ W (hv.old g) hf (by omega) hx
  have hno : ∀ b, roB N ps bs xss = b → b = false → Hid (Rs w false (roX N ps bs xss) (roB N ps bs xss) = Rs w false [] false) := fun b h1 h2 => by show _ = _; unfold roX; rw [h1, h2]; rfl
  cases hs1 : spB N ps
  · rw [hs1] at K1
    have HE := hno _ rfl (by unfold roB; rw [hs1]; rfl)
    clear hv hu hr hf hs1 hno
    go_enter Tryd.func29, Tryd.ntmps29
    go_wp2_with fail
    refine (K1 _ HA.out).mono ?_
    rintro e w1 ⟨rfl, g1⟩
    have HG1 : Hid (Old w w1) := Old.trans HA.out g1
    have B1 : Hid (Bk w1 w.heap.size #[.int .i64 N, .slice a0 ps.length c0] 57) := BA.out.old g1
    have R1 : Hid (Bk w1 (w.heap.size + 1) #[.bool false, .slice none 0 0] 54) := BR.out.old g1
    clear g1
    have z0 := B1.out.c (i := 0) rfl
    have z1 := B1.out.c (i := 1) rfl
    have y0 := R1.out.c (i := 0) rfl
    have y1 := R1.out.c (i := 1) rfl
    have f0 : w1.frozen? ⟨w.heap.size + 1, 0, none⟩ = false := frozen_of_row _ _ _ _ _ R1.out
    have f1 : w1.frozen? ⟨w.heap.size + 1, 1, none⟩ = false := frozen_of_row _ _ _ _ _ R1.out
    go_wp2_with fail
    refine bodyPost_ret (ret_rb (x := .bool false) (y := .slice none 0 0) (z := .bool false) Tryd.results29 _ _ rfl rfl (st_put2 (bk_st R1.out) _ _)) rfl ?_
    rw [HE.out]
    exact ⟨_, rfl, (HG1.out.own (p := ⟨w.heap.size + 1, 0, none⟩) (by simp) _).own (p := ⟨w.heap.size + 1, 1, none⟩) (by simp) _, XR.nil _ _ _ _ (Nat.le_refl _)⟩
  by_cases hn : (xss.length : Int) = N
  case neg =>
    have dn : ((xss.length : Int) != N) = true := by simpa using hn
    have HE := hno _ rfl (by unfold roB; rw [hs1, decide_eq_false hn]; rfl)
    rw [hs1] at K1
    clear hv hu hr hf hs1 hno hn
    go_enter Tryd.func29, Tryd.ntmps29
    go_wp2_with fail
    refine (K1 _ HA.out).mono ?_
    rintro e w1 ⟨rfl, g1⟩
    have HG1 : Hid (Old w w1) := Old.trans HA.out g1
    have B1 : Hid (Bk w1 w.heap.size #[.int .i64 N, .slice a0 ps.length c0] 57) := BA.out.old g1
    have R1 : Hid (Bk w1 (w.heap.size + 1) #[.bool false, .slice none 0 0] 54) := BR.out.old g1
    clear g1
    have z0 := B1.out.c (i := 0) rfl
    have z1 := B1.out.c (i := 1) rfl
    have y0 := R1.out.c (i := 0) rfl
    have y1 := R1.out.c (i := 1) rfl
    have f0 : w1.frozen? ⟨w.heap.size + 1, 0, none⟩ = false := frozen_of_row _ _ _ _ _ R1.out
    have f1 : w1.frozen? ⟨w.heap.size + 1, 1, none⟩ = false := frozen_of_row _ _ _ _ _ R1.out
    go_wp2_with fail
    refine bodyPost_ret (ret_rb (x := .bool false) (y := .slice none 0 0) (z := .bool false) Tryd.results29 _ _ rfl rfl (st_put2 (bk_st R1.out) _ _)) rfl ?_
    rw [HE.out]
    exact ⟨_, rfl, (HG1.out.own (p := ⟨w.heap.size + 1, 0, none⟩) (by simp) _).own (p := ⟨w.heap.size + 1, 1, none⟩) (by simp) _, XR.nil _ _ _ _ (Nat.le_refl _)⟩
  have dn : ((xss.length : Int) != N) = false := by simpa using hn
  obtain ⟨hb16, hpm⟩ := bas_at (sp_ring hs1).2.1
  have hN := (sp_ring hs1).1
  have hRo : roB N ps bs xss = allG bs xss 0 := by unfold roB; rw [hs1, decide_eq_true hn]; rfl
  rw [hs1] at K1
  have HNO : Hid (allG bs xss 0 = false → Rs w false (roX N ps bs xss) (roB N ps bs xss) = Rs w false [] false) := fun h => (hno _ rfl (hRo.trans h)).out
  have HYE : Hid (allG bs xss 0 = true → Rs w false (roX N ps bs xss) (roB N ps bs xss) = Rs w false (rofX bs xss ps) true) := fun h => by unfold roX; rw [hRo, h]; rfl
  have hbl : bs.length = xss.length := hu.1
  have h16 : 1 ≤ xss.length ∧ xss.length ≤ 16 := by omega
  obtain ⟨us, hus⟩ : ∃ us : Nat → Value, ∃ b o, a1 = some ⟨b, o, none⟩ ∧ b < w.heap.size ∧ ∀ j, j < xss.length → w.cell? ⟨b, o + j * 2, none⟩ = some (.bool (bs.getD j false)) ∧ w.cell? ⟨b, o + j * 2 + 1, none⟩ = some (us j) ∧ Row w (us j) (xss.getD j []) := by
    obtain ⟨_, ⟨a, cap, e, e2⟩ | ⟨b, o, cap, us, e, hb2, h3, hc⟩⟩ := hu
    · subst e2
      simp at h16
    · simp only [Value.slice.injEq, true_and] at e
      exact ⟨us, b, o, e.1, hb2, hc⟩
  obtain ⟨b, o, rfl, hb, hc⟩ := hus
  have HC : Hid (∀ j, j < xss.length → w.cell? ⟨b, o + j * 2, none⟩ = some (.bool (bs.getD j false)) ∧ w.cell? ⟨b, o + j * 2 + 1, none⟩ = some (us j) ∧ Row w (us j) (xss.getD j [])) := hc
  have HR : Hid (∀ r ∈ xss, r.length ≤ 1048576) := hr
  have HL5 : Hid (allG bs xss 0 = true → ∀ W u1, Old w W → RowW W u1 bs xss → Calls Tryd.prog 98 #[.agg #[.int .i64 N, .slice a0 ps.length c0], u1] W fun e w' => ∃ v', e = .returned v' ∧ Old W w' ∧ OwS (rofX bs xss ps) w' W.heap.size w'.heap.size v') := fun hg W u1 g h1 => by
    refine spec_l5Of N ps bs xss _ u1 W (hv.old g) h1 hb16 h16 (fun k hk j hj W' u' hu' => ?_)
    have hgj := of_decide_eq_true hg j hj (Nat.zero_le _)
    obtain ⟨ex, gx, lx⟩ := good_gw hgj
    obtain ⟨p2, p28⟩ := pm_bd (hpm k hk)
    obtain ⟨P, hPP⟩ := Int.eq_ofNat_of_zero_le (show 0 ≤ ps.getD k 0 by omega)
    rw [lbZ_get bs xss _ j hj]
    rw [hPP]
    rw [hPP] at p2 p28
    exact modulo_any (bs.getD j false) (nat (xss.getD j [])) P u' W' (by rw [ex]; exact hu') gx.1.1 (by omega) (by omega) (by omega)
  have hzl : (rofX bs xss ps).length = ps.length := rofX_len bs xss ps
  have HF : Hid (∀ w' a c, Old w w' → OwS (rofX bs xss ps) w' w.heap.size w'.heap.size (.slice a ps.length c) → Rs w false (rofX bs xss ps) true (.returned (.tuple #[.agg #[.bool false, .slice a ps.length c], .bool true])) w') := fun w' a c g o => ⟨_, rfl, g, a, c, by rw [hzl], by rw [hzl]; exact o⟩
  have HSL : Hid (∀ W lo hi v, OwS (rofX bs xss ps) W lo hi v → ∃ a c, v = .slice a ps.length c) := fun W lo hi v h => by have := h.slice; rwa [hzl] at this
  obtain ⟨R, hR⟩ : ∃ R, allG bs xss 0 = R := ⟨_, rfl⟩
  have HE0 : Hid (allG bs xss 0 = R) := hR
  rw [hR] at HNO HYE HL5
  generalize rofX bs xss ps = zss at *
  generalize hPost : Rs w false (roX N ps bs xss) (roB N ps bs xss) = PO at *
  clear hv hu hr hf hs1 hno hn hpm hx hRo hR hc hzl hPost
  go_enter Tryd.func29, Tryd.ntmps29
  go_wp2_with fail
  refine (K1 _ HA.out).mono ?_
  rintro e w1 ⟨rfl, g1⟩
  have HG1 : Hid (Old w w1) := Old.trans HA.out g1
  have B1 : Hid (Bk w1 w.heap.size #[.int .i64 N, .slice a0 ps.length c0] 57) := BA.out.old g1
  have R1 : Hid (Bk w1 (w.heap.size + 1) #[.bool false, .slice none 0 0] 54) := BR.out.old g1
  clear g1
  have z0 := B1.out.c (i := 0) rfl
  have z1 := B1.out.c (i := 1) rfl
  have y0 := R1.out.c (i := 0) rfl
  have y1 := R1.out.c (i := 1) rfl
  have f0 : w1.frozen? ⟨w.heap.size + 1, 0, none⟩ = false := frozen_of_row _ _ _ _ _ R1.out
  have f1 : w1.frozen? ⟨w.heap.size + 1, 1, none⟩ = false := frozen_of_row _ _ _ _ _ R1.out
  go_wp2_with fail
  go_loopw [22, 6, 8] (fun i x _ W => ∃ (k : Nat) (a : Option Addr) (c : Nat), k ≤ xss.length ∧ i = .int .i64 k ∧ x = .slice a k c ∧ Hid (allG bs xss k = R) ∧ Hid (Ows (TS 91 2 k (fun j => TC [.bool (bs.getD j false), us j])) W w1.heap.size W.heap.size [.slice a k c]) ∧ Hid (Old w1 W)) (fun i _ _ _ => xss.length - (intOf i).toNat)
  case atStart => exact ⟨0, none, 0, by omega, rfl, rfl, HE0, Ows.nil (Nat.le_refl _), Old.refl _⟩
  case round =>
    obtain ⟨k, a, c, hk, rfl, rfl, H1, HO, HG4⟩ := hrel
    have HG5 : Hid (Old w wr) := Old.trans HG1.out HG4.out
    have R2 : Hid (Bk wr (w.heap.size + 1) #[.bool false, .slice none 0 0] 54) := R1.out.old HG4.out
    have B2 : Hid (Bk wr w.heap.size #[.int .i64 N, .slice a0 ps.length c0] 57) := B1.out.old HG4.out
    have hsw := HG4.out.size
    clear y0 y1 f0 f1 z0 z1 HE0
    by_cases hlt : k < xss.length
    · have d1 : decide ((k : Int) < (xss.length : Int)) = true := by simp; omega
      obtain ⟨s0, t0, r0⟩ := HC.out k hlt
      have hm : xss.getD k [] ∈ xss := by simp [List.getD, hlt]
      have hrl := HR.out _ hm
      obtain ⟨x1, y1, e1⟩ := r0.slice
      have HUK : Hid (us k = .slice x1 (xss.getD k []).length y1) := e1
      rw [e1] at t0 r0
      have q0 : wr.cell? ⟨b, o + k * 2, none⟩ = some (.bool (bs.getD k false)) := (HG5.out.cell (p := ⟨b, o + k * 2, none⟩) hb).trans s0
      have q1 : wr.cell? ⟨b, o + k * 2 + 1, none⟩ = some (.slice x1 (xss.getD k []).length y1) := (HG5.out.cell (p := ⟨b, o + k * 2 + 1, none⟩) hb).trans t0
      have cg : ∀ W, Old wr W → Calls Tryd.prog 59 #[.agg #[.bool (bs.getD k false), .slice x1 (xss.getD k []).length y1]] W fun e w' => e = .returned (.bool (decide (Good (bs.getD k false) (xss.getD k [])))) ∧ Old W w' := fun W g => good_any _ _ _ W ((r0.old HG5.out).old g) hrl
      have HY : Hid (decide (Good (bs.getD k false) (xss.getD k [])) = true → allG bs xss (k + 1) = R) := fun h => by rw [← allG_yes (of_decide_eq_true h)]; exact H1.out
      have HN : Hid (decide (Good (bs.getD k false) (xss.getD k [])) = false → R = false) := fun h => by rw [← H1.out, allG_no hlt (of_decide_eq_false h)]
      clear s0 t0 r0 e1 hm H1
      generalize decide (Good (bs.getD k false) (xss.getD k [])) = gd at *
      obtain ⟨s, hs⟩ : ∃ s, bs.getD k false = s := ⟨_, rfl⟩
      obtain ⟨xs, hxs⟩ : ∃ xs, xss.getD k [] = xs := ⟨_, rfl⟩
      have HSS : Hid (bs.getD k false = s) := hs
      rw [hs] at q0 cg
      rw [hxs] at q1 cg HUK hrl
      clear hs hxs
      cases gd
      · have H2 : Hid (PO = Rs w false [] false) := HNO.out (HN.out rfl)
        clear HN HY HNO HYE
        go_wp2_with fail
        refine (cg _ ((Old.refl wr).alloc _)).mono ?_
        rintro e w2 ⟨rfl, g2⟩
        have g3 : Old wr w2 := Old.trans ((Old.refl wr).alloc _) g2
        have HG2 : Hid (Old w w2) := Old.trans HG5.out g3
        have R3 : Hid (Bk w2 (w.heap.size + 1) #[.bool false, .slice none 0 0] 54) := R2.out.old g3
        clear g2 g3
        have y0 := R3.out.c (i := 0) rfl
        have y1 := R3.out.c (i := 1) rfl
        have f0 : w2.frozen? ⟨w.heap.size + 1, 0, none⟩ = false := frozen_of_row _ _ _ _ _ R3.out
        have f1 : w2.frozen? ⟨w.heap.size + 1, 1, none⟩ = false := frozen_of_row _ _ _ _ _ R3.out
        go_wp2_with fail
        refine bodyPost_ret (ret_rb (x := .bool false) (y := .slice none 0 0) (z := .bool false) Tryd.results29 _ _ rfl rfl (st_put2 (bk_st R3.out) _ _)) rfl ?_
        rw [H2.out]
        exact ⟨_, rfl, (HG2.out.own (p := ⟨w.heap.size + 1, 0, none⟩) (by simp) _).own (p := ⟨w.heap.size + 1, 1, none⟩) (by simp) _, XR.nil _ _ _ _ (Nat.le_refl _)⟩
      · have H2 : Hid (allG bs xss (k + 1) = R) := HY.out rfl
        clear HN HY
        go_wp2_with fail
        refine (cg _ ((Old.refl wr).alloc _)).mono ?_
        rintro e w2 ⟨rfl, g2⟩
        have BB : Hid (Bk w2 wr.heap.size #[.bool s, .slice x1 xs.length y1] 27) := (Bk.new' wr _ _ rfl).old g2
        have G2 : Hid (Old wr w2) := Old.trans ((Old.refl wr).alloc _) g2
        have t0 := BB.out.c (i := 0) rfl
        have t1 := BB.out.c (i := 1) rfl
        clear g2
        go_wp2_with fail
        refine (in_anyW s x1 xs.length y1 _).mono ?_
        rintro e w3 ⟨rfl, g3⟩
        have G3 : Hid (Old wr w3) := Old.trans G2.out g3
        have HG3 : Hid (Old w1 w3) := Old.trans HG4.out G3.out
        have HAP : Hid (∀ o1 : Obj, ∃ vs, (w3.alloc o1).ownsRow 0 91 2 (.slice a k c) k vs ∧ (∀ b, (Value.slice a k c).ownBlock = some b → w1.heap.size ≤ b) ∧ ∀ v' w', w'.ownsRow 0 91 2 v' (k + 1) (vs ++ [.bool s, .slice x1 xs.length y1]) → (w3.alloc o1).grownBy w' (Value.slice a k c).ownBlock → (v'.ownBlock = (Value.slice a k c).ownBlock ∨ v'.ownBlock = some (w3.alloc o1).heap.size) → Ows (TS 91 2 (k + 1) (fun j => TC [.bool (bs.getD j false), us j])) w' w1.heap.size w'.heap.size [v']) := fun o1 => by
          obtain ⟨vs, p1, p2, p3⟩ := Ows.app (fun j => good_TC _) (good_TC [.bool s, .slice x1 xs.length y1]) HO.out hsw (G3.out.alloc o1) (Be := fun _ => False) ⟨rfl, fun b hb => hb⟩ (fun b hb => hb.elim) rfl
          refine ⟨vs, p1, p2, fun v' w' q1 q2 q3 => ?_⟩
          obtain ⟨hh, B', hT', hB'⟩ := p3 v' w' q1 q2 q3
          exact ⟨hh, B', TS.ext (fun j hj => by
            by_cases e : j = k
            · subst e
              simp only [if_true]
              rw [HSS.out, HUK.out]
            · simp only [e, if_false]) hT', hB'⟩
        obtain ⟨vs, p1, p2, p3⟩ := HAP.out (.cells #[.bool s, .slice x1 xs.length y1] 91)
        have P1 : Hid ((w3.alloc (.cells #[.bool s, .slice x1 xs.length y1] 91)).ownsRow 0 91 2 (.slice a k c) k vs) := p1
        have P2 : Hid (∀ b, (Value.slice a k c).ownBlock = some b → w1.heap.size ≤ b) := p2
        have P3 : Hid (∀ v' w', w'.ownsRow 0 91 2 v' (k + 1) (vs ++ [.bool s, .slice x1 xs.length y1]) → (w3.alloc (.cells #[.bool s, .slice x1 xs.length y1] 91)).grownBy w' (Value.slice a k c).ownBlock → (v'.ownBlock = (Value.slice a k c).ownBlock ∨ v'.ownBlock = some (w3.alloc (.cells #[.bool s, .slice x1 xs.length y1] 91)).heap.size) → Ows (TS 91 2 (k + 1) (fun j => TC [.bool (bs.getD j false), us j])) w' w1.heap.size w'.heap.size [v']) := p3
        have HGA : Hid (Old w1 (w3.alloc (.cells #[.bool s, .slice x1 xs.length y1] 91))) := HG3.out.alloc _
        have HNW : Hid (∀ (j : Nat) (u : Value), [Value.bool s, .slice x1 xs.length y1][j]? = some u → (w3.alloc (.cells #[.bool s, .slice x1 xs.length y1] 91)).cell? ((⟨w3.heap.size, 0, none⟩ : Addr).add j) = some u) := two_newR _ _ _ _ rfl
        clear p1 p2 p3 HAP HO g3 t0 t1 HSS HUK cg q0 q1 BB
        go_wp2_with (at_builtin; go_loud (refine wpList_append_own_at _ rfl _ _ 130 rfl 0 91 i0 (.agg #[.bool false, .slice none 0 0]) 2 32 Tryd.underlying130 hi hz0 hz1 hz2 rfl (by decide) _ _ _ rfl P1.out ⟨w3.heap.size, 0, none⟩ 1 1 [.bool s, .slice x1 xs.length y1] rfl rfl HNW.out (by simp [Value.oneCell']) (by unfold maxLen; omega) (by omega) (Nat.zero_le _) ?_; intro v5 w5 o5 g5 x5 l5; have O5 : Hid (Ows (TS 91 2 (k + 1) (fun j => TC [.bool (bs.getD j false), us j])) w5 w1.heap.size w5.heap.size [v5]) := P3.out v5 w5 o5 g5 l5; have G5 : Hid (Old w1 w5) := Below.grown HGA.out g5 HGA.out.size (fun j hj => P2.out j hj); clear o5 g5 x5 l5))
        obtain ⟨a5, c5, rfl⟩ : ∃ a c, v5 = .slice a (k + 1) c := by obtain ⟨_, B5, hT5, _⟩ := O5.out; exact TS.slice hT5
        exact ⟨⟨k + 1, a5, c5, by omega, by go_num, rfl, H2, O5, G5⟩, by simp [intOf]; omega⟩
    · have d1 : decide ((k : Int) < (xss.length : Int)) = false := by simp; omega
      obtain rfl : k = xss.length := by omega
      have hRt : R = true := by rw [← H1.out, allG_end (Nat.le_refl _)]
      have H2 : Hid (PO = Rs w false zss true) := HYE.out hRt
      have RW : RowW wr (.slice a xss.length c) bs xss := TC.rowW hbl (fun j hj => (HC.out j hj).2.2.old HG5.out) HO.out
      have K5 := HL5.out hRt wr (.slice a xss.length c) HG5.out RW
      have z0 := B2.out.c (i := 0) rfl
      have z1 := B2.out.c (i := 1) rfl
      clear hRt HNO HYE HL5 RW HO
      go_wp2_with fail
      refine K5.mono ?_
      rintro e w5 ⟨v5, rfl, g5, o5⟩
      obtain ⟨a5, c5, rfl⟩ := HSL.out _ _ _ _ o5
      have R3 : Hid (Bk w5 (w.heap.size + 1) #[.bool false, .slice none 0 0] 54) := R2.out.old g5
      have HG6 : Hid (Old w w5) := Old.trans HG5.out g5
      have HO5 : Hid (OwS zss w5 wr.heap.size w5.heap.size (.slice a5 ps.length c5)) := o5
      have hs5 : w.heap.size + 1 < wr.heap.size := R2.out.lt
      clear g5 o5 z0 z1 K5
      have y0 := R3.out.c (i := 0) rfl
      have y1 := R3.out.c (i := 1) rfl
      have f0 : w5.frozen? ⟨w.heap.size + 1, 0, none⟩ = false := frozen_of_row _ _ _ _ _ R3.out
      have f1 : w5.frozen? ⟨w.heap.size + 1, 1, none⟩ = false := frozen_of_row _ _ _ _ _ R3.out
      go_wp2_with fail
      refine bodyPost_ret (ret_rb (x := .bool false) (y := .slice a5 ps.length c5) (z := .bool true) Tryd.results29 _ _ rfl rfl (st_put2 (bk_st R3.out) _ _)) rfl ?_
      rw [H2.out]
      refine HF.out _ _ _ ?_ ?_
      · exact (HG6.out.own (p := ⟨w.heap.size + 1, 0, none⟩) (by simp) _).own (p := ⟨w.heap.size + 1, 1, none⟩) (by simp) _
      · have h2 := (HO5.out.put (k := w.heap.size + 1) (j := 0) (x := .bool false) (by omega)).put (k := w.heap.size + 1) (j := 1) (x := .slice a5 ps.length c5) (by omega)
        have h3 := h2.low (lo' := w.heap.size) (by omega)
        exact h3.high (by simp) (Nat.le_refl _)
end Go.Proofs.YtfgooclnohnkmaaDoor
