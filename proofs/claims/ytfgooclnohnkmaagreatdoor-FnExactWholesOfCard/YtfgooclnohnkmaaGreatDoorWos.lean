/- Proved: contracts of the model's l5Wholes and WholesOf. -/
import Derived.Test.YtfgooclnohnkmaaGreatDoorWof
import Derived.Test.YtfgooclnohnkmaaGreatDoorRos
import Derived.Test.YtfgooclnohnkmaaGreatDoorCpO
namespace Go.Proofs.YtfgooclnohnkmaaGreatDoor
open Go.ChangeShapes Go.WideShapes Go.ChangeAt Go.RowKit
open M2
set_option linter.unusedVariables false
set_option linter.unusedSimpArgs false
theorem TSW.rowW {T : TypeId} {bs : List Bool} {xss : List (List Int)} {W : World} {B : Nat → Prop} {v : Value} (hb : bs.length = xss.length) (h : TS T 2 xss.length (elW bs xss) W B [v]) : RowW W v bs xss := by
  refine ⟨hb, ?_⟩
  rcases h with ⟨h0, h1, _⟩ | ⟨p, cap, vs, Bs, e, hc, _⟩
  · simp at h1
    exact .inl ⟨none, 0, h1, List.length_eq_zero_iff.1 h0⟩
  · simp at e
    subst e
    rcases Nat.eq_zero_or_pos xss.length with h0 | h0
    · rw [h0]
      exact .inl ⟨_, _, rfl, List.length_eq_zero_iff.1 h0⟩
    · refine .inr ⟨p, 0, cap, fun j => (cellsJ 2 vs j).getD 1 (.slice none 0 0), rfl, ownsRow_lt hc.row, h0, fun j hj => ?_⟩
      obtain ⟨x, e0, e1, hE⟩ := TB.two (hc.el j hj)
      have c0 := hc.cell j 0 hj (by omega)
      have c1 := hc.cell j 1 hj (by omega)
      have ex : (cellsJ 2 vs j).getD 1 (.slice none 0 0) = x := by simp [List.getD, e1]
      show W.cell? ⟨p, 0 + j * 2, none⟩ = _ ∧ W.cell? ⟨p, 0 + j * 2 + 1, none⟩ = some ((cellsJ 2 vs j).getD 1 (.slice none 0 0)) ∧ Row W ((cellsJ 2 vs j).getD 1 (.slice none 0 0)) _
      rw [ex, Nat.zero_add]
      exact ⟨c0.trans e0, c1.trans e1, hE.row⟩
set_option maxRecDepth 100000 in
set_option maxHeartbeats 1000000 in
theorem spec_l5Wholes (Nn : Nat) (ps : List Int) (zss : List (List Int)) (v u : Value) (w : World) (hv : Row w v ps) (h1 : RowS w u zss) (hN : 1 ≤ Nn ∧ Nn ≤ 16) (hps : 1 ≤ ps.length ∧ ps.length ≤ 6) (hG : Gr Nn ps zss) :
    Calls Tryz.prog 84 #[.agg #[.int .i64 Nn, v], u] w fun e w' => ∃ v', e = .returned v' ∧ Old w w' ∧ RowW w' v' (whB Nn ps zss) (whX Nn ps zss) := by
  obtain ⟨i0, hi, hz0, hz1, hz2⟩ := info_parts Tryz.infoInt
  obtain ⟨j0, ji, jz0, jz1, jz2⟩ := info_parts Tryz.infoL2W
  obtain ⟨ep, hb⟩ := hG.ps
  have hzl : zss.length = ps.length := hG.len
  obtain ⟨a0, c0, ev⟩ := hv.slice
  obtain ⟨a1, cap1, e1⟩ := h1.slice
  rw [hzl] at e1
  subst ev e1
  obtain ⟨pz, hpz⟩ : ∃ pz, pz = toI (dig (prodN (pnN ps))) := ⟨_, rfl⟩
  obtain ⟨cz, hcz⟩ : ∃ cz : Nat → List Int, ∀ i, cz i = toI (dig (coN (cqN zss i) (pnN ps))) := ⟨_, fun i => rfl⟩
  have HPR : Hid (∀ W, Old w W → Calls Tryz.prog 69 #[.slice a0 ps.length c0] W fun e w' => ∃ v', e = .returned v' ∧ Old W w' ∧ Row w' v' pz) := fun W g => by rw [hpz]; exact spec_product (pnN ps) _ W (by rw [← ep]; exact hv.old g) hb.len6 hb.hi
  have HCP : Hid (∀ i, i < Nn → ∀ W v', Old w W → Row W v' (colZ zss i) → Calls Tryz.prog 60 #[v', .slice a0 ps.length c0] W fun e w' => ∃ v2, e = .returned v2 ∧ Old W w' ∧ Own w' W.heap.size v2 (cz i)) := fun i hi W v' g hr => by
    obtain ⟨e1, hR⟩ := hG.col i hi
    rw [hcz i]
    exact spec_composeO (cqN zss i) (pnN ps) v' _ W (by rw [← e1]; exact hr) (by rw [← ep]; exact hv.old g) hR
  have HCT : Hid (∀ i, i < Nn → ∀ W x y base, Own W base x (cz i) → base ≤ W.heap.size → Row W y pz → Calls Tryz.prog 153 #[x, y] W fun e w' => ∃ v3, e = .returned (.agg #[.bool ((whB Nn ps zss).getD i false), v3]) ∧ Old W w' ∧ Own w' base v3 ((whX Nn ps zss).getD i [])) := fun i hi W x y base hx hbase hy => by
    obtain ⟨e1, hR⟩ := hG.col i hi
    rw [whB_get Nn ps zss i hi, whX_get Nn ps zss i hi]
    rw [hcz i] at hx
    rw [hpz] at hy
    have hc2 : cnt (coN (cqN zss i) (pnN ps) * 2) ≤ 8 := by
      refine cnt_le ?_
      have h1 := cnt_lt (coN (cqN zss i) (pnN ps))
      have h3 : LB ^ cnt (coN (cqN zss i) (pnN ps)) ≤ LB ^ 7 := Nat.pow_le_pow_right LB_pos (coN_cnt hR)
      have h4 : LB ^ 8 = LB ^ 7 * LB := Nat.pow_succ ..
      have h5 : LB ^ 7 * 2 ≤ LB ^ 7 * LB := Nat.mul_le_mul_left _ (by decide)
      omega
    exact centre_anyO (coN (cqN zss i) (pnN ps)) (prodN (pnN ps)) base x y W hx hbase hy (Nat.le_trans (coN_cnt hR) (by omega)) (Nat.le_trans hb.cnt (by omega)) (Nat.le_trans hc2 (by omega)) (Nat.mod_lt _ (Nat.pos_of_ne_zero hb.pos))
  have HRL : Hid (∀ j, j < ps.length → (zss.getD j []).length = Nn) := fun j hj => (hG.row j hj).1
  have HCG : Hid (∀ i j, j < ps.length → (colZ zss i).getD j 0 = (zss.getD j []).getD i 0) := fun i j hj => colZ_get zss i j (by omega)
  have HCL : Hid (∀ i, (colZ zss i).length = ps.length) := fun i => by rw [colZ_len, hzl]
  have HBL : (whB Nn ps zss).length = (whX Nn ps zss).length := by rw [whB_len, whX_len]
  have HXL : Hid ((whX Nn ps zss).length = Nn) := whX_len Nn ps zss
  rcases h1 with ⟨a, cap, e, e'⟩ | ⟨b1, o1, cap, us1, e_1, hb1, h01, hc1⟩
  · subst e'
    simp at hzl
    omega
  simp only [Value.slice.injEq] at e_1
  obtain ⟨rfl, hle1, rfl⟩ := e_1
  clear hle1
  have HC1 : Hid (∀ j, j < ps.length → w.cell? ⟨b1, o1 + j, none⟩ = some (us1 j) ∧ Row w (us1 j) (zss.getD j [])) := fun j hj => hc1 j (by omega)
  have HAO : Hid (Old w (w.alloc (.cells #[.int .i64 Nn, .slice a0 ps.length c0] 56))) := (Old.refl w).alloc _
  have BA : Hid (Bk (w.alloc (.cells #[.int .i64 Nn, .slice a0 ps.length c0] 56)) w.heap.size #[.int .i64 Nn, .slice a0 ps.length c0] 56) := Bk.new' w _ _ rfl
  have HFI : Hid (∀ W v', Ows (TS 101 2 Nn (elW (whB Nn ps zss) (whX Nn ps zss))) W w.heap.size W.heap.size [v'] → RowW W v' (whB Nn ps zss) (whX Nn ps zss)) := fun W v' h2 => by
    obtain ⟨_, B, hT, _⟩ := h2
    refine TSW.rowW (T := 101) (B := B) HBL ?_
    rw [whX_len]
    exact hT
  have HEL : Hid (∀ k, elW (whB Nn ps zss) (whX Nn ps zss) k = TB ((whB Nn ps zss).getD k false) (TI ((whX Nn ps zss).getD k []))) := fun k => rfl
  have HGD : Hid (∀ j, GoodT (elW (whB Nn ps zss) (whX Nn ps zss) j)) := good_elW _ _
  generalize elW (whB Nn ps zss) (whX Nn ps zss) = Es at *
  generalize whB Nn ps zss = bs at *
  generalize whX Nn ps zss = yss at *
  clear hc1 hv hG hb ep hzl HBL hpz hcz
  go_enter Tryz.func84, Tryz.ntmps84
  go_wp2_with fail
  refine (HPR.out _ HAO.out).mono ?_
  rintro e w1 ⟨vq, rfl, g1, rq⟩
  obtain ⟨aq, cq, rfl⟩ := rq.slice
  have RQ : Hid (Row w1 (.slice aq pz.length cq) pz) := rq
  have HG1 : Hid (Old w w1) := Old.trans HAO.out g1
  have B1 : Hid (Bk w1 w.heap.size #[.int .i64 Nn, .slice a0 ps.length c0] 56) := BA.out.old g1
  clear g1 rq
  go_wp2_with fail
  go_loopw [6, 7] (fun x i W => ∃ (k : Nat) (a : Option Addr) (c : Nat), k ≤ Nn ∧ i = .int .i64 k ∧ x = .slice a k c ∧ Hid (Ows (TS 101 2 k Es) W w1.heap.size W.heap.size [.slice a k c]) ∧ Hid (Old w1 W)) (fun _ i _ => Nn - (intOf i).toNat)
  case atStart => exact ⟨0, none, 0, by omega, rfl, rfl, Ows.nil (Nat.le_refl _), Old.refl _⟩
  case round =>
    obtain ⟨k, a, c, hk, rfl, rfl, HO, HG2⟩ := hrel
    have HGW : Hid (Old w wr) := Old.trans HG1.out HG2.out
    have B2 : Hid (Bk wr w.heap.size #[.int .i64 Nn, .slice a0 ps.length c0] 56) := B1.out.old HG2.out
    have z0 := B2.out.c (i := 0) rfl
    have z1 := B2.out.c (i := 1) rfl
    have hsw := HGW.out.size
    have hsw1 := HG2.out.size
    by_cases hlt : k < Nn
    · have d1 : decide ((k : Int) < (Nn : Int)) = true := by simp; omega
      have ilt : (k : Int) < (Nn : Int) := by omega
      have kcp := HCP.out k hlt
      have kct := HCT.out k hlt
      have HT : Hid (∀ j, j < ps.length → (colZ zss k).take (j + 1) = (colZ zss k).take j ++ [(zss.getD j []).getD k 0]) := fun j hj => by
        rw [take_succI _ _ (by rw [HCL.out k]; exact hj), HCG.out k j hj]
      have HTL : Hid ((colZ zss k).length = ps.length) := HCL.out k
      generalize colZ zss k = zs at *
      generalize cz k = czk at *
      rename World => wq
      go_wp2_with fail
      go_loopw [8, 22, 9] (fun x i _ W => ∃ (j : Nat) (ra : Option Addr) (rc : Nat), j ≤ ps.length ∧ i = .int .i64 j ∧ x = .slice ra j rc ∧ Hid (Own W wq.heap.size (.slice ra j rc) (zs.take j)) ∧ Hid (Old wq W)) (fun _ i _ _ => ps.length - (intOf i).toNat)
      case atStart => exact ⟨0, none, 0, by omega, rfl, rfl, (by exact own_nil _ _), Old.refl _⟩
      case round =>
        obtain ⟨j, ra, rc, hj, rfl, rfl, HO2, HG3⟩ := hrel
        have hs2 := HG3.out.size
        have HGX : Hid (Old w wr) := Old.trans HGW.out HG3.out
        by_cases hjl : j < ps.length
        · have d2 : decide ((j : Int) < (ps.length : Int)) = true := by simp; omega
          have jlt : (j : Int) < (ps.length : Int) := by omega
          obtain ⟨p1, p2⟩ := HC1.out j hjl
          have hrl := HRL.out j hjl
          rcases p2 with ⟨x, y, e, e'⟩ | ⟨b3, o3, cap3, e, hb3, h03, hc3⟩
          · rw [e'] at hrl
            simp at hrl
            omega
          have q1 : wr.cell? ⟨b1, o1 + j, none⟩ = some (.slice (some ⟨b3, o3, none⟩) Nn cap3) := ((HGX.out.cell (p := ⟨b1, o1 + j, none⟩) hb1).trans p1).trans (by rw [e, hrl])
          have q2 : wr.cell? ⟨b3, o3 + k, none⟩ = some (.int .i64 ((zss.getD j []).getD k 0)) := (HGX.out.cell (p := ⟨b3, o3 + k, none⟩) hb3).trans (hc3 k (by omega))
          have htk : (zs.take j).length = j := by rw [List.length_take]; have := HTL.out; omega
          have HT2 : Hid (zs.take (j + 1) = zs.take j ++ [(zss.getD j []).getD k 0]) := HT.out j hjl
          clear p1 e hc3 hrl h03
          generalize (zss.getD j []).getD k 0 = q at *
          go_wp2_with (at_builtin; go_loud (refine wpList_append_own _ rfl _ _ 23 rfl wq.heap.size 3 i0 (.int .i64 0) 1 8 Tryz.underlying23 hi hz0 hz1 hz2 rfl (by decide) _ _ _ rfl (by have := HO2.out.alloc (.cells #[.int .i64 q] 3); unfold Own at this; rw [htk] at this; exact this) ⟨wr.heap.size, 0, none⟩ 1 1 [.int .i64 q] rfl rfl (one_cell _ _ _) (one_one _) (by unfold maxLen; omega) (by omega) (by simp; omega) ?_; intro v5 w5 o5 g5 x5; have O5 : Hid (Own w5 wq.heap.size v5 (zs.take (j + 1))) := (by have := HT2.out; show Own _ _ _ _; rw [this]; exact Own.snoc (by rw [htk]; exact o5)); have G5 : Hid (Old wq w5) := Below.grown (HG3.out.alloc (.cells #[.int .i64 q] 3)) g5 (HG3.out.alloc (.cells #[.int .i64 q] 3)).size (fun j hj => (HO2.out.lt j hj).1); clear o5 g5 x5))
          obtain ⟨a5, cap5, rfl⟩ := (Own.row O5.out).slice
          have htk1 : (zs.take (j + 1)).length = j + 1 := by rw [List.length_take]; have := HTL.out; omega
          rw [htk1] at O5 ⊢
          exact ⟨⟨j + 1, _, _, by omega, by go_num, rfl, O5, G5⟩, by simp [intOf]; omega⟩
        · have d2 : decide ((j : Int) < (ps.length : Int)) = false := by simp; omega
          obtain rfl : j = ps.length := by omega
          have RZ : Hid (Row wr (.slice ra ps.length rc) zs) := by
            have := HO2.out
            rw [List.take_of_length_le (by have := HTL.out; omega)] at this
            exact Own.row this
          have z1' : wr.cell? ⟨w.heap.size, 1, none⟩ = some (.slice a0 ps.length c0) := (B2.out.old HG3.out).c (i := 1) rfl
          clear HO2
          go_wp2_with fail
          refine (kcp _ _ HGX.out RZ.out).mono ?_
          rintro e w3 ⟨v3, rfl, g3, r3⟩
          obtain ⟨x3, y3, rfl⟩ := (Own.row r3).slice
          have R3 : Hid (Own w3 wr.heap.size (.slice x3 czk.length y3) czk) := r3
          have G3 : Hid (Old wq w3) := Old.trans HG3.out g3
          have hs3 := g3.size
          clear g3 r3
          go_wp2_with fail
          refine (kct _ _ _ wr.heap.size R3.out hs3 (RQ.out.old (Old.trans HG2.out G3.out))).mono ?_
          rintro e w4 ⟨v4, rfl, g4, r4⟩
          obtain ⟨x4, y4, rfl⟩ := (Own.row r4).slice
          have HEK : Hid (Es k = TB (bs.getD k false) (TI (yss.getD k []))) := HEL.out k
          generalize bs.getD k false = sg at *
          generalize yss.getD k [] = xs at *
          have G4 : Old wq w4 := Old.trans G3.out g4
          have HG4 : Hid (Old w w4) := Old.trans HGW.out G4
          obtain ⟨B, hTI, hBlo⟩ := TI.of r4
          have HAP : Hid (∀ o1 : Obj, ∃ vs, (w4.alloc o1).ownsRow 0 101 2 (.slice a k c) k vs ∧ (∀ b, (Value.slice a k c).ownBlock = some b → w1.heap.size ≤ b) ∧ ∀ v' w', w'.ownsRow 0 101 2 v' (k + 1) (vs ++ [.bool sg, .slice x4 xs.length y4]) → (w4.alloc o1).grownBy w' (Value.slice a k c).ownBlock → (v'.ownBlock = (Value.slice a k c).ownBlock ∨ v'.ownBlock = some (w4.alloc o1).heap.size) → Ows (TS 101 2 (k + 1) Es) w' w1.heap.size w'.heap.size [v']) := fun o1 => by
            have hE : TB sg (TI xs) (w4.alloc o1) B [.bool sg, .slice x4 xs.length y4] := ⟨_, rfl, (good_TI xs).far hTI (fun b hb => ((Old.refl w4).alloc o1).block b ((good_TI xs).lt hTI b hb))⟩
            obtain ⟨vs, p1, p2, p3⟩ := Ows.app HGD.out (good_TB sg (good_TI xs)) HO.out hsw1 (G4.alloc o1) hE (fun b hb => by have := hBlo b hb; omega) rfl
            refine ⟨vs, p1, p2, fun v' w' q1 q2 q3 => ?_⟩
            obtain ⟨hh, B', hT', hB'⟩ := p3 v' w' q1 q2 q3
            exact ⟨hh, B', TS.ext (fun j hj => by by_cases e : j = k <;> simp [e, HEK.out]) hT', hB'⟩
          obtain ⟨vs, p1, p2, p3⟩ := HAP.out (.cells #[.bool sg, .slice x4 xs.length y4] 101)
          have P1 : Hid ((w4.alloc (.cells #[.bool sg, .slice x4 xs.length y4] 101)).ownsRow 0 101 2 (.slice a k c) k vs) := p1
          have P2 : Hid (∀ b, (Value.slice a k c).ownBlock = some b → w1.heap.size ≤ b) := p2
          have P3 : Hid (∀ v' w', w'.ownsRow 0 101 2 v' (k + 1) (vs ++ [.bool sg, .slice x4 xs.length y4]) → (w4.alloc (.cells #[.bool sg, .slice x4 xs.length y4] 101)).grownBy w' (Value.slice a k c).ownBlock → (v'.ownBlock = (Value.slice a k c).ownBlock ∨ v'.ownBlock = some (w4.alloc (.cells #[.bool sg, .slice x4 xs.length y4] 101)).heap.size) → Ows (TS 101 2 (k + 1) Es) w' w1.heap.size w'.heap.size [v']) := p3
          have HGA : Hid (Old w1 (w4.alloc (.cells #[.bool sg, .slice x4 xs.length y4] 101))) := (Old.trans HG2.out G4).alloc _
          have HNW : Hid (∀ (j : Nat) (u : Value), [Value.bool sg, .slice x4 xs.length y4][j]? = some u → (w4.alloc (.cells #[.bool sg, .slice x4 xs.length y4] 101)).cell? ((⟨w4.heap.size, 0, none⟩ : Addr).add j) = some u) := two_newR _ _ _ _ rfl
          clear p1 p2 p3 HAP HO g4 r4 hTI hBlo HEK G4
          go_wp2_with (at_builtin; go_loud (refine wpList_append_own_at _ rfl _ _ 123 rfl 0 101 j0 (.agg #[.bool false, .slice none 0 0]) 2 32 Tryz.underlying123 ji jz0 jz1 jz2 rfl (by decide) _ _ _ rfl P1.out ⟨w4.heap.size, 0, none⟩ 1 1 [.bool sg, .slice x4 xs.length y4] rfl rfl HNW.out (by simp [Value.oneCell']) (by unfold maxLen; omega) (by omega) (Nat.zero_le _) ?_; intro v5 w5 o5 g5 x5 l5; have O5 : Hid (Ows (TS 101 2 (k + 1) Es) w5 w1.heap.size w5.heap.size [v5]) := P3.out v5 w5 o5 g5 l5; have G5 : Hid (Old w1 w5) := Below.grown HGA.out g5 HGA.out.size (fun j hj => P2.out j hj); clear o5 g5 x5 l5))
          obtain ⟨a5, c5, rfl⟩ : ∃ a c, v5 = .slice a (k + 1) c := by obtain ⟨_, B5, hT5, _⟩ := O5.out; exact TS.slice hT5
          exact ⟨⟨k + 1, a5, c5, by omega, by go_num, rfl, O5, G5⟩, by simp [intOf]; omega⟩
    · have d1 : decide ((k : Int) < (Nn : Int)) = false := by simp; omega
      obtain rfl : k = Nn := by omega
      have HE : Hid (RowW wr (.slice a k c) bs yss) := HFI.out _ _ (HO.out.low HG1.out.size (Nat.le_refl _) (Nat.le_refl _))
      go_wp2_with fail
      go_ret
      exact ⟨_, rfl, HGW.out, HE.out⟩
set_option maxRecDepth 100000 in
set_option maxHeartbeats 1000000 in
theorem spec_WholesOf_no (N : Int) (ps : List Int) (a : Bool) (xss : List (List Int)) (v : Value) (a1 : Option Addr) (c1 : Nat) (w : World) (hv : Row w v ps)
    (cg : ∀ W, Old w W → Calls Tryz.prog 83 #[.agg #[.int .i64 N, v], .agg #[.bool a, .slice a1 xss.length c1]] W fun e w' => e = .returned (.bool false) ∧ Old W w') :
    Calls Tryz.prog 25 #[.agg #[.int .i64 N, v], .agg #[.bool a, .slice a1 xss.length c1]] w (Ws w [] [] false) := by
  obtain ⟨a0, c0, rfl⟩ := hv.slice
  have HA : Hid (Old w ((w.alloc (.cells #[.int .i64 N, .slice a0 ps.length c0] 56)).alloc (.cells #[.bool a, .slice a1 xss.length c1] 58))) := ((Old.refl w).alloc _).alloc _
  have BA : Hid (Bk ((w.alloc (.cells #[.int .i64 N, .slice a0 ps.length c0] 56)).alloc (.cells #[.bool a, .slice a1 xss.length c1] 58)) w.heap.size #[.int .i64 N, .slice a0 ps.length c0] 56) := (Bk.new' w _ _ rfl).alloc _
  have BR : Hid (Bk ((w.alloc (.cells #[.int .i64 N, .slice a0 ps.length c0] 56)).alloc (.cells #[.bool a, .slice a1 xss.length c1] 58)) (w.heap.size + 1) #[.bool a, .slice a1 xss.length c1] 58) := Bk.new' _ _ _ (by simp)
  clear hv
  go_enter Tryz.func25, Tryz.ntmps25
  go_wp2_with fail
  refine (cg _ HA.out).mono ?_
  rintro e w2 ⟨rfl, g2⟩
  have HG2 : Hid (Old w w2) := Old.trans HA.out g2
  clear g2
  go_wp2_with fail
  go_ret2
  exact ws_nil HG2.out
set_option maxRecDepth 100000 in
set_option maxHeartbeats 2000000 in
theorem spec_WholesOf_yes (N : Int) (ps : List Int) (a : Bool) (xss zss : List (List Int)) (bs : List Bool) (yss : List (List Int)) (n : Nat) (v : Value) (a1 : Option Addr) (c1 : Nat) (w : World) (hv : Row w v ps) (hN : 1 ≤ n ∧ n ≤ 16) (hyl : yss.length = n)
    (hout : ∀ k, k < n → ∀ W u, Row W u (yss.getD k []) → Calls Tryz.prog 59 #[.agg #[.bool (bs.getD k false), u]] W fun e w' => ∃ v, e = .returned (.tuple #[.agg #[.bool (bs.getD k false), v], .bool true]) ∧ Old W w' ∧ Own w' W.heap.size v (yss.getD k []))
    (cg : ∀ W, Old w W → Calls Tryz.prog 83 #[.agg #[.int .i64 N, v], .agg #[.bool a, .slice a1 xss.length c1]] W fun e w' => e = .returned (.bool true) ∧ Old W w')
    (cb : ∀ W, Old w W → Calls Tryz.prog 85 #[.agg #[.int .i64 N, v], .agg #[.bool a, .slice a1 xss.length c1]] W fun e w' => ∃ x y z, e = .returned (.slice x y z) ∧ Old W w' ∧ RowS w' (.slice x y z) zss)
    (cw : ∀ W u, Old w W → RowS W u zss → Calls Tryz.prog 84 #[.agg #[.int .i64 N, v], u] W fun e w' => ∃ x z, e = .returned (.slice x n z) ∧ Old W w' ∧ RowW w' (.slice x n z) bs yss) :
    Calls Tryz.prog 25 #[.agg #[.int .i64 N, v], .agg #[.bool a, .slice a1 xss.length c1]] w (Ws w bs yss true) := by
  obtain ⟨i0, hi, hz0, hz1, hz2⟩ := info_parts Tryz.infoWhole
  obtain ⟨a0, c0, rfl⟩ := hv.slice
  have HA : Hid (Old w ((w.alloc (.cells #[.int .i64 N, .slice a0 ps.length c0] 56)).alloc (.cells #[.bool a, .slice a1 xss.length c1] 58))) := ((Old.refl w).alloc _).alloc _
  have BA : Hid (Bk ((w.alloc (.cells #[.int .i64 N, .slice a0 ps.length c0] 56)).alloc (.cells #[.bool a, .slice a1 xss.length c1] 58)) w.heap.size #[.int .i64 N, .slice a0 ps.length c0] 56) := (Bk.new' w _ _ rfl).alloc _
  have BR : Hid (Bk ((w.alloc (.cells #[.int .i64 N, .slice a0 ps.length c0] 56)).alloc (.cells #[.bool a, .slice a1 xss.length c1] 58)) (w.heap.size + 1) #[.bool a, .slice a1 xss.length c1] 58) := Bk.new' _ _ _ (by simp)
  have HOU : Hid (∀ k, k < n → ∀ W u, Row W u (yss.getD k []) → Calls Tryz.prog 59 #[.agg #[.bool (bs.getD k false), u]] W fun e w' => ∃ v, e = .returned (.tuple #[.agg #[.bool (bs.getD k false), v], .bool true]) ∧ Old W w' ∧ Own w' W.heap.size v (yss.getD k [])) := hout
  have HF : Hid (∀ w' v', Old w w' → Ows (TS 27 2 n (elW bs yss)) w' w.heap.size w'.heap.size [v'] → Ws w bs yss true (.returned (.tuple #[v', .bool true])) w') := fun w' v' g o => ⟨v', rfl, g, by show Ows (TS _ _ _ _) _ _ _ _; rw [hyl]; exact o⟩
  have HEL : Hid (∀ k, elW bs yss k = TB (bs.getD k false) (TI (yss.getD k []))) := fun k => rfl
  have HGD : Hid (∀ j, GoodT (elW bs yss j)) := good_elW _ _
  have HYL : Hid (yss.length = n) := hyl
  generalize elW bs yss = Es at *
  clear hv hout hyl
  go_enter Tryz.func25, Tryz.ntmps25
  go_wp2_with fail
  refine (cg _ HA.out).mono ?_
  rintro e w1 ⟨rfl, g1⟩
  have HG1 : Hid (Old w w1) := Old.trans HA.out g1
  have HAS : Hid (∀ W', Old w1 W' → (W'.cell? ⟨w.heap.size, 0, none⟩ = some (.int .i64 N) ∧ W'.cell? ⟨w.heap.size, 1, none⟩ = some (.slice a0 ps.length c0) ∧ W'.cell? ⟨w.heap.size + 1, 0, none⟩ = some (.bool a) ∧ W'.cell? ⟨w.heap.size + 1, 1, none⟩ = some (.slice a1 xss.length c1))) := fun W' q => by
    have b1 := (BA.out.old g1).old q
    have b2 := (BR.out.old g1).old q
    exact ⟨b1.c (i := 0) rfl, b1.c (i := 1) rfl, b2.c (i := 0) rfl, b2.c (i := 1) rfl⟩
  clear g1 cg
  obtain ⟨s0, s1, s2, s3⟩ := HAS.out w1 (Old.refl _)
  go_wp2_with fail
  go_region_held3 (fun W' => W'.cell? ⟨w.heap.size, 0, none⟩ = some (.int .i64 N) ∧ W'.cell? ⟨w.heap.size, 1, none⟩ = some (.slice a0 ps.length c0) ∧ W'.cell? ⟨w.heap.size + 1, 0, none⟩ = some (.bool a) ∧ W'.cell? ⟨w.heap.size + 1, 1, none⟩ = some (.slice a1 xss.length c1)) (first | with_reducible exact HAS.out _ Q6.out | with_reducible exact HAS.out _ Q5.out | with_reducible exact HAS.out _ (Below.drew (Old.refl _)) | with_reducible exact HAS.out _ (Old.refl _)) (first
    | (go_at_call 85; refine (cb _ (Below.drew HG1.out)).mono ?_; rintro e w5 ⟨x5, y5, z5, rfl, q5, o5⟩; have Q5 : Hid (Old w1 w5) := Old.trans (Below.drew (Old.refl _)) q5; have O5 : Hid (RowS w5 (.slice x5 y5 z5) zss) := o5; clear q5 o5)
    | (go_at_call 84; refine (cw _ _ (Old.trans HG1.out Q5.out) O5.out).mono ?_; rintro e w6 ⟨x6, z6, rfl, q6, o6⟩; have Q6 : Hid (Old w1 w6) := Old.trans Q5.out q6; have O6 : Hid (RowW w6 (.slice x6 n z6) bs yss) := o6; clear q6 o6)
    | fail)
  have HG6 : Hid (Old w w6) := Old.trans HG1.out Q6.out
  obtain ⟨us, b, o, ex6, hb, hcc⟩ : ∃ us : Nat → Value, ∃ b o, x6 = some ⟨b, o, none⟩ ∧ b < w6.heap.size ∧ ∀ j, j < n → w6.cell? ⟨b, o + j * 2, none⟩ = some (.bool (bs.getD j false)) ∧ w6.cell? ⟨b, o + j * 2 + 1, none⟩ = some (us j) ∧ Row w6 (us j) (yss.getD j []) := by
    obtain ⟨_, ⟨a, cap, e, e2⟩ | ⟨b, o, cap, us, e, hb2, h3, hc⟩⟩ := O6.out
    · have := HYL.out
      rw [e2] at this
      simp at this
      omega
    · simp only [Value.slice.injEq] at e
      exact ⟨us, b, o, e.1, hb2, fun j hj => hc j (by rw [HYL.out]; exact hj)⟩
  subst ex6
  have HC : Hid (∀ j, j < n → w6.cell? ⟨b, o + j * 2, none⟩ = some (.bool (bs.getD j false)) ∧ w6.cell? ⟨b, o + j * 2 + 1, none⟩ = some (us j) ∧ Row w6 (us j) (yss.getD j [])) := hcc
  clear hcc s0 s1 s2 s3 cb cw HAS O6 O5
  go_wp2_with fail
  go_loopw [21, 6, 8, 9, 10] (fun i x _ _ _ W => ∃ (k : Nat) (a : Option Addr) (c : Nat), k ≤ n ∧ i = .int .i64 k ∧ x = .slice a k c ∧ Hid (Ows (TS 27 2 k Es) W w6.heap.size W.heap.size [.slice a k c]) ∧ Hid (Old w6 W)) (fun i _ _ _ _ _ => n - (intOf i).toNat)
  case atStart => exact ⟨0, none, 0, by omega, rfl, rfl, Ows.nil (Nat.le_refl _), Old.refl _⟩
  case round =>
    obtain ⟨k, a, c, hk, rfl, rfl, H1, HG4⟩ := hrel
    have HG5 : Hid (Old w wr) := Old.trans HG6.out HG4.out
    by_cases hlt : k < n
    · have d1 : decide ((k : Int) < (n : Int)) = true := by simp; omega
      obtain ⟨e0, e1, r0⟩ := HC.out k hlt
      obtain ⟨x1, y1, e2⟩ := r0.slice
      rw [e2] at e1 r0
      have q0 := (HG4.out.cell (p := ⟨b, o + k * 2, none⟩) hb).trans e0
      have q1 := (HG4.out.cell (p := ⟨b, o + k * 2 + 1, none⟩) hb).trans e1
      have R1 : Hid (Row wr (.slice x1 (yss.getD k []).length y1) (yss.getD k [])) := r0.old HG4.out
      have ko := HOU.out k hlt
      have HEK : Hid (Es k = TB (bs.getD k false) (TI (yss.getD k []))) := HEL.out k
      clear e0 e1 r0 e2
      generalize bs.getD k false = sg at *
      generalize yss.getD k [] = xs at *
      go_wp2_with fail
      refine (ko _ _ (R1.out.old ((Old.refl wr).alloc _))).mono ?_
      rintro e w3 ⟨v3, rfl, g3, o3⟩
      obtain ⟨a2, c2, rfl⟩ := (Own.row o3).slice
      obtain ⟨B, hTI, hBlo⟩ := TI.of o3
      have G3 : Old wr w3 := Old.trans ((Old.refl wr).alloc _) g3
      have hsw := HG4.out.size
      have hBl2 : ∀ b, B b → wr.heap.size ≤ b := fun b hb => by have := hBlo b hb; simp at this; omega
      have HAP : Hid (∀ o1 o2 : Obj, ∃ vs, ((w3.alloc o1).alloc o2).ownsRow 0 27 2 (.slice a k c) k vs ∧ (∀ b, (Value.slice a k c).ownBlock = some b → w6.heap.size ≤ b) ∧ ∀ v' w', w'.ownsRow 0 27 2 v' (k + 1) (vs ++ [.bool sg, .slice a2 xs.length c2]) → ((w3.alloc o1).alloc o2).grownBy w' (Value.slice a k c).ownBlock → (v'.ownBlock = (Value.slice a k c).ownBlock ∨ v'.ownBlock = some ((w3.alloc o1).alloc o2).heap.size) → Ows (TS 27 2 (k + 1) Es) w' w6.heap.size w'.heap.size [v']) := fun o1 o2 => by
        have hE : TB sg (TI xs) ((w3.alloc o1).alloc o2) B [.bool sg, .slice a2 xs.length c2] := ⟨_, rfl, (good_TI xs).far hTI (fun b hb => (((Old.refl w3).alloc o1).alloc o2).block b ((good_TI xs).lt hTI b hb))⟩
        obtain ⟨vs, p1, p2, p3⟩ := Ows.app HGD.out (good_TB sg (good_TI xs)) H1.out hsw ((G3.alloc o1).alloc o2) hE hBl2 rfl
        refine ⟨vs, p1, p2, fun v' w' q1 q2 q3 => ?_⟩
        obtain ⟨hh, B', hT', hB'⟩ := p3 v' w' q1 q2 q3
        exact ⟨hh, B', TS.ext (fun j hj => by by_cases e : j = k <;> simp [e, HEK.out]) hT', hB'⟩
      obtain ⟨vs, p1, p2, p3⟩ := HAP.out (.cells #[.bool sg, .slice a2 xs.length c2] 27) (.cells #[.bool sg, .slice a2 xs.length c2] 27)
      have P1 : Hid (((w3.alloc (.cells #[.bool sg, .slice a2 xs.length c2] 27)).alloc (.cells #[.bool sg, .slice a2 xs.length c2] 27)).ownsRow 0 27 2 (.slice a k c) k vs) := p1
      have P2 : Hid (∀ b, (Value.slice a k c).ownBlock = some b → w6.heap.size ≤ b) := p2
      have P3 : Hid (∀ v' w', w'.ownsRow 0 27 2 v' (k + 1) (vs ++ [.bool sg, .slice a2 xs.length c2]) → ((w3.alloc (.cells #[.bool sg, .slice a2 xs.length c2] 27)).alloc (.cells #[.bool sg, .slice a2 xs.length c2] 27)).grownBy w' (Value.slice a k c).ownBlock → (v'.ownBlock = (Value.slice a k c).ownBlock ∨ v'.ownBlock = some ((w3.alloc (.cells #[.bool sg, .slice a2 xs.length c2] 27)).alloc (.cells #[.bool sg, .slice a2 xs.length c2] 27)).heap.size) → Ows (TS 27 2 (k + 1) Es) w' w6.heap.size w'.heap.size [v']) := p3
      have HGA : Hid (Old w6 ((w3.alloc (.cells #[.bool sg, .slice a2 xs.length c2] 27)).alloc (.cells #[.bool sg, .slice a2 xs.length c2] 27))) := ((Old.trans HG4.out G3).alloc _).alloc _
      have HNW : Hid (∀ (j : Nat) (u : Value), [Value.bool sg, .slice a2 xs.length c2][j]? = some u → ((w3.alloc (.cells #[.bool sg, .slice a2 xs.length c2] 27)).alloc (.cells #[.bool sg, .slice a2 xs.length c2] 27)).cell? ((⟨w3.heap.size + 1, 0, none⟩ : Addr).add j) = some u) := two_newR _ _ _ _ (by simp)
      clear p1 p2 p3 HAP H1 g3 o3 hTI hBlo hBl2 G3 HEK
      go_wp2_with (at_builtin; go_loud (refine wpList_append_own_at _ rfl _ _ 53 rfl 0 27 i0 (.agg #[.bool false, .slice none 0 0]) 2 32 Tryz.underlying53 hi hz0 hz1 hz2 rfl (by decide) _ _ _ rfl P1.out ⟨w3.heap.size + 1, 0, none⟩ 1 1 [.bool sg, .slice a2 xs.length c2] rfl rfl HNW.out (by simp [Value.oneCell']) (by unfold maxLen; omega) (by omega) (Nat.zero_le _) ?_; intro v5 w5 o5 g5 x5 l5; have O5 : Hid (Ows (TS 27 2 (k + 1) Es) w5 w6.heap.size w5.heap.size [v5]) := P3.out v5 w5 o5 g5 l5; have G5 : Hid (Old w6 w5) := Below.grown HGA.out g5 HGA.out.size (fun j hj => P2.out j hj); clear o5 g5 x5 l5))
      obtain ⟨a5, c5, rfl⟩ : ∃ a c, v5 = .slice a (k + 1) c := by obtain ⟨_, B5, hT5, _⟩ := O5.out; exact TS.slice hT5
      exact ⟨⟨k + 1, a5, c5, by omega, by go_num, rfl, O5, G5⟩, by simp [intOf]; omega⟩
    · have d1 : decide ((k : Int) < (n : Int)) = false := by simp; omega
      obtain rfl : k = n := by omega
      go_wp2_with fail
      go_ret2
      exact HF.out _ _ HG5.out (H1.out.low HG6.out.size (Nat.le_refl _) (Nat.le_refl _))
end Go.Proofs.YtfgooclnohnkmaaGreatDoor
