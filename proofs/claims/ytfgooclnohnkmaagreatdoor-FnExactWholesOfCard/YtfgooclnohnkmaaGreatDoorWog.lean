/- Proved: the program's WholesOf. -/
import Derived.Test.YtfgooclnohnkmaaGreatDoorWof
namespace Go.Proofs.YtfgooclnohnkmaaGreatDoor
open Go.ChangeShapes Go.WideShapes Go.ChangeAt Go.RowKit
open M2
set_option linter.unusedVariables false
set_option linter.unusedSimpArgs false
set_option maxRecDepth 100000 in
set_option maxHeartbeats 4000000 in
theorem impl_WholesOf_no (N : Int) (ps : List Int) (a : Bool) (xss : List (List Int)) (v : Value) (a1 : Option Addr) (c1 : Nat) (w : World) (hv : Row w v ps)
    (cb : ∀ W, Old w W → Calls Tryz.prog 87 #[.agg #[.int .i64 N, v], .agg #[.bool a, .slice a1 xss.length c1]] W (Rs W false [] false)) :
    Calls Tryz.prog 28 #[.agg #[.int .i64 N, v], .agg #[.bool a, .slice a1 xss.length c1]] w (Ws w [] [] false) := by
  obtain ⟨a0, c0, rfl⟩ := hv.slice
  have HV : Hid (Row w (.slice a0 ps.length c0) ps) := hv
  have HA : Hid (Old w ((w.alloc (.cells #[.int .i64 N, .slice a0 ps.length c0] 56)).alloc (.cells #[.bool a, .slice a1 xss.length c1] 58))) := ((Old.refl w).alloc _).alloc _
  have BA : Hid (Bk ((w.alloc (.cells #[.int .i64 N, .slice a0 ps.length c0] 56)).alloc (.cells #[.bool a, .slice a1 xss.length c1] 58)) w.heap.size #[.int .i64 N, .slice a0 ps.length c0] 56) := (Bk.new' w _ _ rfl).alloc _
  clear hv
  go_enter Tryz.func28, Tryz.ntmps28
  go_wp2_with fail
  refine (cb _ HA.out).mono ?_
  rintro e w2 ⟨r0, rfl, g2, ab, cb', rfl, ob⟩
  have HG2 : Hid (Old w w2) := Old.trans HA.out g2
  clear g2 ob
  go_wp2_with fail
  go_ret2
  exact ws_nil (HG2.out.alloc _)
set_option maxRecDepth 100000 in
set_option maxHeartbeats 8000000 in
theorem impl_WholesOf_yes (Nn : Nat) (ps : List Int) (a : Bool) (xss zss : List (List Int)) (v : Value) (a1 : Option Addr) (c1 : Nat) (w : World) (hv : Row w v ps) (hf : Fit v) (hN : 1 ≤ Nn ∧ Nn ≤ 16) (hps : 1 ≤ ps.length ∧ ps.length ≤ 6) (hG : Gr Nn ps zss)
    (cb : ∀ W, Old w W → Calls Tryz.prog 87 #[.agg #[.int .i64 Nn, v], .agg #[.bool a, .slice a1 xss.length c1]] W (Rs W false zss true)) :
    Calls Tryz.prog 28 #[.agg #[.int .i64 Nn, v], .agg #[.bool a, .slice a1 xss.length c1]] w (Ws w (whB Nn ps zss) (whX Nn ps zss) true) := by
  obtain ⟨i0, hi, hz0, hz1, hz2⟩ := info_parts Tryz.infoWhole
  obtain ⟨a0, c0, rfl⟩ := hv.slice
  have HV : Hid (Row w (.slice a0 ps.length c0) ps) := hv
  have HA : Hid (Old w ((w.alloc (.cells #[.int .i64 Nn, .slice a0 ps.length c0] 56)).alloc (.cells #[.bool a, .slice a1 xss.length c1] 58))) := ((Old.refl w).alloc _).alloc _
  have BA : Hid (Bk ((w.alloc (.cells #[.int .i64 Nn, .slice a0 ps.length c0] 56)).alloc (.cells #[.bool a, .slice a1 xss.length c1] 58)) w.heap.size #[.int .i64 Nn, .slice a0 ps.length c0] 56) := (Bk.new' w _ _ rfl).alloc _
  have hzl : zss.length = ps.length := hG.len
  have HCO : Hid (∀ k, k < Nn → ∀ W v', RowS W v' zss → Calls Tryz.prog 88 #[v', .int .i64 k] W fun e w' => e = .returned (.slice (some ⟨W.heap.size, 0, none⟩) ps.length ps.length) ∧ Old W w' ∧ Row w' (.slice (some ⟨W.heap.size, 0, none⟩) ps.length ps.length) (colZ zss k)) := fun k hk W v' hr => by
    have h1 := columnOf_any zss v' k W hr (by omega) (fun j hj => by have := (hG.row j (by omega)).1; omega)
    rw [hzl] at h1
    exact h1.mono fun e w' h => ⟨h.1, h.2.1, Own.row h.2.2⟩
  have HCE : Hid (∀ k, k < Nn → ∀ W v', Old w W → Row W v' (colZ zss k) → Calls Tryz.prog 63 #[v', .slice a0 ps.length c0] W fun e w' => ∃ v', e = .returned (.agg #[.bool ((whB Nn ps zss).getD k false), v']) ∧ Old W w' ∧ Own w' W.heap.size v' ((whX Nn ps zss).getD k [])) := fun k hk W v' g hr => by
    rw [whB_get Nn ps zss k hk, whX_get Nn ps zss k hk]
    exact centred_p hG k hk v' _ W hr (hv.old g) hf
  have HF : Hid (∀ w' v', Old w w' → Ows (TS 27 2 Nn (elW (whB Nn ps zss) (whX Nn ps zss))) w' w.heap.size w'.heap.size [v'] → Ws w (whB Nn ps zss) (whX Nn ps zss) true (.returned (.tuple #[v', .bool true])) w') := fun w' v' g o => ⟨v', rfl, g, by show Ows (TS _ _ _ _) _ _ _ _; rw [whX_len]; exact o⟩
  have HEL : Hid (∀ k, elW (whB Nn ps zss) (whX Nn ps zss) k = TB ((whB Nn ps zss).getD k false) (TI ((whX Nn ps zss).getD k []))) := fun k => rfl
  have HGD : Hid (∀ j, GoodT (elW (whB Nn ps zss) (whX Nn ps zss) j)) := good_elW _ _
  have HSR : Hid (∀ W lo hi v', OwS zss W lo hi v' → RowS W v' zss) := fun W lo hi v' h => h.rowS
  generalize elW (whB Nn ps zss) (whX Nn ps zss) = Es at *
  generalize whB Nn ps zss = bs at *
  generalize whX Nn ps zss = yss at *
  clear hv hf hG
  go_enter Tryz.func28, Tryz.ntmps28
  go_wp2_with fail
  refine (cb _ HA.out).mono ?_
  rintro e w2 ⟨r0, rfl, g2, ab, cb', rfl, ob⟩
  rw [hzl] at ob ⊢
  have HG2 : Hid (Old w w2) := Old.trans HA.out g2
  have B2 : Hid (Bk w2 w.heap.size #[.int .i64 Nn, .slice a0 ps.length c0] 56) := BA.out.old g2
  have RB : Hid (RowS w2 (.slice ab ps.length cb') zss) := HSR.out _ _ _ _ ob
  have hs2 : w.heap.size < w2.heap.size := B2.out.lt
  have z0 := (B2.out.alloc (.cells #[.bool false, .slice ab ps.length cb'] 58)).c (i := 0) rfl
  clear g2 ob cb hzl
  go_wp2_with (at_make; refine wpList_make_full _ rfl _ _ 53 rfl 0 27 i0 (.agg #[.bool false, .slice none 0 0]) 2 Tryz.underlying53 hi hz0 hz1 .i64 .i64 _ _ Nn rfl rfl rfl rfl (by rw [hz2]; omega) (by unfold maxLen; omega) (Nat.zero_le _) ?_; intro w3 hown hgrow; have z03 := (((B2.out.alloc (.cells #[.bool false, .slice ab ps.length cb'] 58)).old (Below.grown (Below.refl _ _) hgrow (Nat.le_refl _) (fun _ h => by cases h))).c (i := 0) rfl))
  have HO : Hid (TSc 27 2 Nn 0 Es w3 (w2.heap.size + 1) Nn _ (fun _ _ => False)) := TSc.start (by simpa using hown)
  have HG3 : Hid (Old (w2.alloc (.cells #[.bool false, .slice ab ps.length cb'] 58)) w3) := Below.grown (Below.refl _ _) hgrow (Nat.le_refl _) (fun _ h => by cases h)
  clear hown hgrow z0 z03
  go_loopw [23, 9] (fun i _ W => ∃ (k : Nat) (vs : List Value) (Bs : Nat → Nat → Prop), k ≤ Nn ∧ i = .int .i64 k ∧ Hid (TSc 27 2 Nn k Es W (w2.heap.size + 1) Nn vs Bs) ∧ Hid (∀ j b, j < k → Bs j b → w2.heap.size + 1 < b) ∧ Hid (Old (w2.alloc (.cells #[.bool false, .slice ab ps.length cb'] 58)) W)) (fun i _ _ => Nn - (intOf i).toNat)
  case atStart => exact ⟨0, _, _, by omega, rfl, HO, (fun j b hj => by omega), HG3⟩
  case round =>
    obtain ⟨k, vs, Bs, hk, rfl, H1, HB, HG4⟩ := hrel
    clear HO HG3
    have HG5 : Hid (Old w wr) := Old.trans HG2.out (Old.trans ((Old.refl w2).alloc _) HG4.out)
    by_cases hlt : k < Nn
    · have d1 : decide ((k : Int) < (Nn : Int)) = true := by simp; omega
      have ilt : (k : Int) < (Nn : Int) := by omega
      have cc := HCO.out k hlt
      have ce := HCE.out k hlt
      have HEK : Hid (Es k = TB (bs.getD k false) (TI (yss.getD k []))) := HEL.out k
      have hsr : w2.heap.size + 1 < wr.heap.size := ownsRow_lt H1.out.row
      generalize bs.getD k false = sg at *
      generalize yss.getD k [] = xs at *
      have HAS5 : Hid (∀ W', Old wr W' → (W'.cell? ⟨w2.heap.size, 1, none⟩ = some (.slice ab ps.length cb') ∧ W'.cell? ⟨w.heap.size, 1, none⟩ = some (.slice a0 ps.length c0))) := fun W' q => by
        have q' := Old.trans HG4.out q
        have b1 : Bk W' w2.heap.size #[.bool false, .slice ab ps.length cb'] 58 := (Bk.new' w2 _ _ rfl).old q'
        have b2 : Bk W' w.heap.size #[.int .i64 Nn, .slice a0 ps.length c0] 56 := (B2.out.old ((Old.refl w2).alloc _)).old q'
        exact ⟨b1.c (i := 1) rfl, b2.c (i := 1) rfl⟩
      have HAS6 : Hid (∀ W' y0 y1, Old wr W' → ((fun W' => W'.cell? ⟨w2.heap.size, 1, none⟩ = some (.slice ab ps.length cb') ∧ W'.cell? ⟨w.heap.size, 1, none⟩ = some (.slice a0 ps.length c0)) ((W'.setCell ⟨w2.heap.size + 1, k * 2, none⟩ y0).setCell ⟨w2.heap.size + 1, k * 2 + 1, none⟩ y1))) := fun W' y0 y1 q => by
        obtain ⟨s0, s1⟩ := HAS5.out W' q
        have key : ∀ (bb j : Nat) (z : Value), bb ≠ w2.heap.size + 1 → W'.cell? ⟨bb, j, none⟩ = some z → ((W'.setCell ⟨w2.heap.size + 1, k * 2, none⟩ y0).setCell ⟨w2.heap.size + 1, k * 2 + 1, none⟩ y1).cell? ⟨bb, j, none⟩ = some z := fun bb j z hb hz => by
          rw [cellO _ _ _ _ hb, cellO _ _ _ _ hb]
          exact hz
        exact ⟨key _ _ _ (by omega) s0, key _ _ _ (by omega) s1⟩
      have HX : Hid (∀ w6 x6 c6 Bz, Old wr w6 → TI xs w6 Bz [.slice x6 xs.length c6] → (∀ b, Bz b → wr.heap.size ≤ b) → (∃ vs', TSc 27 2 Nn (k + 1) Es ((w6.setCell ⟨w2.heap.size + 1, k * 2, none⟩ (.bool sg)).setCell ⟨w2.heap.size + 1, k * 2 + 1, none⟩ (.slice x6 xs.length c6)) (w2.heap.size + 1) Nn vs' (fun q => if q = k then Bz else Bs q)) ∧ (∀ j b, j < k + 1 → (fun q => if q = k then Bz else Bs q) j b → w2.heap.size + 1 < b) ∧ Old (w2.alloc (.cells #[.bool false, .slice ab ps.length cb'] 58)) ((w6.setCell ⟨w2.heap.size + 1, k * 2, none⟩ (.bool sg)).setCell ⟨w2.heap.size + 1, k * 2 + 1, none⟩ (.slice x6 xs.length c6))) := fun w6 x6 c6 Bz g6 hTI hlo => by
        refine ⟨(H1.out.old HGD.out g6).store2 HGD.out hlt _ _ (B := Bz) (fun W' hW' => ?_) (fun hb => by have := hlo _ hb; omega) (fun j hj b h1 h2 => ?_), fun j b hj hb => ?_, ?_⟩
        · rw [HEK.out]
          exact ⟨_, rfl, (good_TI xs).far hTI (fun b hb => hW' b (by have := hlo b hb; omega))⟩
        · have h4 := H1.out.lt HGD.out j b hj h1
          have := hlo b h2
          omega
        · by_cases e : j = k
          · simp only [e, if_true] at hb
            have := hlo b hb
            omega
          · simp only [e, if_false] at hb
            exact HB.out j b (by omega) hb
        · exact ((Old.trans HG4.out g6).own (p := ⟨w2.heap.size + 1, k * 2, none⟩) (by simp) _).own (p := ⟨w2.heap.size + 1, k * 2 + 1, none⟩) (by simp) _
      have HCL : Hid (∀ w6, Old wr w6 → ∀ i, i < 2 → (∃ z, w6.cell? ⟨w2.heap.size + 1, k * 2 + i, none⟩ = some z) ∧ w6.frozen? ⟨w2.heap.size + 1, k * 2 + i, none⟩ = false) := fun w6 g6 i hi2 => by
        have H2 := H1.out.old HGD.out g6
        have h5 := H2.cell k i hlt hi2
        have h6 := cellsJ_len H2.row.1 k hlt
        exact ⟨⟨_, h5.trans (List.getElem?_eq_getElem (by omega))⟩, H2.frozen _⟩
      have RB4 : Hid (∀ W', Old wr W' → RowS W' (.slice ab ps.length cb') zss) := fun W' q => (RB.out.old ((Old.refl w2).alloc _)).old (Old.trans HG4.out q)
      clear H1 HB HEK
      obtain ⟨s0, s1⟩ := HAS5.out wr (Old.refl _)
      go_wp2_with fail
      go_region_held3 (fun W' => W'.cell? ⟨w2.heap.size, 1, none⟩ = some (.slice ab ps.length cb') ∧ W'.cell? ⟨w.heap.size, 1, none⟩ = some (.slice a0 ps.length c0)) (first | with_reducible exact HAS5.out _ Q6.out | with_reducible exact HAS5.out _ Q5.out | with_reducible exact HAS5.out _ (Below.drew (Old.refl _)) | with_reducible exact HAS6.out _ _ _ Q6.out | with_reducible exact HAS5.out _ (Old.refl _)) (first
        | (go_at_call 88; refine (cc _ _ (RB4.out _ (Below.drew (Old.refl _)))).mono ?_; rintro e w5 ⟨rfl, q5, o5⟩; have Q5 : Hid (Old wr w5) := Old.trans (Below.drew (Old.refl _)) q5; have O5 : Hid (Row w5 (.slice (some ⟨wr.heap.size, 0, none⟩) ps.length ps.length) (colZ zss k)) := o5; clear q5 o5)
        | (go_at_call 63; refine (ce _ _ (Old.trans HG5.out Q5.out) O5.out).mono ?_; rintro e w6 ⟨v6, rfl, q6, o6⟩; obtain ⟨x6, c6, rfl⟩ := (Own.row o6).slice; have Q6 : Hid (Old wr w6) := Old.trans Q5.out q6; have O6 : Hid (Own w6 wr.heap.size (.slice x6 xs.length c6) xs) := o6.low Q5.out.size; clear q6 o6; obtain ⟨⟨z0, hz0⟩, hf0⟩ := HCL.out w6 Q6.out 0 (by omega); obtain ⟨⟨z1, hz1⟩, hf1⟩ := HCL.out w6 Q6.out 1 (by omega); simp only [Nat.add_zero] at hz0 hf0)
        | fail)
      all_goals
        obtain ⟨Bz, hTI, hlo⟩ := TI.of O6.out
        obtain ⟨⟨vs', n1⟩, n2, n3⟩ := HX.out w6 x6 c6 Bz Q6.out hTI hlo
        have N1 : Hid (TSc 27 2 Nn (k + 1) Es ((w6.setCell ⟨w2.heap.size + 1, k * 2, none⟩ (.bool sg)).setCell ⟨w2.heap.size + 1, k * 2 + 1, none⟩ (.slice x6 xs.length c6)) (w2.heap.size + 1) Nn vs' (fun q => if q = k then Bz else Bs q)) := n1
        have N2 : Hid (∀ j b, j < k + 1 → (fun q => if q = k then Bz else Bs q) j b → w2.heap.size + 1 < b) := n2
        have N3 : Hid (Old (w2.alloc (.cells #[.bool false, .slice ab ps.length cb'] 58)) ((w6.setCell ⟨w2.heap.size + 1, k * 2, none⟩ (.bool sg)).setCell ⟨w2.heap.size + 1, k * 2 + 1, none⟩ (.slice x6 xs.length c6))) := n3
        clear n1 n2 n3 hTI hlo HX
        go_wp2_with fail
        exact ⟨⟨k + 1, vs', _, by omega, by go_num, N1, N2, N3⟩, by simp [intOf]; omega⟩
    · have d1 : decide ((k : Int) < (Nn : Int)) = false := by simp; omega
      obtain rfl : k = Nn := by omega
      have HE : Hid (Ows (TS 27 2 k Es) wr w.heap.size wr.heap.size [.slice (some ⟨w2.heap.size + 1, 0, none⟩) k k]) := H1.out.done HGD.out (by omega) (fun j b hj hb => by have := HB.out j b hj hb; omega)
      go_wp2_with fail
      go_ret2
      exact HF.out _ _ HG5.out HE.out
end Go.Proofs.YtfgooclnohnkmaaGreatDoor
