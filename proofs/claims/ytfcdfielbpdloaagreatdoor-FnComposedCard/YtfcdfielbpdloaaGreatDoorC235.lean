/- Proved: several texts in one: what each proves is said ahead of it. -/
import Derived.Test.YtfcdfielbpdloaaGreatDoorC222
import Derived.Test.YtfcdfielbpdloaaGreatDoorC234
import Derived.Test.YtfcdfielbpdloaaGreatDoorC221
/- Proved: contracts of ResiduesOf, of the program and of the model. -/
namespace Go.Proofs.YtfcdfielbpdloaaGreatDoor
open Go.ChangeShapes Go.WideShapes Go.ChangeAt Go.RowKit
open M2
set_option linter.unusedVariables false
set_option linter.unusedSimpArgs false
def resL (n : Bool) (xs : List Int) (ps : List Nat) : List Int := ps.map (fun p => sv n (nat xs) % ((p : Nat) : Int))
theorem resL_len (n : Bool) (xs : List Int) (ps : List Nat) : (resL n xs ps).length = ps.length := by simp [resL]
theorem resL_get (n : Bool) (xs : List Int) (ps : List Nat) (k : Nat) (h : k < ps.length) : (resL n xs ps).getD k 0 = sv n (nat xs) % ((ps.getD k 0 : Nat) : Int) := by simp [resL, List.getD, h]
abbrev Ls (W : World) (zs : List Int) (ok : Bool) (e : Ending) (w' : World) : Prop := ∃ v', e = .returned (.tuple #[v', .bool ok]) ∧ Old W w' ∧ Own w' W.heap.size v' zs
theorem own_none (w : World) (base : Nat) : Own w base (.slice none 0 0) [] := ⟨rfl, Or.inl ⟨rfl, rfl⟩⟩
set_option maxRecDepth 100000 in
set_option maxHeartbeats 2000000 in
theorem impl_ResiduesOf_no (n : Bool) (ds xs : List Int) (v u : Value) (w : World) (hP : PrsW w) (hT : TabW w) (ha : Row w v ds) (hv : Row w u xs) (hf : Fit u) (hla : ds.length ≤ 1048576) (hl : xs.length ≤ 9223372036854775807) (h : ¬ (Good n ds ∧ basB xs = true)) :
    Calls Tryz.prog 8 #[.agg #[.bool n, v], u] w (Ls w [] false) := by
  have c1 := fun W h3 => good_impl n ds v W h3 hla
  have c2 := fun W h1 h2 h3 => impl_goodBasis xs u W h1 h2 h3 hf hl
  have HP : Hid (PrsW w) := hP
  have HT : Hid (TabW w) := hT
  have HA : Hid (Row w v ds) := ha
  have HV : Hid (Row w u xs) := hv
  obtain ⟨a1, cap1, rfl⟩ := ha.slice
  obtain ⟨a0, cap0, rfl⟩ := hv.slice
  have HB : Hid (Old w (w.alloc (.cells #[.bool n, .slice a1 ds.length cap1] 27))) := (Old.refl w).alloc _
  clear hP hT hv ha hf
  by_cases hg : Good n ds
  · have hb : basB xs = false := by
      cases hh : basB xs
      · rfl
      · exact absurd ⟨hg, hh⟩ h
    rw [decide_eq_true hg] at c1
    rw [hb] at c2
    clear hg hb h
    go_enter Tryz.func8, Tryz.ntmps8
    go_wp2_with fail
    refine (c1 _ (HA.out.old HB.out)).mono ?_
    rintro e w1 ⟨rfl, g1⟩
    have HG1 : Hid (Old w w1) := Old.trans HB.out g1
    clear g1
    go_wp2_with fail
    refine (c2 _ (HP.out.old HG1.out) (HT.out.old HG1.out) (HV.out.old HG1.out)).mono ?_
    rintro e w2 ⟨rfl, g2⟩
    have HG2 : Hid (Old w w2) := Old.trans HG1.out g2
    clear g2
    go_wp2_with fail
    go_ret2
    exact ⟨_, rfl, HG2.out, own_none _ _⟩
  · rw [decide_eq_false hg] at c1
    clear hg h c2
    go_enter Tryz.func8, Tryz.ntmps8
    go_wp2_with fail
    refine (c1 _ (HA.out.old HB.out)).mono ?_
    rintro e w1 ⟨rfl, g1⟩
    have HG1 : Hid (Old w w1) := Old.trans HB.out g1
    clear g1
    go_wp2_with fail
    go_ret2
    exact ⟨_, rfl, HG1.out, own_none _ _⟩
set_option maxRecDepth 100000 in
set_option maxHeartbeats 4000000 in
theorem impl_ResiduesOf_yes (n : Bool) (ds : List Int) (ps : List Nat) (v u : Value) (w : World) (hP : PrsW w) (hT : TabW w) (ha : Row w v ds) (hv : Row w u (toZ ps)) (hf : Fit u) (hla : ds.length ≤ 1048576) (hg : Good n ds) (hb : Bas ps) (h : basB (toZ ps) = true) :
    Calls Tryz.prog 8 #[.agg #[.bool n, v], u] w (Ls w (resL n ds ps) true) := by
  obtain ⟨i0, hi, hz0, hz1, hz2⟩ := info_parts Tryz.infoInt
  have hl6 := hb.len6
  have c1 := fun W h3 => good_impl n ds v W h3 hla
  have c2 := fun W h1 h2 h3 => impl_goodBasis (toZ ps) u W h1 h2 h3 hf (by rw [toZ_len]; omega)
  rw [decide_eq_true hg] at c1
  rw [h] at c2
  have HP : Hid (PrsW w) := hP
  have HT : Hid (TabW w) := hT
  have HA : Hid (Row w v ds) := ha
  have HV : Hid (Row w u (toZ ps)) := hv
  obtain ⟨a1, cap1, rfl⟩ := ha.slice
  obtain ⟨b, o, cap0, rfl, hbb, hc⟩ := hv.atZ (by have := hb.len1; omega)
  have HC : Hid (∀ j, j < ps.length → w.cell? ⟨b, o + j, none⟩ = some (.int .i64 ((ps.getD j 0 : Nat) : Int))) := hc
  have HM : Hid (∀ k, k < ps.length → ∀ W, Row W (.slice a1 ds.length cap1) ds → Calls Tryz.prog 31 #[.agg #[.bool n, .slice a1 ds.length cap1], .int .i64 ((ps.getD k 0 : Nat) : Int)] W fun e w' => e = .returned (.int .i64 ((resL n ds ps).getD k 0)) ∧ Old W w') := fun k hk W hr => by
    have := impl_mod n ds ((ps.getD k 0 : Nat) : Int) _ W hr hla
    have hm : ps.getD k 0 ∈ ps := by simp [List.getD, hk]
    have h1 := hb.lo _ hm
    have h2 := hb.hi _ hm
    have e : modW n ds ((ps.getD k 0 : Nat) : Int) = (resL n ds ps).getD k 0 := by
      unfold modW
      rw [if_pos ⟨hg, by omega, by omega⟩, resL_get n ds ps k hk]
    rw [e] at this
    exact this
  have hlen : (resL n ds ps).length = ps.length := resL_len n ds ps
  generalize resL n ds ps = zs at *
  have HB : Hid (Old w (w.alloc (.cells #[.bool n, .slice a1 ds.length cap1] 27))) := (Old.refl w).alloc _
  have HS : Hid (StW (w.alloc (.cells #[.bool n, .slice a1 ds.length cap1] 27)) w.heap.size (.bool n) (.slice a1 ds.length cap1) 27) := StW.new w _ _ _
  have hl1 := hb.len1
  clear hP hT hv ha hf hc hg hb h
  go_enter Tryz.func8, Tryz.ntmps8
  go_wp2_with fail
  refine (c1 _ (HA.out.old HB.out)).mono ?_
  rintro e w1 ⟨rfl, g1⟩
  have HG1 : Hid (Old w w1) := Old.trans HB.out g1
  have S1 : Hid (StW w1 w.heap.size (.bool n) (.slice a1 ds.length cap1) 27) := HS.out.old g1
  clear g1
  go_wp2_with fail
  refine (c2 _ (HP.out.old HG1.out) (HT.out.old HG1.out) (HV.out.old HG1.out)).mono ?_
  rintro e w2 ⟨rfl, g2⟩
  have HG2 : Hid (Old w w2) := Old.trans HG1.out g2
  have S2 : Hid (StW w2 w.heap.size (.bool n) (.slice a1 ds.length cap1) 27) := S1.out.old g2
  clear g2 S1 HG1 HS c1 c2
  go_wp2_with (at_make; refine wpList_make_full _ rfl _ _ 23 rfl w2.heap.size 3 i0 (.int .i64 0) 1 Tryz.underlying23 hi hz0 hz1 .i64 .i64 _ _ ps.length rfl rfl rfl rfl (by rw [hz2]; omega) (by unfold maxLen; omega) (Nat.le_refl _) ?_; intro w3 hown hgrow)
  have HO : Hid (OwnI w3 w2.heap.size w2.heap.size ps.length (List.replicate ps.length 0)) := by
    rw [made_ints] at hown
    exact hown
  have HG3 : Hid (Old w2 w3) := Old.by_ (Old.refl _) hgrow (fun b hb => by cases hb)
  clear hown hgrow
  go_loopw [22] (fun i W => ∃ k : Nat, k ≤ ps.length ∧ i = .int .i64 k ∧ Hid (OwnI W w2.heap.size w2.heap.size ps.length (fillN zs k)) ∧ Hid (Old w2 W)) (fun i _ => ps.length - (intOf i).toNat)
  case atStart => exact ⟨0, by omega, rfl, (by show OwnI _ _ _ _ _; rw [fillN_zero, hlen]; exact HO.out), HG3⟩
  case round =>
    obtain ⟨k, hk, rfl, HO1, HG4⟩ := hrel
    clear HO HG3
    have HG5 : Hid (Old w wr) := Old.trans HG2.out HG4.out
    by_cases hlt : k < ps.length
    · have d1 : decide ((k : Int) < (ps.length : Int)) = true := by simp; omega
      have c1 : wr.cell? ⟨b, o + k, none⟩ = some (.int .i64 ((ps.getD k 0 : Nat) : Int)) := (HG5.out.cell (p := ⟨b, o + k, none⟩) hbb).trans (HC.out k hlt)
      have S3 : Hid (StW wr w.heap.size (.bool n) (.slice a1 ds.length cap1) 27) := S2.out.old HG4.out
      have z0 := S3.out.c0
      have z1 := S3.out.c1
      have cm := HM.out k hlt
      have HPU : Hid (∀ W, OwnI W w2.heap.size w2.heap.size ps.length (fillN zs k) → OwnI (W.setCell ⟨w2.heap.size, k, none⟩ (.int .i64 (zs.getD k 0))) w2.heap.size w2.heap.size ps.length (fillN zs (k + 1))) := fun W h => by
        have := h.put k (zs.getD k 0)
        rw [fillN_set zs k (by omega)] at this
        exact this
      have i1 : (k : Int) < (ps.length : Int) := by omega
      generalize ps.getD k 0 = p at *
      generalize zs.getD k 0 = y at *
      go_wp2_with fail
      refine (cm _ (HA.out.old HG5.out)).mono ?_
      rintro e w4 ⟨rfl, g4⟩
      have HO4 : Hid (OwnI w4 w2.heap.size w2.heap.size ps.length (fillN zs k)) := HO1.out.old g4
      have HG6 : Hid (Old w2 w4) := Old.trans HG4.out g4
      have c3 := HO4.out.get (fillN_len zs k (by omega) |>.trans hlen) k hlt
      have c4 := HO4.out.free k
      generalize (fillN zs k).getD k 0 = oldv at *
      clear g4 z0 z1 c1
      go_wp2_with fail
      exact ⟨⟨k + 1, by omega, by go_num, HPU.out _ HO4.out, HG6.out.own (Nat.le_refl _) _⟩, by simp [intOf]; omega⟩
    · have d1 : decide ((k : Int) < (ps.length : Int)) = false := by simp; omega
      obtain rfl : k = ps.length := by omega
      have HF : Hid (Own wr w2.heap.size (.slice (some ⟨w2.heap.size, 0, none⟩) ps.length ps.length) zs) := by
        have := HO1.out.own ((fillN_len zs ps.length (by omega)).trans hlen)
        rw [show fillN zs ps.length = zs by rw [← hlen]; exact fillN_all zs] at this
        exact this
      go_wp2_with fail
      go_ret2
      exact ⟨_, rfl, HG5.out, HF.out.low HG2.out.size⟩
end Go.Proofs.YtfcdfielbpdloaaGreatDoor
/- Proved: the contract of the model's ResiduesOf. -/
namespace Go.Proofs.YtfcdfielbpdloaaGreatDoor
open Go.ChangeShapes Go.WideShapes Go.ChangeAt Go.RowKit
open M2
set_option linter.unusedVariables false
set_option linter.unusedSimpArgs false
set_option maxRecDepth 100000 in
set_option maxHeartbeats 4000000 in
theorem spec_residues (n : Bool) (ds : List Int) (ps : List Nat) (v u : Value) (w : World) (ha : Row w v ds) (hv : Row w u (toZ ps)) (hg : Good n ds) (hb : Bas ps) :
    Calls Tryz.prog 36 #[.agg #[.bool n, v], u] w fun e w' => ∃ v', e = .returned v' ∧ Old w w' ∧ Own w' w.heap.size v' (resL n ds ps) := by
  obtain ⟨i0, hi, hz0, hz1, hz2⟩ := info_parts Tryz.infoInt
  obtain ⟨ex, gx, lx⟩ := good_gw hg
  have hl6 := hb.len6
  have HA : Hid (Row w v (toI (nat ds))) := by show Row w v (toI (nat ds)); rw [ex]; exact ha
  obtain ⟨a1, cap1, rfl⟩ := ha.slice
  obtain ⟨b, o, cap0, rfl, hbb, hc⟩ := hv.atZ (by have := hb.len1; omega)
  have HC : Hid (∀ j, j < ps.length → w.cell? ⟨b, o + j, none⟩ = some (.int .i64 ((ps.getD j 0 : Nat) : Int))) := hc
  have HM : Hid (∀ k, k < ps.length → ∀ W, Row W (.slice a1 ds.length cap1) (toI (nat ds)) → Calls Tryz.prog 74 #[.agg #[.bool n, .slice a1 ds.length cap1], .int .i64 ((ps.getD k 0 : Nat) : Int)] W fun e w' => e = .returned (.int .i64 ((resL n ds ps).getD k 0)) ∧ Old W w') := fun k hk W hr => by
    have hm : ps.getD k 0 ∈ ps := by simp [List.getD, hk]
    have := modulo_any n (nat ds) (ps.getD k 0) _ W hr gx.1.1 (by omega) (by have := hb.lo _ hm; omega) (hb.hi _ hm)
    rw [← resL_get n ds ps k hk] at this
    exact this
  have HE : Hid (∀ k, k < ps.length → (resL n ds ps).take (k + 1) = (resL n ds ps).take k ++ [(resL n ds ps).getD k 0]) := fun k hk => take_succI _ k (by rw [resL_len]; exact hk)
  have hlen : (resL n ds ps).length = ps.length := resL_len n ds ps
  generalize resL n ds ps = zs at *
  have HS : Hid (StW (w.alloc (.cells #[.bool n, .slice a1 ds.length cap1] 62)) w.heap.size (.bool n) (.slice a1 ds.length cap1) 62) := StW.new w _ _ _
  clear hc hv ha hg hb ex gx lx
  go_enter Tryz.func36, Tryz.ntmps36
  go_wp2_with fail
  go_loopw [5, 10] (fun x i W => ∃ (k : Nat) (a : Option Addr) (cap : Nat), k ≤ ps.length ∧ i = .int .i64 k ∧ x = .slice a k cap ∧ Hid (Own W (w.heap.size + 1) (.slice a k cap) (zs.take k)) ∧ Hid (Old (w.alloc (.cells #[.bool n, .slice a1 ds.length cap1] 62)) W)) (fun _ i _ => ps.length - (intOf i).toNat)
  case atStart => exact ⟨0, none, 0, by omega, rfl, rfl, (by exact own_none _ _), Old.refl _⟩
  case round =>
    obtain ⟨k, a, cap, hk, rfl, rfl, HO1, HG4⟩ := hrel
    have hs4 : w.heap.size + 1 ≤ wr.heap.size := by have := HG4.out.size; simp at this; omega
    have HG5 : Hid (Old w wr) := Old.trans ((Old.refl w).alloc _) HG4.out
    by_cases hlt : k < ps.length
    · have d1 : decide ((k : Int) < (ps.length : Int)) = true := by simp; omega
      have c1 : wr.cell? ⟨b, o + k, none⟩ = some (.int .i64 ((ps.getD k 0 : Nat) : Int)) := (HG5.out.cell (p := ⟨b, o + k, none⟩) hbb).trans (HC.out k hlt)
      have S3 : Hid (StW wr w.heap.size (.bool n) (.slice a1 ds.length cap1) 62) := HS.out.old HG4.out
      have z0 := S3.out.c0
      have z1 := S3.out.c1
      have cm := HM.out k hlt
      have HT2 : Hid (zs.take (k + 1) = zs.take k ++ [zs.getD k 0]) := HE.out k hlt
      have htk : (zs.take k).length = k := by rw [List.length_take]; omega
      generalize ps.getD k 0 = p at *
      generalize zs.getD k 0 = y at *
      go_wp2_with fail
      refine (cm _ (HA.out.old HG5.out)).mono ?_
      rintro e w4 ⟨rfl, g4⟩
      have HO4 : Hid (Own w4 (w.heap.size + 1) (.slice a k cap) (zs.take k)) := HO1.out.old g4
      have HG6 : Hid (Old (w.alloc (.cells #[.bool n, .slice a1 ds.length cap1] 62)) w4) := Old.trans HG4.out g4
      have hs5 : w.heap.size + 1 ≤ w4.heap.size := by have := g4.size; omega
      clear g4 z0 z1 c1
      go_wp2_with (at_builtin; refine wpList_append_own _ rfl _ _ 23 rfl (w.heap.size + 1) 3 i0 (.int .i64 0) 1 8 Tryz.underlying23 hi hz0 hz1 hz2 rfl (by decide) _ _ _ rfl (by have := HO4.out.alloc (.cells #[.int .i64 y] 3); unfold Own at this; rw [htk] at this; exact this) ⟨w4.heap.size, 0, none⟩ 1 1 [.int .i64 y] rfl rfl (one_cell _ _ _) (one_one _) (by unfold maxLen; omega) (by omega) (by simp; omega) ?_; intro v5 w5 o5 g5 x5; have O5 : Hid (Own w5 (w.heap.size + 1) v5 (zs.take (k + 1))) := (by have := HT2.out; show Own _ _ _ _; rw [this]; exact Own.snoc (by rw [htk]; exact o5)); have G5 : Hid (Old (w.alloc (.cells #[.bool n, .slice a1 ds.length cap1] 62)) w5) := Below.grown (HG6.out.alloc (.cells #[.int .i64 y] 3)) g5 (HG6.out.alloc (.cells #[.int .i64 y] 3)).size (fun j hj => by have := (HO4.out.lt j hj).1; simp; omega); clear o5 g5 x5)
      obtain ⟨a5, cap5, rfl⟩ := (Own.row O5.out).slice
      have htk1 : (zs.take (k + 1)).length = k + 1 := by rw [List.length_take]; omega
      rw [htk1] at O5 ⊢
      exact ⟨⟨k + 1, _, _, by omega, by go_num, rfl, O5, G5⟩, by simp [intOf]; omega⟩
    · have d1 : decide ((k : Int) < (ps.length : Int)) = false := by simp; omega
      obtain rfl : k = ps.length := by omega
      have HF : Hid (Own wr (w.heap.size + 1) (.slice a ps.length cap) zs) := by
        have := HO1.out
        rw [List.take_of_length_le (by omega)] at this
        exact this
      go_wp2_with fail
      go_ret
      exact ⟨_, rfl, HG5.out, HF.out.low (by omega)⟩
set_option maxRecDepth 100000 in
set_option maxHeartbeats 2000000 in
theorem spec_ResiduesOf_no (n : Bool) (ds xs : List Int) (v u : Value) (w : World) (ha : Row w v ds) (hv : Row w u xs) (hf : Fit u) (hla : ds.length ≤ 1048576) (hl : xs.length ≤ 9223372036854775807) (hx : ∀ x ∈ xs, -9223372036854775808 ≤ x ∧ x ≤ 9223372036854775807) (h : ¬ (Good n ds ∧ basB xs = true)) :
    Calls Tryz.prog 12 #[.agg #[.bool n, v], u] w (Ls w [] false) := by
  have c1 := fun W h3 => good_any n ds v W h3 hla
  have c2 := fun W h3 => spec_goodBasis xs u W h3 hf hl hx
  have HA : Hid (Row w v ds) := ha
  have HV : Hid (Row w u xs) := hv
  obtain ⟨a1, cap1, rfl⟩ := ha.slice
  obtain ⟨a0, cap0, rfl⟩ := hv.slice
  have HB : Hid (Old w (w.alloc (.cells #[.bool n, .slice a1 ds.length cap1] 27))) := (Old.refl w).alloc _
  clear hv ha hf hx
  by_cases hg : Good n ds
  · have hb : basB xs = false := by
      cases hh : basB xs
      · rfl
      · exact absurd ⟨hg, hh⟩ h
    rw [decide_eq_true hg] at c1
    rw [hb] at c2
    clear hg hb h
    go_enter Tryz.func12, Tryz.ntmps12
    go_wp2_with fail
    refine (c1 _ (HA.out.old HB.out)).mono ?_
    rintro e w1 ⟨rfl, g1⟩
    have HG1 : Hid (Old w w1) := Old.trans HB.out g1
    clear g1
    go_wp2_with fail
    refine (c2 _ (HV.out.old HG1.out)).mono ?_
    rintro e w2 ⟨rfl, g2⟩
    have HG2 : Hid (Old w w2) := Old.trans HG1.out g2
    clear g2
    go_wp2_with fail
    go_ret2
    exact ⟨_, rfl, HG2.out, own_none _ _⟩
  · rw [decide_eq_false hg] at c1
    clear hg h c2
    go_enter Tryz.func12, Tryz.ntmps12
    go_wp2_with fail
    refine (c1 _ (HA.out.old HB.out)).mono ?_
    rintro e w1 ⟨rfl, g1⟩
    have HG1 : Hid (Old w w1) := Old.trans HB.out g1
    clear g1
    go_wp2_with fail
    go_ret2
    exact ⟨_, rfl, HG1.out, own_none _ _⟩
set_option maxRecDepth 100000 in
set_option maxHeartbeats 2000000 in
theorem spec_ResiduesOf_yes (n : Bool) (ds : List Int) (ps : List Nat) (v u : Value) (w : World) (ha : Row w v ds) (hv : Row w u (toZ ps)) (hf : Fit u) (hla : ds.length ≤ 1048576) (hg : Good n ds) (hb : Bas ps) (h : basB (toZ ps) = true) :
    Calls Tryz.prog 12 #[.agg #[.bool n, v], u] w (Ls w (resL n ds ps) true) := by
  have hl6 := hb.len6
  have c1 := fun W h3 => good_any n ds v W h3 hla
  have c2 := fun W h3 => spec_goodBasis (toZ ps) u W h3 hf (by rw [toZ_len]; omega) (fun x hx => by
    obtain ⟨n, hn, rfl⟩ := List.mem_map.1 hx
    have := hb.hi n hn
    omega)
  rw [decide_eq_true hg] at c1
  rw [h] at c2
  have c4 := fun W h1 h2 => spec_residues n ds ps v u W h1 h2 hg hb
  have HA : Hid (Row w v ds) := ha
  have HV : Hid (Row w u (toZ ps)) := hv
  obtain ⟨a1, cap1, rfl⟩ := ha.slice
  obtain ⟨a0, cap0, rfl⟩ : ∃ a c, u = .slice a ps.length c := by have := hv.slice; rwa [toZ_len] at this
  have c3 := fun W => in_anyW n a1 ds.length cap1 W
  generalize resL n ds ps = zs at *
  have HB : Hid (Old w (w.alloc (.cells #[.bool n, .slice a1 ds.length cap1] 27))) := (Old.refl w).alloc _
  have HS : Hid (StW (w.alloc (.cells #[.bool n, .slice a1 ds.length cap1] 27)) w.heap.size (.bool n) (.slice a1 ds.length cap1) 27) := StW.new w _ _ _
  clear hv ha hf hg hb h
  go_enter Tryz.func12, Tryz.ntmps12
  go_wp2_with fail
  refine (c1 _ (HA.out.old HB.out)).mono ?_
  rintro e w1 ⟨rfl, g1⟩
  have HG1 : Hid (Old w w1) := Old.trans HB.out g1
  have S1 : Hid (StW w1 w.heap.size (.bool n) (.slice a1 ds.length cap1) 27) := HS.out.old g1
  clear g1
  go_wp2_with fail
  refine (c2 _ (HV.out.old HG1.out)).mono ?_
  rintro e w2 ⟨rfl, g2⟩
  have HG2 : Hid (Old w w2) := Old.trans HG1.out g2
  have S2 : Hid (StW w2 w.heap.size (.bool n) (.slice a1 ds.length cap1) 27) := S1.out.old g2
  have z0 := S2.out.c0
  have z1 := S2.out.c1
  clear g2 S1 HG1
  go_wp2_with fail
  refine (c3 _).mono ?_
  rintro e w3 ⟨rfl, g3⟩
  have HG3 : Hid (Old w w3) := Old.trans HG2.out g3
  clear g3
  go_wp2_with fail
  refine (c4 _ (HA.out.old HG3.out) (HV.out.old HG3.out)).mono ?_
  rintro e w4 ⟨v4, rfl, g4, o4⟩
  have HG4 : Hid (Old w w4) := Old.trans HG3.out g4
  have HO4 : Hid (Own w4 w.heap.size v4 zs) := o4.low HG3.out.size
  obtain ⟨a4, cap4, rfl⟩ := (Own.row o4).slice
  clear g4 o4
  go_wp2_with fail
  go_ret2
  exact ⟨_, rfl, HG4.out, HO4.out⟩
end Go.Proofs.YtfcdfielbpdloaaGreatDoor
