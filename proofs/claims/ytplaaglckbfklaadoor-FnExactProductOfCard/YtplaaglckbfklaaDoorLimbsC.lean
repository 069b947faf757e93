/- Proved: the contract of the model's function that takes limbs away from limbs. -/
import Derived.Test.YtplaaglckbfklaaDoorLimbsB
namespace Go.Proofs.YtplaaglckbfklaaDoor
open Go.ChangeShapes Go.WideShapes Go.ChangeAt Go.RowKit
open M2
set_option linter.unusedVariables false
set_option linter.unusedSimpArgs false
set_option maxHeartbeats 2000000 in
theorem sub_any (xs ys : List Nat) (v u : Value) (w : World) (hv : Row w v (toI xs)) (hu : Row w u (toI ys)) (ha : Nrm xs) (hb : Nrm ys) (la : xs.length ≤ 1048576) (lb : ys.length ≤ 1048576) (hle : val ys ≤ val xs) :
    Calls Tryd.prog 139 #[v, u] w fun e w' => ∃ v', e = .returned v' ∧ Old w w' ∧ Own w' w.heap.size v' (toI (dig (val xs - val ys))) := by
  obtain ⟨i0, hi, hz0, hz1, hz2⟩ := info_parts Tryd.infoInt
  have hyx := nrm_len_le ha hb hle
  have HLE : Hid (val ys ≤ val xs) := hle
  have HV : Hid (Row w v (toI xs)) := hv
  have HU : Hid (Row w u (toI ys)) := hu
  obtain ⟨a0, cap0, rfl⟩ := hv.sliceN
  obtain ⟨a1, cap1, rfl⟩ := hu.sliceN
  clear hv hu hle
  go_enter Tryd.func139, Tryd.ntmps139
  go_wp2_with fail
  go_loopw [5, 6, 11] (fun o c i W => ∃ (k : Nat) (out : List Nat) (cc : Nat), (k ≤ xs.length ∧ cc ≤ 1) ∧ i = .int .i64 k ∧ c = .int .i64 cc ∧ Hid (SubI xs ys k out cc) ∧ Hid (Own W w.heap.size o (toI out)) ∧ Hid (Old w W)) (fun _ _ i _ => xs.length - (intOf i).toNat)
  case atStart => exact ⟨0, [], 0, ⟨by omega, by omega⟩, rfl, rfl, SubI.start xs ys, World.ownsRow_nil _ _ _ _, Old.refl _⟩
  case round =>
    obtain ⟨k, out, cc, ⟨hk, hcc⟩, rfl, rfl, HI, HO, HG⟩ := hrel
    by_cases h1 : k < xs.length
    · obtain ⟨b, o, rfl, hb1, hc1⟩ := Row.at (HV.out.old HG.out) (by omega)
      have c1 := hc1 k h1
      clear hc1
      have hx := ha.1.getD k
      have hy := hb.1.getD k
      have S0 := HI.out.stepNo ha.1
      have S1 := HI.out.stepYes ha.1 hb.1
      have H0 : Hid (cc + ys.getD k 0 ≤ xs.getD k 0 → SubI xs ys (k + 1) (out ++ [xs.getD k 0 - cc - ys.getD k 0]) 0) := S0
      have H1 : Hid (xs.getD k 0 < cc + ys.getD k 0 → SubI xs ys (k + 1) (out ++ [xs.getD k 0 + LB - cc - ys.getD k 0]) 1) := S1
      clear S0 S1
      by_cases h2 : k < ys.length
      · obtain ⟨b', o', rfl, hb2, hc2⟩ := Row.at (HU.out.old HG.out) (by omega)
        have c2 := hc2 k h2
        clear hc2
        generalize xs.getD k 0 = x at *
        generalize ys.getD k 0 = y at *
        unfold LB at hx hy H1
        by_cases hd : cc + y ≤ x
        · have HS : Hid (SubI xs ys (k + 1) (out ++ [x - cc - y]) 0) := H0.out hd
          generalize hD : x - cc - y = D at *
          have e1 : (x : Int) - (cc : Int) - (y : Int) = (D : Int) := by omega
          have d1 : decide ((D : Int) < 0) = false := by simp
          clear H0 H1 hd hD
          go_wp2_with (at_builtin; refine wpList_append_own _ rfl _ _ 88 rfl w.heap.size 3 i0 (.int .i64 0) 1 8 Tryd.underlying88 hi hz0 hz1 hz2 rfl (by decide) _ _ _ rfl (HO.out.alloc _) ⟨wr.heap.size, 0, none⟩ 1 1 [.int .i64 (D : Int)] rfl rfl (one_cellW _ _ _) (one_oneW _) (by rw [toI_len, HI.out.len]; unfold maxLen; omega) (by rw [toI_len, HI.out.len]; omega) (by have := HG.out.size; simp; omega) ?_; intro v' w1 hown hgrow _; have HO2 : Hid (Own w1 w.heap.size v' (toI (out ++ [D]))) := Own.snocW hown; have HG2 : Hid (Old w w1) := Old.growW (HG.out.alloc _) (HO.out.alloc _) hgrow; clear hown hgrow)
          exact ⟨⟨k + 1, out ++ [D], 0, ⟨by omega, by omega⟩, by go_num, rfl, HS, HO2, HG2⟩, by simp [intOf]; omega⟩
        · have HS : Hid (SubI xs ys (k + 1) (out ++ [x + 268435456 - cc - y]) 1) := H1.out (by omega)
          generalize hD : x + 268435456 - cc - y = D at *
          have e1 : (x : Int) - (cc : Int) - (y : Int) + 268435456 = (D : Int) := by omega
          have d1 : decide ((x : Int) - (cc : Int) - (y : Int) < 0) = true := by simp; omega
          clear H0 H1 hd hD
          go_wp2_with (at_builtin; refine wpList_append_own _ rfl _ _ 88 rfl w.heap.size 3 i0 (.int .i64 0) 1 8 Tryd.underlying88 hi hz0 hz1 hz2 rfl (by decide) _ _ _ rfl (HO.out.alloc _) ⟨wr.heap.size, 0, none⟩ 1 1 [.int .i64 (D : Int)] rfl rfl (one_cellW _ _ _) (one_oneW _) (by rw [toI_len, HI.out.len]; unfold maxLen; omega) (by rw [toI_len, HI.out.len]; omega) (by have := HG.out.size; simp; omega) ?_; intro v' w1 hown hgrow _; have HO2 : Hid (Own w1 w.heap.size v' (toI (out ++ [D]))) := Own.snocW hown; have HG2 : Hid (Old w w1) := Old.growW (HG.out.alloc _) (HO.out.alloc _) hgrow; clear hown hgrow)
          exact ⟨⟨k + 1, out ++ [D], 1, ⟨by omega, by omega⟩, by go_num, rfl, HS, HO2, HG2⟩, by simp [intOf]; omega⟩
      · have ey0 : ys.getD k 0 = 0 := by simp [List.getD, List.getElem?_eq_none (show ys.length ≤ k by omega)]
        rw [ey0] at H0 H1
        clear ey0 hy
        generalize xs.getD k 0 = x at *
        unfold LB at hx H1
        by_cases hd : cc + 0 ≤ x
        · have HS : Hid (SubI xs ys (k + 1) (out ++ [x - cc - 0]) 0) := H0.out hd
          generalize hD : x - cc - 0 = D at *
          have e1 : (x : Int) - (cc : Int) = (D : Int) := by omega
          have d1 : decide ((D : Int) < 0) = false := by simp
          clear H0 H1 hd hD
          go_wp2_with (at_builtin; refine wpList_append_own _ rfl _ _ 88 rfl w.heap.size 3 i0 (.int .i64 0) 1 8 Tryd.underlying88 hi hz0 hz1 hz2 rfl (by decide) _ _ _ rfl (HO.out.alloc _) ⟨wr.heap.size, 0, none⟩ 1 1 [.int .i64 (D : Int)] rfl rfl (one_cellW _ _ _) (one_oneW _) (by rw [toI_len, HI.out.len]; unfold maxLen; omega) (by rw [toI_len, HI.out.len]; omega) (by have := HG.out.size; simp; omega) ?_; intro v' w1 hown hgrow _; have HO2 : Hid (Own w1 w.heap.size v' (toI (out ++ [D]))) := Own.snocW hown; have HG2 : Hid (Old w w1) := Old.growW (HG.out.alloc _) (HO.out.alloc _) hgrow; clear hown hgrow)
          exact ⟨⟨k + 1, out ++ [D], 0, ⟨by omega, by omega⟩, by go_num, rfl, HS, HO2, HG2⟩, by simp [intOf]; omega⟩
        · have HS : Hid (SubI xs ys (k + 1) (out ++ [x + 268435456 - cc - 0]) 1) := H1.out (by omega)
          generalize hD : x + 268435456 - cc - 0 = D at *
          have e1 : (x : Int) - (cc : Int) + 268435456 = (D : Int) := by omega
          have d1 : decide ((x : Int) - (cc : Int) < 0) = true := by simp; omega
          clear H0 H1 hd hD
          go_wp2_with (at_builtin; refine wpList_append_own _ rfl _ _ 88 rfl w.heap.size 3 i0 (.int .i64 0) 1 8 Tryd.underlying88 hi hz0 hz1 hz2 rfl (by decide) _ _ _ rfl (HO.out.alloc _) ⟨wr.heap.size, 0, none⟩ 1 1 [.int .i64 (D : Int)] rfl rfl (one_cellW _ _ _) (one_oneW _) (by rw [toI_len, HI.out.len]; unfold maxLen; omega) (by rw [toI_len, HI.out.len]; omega) (by have := HG.out.size; simp; omega) ?_; intro v' w1 hown hgrow _; have HO2 : Hid (Own w1 w.heap.size v' (toI (out ++ [D]))) := Own.snocW hown; have HG2 : Hid (Old w w1) := Old.growW (HG.out.alloc _) (HO.out.alloc _) hgrow; clear hown hgrow)
          exact ⟨⟨k + 1, out ++ [D], 1, ⟨by omega, by omega⟩, by go_num, rfl, HS, HO2, HG2⟩, by simp [intOf]; omega⟩
    · obtain rfl : k = xs.length := by omega
      have HT : Hid (trim out = dig (val xs - val ys)) := HI.out.done rfl hyx HLE.out
      have HL : Hid (Lim out ∧ out.length = xs.length) := ⟨HI.out.lim, HI.out.len⟩
      clear HI
      go_wp2_with fail
      refine (trim_any out _ w.heap.size _ HO.out HL.out.1 (by have := HL.out.2; omega)).mono ?_
      rintro e w1 ⟨v', rfl, g1, o1⟩
      have HG2 : Hid (Old w w1) := Old.trans HG.out g1
      have HO2 : Hid (Own w1 w.heap.size v' (toI (trim out))) := o1
      clear g1 o1
      go_wp2_with fail
      go_ret
      exact ⟨_, rfl, HG2.out, by rw [← HT.out]; exact HO2.out⟩
end Go.Proofs.YtplaaglckbfklaaDoor
