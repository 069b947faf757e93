/- Proved: contracts of InversesOf, of the program and of the model. -/
import Derived.Test.YtplaaglckbfklaaDoorInvS
import Derived.Test.YtplaaglckbfklaaDoorResI
namespace Go.Proofs.YtplaaglckbfklaaDoor
open Go.ChangeShapes Go.WideShapes Go.ChangeAt Go.RowKit
set_option linter.unusedVariables false
set_option linter.unusedSimpArgs false
def invL (ps : List Nat) : List Nat := (List.range ps.length).map (fun i => ivN ps i)
theorem invL_len (ps : List Nat) : (invL ps).length = ps.length := by simp [invL]
theorem invL_get (ps : List Nat) (k : Nat) (h : k < ps.length) : (toZ (invL ps)).getD k 0 = ((ivN ps k : Nat) : Int) := by rw [toZ_get]; simp [invL, List.getD, h]
set_option maxRecDepth 100000 in
set_option maxHeartbeats 2000000 in
theorem impl_InversesOf_no (xs : List Int) (v : Value) (w : World) (hP : PrsW w) (hT : TabW w) (hv : Row w v xs) (hf : Fit v) (hl : xs.length ≤ 9223372036854775807) (h : basB xs = false) :
    Calls Tryd.prog 67 #[v] w (Ls w [] false) := by
  have c2 := impl_goodBasis xs v w hP hT hv hf hl
  rw [h] at c2
  obtain ⟨a0, cap0, rfl⟩ := hv.slice
  clear hP hT hv hf h
  go_enter Tryd.func67, Tryd.ntmps67
  go_wp2_with fail
  refine c2.mono ?_
  rintro e w2 ⟨rfl, g2⟩
  have HG2 : Hid (Old w w2) := g2
  clear g2
  go_wp2_with fail
  go_ret2
  exact ⟨_, rfl, HG2.out, own_none _ _⟩
set_option maxRecDepth 100000 in
set_option maxHeartbeats 4000000 in
theorem impl_InversesOf_yes (ps : List Nat) (v : Value) (w : World) (hP : PrsW w) (hT : TabW w) (hv : Row w v (toZ ps)) (hf : Fit v) (hb : Bas ps) (h : basB (toZ ps) = true) :
    Calls Tryd.prog 67 #[v] w (Ls w (toZ (invL ps)) true) := by
  obtain ⟨i0, hi, hz0, hz1, hz2⟩ := info_parts Tryd.infoInt
  have hl6 := hb.len6
  have c2 := impl_goodBasis (toZ ps) v w hP hT hv hf (by rw [toZ_len]; omega)
  rw [h] at c2
  have HM : Hid (∀ k, k < ps.length → ∀ W, Row W v (toZ ps) → Calls Tryd.prog 131 #[v, .int .i64 k] W fun e w' => e = .returned (.int .i64 ((toZ (invL ps)).getD k 0)) ∧ Old W w') := fun k hk W hr => by
    have := inverseAt_any ps v k W hr hf hk (by omega) hb.lo hb.hi
    rw [← invL_get ps k hk] at this
    exact this
  have HV : Hid (Row w v (toZ ps)) := hv
  obtain ⟨b, o, cap0, rfl, hbb, hc⟩ := hv.atZ (by have := hb.len1; omega)
  have hlen : (toZ (invL ps)).length = ps.length := by rw [toZ_len, invL_len]
  generalize toZ (invL ps) = zs at *
  have hl1 := hb.len1
  clear hP hT hv hf hc hb h
  go_enter Tryd.func67, Tryd.ntmps67
  go_wp2_with fail
  refine c2.mono ?_
  rintro e w2 ⟨rfl, g2⟩
  have HG2 : Hid (Old w w2) := g2
  clear g2 c2
  go_wp2_with (at_make; refine wpList_make_full _ rfl _ _ 23 rfl w2.heap.size 3 i0 (.int .i64 0) 1 Tryd.underlying23 hi hz0 hz1 .i64 .i64 _ _ ps.length rfl rfl rfl rfl (by rw [hz2]; omega) (by unfold maxLen; omega) (Nat.le_refl _) ?_; intro w3 hown hgrow)
  have HO : Hid (OwnI w3 w2.heap.size w2.heap.size ps.length (List.replicate ps.length 0)) := by
    rw [made_ints] at hown
    exact hown
  have HG3 : Hid (Old w2 w3) := Old.by_ (Old.refl _) hgrow (fun b hb => by cases hb)
  clear hown hgrow
  go_loopw [14] (fun i W => ∃ k : Nat, k ≤ ps.length ∧ i = .int .i64 k ∧ Hid (OwnI W w2.heap.size w2.heap.size ps.length (fillN zs k)) ∧ Hid (Old w2 W)) (fun i _ => ps.length - (intOf i).toNat)
  case atStart => exact ⟨0, by omega, rfl, (by show OwnI _ _ _ _ _; rw [fillN_zero, hlen]; exact HO.out), HG3⟩
  case round =>
    obtain ⟨k, hk, rfl, HO1, HG4⟩ := hrel
    clear HO HG3
    have HG5 : Hid (Old w wr) := Old.trans HG2.out HG4.out
    by_cases hlt : k < ps.length
    · have d1 : decide ((k : Int) < (ps.length : Int)) = true := by simp; omega
      have cm := HM.out k hlt
      have HPU : Hid (∀ W, OwnI W w2.heap.size w2.heap.size ps.length (fillN zs k) → OwnI (W.setCell ⟨w2.heap.size, k, none⟩ (.int .i64 (zs.getD k 0))) w2.heap.size w2.heap.size ps.length (fillN zs (k + 1))) := fun W h => by
        have := h.put k (zs.getD k 0)
        rw [fillN_set zs k (by omega)] at this
        exact this
      have i1 : (k : Int) < (ps.length : Int) := by omega
      generalize zs.getD k 0 = y at *
      go_wp2_with fail
      refine (cm _ (HV.out.old HG5.out)).mono ?_
      rintro e w4 ⟨rfl, g4⟩
      have HO4 : Hid (OwnI w4 w2.heap.size w2.heap.size ps.length (fillN zs k)) := HO1.out.old g4
      have HG6 : Hid (Old w2 w4) := Old.trans HG4.out g4
      have c3 := HO4.out.get (fillN_len zs k (by omega) |>.trans hlen) k hlt
      have c4 := HO4.out.free k
      generalize (fillN zs k).getD k 0 = oldv at *
      clear g4
      go_wp2_with fail
      exact ⟨⟨k + 1, by omega, by go_num, HPU.out _ HO4.out, HG6.out.own (Nat.le_refl _) _⟩, by simp [intOf]; omega⟩
    · have d1 : decide ((k : Int) < (ps.length : Int)) = false := by simp; omega
      obtain rfl : k = ps.length := by omega
      have HF : Hid (Own wr w2.heap.size (.slice (some ⟨w2.heap.size, 0, none⟩) ps.length ps.length) zs) := by
        have := HO1.out.own ((fillN_len zs ps.length (by omega)).trans hlen)
        rw [show fillN zs ps.length = zs by rw [← hlen]; exact fillN_all zs] at this
        exact this
      go_wp2_with fail
      go_ret2
      exact ⟨_, rfl, HG5.out, HF.out.low HG2.out.size⟩
set_option maxRecDepth 100000 in
set_option maxHeartbeats 2000000 in
theorem spec_InversesOf_no (xs : List Int) (v : Value) (w : World) (hv : Row w v xs) (hf : Fit v) (hl : xs.length ≤ 9223372036854775807) (hx : ∀ x ∈ xs, -9223372036854775808 ≤ x ∧ x ≤ 9223372036854775807) (h : basB xs = false) :
    Calls Tryd.prog 66 #[v] w (Ls w [] false) := by
  have c2 := spec_goodBasis xs v w hv hf hl hx
  rw [h] at c2
  obtain ⟨a0, cap0, rfl⟩ := hv.slice
  clear hv hf h hx
  go_enter Tryd.func66, Tryd.ntmps66
  go_wp2_with fail
  refine c2.mono ?_
  rintro e w2 ⟨rfl, g2⟩
  have HG2 : Hid (Old w w2) := g2
  clear g2
  go_wp2_with fail
  go_ret2
  exact ⟨_, rfl, HG2.out, own_none _ _⟩
set_option maxRecDepth 100000 in
set_option maxHeartbeats 4000000 in
theorem spec_InversesOf_yes (ps : List Nat) (v : Value) (w : World) (hv : Row w v (toZ ps)) (hf : Fit v) (hb : Bas ps) (h : basB (toZ ps) = true) :
    Calls Tryd.prog 66 #[v] w (Ls w (toZ (invL ps)) true) := by
  obtain ⟨i0, hi, hz0, hz1, hz2⟩ := info_parts Tryd.infoInt
  have hl6 := hb.len6
  have c2 := spec_goodBasis (toZ ps) v w hv hf (by rw [toZ_len]; omega) (fun x hx => by
    obtain ⟨n, hn, rfl⟩ := List.mem_map.1 hx
    have := hb.hi n hn
    omega)
  rw [h] at c2
  have HM : Hid (∀ k, k < ps.length → ∀ W, Row W v (toZ ps) → Calls Tryd.prog 130 #[v, .int .i64 k] W fun e w' => e = .returned (.int .i64 ((toZ (invL ps)).getD k 0)) ∧ Old W w') := fun k hk W hr => by
    have := spec_inverse ps v k W hr hk (by omega) hb.lo hb.hi
    rw [← invL_get ps k hk] at this
    exact this
  have HE : Hid (∀ k, k < ps.length → (toZ (invL ps)).take (k + 1) = (toZ (invL ps)).take k ++ [(toZ (invL ps)).getD k 0]) := fun k hk => take_succI _ k (by rw [toZ_len, invL_len]; exact hk)
  have HV : Hid (Row w v (toZ ps)) := hv
  obtain ⟨a0, cap0, rfl⟩ : ∃ a c, v = .slice a ps.length c := by have := hv.slice; rwa [toZ_len] at this
  have hlen : (toZ (invL ps)).length = ps.length := by rw [toZ_len, invL_len]
  generalize toZ (invL ps) = zs at *
  clear hv hf hb h
  go_enter Tryd.func66, Tryd.ntmps66
  go_wp2_with fail
  refine c2.mono ?_
  rintro e w2 ⟨rfl, g2⟩
  have HG2 : Hid (Old w w2) := g2
  clear g2 c2
  go_wp2_with fail
  go_loopw [4, 11] (fun x i W => ∃ (k : Nat) (a : Option Addr) (cap : Nat), k ≤ ps.length ∧ i = .int .i64 k ∧ x = .slice a k cap ∧ Hid (Own W w.heap.size (.slice a k cap) (zs.take k)) ∧ Hid (Old w W)) (fun _ i _ => ps.length - (intOf i).toNat)
  case atStart => exact ⟨0, none, 0, by omega, rfl, rfl, (by exact own_none _ _), HG2⟩
  case round =>
    obtain ⟨k, a, cap, hk, rfl, rfl, HO1, HG4⟩ := hrel
    by_cases hlt : k < ps.length
    · have d1 : decide ((k : Int) < (ps.length : Int)) = true := by simp; omega
      have cm := HM.out k hlt
      have HT2 : Hid (zs.take (k + 1) = zs.take k ++ [zs.getD k 0]) := HE.out k hlt
      have htk : (zs.take k).length = k := by rw [List.length_take]; omega
      generalize zs.getD k 0 = y at *
      go_wp2_with fail
      refine (cm _ (HV.out.old HG4.out)).mono ?_
      rintro e w4 ⟨rfl, g4⟩
      have HO4 : Hid (Own w4 w.heap.size (.slice a k cap) (zs.take k)) := HO1.out.old g4
      have HG6 : Hid (Old w w4) := Old.trans HG4.out g4
      have hs5 := HG6.out.size
      clear g4
      go_wp2_with (at_builtin; refine wpList_append_own _ rfl _ _ 23 rfl w.heap.size 3 i0 (.int .i64 0) 1 8 Tryd.underlying23 hi hz0 hz1 hz2 rfl (by decide) _ _ _ rfl (by have := HO4.out.alloc (.cells #[.int .i64 y] 3); unfold Own at this; rw [htk] at this; exact this) ⟨w4.heap.size, 0, none⟩ 1 1 [.int .i64 y] rfl rfl (one_cell _ _ _) (one_one _) (by unfold maxLen; omega) (by omega) (by simp; omega) ?_; intro v5 w5 o5 g5 x5; have O5 : Hid (Own w5 w.heap.size v5 (zs.take (k + 1))) := (by have := HT2.out; show Own _ _ _ _; rw [this]; exact Own.snoc (by rw [htk]; exact o5)); have G5 : Hid (Old w w5) := Below.grown (HG6.out.alloc (.cells #[.int .i64 y] 3)) g5 (HG6.out.alloc (.cells #[.int .i64 y] 3)).size (fun j hj => (HO4.out.lt j hj).1); clear o5 g5 x5)
      obtain ⟨a5, cap5, rfl⟩ := (Own.row O5.out).slice
      have htk1 : (zs.take (k + 1)).length = k + 1 := by rw [List.length_take]; omega
      rw [htk1] at O5 ⊢
      exact ⟨⟨k + 1, _, _, by omega, by go_num, rfl, O5, G5⟩, by simp [intOf]; omega⟩
    · have d1 : decide ((k : Int) < (ps.length : Int)) = false := by simp; omega
      obtain rfl : k = ps.length := by omega
      have HF : Hid (Own wr w.heap.size (.slice a ps.length cap) zs) := by
        have := HO1.out
        rw [List.take_of_length_le (by omega)] at this
        exact this
      go_wp2_with fail
      go_ret2
      exact ⟨_, rfl, HG4.out, HF.out⟩
end Go.Proofs.YtplaaglckbfklaaDoor
