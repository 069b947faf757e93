/- Proved: the contract of the model's division of limbs by one limb. -/
import Derived.Test.YtplaaglckbfklaaDoorLimbsE
import Derived.Test.YtplaaglckbfklaaDoorMtwod
namespace Go.Proofs.YtplaaglckbfklaaDoor
open Go.ChangeShapes Go.WideShapes Go.ChangeAt Go.RowKit
open M2
set_option linter.unusedVariables false
set_option linter.unusedSimpArgs false
set_option maxHeartbeats 4000000 in
theorem div1_any (xs : List Nat) (d : Nat) (v u : Value) (w : World) (hv : Row w v (toI xs)) (hu : Row w u (toI [d])) (ha : Lim xs) (hd : 1 ≤ d) (hd' : d < 268435456) (la : xs.length ≤ 1048576) :
    Calls Tryd.prog 87 #[v, u] w fun e w' => ∃ v1 v2, e = .returned (.tuple #[v1, v2]) ∧ Old w w' ∧ Own w' w.heap.size v1 (toI (dig (val xs / d))) ∧ Own w' w.heap.size v2 (toI (dig (val xs % d))) := by
  obtain ⟨i0, hi, hz0, hz1, hz2⟩ := info_parts Tryd.infoInt
  have HV : Hid (Row w v (toI xs)) := hv
  obtain ⟨a0, cap0, rfl⟩ := hv.sliceN
  obtain ⟨b', o', cap1, rfl, hb2, hc2⟩ : ∃ b o cap, u = .slice (some ⟨b, o, none⟩) 1 cap ∧ b < w.heap.size ∧ w.cell? ⟨b, o, none⟩ = some (.int .i64 (d : Int)) := by
    obtain ⟨a1, cap1, rfl⟩ := hu.sliceN
    obtain ⟨b, o, rfl, hb, hc⟩ := Row.at hu (by simp)
    exact ⟨b, o, cap1, rfl, hb, hc 0 (by simp)⟩
  clear hv hu
  have hdn : ¬ d = 0 := by omega
  obtain ⟨n, hn⟩ : ∃ n, n = xs.length := ⟨_, rfl⟩
  have HN : Hid (n = xs.length) := hn
  rw [← hn]
  have hn' : n ≤ 1048576 := by omega
  clear hn
  go_enter Tryd.func87, Tryd.ntmps87
  go_wp2_with (at_make; refine wpList_make_full _ rfl _ _ 88 rfl w.heap.size 3 i0 (.int .i64 0) 1 Tryd.underlying88 hi hz0 hz1 .i64 .i64 _ _ n rfl rfl rfl rfl (by rw [hz2]; omega) (by unfold maxLen; omega) (Nat.le_refl _) ?_; intro w1 hown hgrow)
  rw [made_nats] at hown
  have HO : Hid (OwnAt w1 w.heap.size w.heap.size n (List.replicate n 0)) := hown
  have HG : Hid (Old w w1) := Below.grown (Below.refl _ _) hgrow (Nat.le_refl _) (fun _ h => by cases h)
  clear hown hgrow
  go_loopw [7, 8] (fun r i W => ∃ (k r' : Nat) (out : List Nat), (k ≤ n ∧ r' < d) ∧ i = .int .i64 ((k : Int) - 1) ∧ r = .int .i64 r' ∧ Hid (DivI xs d k out r') ∧ Hid (OwnAt W w.heap.size w.heap.size n out) ∧ Hid (Old w W)) (fun _ i _ => (intOf i + 1).toNat)
  case atStart => exact ⟨n, 0, List.replicate n 0, ⟨Nat.le_refl _, by omega⟩, rfl, rfl, (by rw [HN.out]; exact DivI.start xs d), HO, HG⟩
  case round =>
    obtain ⟨k, r, out, ⟨hk, hr⟩, rfl, rfl, HI, HO1, HG1⟩ := hrel
    clear HO HG
    rcases Nat.eq_zero_or_pos k with hk0 | hk0
    · subst hk0
      have HL : Hid (Lim out ∧ out.length = n) := ⟨HI.out.lim, by have := HI.out.len; rw [this]; exact HN.out.symm⟩
      have HE : Hid (trim out = dig (val xs / d) ∧ r = val xs % d) := HI.out.done
      clear HI
      rcases Nat.eq_zero_or_pos r with hr0 | hr0
      · have d0 : ((r : Int) == 0) = true := by simp; omega
        have HZ : Hid (dig (val xs % d) = []) := by rw [← HE.out.2, hr0]; exact dig_zero
        clear hr0
        go_wp2_with fail
        refine (trim_any out _ w.heap.size _ (HO1.out.own HL.out.2) HL.out.1 (by have := HL.out.2; omega)).mono ?_
        rintro e w1 ⟨v', rfl, g1, o1⟩
        have HG2 : Hid (Old w w1) := Old.trans HG1.out g1
        have HO2 : Hid (Own w1 w.heap.size v' (toI (trim out))) := o1
        clear g1 o1
        go_wp2_with fail
        go_ret2
        exact ⟨_, _, rfl, HG2.out, by rw [← HE.out.1]; exact HO2.out, by rw [HZ.out]; exact World.ownsRow_nil _ _ _ _⟩
      · have d0 := beq0 r (by omega)
        have HZ : Hid (dig (val xs % d) = [r]) := by rw [← HE.out.2]; exact dig_one r (by omega) (by unfold LB; omega)
        clear hr0
        go_wp2_with fail
        refine (trim_any out _ w.heap.size _ (HO1.out.own HL.out.2) HL.out.1 (by have := HL.out.2; omega)).mono ?_
        rintro e w1 ⟨v', rfl, g1, o1⟩
        have HG2 : Hid (Old w w1) := Old.trans HG1.out g1
        have HO2 : Hid (Own w1 w.heap.size v' (toI (trim out))) := o1
        clear g1 o1
        go_wp2_with fail
        go_ret2
        refine ⟨_, _, rfl, HG2.out.alloc _, by rw [← HE.out.1]; exact HO2.out.alloc _, ?_⟩
        rw [HZ.out]
        exact World.ownsRow_lit (base := w.heap.size) (e := 3) (size := 1) w1 #[.int .i64 (r : Int)] 1 HG2.out.size (by unfold maxLen; omega) (by simp)
    · obtain ⟨j, rfl⟩ : ∃ j, k = j + 1 := ⟨k - 1, by omega⟩
      obtain ⟨b, o, rfl, hb1, hc1⟩ := Row.at (HV.out.old HG1.out) (by have := HN.out; omega)
      have c1 := hc1 j (by have := HN.out; omega)
      clear hc1
      have c2 : wr.cell? ⟨b', o', none⟩ = some (.int .i64 (d : Int)) := (HG1.out.cell (p := ⟨b', o', none⟩) hb2).trans hc2
      have hxj := ha.getD j
      have st := HI.out.step (by omega) (by have := HN.out; omega) ha
      have HS : Hid (DivI xs d j (out.set j ((r * LB + xs.getD j 0) / d)) ((r * LB + xs.getD j 0) % d)) := st.1
      have hlt := st.2
      have hlt2 : (r * LB + xs.getD j 0) % d < d := Nat.mod_lt _ (by omega)
      have hol : out.length = n := by have := HI.out.len; rw [this]; exact HN.out.symm
      have c3 := HO1.out.get hol j (by omega)
      have c4 := HO1.out.free j
      have HP : Hid (∀ y', OwnAt (wr.setCell ⟨w.heap.size, j, none⟩ (.int .i64 ((y' : Nat) : Int))) w.heap.size w.heap.size n (out.set j y')) := fun y' => HO1.out.put j y'
      have em : ((j + 1 : Nat) : Int) - 1 = (j : Int) := by omega
      generalize xs.getD j 0 = x at *
      generalize out.getD j 0 = ov at *
      rw [em]
      have eq : ((r : Int) * 268435456 + (x : Int)) / (d : Int) = (((r * LB + x) / d : Nat) : Int) := by unfold LB; simp
      have er : ((r : Int) * 268435456 + (x : Int)) % (d : Int) = (((r * LB + x) % d : Nat) : Int) := by unfold LB; simp
      generalize (r * LB + x) / d = Q at *
      generalize (r * LB + x) % d = R at *
      unfold LB at hxj hlt
      clear st em HI hol
      go_wp2_with fail
      exact ⟨⟨j, R, out.set j Q, ⟨by omega, hlt2⟩, by go_num, by rw [er], HS, HP.out Q, HG1.out.own (Nat.le_refl _) _⟩, by simp [intOf]⟩
end Go.Proofs.YtplaaglckbfklaaDoor
