/- Proved: several texts in one: what each proves is said ahead of it. -/
import Derived.Test.YtfcdfielbpdloaaGreatDoorC200
import Derived.Test.YtfcdfielbpdloaaGreatDoorC202
/- Proved: the contract of the model's product of limbs. -/
namespace Go.Proofs.YtfcdfielbpdloaaGreatDoor
open Go.ChangeShapes Go.WideShapes Go.ChangeAt Go.RowKit
open M2
set_option linter.unusedVariables false
set_option linter.unusedSimpArgs false
abbrev OwnAt (w : World) (base g n : Nat) (xs : List Nat) : Prop := w.ownsRow base 3 1 (.slice (some ⟨g, 0, none⟩) n n) n ((toI xs).map (Value.int .i64))
theorem OwnAt.get {w : World} {base g n : Nat} {xs : List Nat} (h : OwnAt w base g n xs) (hn : xs.length = n) (j : Nat) (hj : j < n) : w.cell? ⟨g, j, none⟩ = some (.int .i64 ((xs.getD j 0 : Nat) : Int)) := by
  rw [World.ownsRow.cellAt h j (by omega), ← toI_get]
  have : j < (toI xs).length := by rw [toI_len]; omega
  simp [List.getD, this]
theorem OwnAt.free {w : World} {base g n : Nat} {xs : List Nat} (h : OwnAt w base g n xs) (j : Nat) : w.frozen? ⟨g, j, none⟩ = false := World.ownsRow.frozenAt h j
theorem OwnAt.put {w : World} {base g n : Nat} {xs : List Nat} (h : OwnAt w base g n xs) (j y : Nat) : OwnAt (w.setCell ⟨g, j, none⟩ (.int .i64 (y : Int))) base g n (xs.set j y) := by
  have := (World.ownsRow.stored h j (.int .i64 (y : Int))).1
  unfold OwnAt
  have e : toI (xs.set j y) = (toI xs).set j (y : Int) := by simp [toI, List.map_set]
  rw [e, List.map_set]
  exact this
theorem OwnAt.own {w : World} {base g n : Nat} {xs : List Nat} (h : OwnAt w base g n xs) (hn : xs.length = n) : Own w base (.slice (some ⟨g, 0, none⟩) n n) (toI xs) := by
  unfold Own
  rw [toI_len, hn]
  exact h
theorem made_nats (n : Nat) : (madeCells (Value.int .i64 0).cells (n * 1)).toList = (toI (List.replicate n 0)).map (Value.int .i64) := by
  rw [made_ints]
  simp [toI]
set_option maxHeartbeats 4000000 in
theorem mul_any (xs ys : List Nat) (v u : Value) (w : World) (hv : Row w v (toI xs)) (hu : Row w u (toI ys)) (ha : Lim xs) (hb : Lim ys) (la : xs.length ≤ 1048576) (lb : ys.length ≤ 1048576) :
    Calls Tryz.prog 61 #[v, u] w fun e w' => ∃ v', e = .returned v' ∧ Old w w' ∧ Own w' w.heap.size v' (toI (dig (val xs * val ys))) := by
  obtain ⟨i0, hi, hz0, hz1, hz2⟩ := info_parts Tryz.infoInt
  have HV : Hid (Row w v (toI xs)) := hv
  have HU : Hid (Row w u (toI ys)) := hu
  obtain ⟨a0, cap0, rfl⟩ := hv.sliceN
  obtain ⟨a1, cap1, rfl⟩ := hu.sliceN
  clear hv hu
  obtain ⟨n, hn⟩ : ∃ n, n = xs.length + ys.length := ⟨_, rfl⟩
  have en : (xs.length : Int) + (ys.length : Int) = (n : Int) := by omega
  have HN : Hid (n = xs.length + ys.length) := hn
  have hn' : n ≤ 2097152 := by omega
  have HT : Hid (∀ i, val (xs.take i) * val ys < LB ^ n) := fun i => by
    have h1 := val_lt (ha.take i)
    have h2 := val_lt hb
    have h3 : LB ^ (xs.take i).length ≤ LB ^ xs.length := Nat.pow_le_pow_right LB_pos (by rw [List.length_take]; omega)
    have h4 : val (xs.take i) * val ys < LB ^ xs.length * LB ^ ys.length := Nat.mul_lt_mul'' (by omega) h2
    rw [hn, Nat.pow_add]
    exact h4
  clear hn
  go_enter Tryz.func61, Tryz.ntmps61
  go_wp2_with (at_make; refine wpList_make_full _ rfl _ _ 59 rfl w.heap.size 3 i0 (.int .i64 0) 1 Tryz.underlying59 hi hz0 hz1 .i64 .i64 _ _ n rfl rfl rfl rfl (by rw [hz2]; omega) (by unfold maxLen; omega) (Nat.le_refl _) ?_; intro w1 hown hgrow)
  rw [made_nats] at hown
  have HO : Hid (OwnAt w1 w.heap.size w.heap.size n (List.replicate n 0)) := hown
  have HG : Hid (Old w w1) := Below.grown (Below.refl _ _) hgrow (Nat.le_refl _) (fun _ h => by cases h)
  clear hown hgrow
  go_loopw [20] (fun i W => ∃ (k : Nat) (out : List Nat), k ≤ xs.length ∧ i = .int .i64 k ∧ Hid (MulI n 0 (val (xs.take k) * val ys) out 0) ∧ Hid (OwnAt W w.heap.size w.heap.size n out) ∧ Hid (Old w W)) (fun i _ => xs.length - (intOf i).toNat)
  case atStart => exact ⟨0, List.replicate n 0, by omega, rfl, (by exact ⟨lim_zeros n, by simp, by rw [val_zeros]; simp [val], LB_pos⟩), HO, HG⟩
  case round =>
    obtain ⟨k, out, hk, rfl, HI, HO1, HG1⟩ := hrel
    clear HO HG
    by_cases h1 : k < xs.length
    · obtain ⟨b, o, rfl, hb1, hc1⟩ := Row.at (HV.out.old HG1.out) (by omega)
      have c1 := hc1 k h1
      clear hc1
      have hx := ha.getD k
      have HX : Hid (val (xs.take (k + 1)) * val ys = val (xs.take k) * val ys + LB ^ k * xs.getD k 0 * val ys) := by rw [val_take_succ, Nat.add_mul]; rfl
      generalize xs.getD k 0 = x at *
      go_wp2_with fail
      go_loopw [8, 27] (fun c j W => ∃ (j' c' : Nat) (out' : List Nat), (j' ≤ ys.length ∧ c' < 268435456) ∧ j = .int .i64 j' ∧ c = .int .i64 c' ∧ Hid (MulI n (k + j') (val (xs.take k) * val ys + LB ^ k * x * val (ys.take j')) out' c') ∧ Hid (OwnAt W w.heap.size w.heap.size n out') ∧ Hid (Old w W)) (fun _ j _ => ys.length - (intOf j).toNat)
      case atStart => exact ⟨0, 0, out, ⟨by omega, by omega⟩, rfl, rfl, (by have := HI.out.zero rfl (k + 0); simp [val] at this ⊢; exact this), HO1, HG1⟩
      case round =>
        obtain ⟨j, c, out', ⟨hj, hc⟩, rfl, rfl, HI2, HO2, HG2⟩ := hrel
        by_cases h2 : j < ys.length
        · obtain ⟨b', o', rfl, hb2, hc2⟩ := Row.at (HU.out.old HG2.out) (by omega)
          have c2 := hc2 j h2
          clear hc2
          have hy := hb.getD j
          have hpn : k + j < n := by have := HN.out; omega
          have hz : x * ys.getD j 0 ≤ (LB - 1) * (LB - 1) := Nat.mul_le_mul (by omega) (by omega)
          have hov := HI2.out.lim.getD (k + j)
          have c3 := HO2.out.get HI2.out.len (k + j) hpn
          have c4 := HO2.out.free (k + j)
          have HS : Hid (MulI n (k + (j + 1)) (val (xs.take k) * val ys + LB ^ k * x * val (ys.take (j + 1))) (out'.set (k + j) ((c + (out'.getD (k + j) 0 + x * ys.getD j 0)) % LB)) ((c + (out'.getD (k + j) 0 + x * ys.getD j 0)) / LB)) := by
            have := HI2.out.step (x * ys.getD j 0) hz hpn
            have e := mul_row_step xs ys x k j
            rw [e] at this
            exact this
          generalize out'.getD (k + j) 0 = ov at *
          generalize ys.getD j 0 = y at *
          have ez : (x : Int) * (y : Int) = ((x * y : Nat) : Int) := by simp
          have hz' : x * y ≤ 72057593501057025 := hz
          generalize x * y = z at *
          have HP : Hid (∀ y', OwnAt (wr.setCell ⟨w.heap.size, k + j, none⟩ (.int .i64 ((y' : Nat) : Int))) w.heap.size w.heap.size n (out'.set (k + j) y')) := fun y' => HO2.out.put (k + j) y'
          have ep : (k : Int) + (j : Int) = ((k + j : Nat) : Int) := by omega
          generalize hp : k + j = p at *
          generalize hR : (c + (ov + z)) % LB = R at *
          generalize hQ : (c + (ov + z)) / LB = Q at *
          have hQ1 := HS.out.c1
          unfold LB at hR hQ hov hQ1
          have e3 : ((c : Int) + ((ov : Int) + (z : Int))) % 268435456 = (R : Int) := by omega
          have e4 : ((c : Int) + ((ov : Int) + (z : Int))) / 268435456 = (Q : Int) := by omega
          clear hR hQ hz hz' hp
          go_wp2_with fail
          exact ⟨⟨j + 1, Q, out'.set p R, ⟨by omega, hQ1⟩, by go_num, by rw [e4], HS, HP.out R, HG2.out.own (Nat.le_refl _) _⟩, by simp [intOf]; omega⟩
        · obtain rfl : j = ys.length := by omega
          have HI3 : Hid (MulI n (k + ys.length) (val (xs.take (k + 1)) * val ys) out' c) := by
            have := HI2.out
            rw [List.take_length, ← HX.out] at this
            exact this
          have ep : (k : Int) + (ys.length : Int) = ((k + ys.length : Nat) : Int) := by omega
          have hpn : k + ys.length ≤ n := by have := HN.out; omega
          clear HI2 HI HO1 HG1
          generalize k + ys.length = p0 at *
          go_wp2_with fail
          go_loopw [8, 11] (fun c j W => ∃ (p c' : Nat) (out' : List Nat), (p ≤ n ∧ c' < 268435456) ∧ j = .int .i64 p ∧ c = .int .i64 c' ∧ Hid (MulI n p (val (xs.take (k + 1)) * val ys) out' c') ∧ Hid (OwnAt W w.heap.size w.heap.size n out') ∧ Hid (Old w W)) (fun _ j _ => n - (intOf j).toNat)
          case atStart => exact ⟨p0, c, out', ⟨hpn, hc⟩, by go_num, rfl, HI3, HO2, HG2⟩
          case round =>
            obtain ⟨p, c', out2, ⟨hp, hc'⟩, rfl, rfl, HI4, HO4, HG4⟩ := hrel
            clear HI3 HO2 HG2
            rcases Nat.eq_zero_or_pos c' with h0 | h0
            · subst h0
              have HI5 : Hid (MulI n 0 (val (xs.take (k + 1)) * val ys) out2 0) := HI4.out.zero rfl 0
              clear HI4
              go_wp2_with fail
              exact ⟨⟨k + 1, out2, by omega, by go_num, HI5, HO4, HG4⟩, by simp [intOf]; omega⟩
            · have hpn2 := HI4.out.carry (HT.out (k + 1)) h0
              have HS : Hid (MulI n (p + 1) (val (xs.take (k + 1)) * val ys) (out2.set p ((c' + out2.getD p 0) % LB)) ((c' + out2.getD p 0) / LB)) := HI4.out.next hpn2
              have hov := HI4.out.lim.getD p
              have c3 := HO4.out.get HI4.out.len p hpn2
              have c4 := HO4.out.free p
              have HP : Hid (∀ y', OwnAt (wr.setCell ⟨w.heap.size, p, none⟩ (.int .i64 ((y' : Nat) : Int))) w.heap.size w.heap.size n (out2.set p y')) := fun y' => HO4.out.put p y'
              generalize out2.getD p 0 = ov at *
              generalize hR : (c' + ov) % LB = R at *
              generalize hQ : (c' + ov) / LB = Q at *
              have hQ1 := HS.out.c1
              unfold LB at hR hQ hov hQ1
              have e3 : ((c' : Int) + (ov : Int)) % 268435456 = (R : Int) := by omega
              have e4 : ((c' : Int) + (ov : Int)) / 268435456 = (Q : Int) := by omega
              have d0 : decide (0 < c') = true := by simp; omega
              clear hR hQ HI4
              go_wp2_with fail
              exact ⟨⟨p + 1, Q, out2.set p R, ⟨by omega, hQ1⟩, by go_num, by rw [e4], HS, HP.out R, HG4.out.own (Nat.le_refl _) _⟩, by simp [intOf]; omega⟩
    · have HE : Hid (trim out = dig (val xs * val ys)) := by
        have := HI.out.eq
        rw [Nat.mul_zero, Nat.add_zero, List.take_of_length_le (by omega)] at this
        unfold trim
        rw [this]
        rfl
      have HL : Hid (Lim out ∧ out.length = n) := ⟨HI.out.lim, HI.out.len⟩
      clear HI
      go_wp2_with fail
      refine (trim_any out _ w.heap.size _ (HO1.out.own HL.out.2) HL.out.1 (by have := HL.out.2; omega)).mono ?_
      rintro e w1 ⟨v', rfl, g1, o1⟩
      have HG2 : Hid (Old w w1) := Old.trans HG1.out g1
      have HO2 : Hid (Own w1 w.heap.size v' (toI (trim out))) := o1
      clear g1 o1
      go_wp2_with fail
      go_ret
      exact ⟨_, rfl, HG2.out, by rw [← HE.out]; exact HO2.out⟩
end Go.Proofs.YtfcdfielbpdloaaGreatDoor
/- Proved: the contract of the model's division of limbs by one limb. -/
namespace Go.Proofs.YtfcdfielbpdloaaGreatDoor
open Go.ChangeShapes Go.WideShapes Go.ChangeAt Go.RowKit
open M2
set_option linter.unusedVariables false
set_option linter.unusedSimpArgs false
set_option maxHeartbeats 4000000 in
theorem div1_any (xs : List Nat) (d : Nat) (v u : Value) (w : World) (hv : Row w v (toI xs)) (hu : Row w u (toI [d])) (ha : Lim xs) (hd : 1 ≤ d) (hd' : d < 268435456) (la : xs.length ≤ 1048576) :
    Calls Tryz.prog 64 #[v, u] w fun e w' => ∃ v1 v2, e = .returned (.tuple #[v1, v2]) ∧ Old w w' ∧ Own w' w.heap.size v1 (toI (dig (val xs / d))) ∧ Own w' w.heap.size v2 (toI (dig (val xs % d))) := by
  obtain ⟨i0, hi, hz0, hz1, hz2⟩ := info_parts Tryz.infoInt
  have HV : Hid (Row w v (toI xs)) := hv
  obtain ⟨a0, cap0, rfl⟩ := hv.sliceN
  obtain ⟨b', o', cap1, rfl, hb2, hc2⟩ : ∃ b o cap, u = .slice (some ⟨b, o, none⟩) 1 cap ∧ b < w.heap.size ∧ w.cell? ⟨b, o, none⟩ = some (.int .i64 (d : Int)) := by
    obtain ⟨a1, cap1, rfl⟩ := hu.sliceN
    obtain ⟨b, o, rfl, hb, hc⟩ := Row.at hu (by simp)
    exact ⟨b, o, cap1, rfl, hb, hc 0 (by simp)⟩
  clear hv hu
  have hdn : ¬ d = 0 := by omega
  obtain ⟨n, hn⟩ : ∃ n, n = xs.length := ⟨_, rfl⟩
  have HN : Hid (n = xs.length) := hn
  rw [← hn]
  have hn' : n ≤ 1048576 := by omega
  clear hn
  go_enter Tryz.func64, Tryz.ntmps64
  go_wp2_with (at_make; refine wpList_make_full _ rfl _ _ 59 rfl w.heap.size 3 i0 (.int .i64 0) 1 Tryz.underlying59 hi hz0 hz1 .i64 .i64 _ _ n rfl rfl rfl rfl (by rw [hz2]; omega) (by unfold maxLen; omega) (Nat.le_refl _) ?_; intro w1 hown hgrow)
  rw [made_nats] at hown
  have HO : Hid (OwnAt w1 w.heap.size w.heap.size n (List.replicate n 0)) := hown
  have HG : Hid (Old w w1) := Below.grown (Below.refl _ _) hgrow (Nat.le_refl _) (fun _ h => by cases h)
  clear hown hgrow
  go_loopw [7, 8] (fun r i W => ∃ (k r' : Nat) (out : List Nat), (k ≤ n ∧ r' < d) ∧ i = .int .i64 ((k : Int) - 1) ∧ r = .int .i64 r' ∧ Hid (DivI xs d k out r') ∧ Hid (OwnAt W w.heap.size w.heap.size n out) ∧ Hid (Old w W)) (fun _ i _ => (intOf i + 1).toNat)
  case atStart => exact ⟨n, 0, List.replicate n 0, ⟨Nat.le_refl _, by omega⟩, rfl, rfl, (by rw [HN.out]; exact DivI.start xs d), HO, HG⟩
  case round =>
    obtain ⟨k, r, out, ⟨hk, hr⟩, rfl, rfl, HI, HO1, HG1⟩ := hrel
    clear HO HG
    rcases Nat.eq_zero_or_pos k with hk0 | hk0
    · subst hk0
      have HL : Hid (Lim out ∧ out.length = n) := ⟨HI.out.lim, by have := HI.out.len; rw [this]; exact HN.out.symm⟩
      have HE : Hid (trim out = dig (val xs / d) ∧ r = val xs % d) := HI.out.done
      clear HI
      rcases Nat.eq_zero_or_pos r with hr0 | hr0
      · have d0 : ((r : Int) == 0) = true := by simp; omega
        have HZ : Hid (dig (val xs % d) = []) := by rw [← HE.out.2, hr0]; exact dig_zero
        clear hr0
        go_wp2_with fail
        refine (trim_any out _ w.heap.size _ (HO1.out.own HL.out.2) HL.out.1 (by have := HL.out.2; omega)).mono ?_
        rintro e w1 ⟨v', rfl, g1, o1⟩
        have HG2 : Hid (Old w w1) := Old.trans HG1.out g1
        have HO2 : Hid (Own w1 w.heap.size v' (toI (trim out))) := o1
        clear g1 o1
        go_wp2_with fail
        go_ret2
        exact ⟨_, _, rfl, HG2.out, by rw [← HE.out.1]; exact HO2.out, by rw [HZ.out]; exact World.ownsRow_nil _ _ _ _⟩
      · have d0 := beq0 r (by omega)
        have HZ : Hid (dig (val xs % d) = [r]) := by rw [← HE.out.2]; exact dig_one r (by omega) (by unfold LB; omega)
        clear hr0
        go_wp2_with fail
        refine (trim_any out _ w.heap.size _ (HO1.out.own HL.out.2) HL.out.1 (by have := HL.out.2; omega)).mono ?_
        rintro e w1 ⟨v', rfl, g1, o1⟩
        have HG2 : Hid (Old w w1) := Old.trans HG1.out g1
        have HO2 : Hid (Own w1 w.heap.size v' (toI (trim out))) := o1
        clear g1 o1
        go_wp2_with fail
        go_ret2
        refine ⟨_, _, rfl, HG2.out.alloc _, by rw [← HE.out.1]; exact HO2.out.alloc _, ?_⟩
        rw [HZ.out]
        exact World.ownsRow_lit (base := w.heap.size) (e := 3) (size := 1) w1 #[.int .i64 (r : Int)] 1 HG2.out.size (by unfold maxLen; omega) (by simp)
    · obtain ⟨j, rfl⟩ : ∃ j, k = j + 1 := ⟨k - 1, by omega⟩
      obtain ⟨b, o, rfl, hb1, hc1⟩ := Row.at (HV.out.old HG1.out) (by have := HN.out; omega)
      have c1 := hc1 j (by have := HN.out; omega)
      clear hc1
      have c2 : wr.cell? ⟨b', o', none⟩ = some (.int .i64 (d : Int)) := (HG1.out.cell (p := ⟨b', o', none⟩) hb2).trans hc2
      have hxj := ha.getD j
      have st := HI.out.step (by omega) (by have := HN.out; omega) ha
      have HS : Hid (DivI xs d j (out.set j ((r * LB + xs.getD j 0) / d)) ((r * LB + xs.getD j 0) % d)) := st.1
      have hlt := st.2
      have hlt2 : (r * LB + xs.getD j 0) % d < d := Nat.mod_lt _ (by omega)
      have hol : out.length = n := by have := HI.out.len; rw [this]; exact HN.out.symm
      have c3 := HO1.out.get hol j (by omega)
      have c4 := HO1.out.free j
      have HP : Hid (∀ y', OwnAt (wr.setCell ⟨w.heap.size, j, none⟩ (.int .i64 ((y' : Nat) : Int))) w.heap.size w.heap.size n (out.set j y')) := fun y' => HO1.out.put j y'
      have em : ((j + 1 : Nat) : Int) - 1 = (j : Int) := by omega
      generalize xs.getD j 0 = x at *
      generalize out.getD j 0 = ov at *
      rw [em]
      have eq : ((r : Int) * 268435456 + (x : Int)) / (d : Int) = (((r * LB + x) / d : Nat) : Int) := by unfold LB; simp
      have er : ((r : Int) * 268435456 + (x : Int)) % (d : Int) = (((r * LB + x) % d : Nat) : Int) := by unfold LB; simp
      generalize (r * LB + x) / d = Q at *
      generalize (r * LB + x) % d = R at *
      unfold LB at hxj hlt
      clear st em HI hol
      go_wp2_with fail
      exact ⟨⟨j, R, out.set j Q, ⟨by omega, hlt2⟩, by go_num, by rw [er], HS, HP.out Q, HG1.out.own (Nat.le_refl _) _⟩, by simp [intOf]⟩
end Go.Proofs.YtfcdfielbpdloaaGreatDoor
/- Proved: the contract of the model's division of limbs by limbs, bit by bit. -/
namespace Go.Proofs.YtfcdfielbpdloaaGreatDoor
open Go.ChangeShapes Go.WideShapes Go.ChangeAt Go.RowKit
open M2
set_option linter.unusedVariables false
set_option linter.unusedSimpArgs false
theorem and_i64_natW (a b : Nat) (ha : a ≤ 9223372036854775807) (hb : b ≤ 9223372036854775807) : bits .and .i64 (a : Int) (b : Int) = ((a &&& b : Nat) : Int) := by
  have hx : a &&& b < 2 ^ 63 := Nat.and_lt_two_pow _ (by omega)
  have h1 : (BitVec.ofInt 64 (a : Int)).toNat = a := by
    rw [BitVec.ofInt_natCast, BitVec.toNat_ofNat]; exact Nat.mod_eq_of_lt (by omega)
  have h2 : (BitVec.ofInt 64 (b : Int)).toNat = b := by
    rw [BitVec.ofInt_natCast, BitVec.toNat_ofNat]; exact Nat.mod_eq_of_lt (by omega)
  show IntKind.i64.wrap ((BitVec.ofInt 64 (a : Int) &&& BitVec.ofInt 64 (b : Int)).toNat : Int) = _
  rw [BitVec.toNat_and, h1, h2, IntKind.wrap_i64]
  omega
theorem and_bit (x s : Nat) (hx : x ≤ 9223372036854775807) : bits BinOp.and IntKind.i64 ((x : Int) / 2 ^ s) 1 = ((x / 2 ^ s % 2 : Nat) : Int) := by
  have e : (x : Int) / 2 ^ s = ((x / 2 ^ s : Nat) : Int) := by simp
  have h := and_i64_natW (x / 2 ^ s) 1 (Nat.le_trans (Nat.div_le_self _ _) hx) (by omega)
  rw [e]
  have e2 : (x / 2 ^ s) &&& 1 = x / 2 ^ s % 2 := Nat.and_one_is_mod _
  rw [e2] at h
  exact h
theorem wrap_add (o s : Nat) (h : o + 2 ^ s < LB) : wrap64 ((o : Int) + wrap64 (2 ^ s)) = ((o + 2 ^ s : Nat) : Int) := by
  unfold LB at h
  have e : (2 : Int) ^ s = ((2 ^ s : Nat) : Int) := by simp
  rw [e]
  generalize 2 ^ s = z at *
  unfold wrap64
  omega
set_option maxHeartbeats 4000000 in
theorem div2_any (xs ys : List Nat) (v u : Value) (w : World) (hv : Row w v (toI xs)) (hu : Row w u (toI ys)) (ha : Lim xs) (hb : Nrm ys) (hl2 : 2 ≤ ys.length) (la : xs.length ≤ 1048576) (lb : ys.length ≤ 1048000) :
    Calls Tryz.prog 64 #[v, u] w fun e w' => ∃ v1 v2, e = .returned (.tuple #[v1, v2]) ∧ Old w w' ∧ Own w' w.heap.size v1 (toI (dig (val xs / val ys))) ∧ Own w' w.heap.size v2 (toI (dig (val xs % val ys))) := by
  obtain ⟨i0, hi, hz0, hz1, hz2⟩ := info_parts Tryz.infoInt
  have HV : Hid (Row w v (toI xs)) := hv
  have HU : Hid (Row w u (toI ys)) := hu
  obtain ⟨a0, cap0, rfl⟩ := hv.sliceN
  obtain ⟨a1, cap1, rfl⟩ := hu.sliceN
  clear hv hu
  have hD0 : 0 < val ys := by
    rcases Nat.eq_zero_or_pos (val ys) with h | h
    · have := val_zero_of hb h
      rw [this] at hl2
      simp at hl2
    · exact h
  have HLR : Hid (∀ R, R < 2 * val ys → (dig R).length ≤ ys.length + 1) := fun R hR => by
    refine dig_len_le ?_
    have h1 := val_lt hb.1
    rw [Nat.pow_succ]
    have h2 : LB ^ ys.length * 2 ≤ LB ^ ys.length * LB := Nat.mul_le_mul (Nat.le_refl _) (by decide)
    omega
  obtain ⟨n, hn⟩ : ∃ n, n = xs.length := ⟨_, rfl⟩
  have HN : Hid (n = xs.length) := hn
  rw [← hn]
  have hn' : n ≤ 1048576 := by omega
  have dl : ((ys.length : Int) == 1) = false := by simp; omega
  clear hn
  go_enter Tryz.func64, Tryz.ntmps64
  go_wp2_with (at_make; refine wpList_make_full _ rfl _ _ 59 rfl w.heap.size 3 i0 (.int .i64 0) 1 Tryz.underlying59 hi hz0 hz1 .i64 .i64 _ _ n rfl rfl rfl rfl (by rw [hz2]; omega) (by unfold maxLen; omega) (Nat.le_refl _) ?_; intro w1 hown hgrow)
  rw [made_nats] at hown
  have HO : Hid (OwnAt w1 w.heap.size w.heap.size n (List.replicate n 0)) := hown
  have HG : Hid (Old w w1) := Below.grown (Below.refl _ _) hgrow (Nat.le_refl _) (fun _ h => by cases h)
  clear hown hgrow
  go_loopw [10, 11] (fun r i W => ∃ (k R : Nat) (out : List Nat), k ≤ n ∧ i = .int .i64 ((k : Int) - 1) ∧ Hid (R < val ys) ∧ Hid (DivI xs (val ys) k out R) ∧ Hid (OwnAt W w.heap.size w.heap.size n out) ∧ Hid (Own W (w.heap.size + 1) r (toI (dig R))) ∧ Hid (Old w W)) (fun _ i _ => (intOf i + 1).toNat)
  case atStart => exact ⟨n, 0, List.replicate n 0, Nat.le_refl _, rfl, hD0, (by rw [HN.out]; exact DivI.start xs (val ys)), HO, (by rw [dig_zero]; exact World.ownsRow_nil _ _ _ _), HG⟩
  case round =>
    obtain ⟨k, R, out, hk, rfl, HR, HI, HO1, HR1, HG1⟩ := hrel
    clear HO HG
    rcases Nat.eq_zero_or_pos k with hk0 | hk0
    · subst hk0
      have HL : Hid (Lim out ∧ out.length = n) := ⟨HI.out.lim, by have := HI.out.len; rw [this]; exact HN.out.symm⟩
      have HE : Hid (trim out = dig (val xs / val ys) ∧ R = val xs % val ys) := HI.out.done
      clear HI
      go_wp2_with fail
      refine (trim_any out _ w.heap.size _ (HO1.out.own HL.out.2) HL.out.1 (by have := HL.out.2; omega)).mono ?_
      rintro e w1 ⟨v', rfl, g1, o1⟩
      have HG2 : Hid (Old w w1) := Old.trans HG1.out g1
      have HO2 : Hid (Own w1 w.heap.size v' (toI (trim out))) := o1
      have HR2 : Hid (Own w1 w.heap.size u10 (toI (dig R))) := (HR1.out.old g1).low (by omega)
      clear g1 o1
      go_wp2_with fail
      go_ret2
      exact ⟨_, _, rfl, HG2.out, by rw [← HE.out.1]; exact HO2.out, by rw [← HE.out.2]; exact HR2.out⟩
    · obtain ⟨j, rfl⟩ : ∃ j, k = j + 1 := ⟨k - 1, by omega⟩
      obtain ⟨qs0, eout, HB0⟩ := BitI.start HI.out ha
      subst eout
      have HB : Hid (BitI xs (val ys) j 28 qs0 0 R) := HB0
      have em : ((j + 1 : Nat) : Int) - 1 = (j : Int) := by omega
      rw [em]
      clear HB0 HI em
      go_wp2_with fail
      go_loopw [10, 12] (fun r t W => ∃ (t' R' o : Nat) (qs : List Nat), t' ≤ 28 ∧ t = .int .i64 ((t' : Int) - 1) ∧ Hid (R' < val ys) ∧ Hid (BitI xs (val ys) j t' qs o R') ∧ Hid (OwnAt W w.heap.size w.heap.size n (List.replicate j 0 ++ o :: qs)) ∧ Hid (Own W (w.heap.size + 1) r (toI (dig R'))) ∧ Hid (Old w W)) (fun _ t _ => (intOf t + 1).toNat)
      case atStart => exact ⟨28, R, 0, qs0, by omega, by go_num, HR, HB, HO1, HR1, HG1⟩
      case round =>
        obtain ⟨t, R', o, qs, ht, rfl, HR', HB', HO2, HR2, HG2⟩ := hrel
        clear HO1 HR1 HG1 HB HR
        rcases Nat.eq_zero_or_pos t with ht0 | ht0
        · subst ht0
          have HI2 : Hid (DivI xs (val ys) j (List.replicate j 0 ++ o :: qs) R') := HB'.out.done hD0 ha
          clear HB'
          go_wp2_with fail
          exact ⟨⟨j, R', _, by omega, by go_num, HR', HI2, HO2, HR2, HG2⟩, by simp [intOf]⟩
        · obtain ⟨s, rfl⟩ : ∃ s, t = s + 1 := ⟨t - 1, by omega⟩
          obtain ⟨b, of, rfl, hb1, hc1⟩ := Row.at (HV.out.old HG2.out) (by have := HN.out; omega)
          have c1 := hc1 j (by have := HN.out; omega)
          clear hc1
          have em : ((s + 1 : Nat) : Int) - 1 = (s : Int) := by omega
          rw [em]
          clear em
          have hxj := ha.getD j
          have hbit : xs.getD j 0 / 2 ^ s % 2 ≤ 1 := by omega
          have eb : bits BinOp.and IntKind.i64 ((xs.getD j 0 : Nat) / 2 ^ s) 1 = ((xs.getD j 0 / 2 ^ s % 2 : Nat) : Int) := and_bit _ _ (by unfold LB at hxj; omega)
          have HB1 : Hid (2 * R' + xs.getD j 0 / 2 ^ s % 2 < val ys → BitI xs (val ys) j s qs o (2 * R' + xs.getD j 0 / 2 ^ s % 2)) := HB'.out.no hD0 (by omega)
          have HB2 : Hid (¬ 2 * R' + xs.getD j 0 / 2 ^ s % 2 < val ys → BitI xs (val ys) j s qs (o + 2 ^ s) (2 * R' + xs.getD j 0 / 2 ^ s % 2 - val ys)) := HB'.out.yes hD0 (by omega)
          have hqs : j + 1 + qs.length = n := by have := HB'.out.len; rw [this]; exact HN.out.symm
          clear HB'
          generalize xs.getD j 0 = x at *
          generalize hbd : x / 2 ^ s % 2 = bit at *
          have hN2 : Hid (2 * R' + bit < 2 * val ys) := by have := HR'.out; show 2 * R' + bit < 2 * val ys; omega
          clear hbd
          go_wp2_with fail
          refine (shift_any (dig R') bit _ _ (Own.row HR2.out) (dig_nrm _) (by have := HLR.out R' (by have := HR'.out; omega); omega) hbit).mono ?_
          rw [val_dig]
          rintro e w2 ⟨v2, rfl, g2, o2⟩
          have HG3 : Hid (Old w w2) := Old.trans HG2.out g2
          have HO3 : Hid (OwnAt w2 w.heap.size w.heap.size n (List.replicate j 0 ++ o :: qs)) := by
            have := Own.old (HO2.out.own (by simp; omega)) g2
            unfold Own at this
            rw [toI_len] at this
            have e : (List.replicate j 0 ++ o :: qs).length = n := by simp; omega
            rw [e] at this
            exact this
          have hsz : w.heap.size + 1 ≤ wr.heap.size := by
            have := HO2.out.lt w.heap.size rfl
            omega
          have HR3 : Hid (Own w2 (w.heap.size + 1) v2 (toI (dig (2 * R' + bit)))) := Own.low o2 hsz
          clear g2 o2 HG2 HO2 HR2
          go_wp2_with fail
          refine (cmp_any (dig (2 * R' + bit)) ys _ _ _ (Own.row HR3.out) (HU.out.old HG3.out) (dig_nrm _) hb (by have := HLR.out _ hN2.out; omega) (by omega)).mono ?_
          rw [val_dig]
          rintro e w3 ⟨rfl, g3⟩
          have HG4 : Hid (Old w w3) := Old.trans HG3.out g3
          have HO4 : Hid (OwnAt w3 w.heap.size w.heap.size n (List.replicate j 0 ++ o :: qs)) := by
            have := Own.old (HO3.out.own (by simp; omega)) g3
            unfold Own at this
            rw [toI_len] at this
            have e : (List.replicate j 0 ++ o :: qs).length = n := by simp; omega
            rw [e] at this
            exact this
          have HR4 : Hid (Own w3 (w.heap.size + 1) v2 (toI (dig (2 * R' + bit)))) := HR3.out.old g3
          have hsz3 : w.heap.size + 1 ≤ w3.heap.size := by have := HO4.out.lt w.heap.size rfl; omega
          clear g3 HG3 HO3 HR3
          by_cases hcmp : 2 * R' + bit < val ys
          · have HB3 : Hid (BitI xs (val ys) j s qs o (2 * R' + bit)) := HB1.out hcmp
            have HC : Hid (2 * R' + bit < val ys) := hcmp
            have ecv : cmpN (2 * R' + bit) (val ys) = -1 := by unfold cmpN; rw [if_pos hcmp]
            rw [ecv]
            clear HB1 HB2 hcmp ecv
            go_wp2_with fail
            exact ⟨⟨s, 2 * R' + bit, o, qs, by omega, by go_num, HC, HB3, HO4, HR4, HG4⟩, by simp [intOf]⟩
          · have HB3 : Hid (BitI xs (val ys) j s qs (o + 2 ^ s) (2 * R' + bit - val ys)) := HB2.out hcmp
            have HC : Hid (2 * R' + bit - val ys < val ys) := by have := hN2.out; show 2 * R' + bit - val ys < val ys; omega
            have HLE : Hid (val ys ≤ val (dig (2 * R' + bit))) := by rw [val_dig]; show val ys ≤ 2 * R' + bit; omega
            have hcv : 0 ≤ cmpN (2 * R' + bit) (val ys) := by unfold cmpN; rw [if_neg hcmp]; split <;> omega
            generalize cmpN (2 * R' + bit) (val ys) = cv at *
            have d1 : decide (0 ≤ cv) = true := by simp; omega
            clear HB1 HB2 hcmp hcv
            go_wp2_with fail
            refine (sub_any (dig (2 * R' + bit)) ys _ _ _ (Own.row HR4.out) (HU.out.old HG4.out) (dig_nrm _) hb (by have := HLR.out _ hN2.out; omega) (by omega) HLE.out).mono ?_
            rw [val_dig]
            rintro e w4 ⟨v4, rfl, g4, o4⟩
            have HG5 : Hid (Old w w4) := Old.trans HG4.out g4
            have HO5 : Hid (OwnAt w4 w.heap.size w.heap.size n (List.replicate j 0 ++ o :: qs)) := by
              have := Own.old (HO4.out.own (by simp; omega)) g4
              unfold Own at this
              rw [toI_len] at this
              have e : (List.replicate j 0 ++ o :: qs).length = n := by simp; omega
              rw [e] at this
              exact this
            have HR5 : Hid (Own w4 (w.heap.size + 1) v4 (toI (dig (2 * R' + bit - val ys)))) := Own.low o4 hsz3
            have c3 := HO5.out.get (by simp; omega) j (by omega)
            have c4 := HO5.out.free j
            rw [get_mid] at c3
            clear g4 o4 HG4 HO4 HR4
            have hlt := HB3.out.lt hD0 (by omega) ha
            have HW : Hid (wrap64 ((o : Int) + wrap64 (2 ^ s)) = ((o + 2 ^ s : Nat) : Int)) := wrap_add o s hlt
            have HP : Hid (OwnAt (w4.setCell ⟨w.heap.size, j, none⟩ (.int .i64 ((o + 2 ^ s : Nat) : Int))) w.heap.size w.heap.size n (List.replicate j 0 ++ (o + 2 ^ s) :: qs)) := by
              have := HO5.out.put j (o + 2 ^ s)
              rw [set_mid] at this
              exact this
            have HP2 : Hid (Own (w4.setCell ⟨w.heap.size, j, none⟩ (.int .i64 ((o + 2 ^ s : Nat) : Int))) (w.heap.size + 1) v4 (toI (dig (2 * R' + bit - val ys)))) := by
              refine ownsRow_setCell_other HR5.out (fun e => ?_) _
              have := (HR5.out.lt w.heap.size e).1
              omega
            clear hlt
            go_wp2_with fail
            rw [HW.out]
            exact ⟨⟨s, 2 * R' + bit - val ys, o + 2 ^ s, qs, by omega, by go_num, HC, HB3, HP, HP2, HG5.out.own (Nat.le_refl _) _⟩, by simp [intOf]⟩
end Go.Proofs.YtfcdfielbpdloaaGreatDoor
/- Proved: the contract of the program's GoodWhole: it answers as the model's does, at every whole number that comes in. -/
namespace Go.Proofs.YtfcdfielbpdloaaGreatDoor
open Go.ChangeShapes Go.WideShapes Go.ChangeAt Go.RowKit
open M2
set_option linter.unusedVariables false
set_option linter.unusedSimpArgs false
set_option maxHeartbeats 2000000 in
theorem good_impl (n : Bool) (xs : List Int) (v : Value) (w : World) (hv : Row w v xs) (hl : xs.length ≤ 1048576) :
    Calls Tryz.prog 30 #[.agg #[.bool n, v]] w fun e w' => e = .returned (.bool (decide (Good n xs))) ∧ Old w w' := by
  have HV : Hid (Row w v xs) := hv
  obtain ⟨a0, cap0, rfl⟩ := hv.slice
  clear hv
  obtain ⟨B, hB⟩ : ∃ B, decide (Good n xs) = B := ⟨_, rfl⟩
  rw [hB]
  have HB : Hid (decide (Good n xs) = B) := hB
  clear hB
  rcases Nat.eq_zero_or_pos xs.length with hx0 | hx0
  · obtain rfl := List.length_eq_zero_iff.1 hx0
    have HT : Hid (B = !n) := by
      rw [← HB.out]
      cases n with
      | false => exact decide_eq_true ⟨by simp, by simp, fun j hj => by simp at hj⟩
      | true => exact decide_eq_false (fun h => h.2.1 ⟨rfl, rfl⟩)
    clear hx0
    go_enter Tryz.func30, Tryz.ntmps30
    go_wp2_with fail
    go_ret
    exact ⟨congrArg (fun z => Ending.returned (.bool z)) HT.out.symm, (Old.refl w).alloc _⟩
  · have dx0 : ((xs.length : Int) == 0) = false := by simp; intro h; rw [h] at hx0; simp at hx0
    by_cases h40 : xs.length ≤ 40
    · have d40 : decide ((40 : Int) < (xs.length : Int)) = false := dlt_no (by omega)
      obtain ⟨b, o, rfl, hb, hc⟩ : ∃ b o, a0 = some ⟨b, o, none⟩ ∧ b < w.heap.size ∧ ∀ j, j < xs.length → w.cell? ⟨b, o + j, none⟩ = some (.int .i64 (xs.getD j 0)) := by
        rcases HV.out with ⟨a', cap', e, e2⟩ | ⟨b, o, cap', e, hb, _, hc⟩
        · rw [e2] at hx0; simp at hx0
        · simp only [Value.slice.injEq] at e
          obtain ⟨rfl, _, _⟩ := e
          exact ⟨b, o, rfl, hb, hc⟩
      have HC2 : Hid (∀ j, j < xs.length → w.cell? ⟨b, o + j, none⟩ = some (.int .i64 (xs.getD j 0))) := hc
      clear hc HV
      obtain ⟨m, hm⟩ : ∃ m, xs.length = m + 1 := ⟨xs.length - 1, by omega⟩
      have HM : Hid (xs.length = m + 1) := hm
      have hm' : (xs.length : Int) - 1 = (m : Int) := by omega
      have hmt : ((xs.length : Int) - 1).toNat = m := by omega
      have i1 : (0 : Int) ≤ (xs.length : Int) - 1 := by omega
      have i2 : (xs.length : Int) - 1 < (xs.length : Int) := by omega
      have c0 : w.cell? ⟨b, o + m, none⟩ = some (.int .i64 (xs.getD m 0)) := HC2.out m (by omega)
      clear hm
      by_cases hz : xs.getD m 0 = 0
      · have HT : Hid (B = false) := by
          rw [← HB.out]
          exact decide_eq_false (fun h => (h.2.2 m (by have := HM.out; omega)).2 ⟨hz, HM.out.symm⟩)
        have dz : (xs.getD m 0 == 0) = true := by rw [hz]; rfl
        generalize xs.getD m 0 = x at *
        clear hz
        go_enter Tryz.func30, Tryz.ntmps30
        go_wp2_with fail
        go_ret
        exact ⟨congrArg (fun z => Ending.returned (.bool z)) HT.out.symm, (Old.refl w).alloc _⟩
      · have dz : (xs.getD m 0 == 0) = false := beq_eq_false_iff_ne.2 hz
        have HG0 : Hid (Good n xs ↔ ∀ j, j < xs.length → 0 ≤ xs.getD j 0 ∧ xs.getD j 0 ≤ 268435455) := by
          refine ⟨fun h j hj => (h.2.2 j hj).1, fun h => ⟨h40, fun h => by omega, fun j hj => ⟨h j hj, fun h2 => hz ?_⟩⟩⟩
          rw [show m = j by have := HM.out; omega]; exact h2.1
        generalize xs.getD m 0 = x at *
        clear hz
        go_enter Tryz.func30, Tryz.ntmps30
        go_wp2_with fail
        clear c0 dz i1 i2 hmt hm'
        go_loopw [28] (fun i W => ∃ k : Nat, k ≤ xs.length ∧ i = .int .i64 k ∧ Hid (∀ j, j < k → 0 ≤ xs.getD j 0 ∧ xs.getD j 0 ≤ 268435455) ∧ W = w.alloc (.cells #[.bool n, .slice (some ⟨b, o, none⟩) xs.length cap0] 27)) (fun i _ => xs.length - (intOf i).toNat)
        case atStart => exact ⟨0, by omega, rfl, fun j hj => absurd hj (by omega), rfl⟩
        case round =>
          obtain ⟨k, hk, rfl, HF, rfl⟩ := hrel
          by_cases hlt : k < xs.length
          · have c1 : (w.alloc (.cells #[.bool n, .slice (some ⟨b, o, none⟩) xs.length cap0] 27)).cell? ⟨b, o + k, none⟩ = some (.int .i64 (xs.getD k 0)) := (cell_lt _ _ _ _ hb).trans (HC2.out k hlt)
            by_cases hok : 0 ≤ xs.getD k 0 ∧ xs.getD k 0 ≤ 268435455
            · have HF2 : Hid (∀ j, j < k + 1 → 0 ≤ xs.getD j 0 ∧ xs.getD j 0 ≤ 268435455) := fun j hj => by
                by_cases hjk : j = k
                · rw [hjk]; exact hok
                · exact HF.out j (by omega)
              have d1 : decide (xs.getD k 0 < 0) = false := decide_eq_false (by omega)
              have d2 : decide ((268435456 : Int) ≤ xs.getD k 0) = false := decide_eq_false (by omega)
              generalize xs.getD k 0 = y at *
              clear hok
              go_wp2_with fail
              exact ⟨⟨k + 1, by omega, by go_num, HF2, by first | rfl | trivial⟩, by simp [intOf]; omega⟩
            · have HT : Hid (B = false) := by rw [← HB.out]; exact decide_eq_false (fun h => hok (HG0.out.1 h k hlt))
              by_cases hn : xs.getD k 0 < 0
              · have d1 : decide (xs.getD k 0 < 0) = true := decide_eq_true hn
                generalize xs.getD k 0 = y at *
                clear hok
                go_wp2_with fail
                go_ret
                exact ⟨congrArg (fun z => Ending.returned (.bool z)) HT.out.symm, (Old.refl w).alloc _⟩
              · have d1 : decide (xs.getD k 0 < 0) = false := decide_eq_false hn
                have d2 : decide ((268435456 : Int) ≤ xs.getD k 0) = true := decide_eq_true (by omega)
                generalize xs.getD k 0 = y at *
                clear hok
                go_wp2_with fail
                go_ret
                exact ⟨congrArg (fun z => Ending.returned (.bool z)) HT.out.symm, (Old.refl w).alloc _⟩
          · have HT : Hid (B = true) := by rw [← HB.out]; exact decide_eq_true (HG0.out.2 (fun j hj => HF.out j (by omega)))
            go_wp2_with fail
            go_ret
            exact ⟨congrArg (fun z => Ending.returned (.bool z)) HT.out.symm, (Old.refl w).alloc _⟩
    · have HT : Hid (B = false) := by rw [← HB.out]; exact decide_eq_false (fun h => h40 h.1)
      have d40 : decide ((40 : Int) < (xs.length : Int)) = true := dlt_yes (by omega)
      go_enter Tryz.func30, Tryz.ntmps30
      go_wp2_with fail
      go_ret
      exact ⟨congrArg (fun z => Ending.returned (.bool z)) HT.out.symm, (Old.refl w).alloc _⟩
end Go.Proofs.YtfcdfielbpdloaaGreatDoor
/- Proved: laws.sameInts says yes of equal lists. -/
namespace Go.Proofs.YtfcdfielbpdloaaGreatDoor
open Go.ChangeShapes Go.WideShapes Go.ChangeAt Go.RowKit
set_option linter.unusedVariables false
set_option linter.unusedSimpArgs false
set_option maxRecDepth 100000 in
set_option maxHeartbeats 4000000 in
theorem same_yes (xs : List Int) (v u : Value) (w : World) (hv : Row w v xs) (hu : Row w u xs) (hl : xs.length ≤ 1048576) :
    Calls Tryz.prog 10 #[v, u] w fun e w' => e = .returned (.bool true) ∧ Old w w' := by
  obtain ⟨a0, c0, rfl⟩ := hv.slice
  obtain ⟨a1, c1, rfl⟩ := hu.slice
  have HV : Hid (∀ j, j < xs.length → ∃ b o, a0 = some ⟨b, o, none⟩ ∧ b < w.heap.size ∧ w.cell? ⟨b, o + j, none⟩ = some (.int .i64 (xs.getD j 0))) := fun j hj => by
    rcases hv with ⟨a, c, e, e2⟩ | ⟨b, o, cap, e, hb, h3, hc⟩
    · rw [e2] at hj; simp at hj
    · simp only [Value.slice.injEq] at e
      exact ⟨b, o, e.1, hb, hc j hj⟩
  have HU : Hid (∀ j, j < xs.length → ∃ b o, a1 = some ⟨b, o, none⟩ ∧ b < w.heap.size ∧ w.cell? ⟨b, o + j, none⟩ = some (.int .i64 (xs.getD j 0))) := fun j hj => by
    rcases hu with ⟨a, c, e, e2⟩ | ⟨b, o, cap, e, hb, h3, hc⟩
    · rw [e2] at hj; simp at hj
    · simp only [Value.slice.injEq] at e
      exact ⟨b, o, e.1, hb, hc j hj⟩
  clear hv hu
  go_enter Tryz.func10, Tryz.ntmps10
  go_wp2_with fail
  go_loopw [13, 5] (fun i _ W => ∃ k : Nat, k ≤ xs.length ∧ i = .int .i64 k ∧ Hid (Old w W)) (fun i _ _ => xs.length - (intOf i).toNat)
  case atStart => exact ⟨0, by omega, rfl, Old.refl _⟩
  case round =>
    obtain ⟨k, hk, rfl, HG⟩ := hrel
    by_cases hlt : k < xs.length
    · have d1 : decide ((k : Int) < (xs.length : Int)) = true := by simp; omega
      obtain ⟨b, o, rfl, hb, hc⟩ := HV.out k hlt
      obtain ⟨b', o', rfl, hb', hc'⟩ := HU.out k hlt
      have q1 := (HG.out.cell (p := ⟨b, o + k, none⟩) hb).trans hc
      have q2 := (HG.out.cell (p := ⟨b', o' + k, none⟩) hb').trans hc'
      have ilt : (k : Int) < (xs.length : Int) := by omega
      generalize xs.getD k 0 = y at *
      clear hc hc'
      go_wp2_with fail
      go_quiet (fail)
      go_wp2_with fail
      exact ⟨⟨k + 1, by omega, by go_num, HG.out.drewN _⟩, by simp [intOf]; omega⟩
    · have d1 : decide ((k : Int) < (xs.length : Int)) = false := by simp; omega
      go_wp2_with fail
      go_ret
      exact ⟨rfl, HG.out⟩
end Go.Proofs.YtfcdfielbpdloaaGreatDoor
