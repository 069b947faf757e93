/- Proved: the contract of the model's product of limbs. -/
import Derived.Test.YtplaaglckbfklaaDoorLimbsD
namespace Go.Proofs.YtplaaglckbfklaaDoor
open Go.ChangeShapes Go.WideShapes Go.ChangeAt Go.RowKit
open M2
set_option linter.unusedVariables false
set_option linter.unusedSimpArgs false
/-- a row of n numbers of the call's own, at its head -/
abbrev OwnAt (w : World) (base g n : Nat) (xs : List Nat) : Prop := w.ownsRow base 3 1 (.slice (some ⟨g, 0, none⟩) n n) n ((toI xs).map (Value.int .i64))
theorem OwnAt.get {w : World} {base g n : Nat} {xs : List Nat} (h : OwnAt w base g n xs) (hn : xs.length = n) (j : Nat) (hj : j < n) : w.cell? ⟨g, j, none⟩ = some (.int .i64 ((xs.getD j 0 : Nat) : Int)) := by
  rw [World.ownsRow.cellAt h j (by omega), ← toI_get]
  have : j < (toI xs).length := by rw [toI_len]; omega
  simp [List.getD, this]
theorem OwnAt.free {w : World} {base g n : Nat} {xs : List Nat} (h : OwnAt w base g n xs) (j : Nat) : w.frozen? ⟨g, j, none⟩ = false := World.ownsRow.frozenAt h j
theorem OwnAt.put {w : World} {base g n : Nat} {xs : List Nat} (h : OwnAt w base g n xs) (j y : Nat) : OwnAt (w.setCell ⟨g, j, none⟩ (.int .i64 (y : Int))) base g n (xs.set j y) := by
  have := (World.ownsRow.stored h j (.int .i64 (y : Int))).1
  unfold OwnAt
  have e : toI (xs.set j y) = (toI xs).set j (y : Int) := by simp [toI, List.map_set]
  rw [e, List.map_set]
  exact this
theorem OwnAt.own {w : World} {base g n : Nat} {xs : List Nat} (h : OwnAt w base g n xs) (hn : xs.length = n) : Own w base (.slice (some ⟨g, 0, none⟩) n n) (toI xs) := by
  unfold Own
  rw [toI_len, hn]
  exact h
theorem made_nats (n : Nat) : (madeCells (Value.int .i64 0).cells (n * 1)).toList = (toI (List.replicate n 0)).map (Value.int .i64) := by
  rw [made_ints]
  simp [toI]
set_option maxHeartbeats 4000000 in
theorem mul_any (xs ys : List Nat) (v u : Value) (w : World) (hv : Row w v (toI xs)) (hu : Row w u (toI ys)) (ha : Lim xs) (hb : Lim ys) (la : xs.length ≤ 1048576) (lb : ys.length ≤ 1048576) :
    Calls Tryd.prog 172 #[v, u] w fun e w' => ∃ v', e = .returned v' ∧ Old w w' ∧ Own w' w.heap.size v' (toI (dig (val xs * val ys))) := by
  obtain ⟨i0, hi, hz0, hz1, hz2⟩ := info_parts Tryd.infoInt
  have HV : Hid (Row w v (toI xs)) := hv
  have HU : Hid (Row w u (toI ys)) := hu
  obtain ⟨a0, cap0, rfl⟩ := hv.sliceN
  obtain ⟨a1, cap1, rfl⟩ := hu.sliceN
  clear hv hu
  obtain ⟨n, hn⟩ : ∃ n, n = xs.length + ys.length := ⟨_, rfl⟩
  have en : (xs.length : Int) + (ys.length : Int) = (n : Int) := by omega
  have HN : Hid (n = xs.length + ys.length) := hn
  have hn' : n ≤ 2097152 := by omega
  have HT : Hid (∀ i, val (xs.take i) * val ys < LB ^ n) := fun i => by
    have h1 := val_lt (ha.take i)
    have h2 := val_lt hb
    have h3 : LB ^ (xs.take i).length ≤ LB ^ xs.length := Nat.pow_le_pow_right LB_pos (by rw [List.length_take]; omega)
    have h4 : val (xs.take i) * val ys < LB ^ xs.length * LB ^ ys.length := Nat.mul_lt_mul'' (by omega) h2
    rw [hn, Nat.pow_add]
    exact h4
  clear hn
  go_enter Tryd.func172, Tryd.ntmps172
  go_wp2_with (at_make; refine wpList_make_full _ rfl _ _ 88 rfl w.heap.size 3 i0 (.int .i64 0) 1 Tryd.underlying88 hi hz0 hz1 .i64 .i64 _ _ n rfl rfl rfl rfl (by rw [hz2]; omega) (by unfold maxLen; omega) (Nat.le_refl _) ?_; intro w1 hown hgrow)
  rw [made_nats] at hown
  have HO : Hid (OwnAt w1 w.heap.size w.heap.size n (List.replicate n 0)) := hown
  have HG : Hid (Old w w1) := Below.grown (Below.refl _ _) hgrow (Nat.le_refl _) (fun _ h => by cases h)
  clear hown hgrow
  go_loopw [20] (fun i W => ∃ (k : Nat) (out : List Nat), k ≤ xs.length ∧ i = .int .i64 k ∧ Hid (MulI n 0 (val (xs.take k) * val ys) out 0) ∧ Hid (OwnAt W w.heap.size w.heap.size n out) ∧ Hid (Old w W)) (fun i _ => xs.length - (intOf i).toNat)
  case atStart => exact ⟨0, List.replicate n 0, by omega, rfl, (by exact ⟨lim_zeros n, by simp, by rw [val_zeros]; simp [val], LB_pos⟩), HO, HG⟩
  case round =>
    obtain ⟨k, out, hk, rfl, HI, HO1, HG1⟩ := hrel
    clear HO HG
    by_cases h1 : k < xs.length
    · obtain ⟨b, o, rfl, hb1, hc1⟩ := Row.at (HV.out.old HG1.out) (by omega)
      have c1 := hc1 k h1
      clear hc1
      have hx := ha.getD k
      have HX : Hid (val (xs.take (k + 1)) * val ys = val (xs.take k) * val ys + LB ^ k * xs.getD k 0 * val ys) := by rw [val_take_succ, Nat.add_mul]; rfl
      generalize xs.getD k 0 = x at *
      go_wp2_with fail
      go_loopw [8, 27] (fun c j W => ∃ (j' c' : Nat) (out' : List Nat), (j' ≤ ys.length ∧ c' < 268435456) ∧ j = .int .i64 j' ∧ c = .int .i64 c' ∧ Hid (MulI n (k + j') (val (xs.take k) * val ys + LB ^ k * x * val (ys.take j')) out' c') ∧ Hid (OwnAt W w.heap.size w.heap.size n out') ∧ Hid (Old w W)) (fun _ j _ => ys.length - (intOf j).toNat)
      case atStart => exact ⟨0, 0, out, ⟨by omega, by omega⟩, rfl, rfl, (by have := HI.out.zero rfl (k + 0); simp [val] at this ⊢; exact this), HO1, HG1⟩
      case round =>
        obtain ⟨j, c, out', ⟨hj, hc⟩, rfl, rfl, HI2, HO2, HG2⟩ := hrel
        by_cases h2 : j < ys.length
        · obtain ⟨b', o', rfl, hb2, hc2⟩ := Row.at (HU.out.old HG2.out) (by omega)
          have c2 := hc2 j h2
          clear hc2
          have hy := hb.getD j
          have hpn : k + j < n := by have := HN.out; omega
          have hz : x * ys.getD j 0 ≤ (LB - 1) * (LB - 1) := Nat.mul_le_mul (by omega) (by omega)
          have hov := HI2.out.lim.getD (k + j)
          have c3 := HO2.out.get HI2.out.len (k + j) hpn
          have c4 := HO2.out.free (k + j)
          have HS : Hid (MulI n (k + (j + 1)) (val (xs.take k) * val ys + LB ^ k * x * val (ys.take (j + 1))) (out'.set (k + j) ((c + (out'.getD (k + j) 0 + x * ys.getD j 0)) % LB)) ((c + (out'.getD (k + j) 0 + x * ys.getD j 0)) / LB)) := by
            have := HI2.out.step (x * ys.getD j 0) hz hpn
            have e := mul_row_step xs ys x k j
            rw [e] at this
            exact this
          generalize out'.getD (k + j) 0 = ov at *
          generalize ys.getD j 0 = y at *
          have ez : (x : Int) * (y : Int) = ((x * y : Nat) : Int) := by simp
          have hz' : x * y ≤ 72057593501057025 := hz
          generalize x * y = z at *
          have HP : Hid (∀ y', OwnAt (wr.setCell ⟨w.heap.size, k + j, none⟩ (.int .i64 ((y' : Nat) : Int))) w.heap.size w.heap.size n (out'.set (k + j) y')) := fun y' => HO2.out.put (k + j) y'
          have ep : (k : Int) + (j : Int) = ((k + j : Nat) : Int) := by omega
          generalize hp : k + j = p at *
          generalize hR : (c + (ov + z)) % LB = R at *
          generalize hQ : (c + (ov + z)) / LB = Q at *
          have hQ1 := HS.out.c1
          unfold LB at hR hQ hov hQ1
          have e3 : ((c : Int) + ((ov : Int) + (z : Int))) % 268435456 = (R : Int) := by omega
          have e4 : ((c : Int) + ((ov : Int) + (z : Int))) / 268435456 = (Q : Int) := by omega
          clear hR hQ hz hz' hp
          go_wp2_with fail
          exact ⟨⟨j + 1, Q, out'.set p R, ⟨by omega, hQ1⟩, by go_num, by rw [e4], HS, HP.out R, HG2.out.own (Nat.le_refl _) _⟩, by simp [intOf]; omega⟩
        · obtain rfl : j = ys.length := by omega
          have HI3 : Hid (MulI n (k + ys.length) (val (xs.take (k + 1)) * val ys) out' c) := by
            have := HI2.out
            rw [List.take_length, ← HX.out] at this
            exact this
          have ep : (k : Int) + (ys.length : Int) = ((k + ys.length : Nat) : Int) := by omega
          have hpn : k + ys.length ≤ n := by have := HN.out; omega
          clear HI2 HI HO1 HG1
          generalize k + ys.length = p0 at *
          go_wp2_with fail
          go_loopw [8, 11] (fun c j W => ∃ (p c' : Nat) (out' : List Nat), (p ≤ n ∧ c' < 268435456) ∧ j = .int .i64 p ∧ c = .int .i64 c' ∧ Hid (MulI n p (val (xs.take (k + 1)) * val ys) out' c') ∧ Hid (OwnAt W w.heap.size w.heap.size n out') ∧ Hid (Old w W)) (fun _ j _ => n - (intOf j).toNat)
          case atStart => exact ⟨p0, c, out', ⟨hpn, hc⟩, by go_num, rfl, HI3, HO2, HG2⟩
          case round =>
            obtain ⟨p, c', out2, ⟨hp, hc'⟩, rfl, rfl, HI4, HO4, HG4⟩ := hrel
            clear HI3 HO2 HG2
            rcases Nat.eq_zero_or_pos c' with h0 | h0
            · subst h0
              have HI5 : Hid (MulI n 0 (val (xs.take (k + 1)) * val ys) out2 0) := HI4.out.zero rfl 0
              clear HI4
              go_wp2_with fail
              exact ⟨⟨k + 1, out2, by omega, by go_num, HI5, HO4, HG4⟩, by simp [intOf]; omega⟩
            · have hpn2 := HI4.out.carry (HT.out (k + 1)) h0
              have HS : Hid (MulI n (p + 1) (val (xs.take (k + 1)) * val ys) (out2.set p ((c' + out2.getD p 0) % LB)) ((c' + out2.getD p 0) / LB)) := HI4.out.next hpn2
              have hov := HI4.out.lim.getD p
              have c3 := HO4.out.get HI4.out.len p hpn2
              have c4 := HO4.out.free p
              have HP : Hid (∀ y', OwnAt (wr.setCell ⟨w.heap.size, p, none⟩ (.int .i64 ((y' : Nat) : Int))) w.heap.size w.heap.size n (out2.set p y')) := fun y' => HO4.out.put p y'
              generalize out2.getD p 0 = ov at *
              generalize hR : (c' + ov) % LB = R at *
              generalize hQ : (c' + ov) / LB = Q at *
              have hQ1 := HS.out.c1
              unfold LB at hR hQ hov hQ1
              have e3 : ((c' : Int) + (ov : Int)) % 268435456 = (R : Int) := by omega
              have e4 : ((c' : Int) + (ov : Int)) / 268435456 = (Q : Int) := by omega
              have d0 : decide (0 < c') = true := by simp; omega
              clear hR hQ HI4
              go_wp2_with fail
              exact ⟨⟨p + 1, Q, out2.set p R, ⟨by omega, hQ1⟩, by go_num, by rw [e4], HS, HP.out R, HG4.out.own (Nat.le_refl _) _⟩, by simp [intOf]; omega⟩
    · have HE : Hid (trim out = dig (val xs * val ys)) := by
        have := HI.out.eq
        rw [Nat.mul_zero, Nat.add_zero, List.take_of_length_le (by omega)] at this
        unfold trim
        rw [this]
        rfl
      have HL : Hid (Lim out ∧ out.length = n) := ⟨HI.out.lim, HI.out.len⟩
      clear HI
      go_wp2_with fail
      refine (trim_any out _ w.heap.size _ (HO1.out.own HL.out.2) HL.out.1 (by have := HL.out.2; omega)).mono ?_
      rintro e w1 ⟨v', rfl, g1, o1⟩
      have HG2 : Hid (Old w w1) := Old.trans HG1.out g1
      have HO2 : Hid (Own w1 w.heap.size v' (toI (trim out))) := o1
      clear g1 o1
      go_wp2_with fail
      go_ret
      exact ⟨_, rfl, HG2.out, by rw [← HE.out]; exact HO2.out⟩
end Go.Proofs.YtplaaglckbfklaaDoor
