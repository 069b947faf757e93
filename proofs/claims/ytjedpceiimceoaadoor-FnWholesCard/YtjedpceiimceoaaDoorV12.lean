/- Proved: several texts in one: what each proves is said ahead of it. -/
import Derived.Test.YtjedpceiimceoaaDoorV02
import Derived.Test.YtjedpceiimceoaaDoorV07
/- Proved: the contract of the model's division of limbs by limbs, bit by bit. -/
namespace Go.Proofs.YtjedpceiimceoaaDoor
open Go.ChangeShapes Go.WideShapes Go.ChangeAt Go.RowKit
open M2
set_option linter.unusedVariables false
set_option linter.unusedSimpArgs false
theorem and_i64_natW (a b : Nat) (ha : a ≤ 9223372036854775807) (hb : b ≤ 9223372036854775807) : bits .and .i64 (a : Int) (b : Int) = ((a &&& b : Nat) : Int) := by
  have hx : a &&& b < 2 ^ 63 := Nat.and_lt_two_pow _ (by omega)
  have h1 : (BitVec.ofInt 64 (a : Int)).toNat = a := by
    rw [BitVec.ofInt_natCast, BitVec.toNat_ofNat]; exact Nat.mod_eq_of_lt (by omega)
  have h2 : (BitVec.ofInt 64 (b : Int)).toNat = b := by
    rw [BitVec.ofInt_natCast, BitVec.toNat_ofNat]; exact Nat.mod_eq_of_lt (by omega)
  show IntKind.i64.wrap ((BitVec.ofInt 64 (a : Int) &&& BitVec.ofInt 64 (b : Int)).toNat : Int) = _
  rw [BitVec.toNat_and, h1, h2, IntKind.wrap_i64]
  omega
theorem and_bit (x s : Nat) (hx : x ≤ 9223372036854775807) : bits BinOp.and IntKind.i64 ((x : Int) / 2 ^ s) 1 = ((x / 2 ^ s % 2 : Nat) : Int) := by
  have e : (x : Int) / 2 ^ s = ((x / 2 ^ s : Nat) : Int) := by simp
  have h := and_i64_natW (x / 2 ^ s) 1 (Nat.le_trans (Nat.div_le_self _ _) hx) (by omega)
  rw [e]
  have e2 : (x / 2 ^ s) &&& 1 = x / 2 ^ s % 2 := Nat.and_one_is_mod _
  rw [e2] at h
  exact h
theorem wrap_add (o s : Nat) (h : o + 2 ^ s < LB) : wrap64 ((o : Int) + wrap64 (2 ^ s)) = ((o + 2 ^ s : Nat) : Int) := by
  unfold LB at h
  have e : (2 : Int) ^ s = ((2 ^ s : Nat) : Int) := by simp
  rw [e]
  generalize 2 ^ s = z at *
  unfold wrap64
  omega
set_option maxHeartbeats 4000000 in
theorem div2_any (xs ys : List Nat) (v u : Value) (w : World) (hv : Row w v (toI xs)) (hu : Row w u (toI ys)) (ha : Lim xs) (hb : Nrm ys) (hl2 : 2 ≤ ys.length) (la : xs.length ≤ 1048576) (lb : ys.length ≤ 1048000) :
    Calls Tryd.prog 39 #[v, u] w fun e w' => ∃ v1 v2, e = .returned (.tuple #[v1, v2]) ∧ Old w w' ∧ Own w' w.heap.size v1 (toI (dig (val xs / val ys))) ∧ Own w' w.heap.size v2 (toI (dig (val xs % val ys))) := by
  obtain ⟨i0, hi, hz0, hz1, hz2⟩ := info_parts Tryd.infoInt
  have HV : Hid (Row w v (toI xs)) := hv
  have HU : Hid (Row w u (toI ys)) := hu
  obtain ⟨a0, cap0, rfl⟩ := hv.sliceN
  obtain ⟨a1, cap1, rfl⟩ := hu.sliceN
  clear hv hu
  have hD0 : 0 < val ys := by
    rcases Nat.eq_zero_or_pos (val ys) with h | h
    · have := val_zero_of hb h
      rw [this] at hl2
      simp at hl2
    · exact h
  have HLR : Hid (∀ R, R < 2 * val ys → (dig R).length ≤ ys.length + 1) := fun R hR => by
    refine dig_len_le ?_
    have h1 := val_lt hb.1
    rw [Nat.pow_succ]
    have h2 : LB ^ ys.length * 2 ≤ LB ^ ys.length * LB := Nat.mul_le_mul (Nat.le_refl _) (by decide)
    omega
  obtain ⟨n, hn⟩ : ∃ n, n = xs.length := ⟨_, rfl⟩
  have HN : Hid (n = xs.length) := hn
  rw [← hn]
  have hn' : n ≤ 1048576 := by omega
  have dl : ((ys.length : Int) == 1) = false := by simp; omega
  clear hn
  go_enter Tryd.func39, Tryd.ntmps39
  go_wp2_with (at_make; refine wpList_make_full _ rfl _ _ 57 rfl w.heap.size 3 i0 (.int .i64 0) 1 Tryd.underlying57 hi hz0 hz1 .i64 .i64 _ _ n rfl rfl rfl rfl (by rw [hz2]; omega) (by unfold maxLen; omega) (Nat.le_refl _) ?_; intro w1 hown hgrow)
  rw [made_nats] at hown
  have HO : Hid (OwnAt w1 w.heap.size w.heap.size n (List.replicate n 0)) := hown
  have HG : Hid (Old w w1) := Below.grown (Below.refl _ _) hgrow (Nat.le_refl _) (fun _ h => by cases h)
  clear hown hgrow
  go_loopw [10, 11] (fun r i W => ∃ (k R : Nat) (out : List Nat), k ≤ n ∧ i = .int .i64 ((k : Int) - 1) ∧ Hid (R < val ys) ∧ Hid (DivI xs (val ys) k out R) ∧ Hid (OwnAt W w.heap.size w.heap.size n out) ∧ Hid (Own W (w.heap.size + 1) r (toI (dig R))) ∧ Hid (Old w W)) (fun _ i _ => (intOf i + 1).toNat)
  case atStart => exact ⟨n, 0, List.replicate n 0, Nat.le_refl _, rfl, hD0, (by rw [HN.out]; exact DivI.start xs (val ys)), HO, (by rw [dig_zero]; exact World.ownsRow_nil _ _ _ _), HG⟩
  case round =>
    obtain ⟨k, R, out, hk, rfl, HR, HI, HO1, HR1, HG1⟩ := hrel
    clear HO HG
    rcases Nat.eq_zero_or_pos k with hk0 | hk0
    · subst hk0
      have HL : Hid (Lim out ∧ out.length = n) := ⟨HI.out.lim, by have := HI.out.len; rw [this]; exact HN.out.symm⟩
      have HE : Hid (trim out = dig (val xs / val ys) ∧ R = val xs % val ys) := HI.out.done
      clear HI
      go_wp2_with fail
      refine (trim_any out _ w.heap.size _ (HO1.out.own HL.out.2) HL.out.1 (by have := HL.out.2; omega)).mono ?_
      rintro e w1 ⟨v', rfl, g1, o1⟩
      have HG2 : Hid (Old w w1) := Old.trans HG1.out g1
      have HO2 : Hid (Own w1 w.heap.size v' (toI (trim out))) := o1
      have HR2 : Hid (Own w1 w.heap.size u10 (toI (dig R))) := (HR1.out.old g1).low (by omega)
      clear g1 o1
      go_wp2_with fail
      go_ret2
      exact ⟨_, _, rfl, HG2.out, by rw [← HE.out.1]; exact HO2.out, by rw [← HE.out.2]; exact HR2.out⟩
    · obtain ⟨j, rfl⟩ : ∃ j, k = j + 1 := ⟨k - 1, by omega⟩
      obtain ⟨qs0, eout, HB0⟩ := BitI.start HI.out ha
      subst eout
      have HB : Hid (BitI xs (val ys) j 28 qs0 0 R) := HB0
      have em : ((j + 1 : Nat) : Int) - 1 = (j : Int) := by omega
      rw [em]
      clear HB0 HI em
      go_wp2_with fail
      go_loopw [10, 12] (fun r t W => ∃ (t' R' o : Nat) (qs : List Nat), t' ≤ 28 ∧ t = .int .i64 ((t' : Int) - 1) ∧ Hid (R' < val ys) ∧ Hid (BitI xs (val ys) j t' qs o R') ∧ Hid (OwnAt W w.heap.size w.heap.size n (List.replicate j 0 ++ o :: qs)) ∧ Hid (Own W (w.heap.size + 1) r (toI (dig R'))) ∧ Hid (Old w W)) (fun _ t _ => (intOf t + 1).toNat)
      case atStart => exact ⟨28, R, 0, qs0, by omega, by go_num, HR, HB, HO1, HR1, HG1⟩
      case round =>
        obtain ⟨t, R', o, qs, ht, rfl, HR', HB', HO2, HR2, HG2⟩ := hrel
        clear HO1 HR1 HG1 HB HR
        rcases Nat.eq_zero_or_pos t with ht0 | ht0
        · subst ht0
          have HI2 : Hid (DivI xs (val ys) j (List.replicate j 0 ++ o :: qs) R') := HB'.out.done hD0 ha
          clear HB'
          go_wp2_with fail
          exact ⟨⟨j, R', _, by omega, by go_num, HR', HI2, HO2, HR2, HG2⟩, by simp [intOf]⟩
        · obtain ⟨s, rfl⟩ : ∃ s, t = s + 1 := ⟨t - 1, by omega⟩
          obtain ⟨b, of, rfl, hb1, hc1⟩ := Row.at (HV.out.old HG2.out) (by have := HN.out; omega)
          have c1 := hc1 j (by have := HN.out; omega)
          clear hc1
          have em : ((s + 1 : Nat) : Int) - 1 = (s : Int) := by omega
          rw [em]
          clear em
          have hxj := ha.getD j
          have hbit : xs.getD j 0 / 2 ^ s % 2 ≤ 1 := by omega
          have eb : bits BinOp.and IntKind.i64 ((xs.getD j 0 : Nat) / 2 ^ s) 1 = ((xs.getD j 0 / 2 ^ s % 2 : Nat) : Int) := and_bit _ _ (by unfold LB at hxj; omega)
          have HB1 : Hid (2 * R' + xs.getD j 0 / 2 ^ s % 2 < val ys → BitI xs (val ys) j s qs o (2 * R' + xs.getD j 0 / 2 ^ s % 2)) := HB'.out.no hD0 (by omega)
          have HB2 : Hid (¬ 2 * R' + xs.getD j 0 / 2 ^ s % 2 < val ys → BitI xs (val ys) j s qs (o + 2 ^ s) (2 * R' + xs.getD j 0 / 2 ^ s % 2 - val ys)) := HB'.out.yes hD0 (by omega)
          have hqs : j + 1 + qs.length = n := by have := HB'.out.len; rw [this]; exact HN.out.symm
          clear HB'
          generalize xs.getD j 0 = x at *
          generalize hbd : x / 2 ^ s % 2 = bit at *
          have hN2 : Hid (2 * R' + bit < 2 * val ys) := by have := HR'.out; show 2 * R' + bit < 2 * val ys; omega
          clear hbd
          go_wp2_with fail
          refine (shift_any (dig R') bit _ _ (Own.row HR2.out) (dig_nrm _) (by have := HLR.out R' (by have := HR'.out; omega); omega) hbit).mono ?_
          rw [val_dig]
          rintro e w2 ⟨v2, rfl, g2, o2⟩
          have HG3 : Hid (Old w w2) := Old.trans HG2.out g2
          have HO3 : Hid (OwnAt w2 w.heap.size w.heap.size n (List.replicate j 0 ++ o :: qs)) := by
            have := Own.old (HO2.out.own (by simp; omega)) g2
            unfold Own at this
            rw [toI_len] at this
            have e : (List.replicate j 0 ++ o :: qs).length = n := by simp; omega
            rw [e] at this
            exact this
          have hsz : w.heap.size + 1 ≤ wr.heap.size := by
            have := HO2.out.lt w.heap.size rfl
            omega
          have HR3 : Hid (Own w2 (w.heap.size + 1) v2 (toI (dig (2 * R' + bit)))) := Own.low o2 hsz
          clear g2 o2 HG2 HO2 HR2
          go_wp2_with fail
          refine (cmp_any (dig (2 * R' + bit)) ys _ _ _ (Own.row HR3.out) (HU.out.old HG3.out) (dig_nrm _) hb (by have := HLR.out _ hN2.out; omega) (by omega)).mono ?_
          rw [val_dig]
          rintro e w3 ⟨rfl, g3⟩
          have HG4 : Hid (Old w w3) := Old.trans HG3.out g3
          have HO4 : Hid (OwnAt w3 w.heap.size w.heap.size n (List.replicate j 0 ++ o :: qs)) := by
            have := Own.old (HO3.out.own (by simp; omega)) g3
            unfold Own at this
            rw [toI_len] at this
            have e : (List.replicate j 0 ++ o :: qs).length = n := by simp; omega
            rw [e] at this
            exact this
          have HR4 : Hid (Own w3 (w.heap.size + 1) v2 (toI (dig (2 * R' + bit)))) := HR3.out.old g3
          have hsz3 : w.heap.size + 1 ≤ w3.heap.size := by have := HO4.out.lt w.heap.size rfl; omega
          clear g3 HG3 HO3 HR3
          by_cases hcmp : 2 * R' + bit < val ys
          · have HB3 : Hid (BitI xs (val ys) j s qs o (2 * R' + bit)) := HB1.out hcmp
            have HC : Hid (2 * R' + bit < val ys) := hcmp
            have ecv : cmpN (2 * R' + bit) (val ys) = -1 := by unfold cmpN; rw [if_pos hcmp]
            rw [ecv]
            clear HB1 HB2 hcmp ecv
            go_wp2_with fail
            exact ⟨⟨s, 2 * R' + bit, o, qs, by omega, by go_num, HC, HB3, HO4, HR4, HG4⟩, by simp [intOf]⟩
          · have HB3 : Hid (BitI xs (val ys) j s qs (o + 2 ^ s) (2 * R' + bit - val ys)) := HB2.out hcmp
            have HC : Hid (2 * R' + bit - val ys < val ys) := by have := hN2.out; show 2 * R' + bit - val ys < val ys; omega
            have HLE : Hid (val ys ≤ val (dig (2 * R' + bit))) := by rw [val_dig]; show val ys ≤ 2 * R' + bit; omega
            have hcv : 0 ≤ cmpN (2 * R' + bit) (val ys) := by unfold cmpN; rw [if_neg hcmp]; split <;> omega
            generalize cmpN (2 * R' + bit) (val ys) = cv at *
            have d1 : decide (0 ≤ cv) = true := by simp; omega
            clear HB1 HB2 hcmp hcv
            go_wp2_with fail
            refine (sub_any (dig (2 * R' + bit)) ys _ _ _ (Own.row HR4.out) (HU.out.old HG4.out) (dig_nrm _) hb (by have := HLR.out _ hN2.out; omega) (by omega) HLE.out).mono ?_
            rw [val_dig]
            rintro e w4 ⟨v4, rfl, g4, o4⟩
            have HG5 : Hid (Old w w4) := Old.trans HG4.out g4
            have HO5 : Hid (OwnAt w4 w.heap.size w.heap.size n (List.replicate j 0 ++ o :: qs)) := by
              have := Own.old (HO4.out.own (by simp; omega)) g4
              unfold Own at this
              rw [toI_len] at this
              have e : (List.replicate j 0 ++ o :: qs).length = n := by simp; omega
              rw [e] at this
              exact this
            have HR5 : Hid (Own w4 (w.heap.size + 1) v4 (toI (dig (2 * R' + bit - val ys)))) := Own.low o4 hsz3
            have c3 := HO5.out.get (by simp; omega) j (by omega)
            have c4 := HO5.out.free j
            rw [get_mid] at c3
            clear g4 o4 HG4 HO4 HR4
            have hlt := HB3.out.lt hD0 (by omega) ha
            have HW : Hid (wrap64 ((o : Int) + wrap64 (2 ^ s)) = ((o + 2 ^ s : Nat) : Int)) := wrap_add o s hlt
            have HP : Hid (OwnAt (w4.setCell ⟨w.heap.size, j, none⟩ (.int .i64 ((o + 2 ^ s : Nat) : Int))) w.heap.size w.heap.size n (List.replicate j 0 ++ (o + 2 ^ s) :: qs)) := by
              have := HO5.out.put j (o + 2 ^ s)
              rw [set_mid] at this
              exact this
            have HP2 : Hid (Own (w4.setCell ⟨w.heap.size, j, none⟩ (.int .i64 ((o + 2 ^ s : Nat) : Int))) (w.heap.size + 1) v4 (toI (dig (2 * R' + bit - val ys)))) := by
              refine ownsRow_setCell_other HR5.out (fun e => ?_) _
              have := (HR5.out.lt w.heap.size e).1
              omega
            clear hlt
            go_wp2_with fail
            rw [HW.out]
            exact ⟨⟨s, 2 * R' + bit - val ys, o + 2 ^ s, qs, by omega, by go_num, HC, HB3, HP, HP2, HG5.out.own (Nat.le_refl _) _⟩, by simp [intOf]⟩
end Go.Proofs.YtjedpceiimceoaaDoor
/- Proved: the contract of the model's GoodWhole. -/
namespace Go.Proofs.YtjedpceiimceoaaDoor
open Go.ChangeShapes Go.WideShapes Go.ChangeAt Go.RowKit
open M2
set_option linter.unusedVariables false
set_option linter.unusedSimpArgs false
abbrev okAt (xs : List Int) (j : Nat) : Prop := (0 ≤ xs.getD j 0 ∧ xs.getD j 0 ≤ 268435455) ∧ ¬ (xs.getD j 0 = 0 ∧ j + 1 = xs.length)
abbrev Good (n : Bool) (xs : List Int) : Prop := xs.length ≤ 40 ∧ ¬ (xs.length = 0 ∧ n = true) ∧ ∀ j, j < xs.length → okAt xs j
theorem specIn (x lo hi : Int) (w : World) :
    Calls Tryd.prog 59 #[.int .i64 x, .int .i64 lo, .int .i64 hi] w fun e w' => e = .returned (.bool (decide (lo ≤ x ∧ x ≤ hi))) ∧ w' = w := by
  by_cases h1 : lo ≤ x
  · by_cases h2 : x ≤ hi
    · rw [decide_eq_true ⟨h1, h2⟩]
      go_enter Tryd.func59, Tryd.ntmps59
      go_wp2_with fail
      go_ret
      exact ⟨by simp [h1, h2], rfl⟩
    · rw [decide_eq_false (fun h => h2 h.2)]
      go_enter Tryd.func59, Tryd.ntmps59
      go_wp2_with fail
      go_ret
      exact ⟨by simp [h1, h2], rfl⟩
  · rw [decide_eq_false (fun h => h1 h.1)]
    go_enter Tryd.func59, Tryd.ntmps59
    go_wp2_with fail
    go_ret
    exact ⟨by simp [h1], rfl⟩
set_option maxHeartbeats 2000000 in
theorem good_any (n : Bool) (xs : List Int) (v : Value) (w : World) (hv : Row w v xs) (hl : xs.length ≤ 1048576) :
    Calls Tryd.prog 38 #[.agg #[.bool n, v]] w fun e w' => e = .returned (.bool (decide (Good n xs))) ∧ Old w w' := by
  have HV : Hid (Row w v xs) := hv
  obtain ⟨a0, cap0, rfl⟩ := hv.slice
  clear hv
  by_cases h40 : xs.length ≤ 40
  · by_cases h0 : xs.length = 0 ∧ n = true
    · have e : decide (Good n xs) = false := decide_eq_false (fun h => h.2.1 h0)
      rw [e]
      obtain ⟨h01, rfl⟩ := h0
      obtain rfl := List.length_eq_zero_iff.1 h01
      clear e h01
      go_enter Tryd.func38, Tryd.ntmps38
      go_wp2_with fail
      go_ret
      exact ⟨rfl, (Old.refl w).alloc _⟩
    · have HG0 : Hid (Good n xs ↔ ∀ j, j < xs.length → okAt xs j) := ⟨fun h => h.2.2, fun h => ⟨h40, h0, h⟩⟩
      have d40 : decide ((40 : Int) < (xs.length : Int)) = false := dlt_no (by omega)
      have dn : xs.length = 0 → n = false := fun h => by
        cases n with
        | false => rfl
        | true => exact absurd ⟨h, rfl⟩ h0
      obtain ⟨B, hB⟩ : ∃ B, decide (Good n xs) = B := ⟨_, rfl⟩
      rw [hB]
      have HB : Hid (decide (Good n xs) = B) := hB
      clear hB h0
      rcases Nat.eq_zero_or_pos xs.length with hx0 | hx0
      · obtain rfl := List.length_eq_zero_iff.1 hx0
        obtain rfl := dn rfl
        have HT : Hid (B = true) := by rw [← HB.out]; exact decide_eq_true (HG0.out.2 (fun j hj => by simp at hj))
        clear dn hx0
        go_enter Tryd.func38, Tryd.ntmps38
        go_wp2_with fail
        refine wp_loop_rounds 1 ?_
        rw [rounds_succ]
        go_wp2_with fail
        go_ret
        exact ⟨congrArg (fun z => Ending.returned (.bool z)) HT.out.symm, (Old.refl w).alloc _⟩
      · have dx0 : ((xs.length : Int) == 0) = false := by simp; intro h; rw [h] at hx0; simp at hx0
        have HC : Hid (∃ b o, a0 = some ⟨b, o, none⟩ ∧ b < w.heap.size ∧ ∀ j, j < xs.length → w.cell? ⟨b, o + j, none⟩ = some (.int .i64 (xs.getD j 0))) := by
          rcases HV.out with ⟨a', cap', e, e2⟩ | ⟨b, o, cap', e, hb, _, hc⟩
          · rw [e2] at hx0; simp at hx0
          · simp only [Value.slice.injEq] at e
            obtain ⟨rfl, _, _⟩ := e
            exact ⟨b, o, rfl, hb, hc⟩
        obtain ⟨b, o, rfl, hb, hc⟩ := HC.out
        have HC2 : Hid (∀ j, j < xs.length → w.cell? ⟨b, o + j, none⟩ = some (.int .i64 (xs.getD j 0))) := hc
        clear hc HC dn HV
        go_enter Tryd.func38, Tryd.ntmps38
        go_wp2_with fail
        go_loopw [22] (fun i W => ∃ k : Nat, k ≤ xs.length ∧ i = .int .i64 k ∧ Hid (∀ j, j < k → okAt xs j) ∧ W = w.alloc (.cells #[.bool n, .slice (some ⟨b, o, none⟩) xs.length cap0] 25)) (fun i _ => xs.length - (intOf i).toNat)
        case atStart => exact ⟨0, by omega, rfl, fun j hj => absurd hj (by omega), rfl⟩
        case round =>
          obtain ⟨k, hk, rfl, HF, rfl⟩ := hrel
          by_cases hlt : k < xs.length
          · have c1 : (w.alloc (.cells #[.bool n, .slice (some ⟨b, o, none⟩) xs.length cap0] 25)).cell? ⟨b, o + k, none⟩ = some (.int .i64 (xs.getD k 0)) := (cell_lt _ _ _ _ hb).trans (HC2.out k hlt)
            have c2 : (w.alloc (.cells #[.bool n, .slice (some ⟨b, o, none⟩) xs.length cap0] 25)).cell? ⟨w.heap.size, 1, none⟩ = some (.slice (some ⟨b, o, none⟩) xs.length cap0) := cell_at _ _ _ _ _ rfl
            by_cases hok : okAt xs k
            · have HF2 : Hid (∀ j, j < k + 1 → okAt xs j) := fun j hj => by
                by_cases hjk : j = k
                · rw [hjk]; exact hok
                · exact HF.out j (by omega)
              obtain ⟨⟨h1, h2⟩, h3⟩ := hok
              have din : decide (0 ≤ xs.getD k 0 ∧ xs.getD k 0 ≤ 268435455) = true := decide_eq_true ⟨h1, h2⟩
              have cin := fun W => specIn (xs.getD k 0) 0 268435455 W
              rw [din] at cin
              generalize xs.getD k 0 = x at *
              clear din
              by_cases hx : x = 0
              · have hne : ¬ k + 1 = xs.length := fun h => h3 ⟨hx, h⟩
                have dk : ((k : Int) == (xs.length : Int) - 1) = false := by simp; omega
                have dz : (x == 0) = true := by simp [hx]
                clear hx h3
                go_wp2_with fail
                refine (cin _).mono ?_
                rintro e w' ⟨rfl, rfl⟩
                go_wp2_with fail
                exact ⟨⟨k + 1, by omega, by go_num, HF2, by first | rfl | trivial⟩, by simp [intOf]; omega⟩
              · have dz : (x == 0) = false := by simp [hx]
                clear hx h3
                go_wp2_with fail
                refine (cin _).mono ?_
                rintro e w' ⟨rfl, rfl⟩
                go_wp2_with fail
                exact ⟨⟨k + 1, by omega, by go_num, HF2, by first | rfl | trivial⟩, by simp [intOf]; omega⟩
            · have HT : Hid (B = false) := by rw [← HB.out]; exact decide_eq_false (fun h => hok (HG0.out.1 h k hlt))
              by_cases hin : 0 ≤ xs.getD k 0 ∧ xs.getD k 0 ≤ 268435455
              · have hz : xs.getD k 0 = 0 ∧ k + 1 = xs.length := by
                  apply Classical.byContradiction
                  intro h
                  exact hok ⟨hin, h⟩
                have cin := fun W => specIn (xs.getD k 0) 0 268435455 W
                rw [decide_eq_true hin] at cin
                have dk : ((k : Int) == (xs.length : Int) - 1) = true := by simp; omega
                have dz : (xs.getD k 0 == 0) = true := by rw [hz.1]; rfl
                generalize xs.getD k 0 = x at *
                clear hz hin hok
                go_wp2_with fail
                refine (cin _).mono ?_
                rintro e w' ⟨rfl, rfl⟩
                go_wp2_with fail
                go_ret
                exact ⟨congrArg (fun z => Ending.returned (.bool z)) HT.out.symm, (Old.refl w).alloc _⟩
              · have cin := fun W => specIn (xs.getD k 0) 0 268435455 W
                rw [decide_eq_false hin] at cin
                generalize xs.getD k 0 = x at *
                clear hin hok
                go_wp2_with fail
                refine (cin _).mono ?_
                rintro e w' ⟨rfl, rfl⟩
                go_wp2_with fail
                go_ret
                exact ⟨congrArg (fun z => Ending.returned (.bool z)) HT.out.symm, (Old.refl w).alloc _⟩
          · have HT : Hid (B = true) := by rw [← HB.out]; exact decide_eq_true (HG0.out.2 (fun j hj => HF.out j (by omega)))
            go_wp2_with fail
            go_ret
            exact ⟨congrArg (fun z => Ending.returned (.bool z)) HT.out.symm, (Old.refl w).alloc _⟩
  · have e : decide (Good n xs) = false := decide_eq_false (fun h => h40 h.1)
    rw [e]
    have d40 : decide ((40 : Int) < (xs.length : Int)) = true := dlt_yes (by omega)
    clear e
    go_enter Tryd.func38, Tryd.ntmps38
    go_wp2_with fail
    go_ret
    exact ⟨rfl, (Old.refl w).alloc _⟩
end Go.Proofs.YtjedpceiimceoaaDoor
/- Proved: the contract of the program's GoodWhole: it answers as the model's does, at every whole number that comes in. -/
namespace Go.Proofs.YtjedpceiimceoaaDoor
open Go.ChangeShapes Go.WideShapes Go.ChangeAt Go.RowKit
open M2
set_option linter.unusedVariables false
set_option linter.unusedSimpArgs false
set_option maxHeartbeats 2000000 in
theorem good_impl (n : Bool) (xs : List Int) (v : Value) (w : World) (hv : Row w v xs) (hl : xs.length ≤ 1048576) :
    Calls Tryd.prog 21 #[.agg #[.bool n, v]] w fun e w' => e = .returned (.bool (decide (Good n xs))) ∧ Old w w' := by
  have HV : Hid (Row w v xs) := hv
  obtain ⟨a0, cap0, rfl⟩ := hv.slice
  clear hv
  obtain ⟨B, hB⟩ : ∃ B, decide (Good n xs) = B := ⟨_, rfl⟩
  rw [hB]
  have HB : Hid (decide (Good n xs) = B) := hB
  clear hB
  rcases Nat.eq_zero_or_pos xs.length with hx0 | hx0
  · obtain rfl := List.length_eq_zero_iff.1 hx0
    have HT : Hid (B = !n) := by
      rw [← HB.out]
      cases n with
      | false => exact decide_eq_true ⟨by simp, by simp, fun j hj => by simp at hj⟩
      | true => exact decide_eq_false (fun h => h.2.1 ⟨rfl, rfl⟩)
    clear hx0
    go_enter Tryd.func21, Tryd.ntmps21
    go_wp2_with fail
    go_ret
    exact ⟨congrArg (fun z => Ending.returned (.bool z)) HT.out.symm, (Old.refl w).alloc _⟩
  · have dx0 : ((xs.length : Int) == 0) = false := by simp; intro h; rw [h] at hx0; simp at hx0
    by_cases h40 : xs.length ≤ 40
    · have d40 : decide ((40 : Int) < (xs.length : Int)) = false := dlt_no (by omega)
      obtain ⟨b, o, rfl, hb, hc⟩ : ∃ b o, a0 = some ⟨b, o, none⟩ ∧ b < w.heap.size ∧ ∀ j, j < xs.length → w.cell? ⟨b, o + j, none⟩ = some (.int .i64 (xs.getD j 0)) := by
        rcases HV.out with ⟨a', cap', e, e2⟩ | ⟨b, o, cap', e, hb, _, hc⟩
        · rw [e2] at hx0; simp at hx0
        · simp only [Value.slice.injEq] at e
          obtain ⟨rfl, _, _⟩ := e
          exact ⟨b, o, rfl, hb, hc⟩
      have HC2 : Hid (∀ j, j < xs.length → w.cell? ⟨b, o + j, none⟩ = some (.int .i64 (xs.getD j 0))) := hc
      clear hc HV
      obtain ⟨m, hm⟩ : ∃ m, xs.length = m + 1 := ⟨xs.length - 1, by omega⟩
      have HM : Hid (xs.length = m + 1) := hm
      have hm' : (xs.length : Int) - 1 = (m : Int) := by omega
      have hmt : ((xs.length : Int) - 1).toNat = m := by omega
      have i1 : (0 : Int) ≤ (xs.length : Int) - 1 := by omega
      have i2 : (xs.length : Int) - 1 < (xs.length : Int) := by omega
      have c0 : w.cell? ⟨b, o + m, none⟩ = some (.int .i64 (xs.getD m 0)) := HC2.out m (by omega)
      clear hm
      by_cases hz : xs.getD m 0 = 0
      · have HT : Hid (B = false) := by
          rw [← HB.out]
          exact decide_eq_false (fun h => (h.2.2 m (by have := HM.out; omega)).2 ⟨hz, HM.out.symm⟩)
        have dz : (xs.getD m 0 == 0) = true := by rw [hz]; rfl
        generalize xs.getD m 0 = x at *
        clear hz
        go_enter Tryd.func21, Tryd.ntmps21
        go_wp2_with fail
        go_ret
        exact ⟨congrArg (fun z => Ending.returned (.bool z)) HT.out.symm, (Old.refl w).alloc _⟩
      · have dz : (xs.getD m 0 == 0) = false := beq_eq_false_iff_ne.2 hz
        have HG0 : Hid (Good n xs ↔ ∀ j, j < xs.length → 0 ≤ xs.getD j 0 ∧ xs.getD j 0 ≤ 268435455) := by
          refine ⟨fun h j hj => (h.2.2 j hj).1, fun h => ⟨h40, fun h => by omega, fun j hj => ⟨h j hj, fun h2 => hz ?_⟩⟩⟩
          rw [show m = j by have := HM.out; omega]; exact h2.1
        generalize xs.getD m 0 = x at *
        clear hz
        go_enter Tryd.func21, Tryd.ntmps21
        go_wp2_with fail
        clear c0 dz i1 i2 hmt hm'
        go_loopw [28] (fun i W => ∃ k : Nat, k ≤ xs.length ∧ i = .int .i64 k ∧ Hid (∀ j, j < k → 0 ≤ xs.getD j 0 ∧ xs.getD j 0 ≤ 268435455) ∧ W = w.alloc (.cells #[.bool n, .slice (some ⟨b, o, none⟩) xs.length cap0] 25)) (fun i _ => xs.length - (intOf i).toNat)
        case atStart => exact ⟨0, by omega, rfl, fun j hj => absurd hj (by omega), rfl⟩
        case round =>
          obtain ⟨k, hk, rfl, HF, rfl⟩ := hrel
          by_cases hlt : k < xs.length
          · have c1 : (w.alloc (.cells #[.bool n, .slice (some ⟨b, o, none⟩) xs.length cap0] 25)).cell? ⟨b, o + k, none⟩ = some (.int .i64 (xs.getD k 0)) := (cell_lt _ _ _ _ hb).trans (HC2.out k hlt)
            by_cases hok : 0 ≤ xs.getD k 0 ∧ xs.getD k 0 ≤ 268435455
            · have HF2 : Hid (∀ j, j < k + 1 → 0 ≤ xs.getD j 0 ∧ xs.getD j 0 ≤ 268435455) := fun j hj => by
                by_cases hjk : j = k
                · rw [hjk]; exact hok
                · exact HF.out j (by omega)
              have d1 : decide (xs.getD k 0 < 0) = false := decide_eq_false (by omega)
              have d2 : decide ((268435456 : Int) ≤ xs.getD k 0) = false := decide_eq_false (by omega)
              generalize xs.getD k 0 = y at *
              clear hok
              go_wp2_with fail
              exact ⟨⟨k + 1, by omega, by go_num, HF2, by first | rfl | trivial⟩, by simp [intOf]; omega⟩
            · have HT : Hid (B = false) := by rw [← HB.out]; exact decide_eq_false (fun h => hok (HG0.out.1 h k hlt))
              by_cases hn : xs.getD k 0 < 0
              · have d1 : decide (xs.getD k 0 < 0) = true := decide_eq_true hn
                generalize xs.getD k 0 = y at *
                clear hok
                go_wp2_with fail
                go_ret
                exact ⟨congrArg (fun z => Ending.returned (.bool z)) HT.out.symm, (Old.refl w).alloc _⟩
              · have d1 : decide (xs.getD k 0 < 0) = false := decide_eq_false hn
                have d2 : decide ((268435456 : Int) ≤ xs.getD k 0) = true := decide_eq_true (by omega)
                generalize xs.getD k 0 = y at *
                clear hok
                go_wp2_with fail
                go_ret
                exact ⟨congrArg (fun z => Ending.returned (.bool z)) HT.out.symm, (Old.refl w).alloc _⟩
          · have HT : Hid (B = true) := by rw [← HB.out]; exact decide_eq_true (HG0.out.2 (fun j hj => HF.out j (by omega)))
            go_wp2_with fail
            go_ret
            exact ⟨congrArg (fun z => Ending.returned (.bool z)) HT.out.symm, (Old.refl w).alloc _⟩
    · have HT : Hid (B = false) := by rw [← HB.out]; exact decide_eq_false (fun h => h40 h.1)
      have d40 : decide ((40 : Int) < (xs.length : Int)) = true := dlt_yes (by omega)
      go_enter Tryd.func21, Tryd.ntmps21
      go_wp2_with fail
      go_ret
      exact ⟨congrArg (fun z => Ending.returned (.bool z)) HT.out.symm, (Old.refl w).alloc _⟩
end Go.Proofs.YtjedpceiimceoaaDoor
/- Proved: what lies between two block numbers stays as it is where only others are written; no function of the program. -/
namespace Go.Proofs.YtjedpceiimceoaaDoor
open Go.ChangeShapes Go.WideShapes Go.ChangeAt Go.RowKit
set_option linter.unusedVariables false
set_option linter.unusedSimpArgs false
structure Chg (w w' : World) (lo hi : Nat) : Prop where
  os : w'.os = w.os
  tape : w'.tape = w.tape
  output : w'.output = w.output
  size : w.heap.size ≤ w'.heap.size
  block : ∀ b, b < w.heap.size → (b < lo ∨ hi ≤ b) → w'.heap[b]? = w.heap[b]?
theorem Old.toChg {w w' : World} (h : Old w w') (lo hi : Nat) : Chg w w' lo hi := ⟨h.os, h.tape, h.output, h.size, fun b hb _ => h.block b hb⟩
theorem Chg.trans {a b c : World} {lo hi : Nat} (h : Chg a b lo hi) (k : Chg b c lo hi) : Chg a c lo hi :=
  ⟨k.os.trans h.os, k.tape.trans h.tape, k.output.trans h.output, Nat.le_trans h.size k.size, fun i hi ho => (k.block i (Nat.lt_of_lt_of_le hi h.size) ho).trans (h.block i hi ho)⟩
theorem Old.chg {a w w' : World} {lo hi : Nat} (h : Old a w) (c : Chg w w' lo hi) (hlo : a.heap.size ≤ lo) : Old a w' :=
  ⟨c.os.trans h.os, c.tape.trans h.tape, c.output.trans h.output, Nat.le_trans h.size c.size, fun b hb => (c.block b (Nat.lt_of_lt_of_le hb h.size) (Or.inl (Nat.lt_of_lt_of_le hb hlo))).trans (h.block b hb)⟩
end Go.Proofs.YtjedpceiimceoaaDoor
/- Proved: laws.sameInts says yes of equal lists. -/
namespace Go.Proofs.YtjedpceiimceoaaDoor
open Go.ChangeShapes Go.WideShapes Go.ChangeAt Go.RowKit
set_option linter.unusedVariables false
set_option linter.unusedSimpArgs false
set_option maxRecDepth 100000 in
set_option maxHeartbeats 4000000 in
theorem same_yes (xs : List Int) (v u : Value) (w : World) (hv : Row w v xs) (hu : Row w u xs) (hl : xs.length ≤ 1048576) :
    Calls Tryd.prog 35 #[v, u] w fun e w' => e = .returned (.bool true) ∧ Old w w' := by
  obtain ⟨a0, c0, rfl⟩ := hv.slice
  obtain ⟨a1, c1, rfl⟩ := hu.slice
  have HV : Hid (∀ j, j < xs.length → ∃ b o, a0 = some ⟨b, o, none⟩ ∧ b < w.heap.size ∧ w.cell? ⟨b, o + j, none⟩ = some (.int .i64 (xs.getD j 0))) := fun j hj => by
    rcases hv with ⟨a, c, e, e2⟩ | ⟨b, o, cap, e, hb, h3, hc⟩
    · rw [e2] at hj; simp at hj
    · simp only [Value.slice.injEq] at e
      exact ⟨b, o, e.1, hb, hc j hj⟩
  have HU : Hid (∀ j, j < xs.length → ∃ b o, a1 = some ⟨b, o, none⟩ ∧ b < w.heap.size ∧ w.cell? ⟨b, o + j, none⟩ = some (.int .i64 (xs.getD j 0))) := fun j hj => by
    rcases hu with ⟨a, c, e, e2⟩ | ⟨b, o, cap, e, hb, h3, hc⟩
    · rw [e2] at hj; simp at hj
    · simp only [Value.slice.injEq] at e
      exact ⟨b, o, e.1, hb, hc j hj⟩
  clear hv hu
  go_enter Tryd.func35, Tryd.ntmps35
  go_wp2_with fail
  go_loopw [13, 5] (fun i _ W => ∃ k : Nat, k ≤ xs.length ∧ i = .int .i64 k ∧ Hid (Old w W)) (fun i _ _ => xs.length - (intOf i).toNat)
  case atStart => exact ⟨0, by omega, rfl, Old.refl _⟩
  case round =>
    obtain ⟨k, hk, rfl, HG⟩ := hrel
    by_cases hlt : k < xs.length
    · have d1 : decide ((k : Int) < (xs.length : Int)) = true := by simp; omega
      obtain ⟨b, o, rfl, hb, hc⟩ := HV.out k hlt
      obtain ⟨b', o', rfl, hb', hc'⟩ := HU.out k hlt
      have q1 := (HG.out.cell (p := ⟨b, o + k, none⟩) hb).trans hc
      have q2 := (HG.out.cell (p := ⟨b', o' + k, none⟩) hb').trans hc'
      have ilt : (k : Int) < (xs.length : Int) := by omega
      generalize xs.getD k 0 = y at *
      clear hc hc'
      go_wp2_with fail
      go_quiet (fail)
      go_wp2_with fail
      exact ⟨⟨k + 1, by omega, by go_num, HG.out.drewN _⟩, by simp [intOf]; omega⟩
    · have d1 : decide ((k : Int) < (xs.length : Int)) = false := by simp; omega
      go_wp2_with fail
      go_ret
      exact ⟨rfl, HG.out⟩
end Go.Proofs.YtjedpceiimceoaaDoor
