/- Proved: contracts of the model's functions on limbs: of a word, what is left by a word, doubling. -/
import Derived.Test.YtplaaglckbfklaaDoorLimbsC
import Derived.Test.YtplaaglckbfklaaDoorMtwoc
namespace Go.Proofs.YtplaaglckbfklaaDoor
open Go.ChangeShapes Go.WideShapes Go.ChangeAt Go.RowKit
open M2
set_option linter.unusedVariables false
set_option linter.unusedSimpArgs false
set_option maxHeartbeats 2000000 in
theorem of_any (n : Nat) (w : World) (hn : n ≤ 9223372036854775807) :
    Calls Tryd.prog 173 #[.int .i64 n] w fun e w' => ∃ v', e = .returned v' ∧ Old w w' ∧ Own w' w.heap.size v' (toI (dig n)) := by
  obtain ⟨i0, hi, hz0, hz1, hz2⟩ := info_parts Tryd.infoInt
  have hlen : (dig n).length ≤ 3 := dig_len_le (by unfold LB; omega)
  go_enter Tryd.func173, Tryd.ntmps173
  go_wp2_with fail
  go_loopw [0, 3] (fun m o W => ∃ (m' : Nat) (out : List Nat), m' ≤ 9223372036854775807 ∧ m = .int .i64 m' ∧ Hid (dig n = out ++ dig m') ∧ Hid (Own W w.heap.size o (toI out)) ∧ Hid (Old w W)) (fun m _ _ => (intOf m).toNat)
  case atStart => exact ⟨n, [], hn, rfl, rfl, World.ownsRow_nil _ _ _ _, Old.refl _⟩
  case round =>
    obtain ⟨m, out, hm, rfl, HI, HO, HG⟩ := hrel
    rcases Nat.eq_zero_or_pos m with h0 | h0
    · subst h0
      have HE : Hid (dig n = out) := by have := HI.out; rw [dig_zero, List.append_nil] at this; exact this
      clear HI
      go_wp2_with fail
      go_ret
      exact ⟨_, rfl, HG.out, by rw [HE.out]; exact HO.out⟩
    · have HS : Hid (dig n = (out ++ [m % LB]) ++ dig (m / LB)) := dig_snoc HI.out (by omega)
      have hol : out.length ≤ 3 := by
        have := congrArg List.length HI.out
        rw [List.length_append] at this
        omega
      generalize hR : m % LB = R at *
      generalize hQ : m / LB = Q at *
      unfold LB at hR hQ
      have e3 : (m : Int) % 268435456 = (R : Int) := by omega
      have e4 : (m : Int) / 268435456 = (Q : Int) := by omega
      have hQm : Q < m := by omega
      have d0 : decide (0 < m) = true := by simp; omega
      clear hR hQ HI
      go_wp2_with (at_builtin; refine wpList_append_own _ rfl _ _ 88 rfl w.heap.size 3 i0 (.int .i64 0) 1 8 Tryd.underlying88 hi hz0 hz1 hz2 rfl (by decide) _ _ _ rfl (HO.out.alloc _) ⟨wr.heap.size, 0, none⟩ 1 1 [.int .i64 (R : Int)] rfl rfl (one_cellW _ _ _) (one_oneW _) (by rw [toI_len]; skip; unfold maxLen; omega) (by rw [toI_len]; skip; omega) (by have := HG.out.size; simp; omega) ?_; intro v' w1 hown hgrow _; have HO2 : Hid (Own w1 w.heap.size v' (toI (out ++ [R]))) := Own.snocW hown; have HG2 : Hid (Old w w1) := Old.growW (HG.out.alloc _) (HO.out.alloc _) hgrow; clear hown hgrow)
      exact ⟨⟨Q, out ++ [R], by omega, by first | rfl | rw [e4], HS, HO2, HG2⟩, by simp [intOf]; omega⟩
set_option maxHeartbeats 2000000 in
theorem word_any (xs : List Nat) (m : Nat) (v : Value) (w : World) (hv : Row w v (toI xs)) (hx : Lim xs) (la : xs.length ≤ 1048576) (hm : 1 ≤ m) (hm' : m ≤ 268435456) :
    Calls Tryd.prog 89 #[v, .int .i64 m] w fun e w' => e = .returned (.int .i64 ((val xs % m : Nat) : Int)) ∧ Old w w' := by
  have HV : Hid (Row w v (toI xs)) := hv
  obtain ⟨a0, cap0, rfl⟩ := hv.sliceN
  clear hv
  have hmn : ¬ m = 0 := by omega
  go_enter Tryd.func89, Tryd.ntmps89
  go_wp2_with fail
  go_loopw [5, 6] (fun r i W => ∃ (k r' : Nat), (k ≤ xs.length ∧ r' < m) ∧ r = .int .i64 r' ∧ i = .int .i64 ((k : Int) - 1) ∧ Hid (r' = val (xs.drop k) % m) ∧ Hid (Old w W)) (fun _ i _ => (intOf i + 1).toNat)
  case atStart => exact ⟨xs.length, 0, ⟨Nat.le_refl _, by omega⟩, rfl, rfl, (by show 0 = val (xs.drop xs.length) % m; rw [List.drop_length]; rfl), Old.refl _⟩
  case round =>
    obtain ⟨k, r, ⟨hk, hr⟩, rfl, rfl, HD, HG⟩ := hrel
    rcases Nat.eq_zero_or_pos k with hk0 | hk0
    · subst hk0
      have HE : Hid (r = val xs % m) := HD.out
      clear HD
      go_wp2_with fail
      go_ret
      exact ⟨congrArg (fun (z : Nat) => Ending.returned (.int .i64 (z : Int))) HE.out, HG.out⟩
    · obtain ⟨j, rfl⟩ : ∃ j, k = j + 1 := ⟨k - 1, by omega⟩
      obtain ⟨b, o, rfl, hb1, hc1⟩ := Row.at (HV.out.old HG.out) (by omega)
      have c1 := hc1 j (by omega)
      clear hc1
      have hxj := hx.getD j
      have HS : Hid ((r * LB + xs.getD j 0) % m = val (xs.drop j) % m) := by rw [HD.out]; exact word_step xs j m (by omega)
      have em : ((j + 1 : Nat) : Int) - 1 = (j : Int) := by omega
      generalize xs.getD j 0 = x at *
      rw [em]
      unfold LB at HS hxj
      have hlt : (r * 268435456 + x) % m < m := Nat.mod_lt _ (by omega)
      generalize hR : (r * 268435456 + x) % m = R at *
      have e3 : ((r : Int) * 268435456 + (x : Int)) % (m : Int) = (R : Int) := by rw [← hR]; simp
      clear hR em HD
      go_wp2_with fail
      exact ⟨⟨j, R, ⟨by omega, hlt⟩, by rw [e3], by go_num, HS, HG⟩, by simp [intOf]⟩
set_option maxHeartbeats 2000000 in
theorem shift_any (xs : List Nat) (bit : Nat) (v : Value) (w : World) (hv : Row w v (toI xs)) (hx : Nrm xs) (la : xs.length ≤ 1048576) (hbit : bit ≤ 1) :
    Calls Tryd.prog 144 #[v, .int .i64 bit] w fun e w' => ∃ v', e = .returned v' ∧ Old w w' ∧ Own w' w.heap.size v' (toI (dig (2 * val xs + bit))) := by
  obtain ⟨i0, hi, hz0, hz1, hz2⟩ := info_parts Tryd.infoInt
  have HV : Hid (Row w v (toI xs)) := hv
  obtain ⟨a0, cap0, rfl⟩ := hv.sliceN
  clear hv
  go_enter Tryd.func144, Tryd.ntmps144
  go_wp2_with fail
  go_loopw [1, 5, 10] (fun c o i W => ∃ (k : Nat) (out : List Nat) (cc : Nat), (k ≤ xs.length ∧ cc ≤ 1) ∧ i = .int .i64 k ∧ c = .int .i64 cc ∧ Hid (ShI xs bit k out cc) ∧ Hid (Own W w.heap.size o (toI out)) ∧ Hid (Old w W)) (fun _ _ i _ => xs.length - (intOf i).toNat)
  case atStart => exact ⟨0, [], bit, ⟨by omega, hbit⟩, rfl, rfl, ShI.start xs bit hbit, World.ownsRow_nil _ _ _ _, Old.refl _⟩
  case round =>
    obtain ⟨k, out, cc, ⟨hk, hcc⟩, rfl, rfl, HI, HO, HG⟩ := hrel
    by_cases h1 : k < xs.length
    · obtain ⟨b, o, rfl, hb1, hc1⟩ := Row.at (HV.out.old HG.out) (by omega)
      have c1 := hc1 k h1
      clear hc1
      have hxk := hx.1.getD k
      have HS : Hid (ShI xs bit (k + 1) (out ++ [(cc + 2 * xs.getD k 0) % LB]) ((cc + 2 * xs.getD k 0) / LB)) := HI.out.step hx.1
      generalize xs.getD k 0 = x at *
      generalize hR : (cc + 2 * x) % LB = R at *
      generalize hQ : (cc + 2 * x) / LB = Q at *
      unfold LB at hR hQ hxk
      have e3 : ((cc : Int) + 2 * (x : Int)) % 268435456 = (R : Int) := by omega
      have e4 : ((cc : Int) + 2 * (x : Int)) / 268435456 = (Q : Int) := by omega
      have hQ1 : Q ≤ 1 := by omega
      clear hR hQ
      go_wp2_with (at_builtin; refine wpList_append_own _ rfl _ _ 88 rfl w.heap.size 3 i0 (.int .i64 0) 1 8 Tryd.underlying88 hi hz0 hz1 hz2 rfl (by decide) _ _ _ rfl (HO.out.alloc _) ⟨wr.heap.size, 0, none⟩ 1 1 [.int .i64 (R : Int)] rfl rfl (one_cellW _ _ _) (one_oneW _) (by rw [toI_len]; rw [HI.out.len]; unfold maxLen; omega) (by rw [toI_len]; rw [HI.out.len]; omega) (by have := HG.out.size; simp; omega) ?_; intro v' w1 hown hgrow _; have HO2 : Hid (Own w1 w.heap.size v' (toI (out ++ [R]))) := Own.snocW hown; have HG2 : Hid (Old w w1) := Old.growW (HG.out.alloc _) (HO.out.alloc _) hgrow; clear hown hgrow)
      exact ⟨⟨k + 1, out ++ [R], Q, ⟨by omega, hQ1⟩, by go_num, by rw [e4], HS, HO2, HG2⟩, by simp [intOf]; omega⟩
    · obtain rfl : k = xs.length := by omega
      rcases Nat.eq_zero_or_pos cc with hc0 | hc0
      · subst hc0
        have HT : Hid (out = dig (2 * val xs + bit)) := HI.out.no hx rfl
        clear HI
        go_wp2_with fail
        go_ret
        exact ⟨_, rfl, HG.out, by rw [← HT.out]; exact HO.out⟩
      · have HT : Hid (out ++ [cc] = dig (2 * val xs + bit)) := HI.out.yes hc0
        have d0 : decide (0 < cc) = true := by simp; omega
        go_wp2_with (at_builtin; refine wpList_append_own _ rfl _ _ 88 rfl w.heap.size 3 i0 (.int .i64 0) 1 8 Tryd.underlying88 hi hz0 hz1 hz2 rfl (by decide) _ _ _ rfl (HO.out.alloc _) ⟨wr.heap.size, 0, none⟩ 1 1 [.int .i64 (cc : Int)] rfl rfl (one_cellW _ _ _) (one_oneW _) (by rw [toI_len]; rw [HI.out.len]; unfold maxLen; omega) (by rw [toI_len]; rw [HI.out.len]; omega) (by have := HG.out.size; simp; omega) ?_; intro v' w1 hown hgrow _; have HO2 : Hid (Own w1 w.heap.size v' (toI (out ++ [cc]))) := Own.snocW hown; have HG2 : Hid (Old w w1) := Old.growW (HG.out.alloc _) (HO.out.alloc _) hgrow; clear hown hgrow)
        go_ret
        exact ⟨_, rfl, HG2.out, by rw [← HT.out]; exact HO2.out⟩
end Go.Proofs.YtplaaglckbfklaaDoor
