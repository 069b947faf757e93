/- Proved: the contract of the program's sizeOfWord. -/
import Derived.Test.YtplaaglckbfklaaDoorSzAdd
namespace Go.Proofs.YtplaaglckbfklaaDoor
open Go.ChangeShapes Go.WideShapes Go.ChangeAt Go.RowKit
open M2
set_option linter.unusedVariables false
set_option linter.unusedSimpArgs false

theorem cnt_word {n : Nat} (h : n < 18446744073709551616) : cnt n ≤ 3 := cnt_le (Nat.lt_of_lt_of_le h (by decide))
set_option maxHeartbeats 2000000 in
theorem ofWord_sz (n : Nat) (w : World) (hn : n < 18446744073709551616) :
    Calls Tryd.prog 74 #[.int .u64 (n : Int)] w fun e w' => e = .returned (.agg (szV n)) ∧ Old w w' := by
  have hc3 := cnt_word hn
  unfold szV
  go_enter Tryd.func74, Tryd.ntmps74
  go_wp2_with fail
  go_loopw [0] (fun v W => ∃ (m : Nat) (out : List Nat), v = .int .u64 (m : Int) ∧ m < 18446744073709551616 ∧ out.length + cnt m ≤ 3 ∧ Hid (dig n = out ++ dig m) ∧ Hid (Sz W w.heap.size (ext []) 0) ∧ Hid (Sz W (w.heap.size + 1) (ext out) out.length) ∧ Hid (Old w W)) (fun v _ => (intOf v).toNat)
  case atStart => exact ⟨n, [], rfl, hn, by simpa using hc3, rfl, (Sz.zero _ _ (by simp)).alloc _, Sz.zero _ _ (by simp), ((Old.refl w).alloc _).alloc _⟩
  case round =>
      obtain ⟨m, out, rfl, hm, hl, HD0, HR, HS, HG⟩ := hrel
      rcases Nat.eq_zero_or_pos m with hm0 | hm0
      · subst hm0
        have e1 : out = dig n := by
          have := HD0.out
          rw [dig_zero, List.append_nil] at this
          exact this.symm
        have HPS : Hid ((pad n).length = 80) := pad_len' hc3 (by omega)
        have HD : Hid (Sz wr (w.heap.size + 1) (pad n) (cnt n)) := by
          have := HS.out
          rw [e1] at this
          exact this
        clear e1 HD0 HS
        go_wp2_with (first | ((with_reducible refine load_sz HD.out ?_ ?_); exact rfl; simp only [Act.put, List.setIfInBounds_toArray, List.set_cons_succ, List.set_cons_zero]) | ((with_reducible refine store_sz HR.out (pad n) (cnt n) HPS.out ?_ ?_ ?_); exact rfl; exact rfl; simp only [Act.put]) | ((with_reducible refine bodyPost_ret (ret_sz Tryd.results74 _ _ ?_ (HR.out.row (pad n) (cnt n) HPS.out)) ?_ ?_); exact rfl; exact rfl; exact ⟨rfl, HG.out.row (by omega) _⟩))
      · have hd : decide ((0 : Int) < (m : Int)) = true := by simp; omega
        have hcp := cnt_pos (show m ≠ 0 by omega)
        have c1 := HS.out.cnt
        have f1 := HS.out.fro out.length
        have f2 := HS.out.fro 80
        have c2 := HS.out.at (j := out.length) (by omega)
        have i1 : ((out.length : Nat) : Int) < 80 := by omega
        have hcm : cnt m = 1 + cnt (m / LB) := by unfold cnt; rw [dig_pos m (by omega), List.length_cons, Nat.add_comm]
        have HN : Hid (dig n = (out ++ [m % LB]) ++ dig (m / LB)) := dig_snoc HD0.out (by omega)
        have HX : Hid (ext (out ++ [m % LB]) = (ext out).set out.length (m % LB)) := (ext_set (by omega) _).symm
        have e1 : (m : Int) % 268435456 = ((m % LB : Nat) : Int) := by unfold LB; omega
        have e2 : (m : Int) / 268435456 = ((m / LB : Nat) : Int) := by unfold LB; omega
        have hu : m % LB < 268435456 := Nat.mod_lt _ LB_pos
        have hq : m / LB < m := Nat.div_lt_self (by omega) (by decide)
        have hq2 : m / LB < 18446744073709551616 := by omega
        generalize m % LB = u at *
        generalize hq0 : m / LB = q at *
        clear hq0
        have c4 : (wr.setCell ⟨w.heap.size + 1, out.length, none⟩ (.int .i64 (u : Int))).cell? ⟨w.heap.size + 1, 80, none⟩ = some (.int .i64 (out.length : Int)) := (HS.out.set (j := out.length) (by omega) u).cnt
        generalize (ext out).getD out.length 0 = z at *
        go_wp2_with fail
        refine ⟨⟨q, out ++ [u], by first | rfl | rw [e2], hq2, by simp; omega, HN, (HR.out.other _ (by simp) _).other _ (by simp) _, ?_, (HG.out.own (by simp) _).own (by simp) _⟩, by first | (simp [intOf]; done) | (simp [intOf]; omega)⟩
        have := (HS.out.set (j := out.length) (by omega) u).setc (out.length + 1)
        rw [← HX.out] at this
        show Sz _ _ _ _
        simpa using this
end Go.Proofs.YtplaaglckbfklaaDoor
