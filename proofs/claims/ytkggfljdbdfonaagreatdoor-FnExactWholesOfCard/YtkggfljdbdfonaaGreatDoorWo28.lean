/- Proved: several texts in one: what each proves is said ahead of it. -/
import Derived.Test.YtkggfljdbdfonaaGreatDoorWo09
/- Proved: how many noughts a ring's size has, the exponents of its points and their places, by the program and by the model. -/
namespace Go.Proofs.YtkggfljdbdfonaaGreatDoor
open Go.ChangeShapes Go.WideShapes Go.ChangeAt Go.RowKit
set_option linter.unusedVariables false
set_option linter.unusedSimpArgs false
abbrev Sz4 (N : Nat) : Prop := N = 2 ∨ N = 4 ∨ N = 8 ∨ N = 16
def lg (N : Nat) : Nat := if N = 2 then 1 else if N = 4 then 2 else if N = 8 then 3 else 4
theorem lg_pow {N : Nat} (h : Sz4 N) : 2 ^ lg N = N ∧ 1 ≤ lg N ∧ lg N ≤ 4 := by rcases h with rfl | rfl | rfl | rfl <;> decide
theorem lg_ctz {N : Nat} (h : Sz4 N) : Lib.ctz 64 N = lg N := by rcases h with rfl | rfl | rfl | rfl <;> decide +kernel
theorem sz_bd {N : Nat} (h : Sz4 N) : 2 ≤ N ∧ N ≤ 16 := by omega
theorem back_lt (b : Nat) : ∀ (s k o : Nat), o < 2 ^ b → backN s k o < 2 ^ (b + s)
  | 0, k, o, h => h
  | s + 1, k, o, h => by
    have := back_lt (b + 1) s (k / 2) (2 * o + k % 2) (by rw [Nat.pow_succ]; omega)
    rw [show b + 1 + s = b + (s + 1) by omega] at this
    exact this
theorem back_lt0 {N : Nat} (h : Sz4 N) (k : Nat) : backN (lg N) k 0 < N := by
  have := back_lt 0 (lg N) k 0 (by decide)
  rw [Nat.zero_add, (lg_pow h).1] at this
  exact this
theorem impl_noughts (N : Nat) (w : World) (h : Sz4 N) (hT : TabW w) :
    Calls Tryz.prog 176 #[.int .i64 N] w fun e w' => e = .returned (.int .i64 (lg N)) ∧ w' = w := by
  have hb := sz_bd h
  have c := fun W (hT : TabW W) => bits_tz N (by omega) (by omega) W hT
  rw [lg_ctz h] at c
  have HT : Hid (TabW w) := hT
  generalize lg N = L at *
  clear hT h
  go_enter Tryz.func176, Tryz.ntmps176
  go_wp2_with fail
  refine (c _ HT.out).mono ?_
  rintro e w1 ⟨rfl, rfl⟩
  go_wp2_with fail
  go_ret
  exact ⟨rfl, rfl⟩
theorem impl_backN (N k : Nat) (w : World) (h : Sz4 N) (hk : k < N) :
    Calls Tryz.prog 179 #[.int .i64 k, .int .i64 (lg N)] w fun e w' => e = .returned (.int .i64 (backN (lg N) k 0)) ∧ w' = w :=
  back_impl_yes k (lg N) w (by have := lg_pow h; omega) (by rw [(lg_pow h).1]; exact hk)
theorem spec_bits (N : Nat) (w : World) (h : Sz4 N) :
    Calls Tryz.prog 173 #[.int .i64 N] w fun e w' => e = .returned (.int .i64 ((lg N + 1 : Nat) : Int)) ∧ w' = w := by
  rcases h with rfl | rfl | rfl | rfl
  all_goals
    go_enter Tryz.func173, Tryz.ntmps173
    go_wp2_with fail
    refine wp_loop_rounds 6 ?_
    repeat (rw [rounds_succ]; go_wp2_with fail; try (first | (go_ret; exact ⟨rfl, rfl⟩)))
def ptsN (N : Nat) : List Nat := (List.range N).map (fun k => 2 * backN (lg N) k 0 + 1)
theorem ptsN_len (N : Nat) : (ptsN N).length = N := by simp [ptsN]
theorem ptsN_get (N k : Nat) (h : k < N) : (ptsN N).getD k 0 = 2 * backN (lg N) k 0 + 1 := by simp [ptsN, List.getD, h]
set_option maxRecDepth 100000 in
set_option maxHeartbeats 1000000 in
theorem spec_points (N : Nat) (w : World) (h : Sz4 N) :
    Calls Tryz.prog 143 #[.int .i64 N] w fun e w' => ∃ v', e = .returned v' ∧ Old w w' ∧ Own w' w.heap.size v' (toZ (ptsN N)) := by
  obtain ⟨i0, hi, hz0, hz1, hz2⟩ := info_parts Tryz.infoInt
  have c1 := fun W => spec_bits N W h
  have hs := sz_bd h
  have hL := lg_pow h
  have HB : Hid (∀ k, k < N → ∀ W, Calls Tryz.prog 174 #[.int .i64 k, .int .i64 (lg N)] W fun e w' => e = .returned (.int .i64 (backN (lg N) k 0)) ∧ w' = W) := fun k hk W => back_spec k (lg N) W (by omega) (by omega)
  have HE : Hid (∀ k, k < N → (toZ (ptsN N)).take (k + 1) = (toZ (ptsN N)).take k ++ [((2 * backN (lg N) k 0 + 1 : Nat) : Int)]) := fun k hk => by
    rw [take_succI _ k (by rw [toZ_len, ptsN_len]; exact hk), toZ_get, ptsN_get N k hk]
  have hzl : (toZ (ptsN N)).length = N := by rw [toZ_len, ptsN_len]
  have HBL : Hid (∀ k, backN (lg N) k 0 < N) := fun k => back_lt0 h k
  have eL : ((lg N + 1 : Nat) : Int) - 1 = (lg N : Int) := by omega
  have hL4 : lg N ≤ 4 := hL.2.2
  generalize toZ (ptsN N) = zs at *
  clear hL h
  generalize lg N = L at *
  have eL2 : (((L + 1 : Nat) : Int)) = (L : Int) + 1 := by omega
  rw [eL2] at c1
  clear eL eL2
  go_enter Tryz.func143, Tryz.ntmps143
  go_wp2_with fail
  refine (c1 _).mono ?_
  rintro e w1 ⟨rfl, hw⟩
  obtain rfl : w = w1 := hw.symm
  go_wp2_with fail
  go_loopw [3, 5] (fun v i W => ∃ (k : Nat) (a : Option Addr) (cap : Nat), k ≤ N ∧ i = .int .i64 k ∧ v = .slice a k cap ∧ Hid (Own W w.heap.size (.slice a k cap) (zs.take k)) ∧ Hid (Old w W)) (fun _ i _ => N - (intOf i).toNat)
  case atStart => exact ⟨0, none, 0, by omega, rfl, rfl, (by exact own_nil _ _), Old.refl _⟩
  case round =>
    obtain ⟨k, a, cap, hk, rfl, rfl, HO1, HG4⟩ := hrel
    have hs4 := HG4.out.size
    by_cases hlt : k < N
    · have d1 : decide ((k : Int) < (N : Int)) = true := by simp; omega
      have cb := HB.out k hlt
      have HT1 := HE.out k hlt
      have hx := HBL.out k
      generalize backN L k 0 = x at *
      have e2 : ((2 * x + 1 : Nat) : Int) = 2 * (x : Int) + 1 := by omega
      rw [e2] at HT1
      have HT2 : Hid (zs.take (k + 1) = zs.take k ++ [2 * (x : Int) + 1]) := HT1
      have htk : (zs.take k).length = k := by rw [List.length_take]; omega
      clear e2 HT1
      go_wp2_with fail
      refine (cb _).mono ?_
      rintro e w2 ⟨rfl, hw⟩
      obtain rfl : wr = w2 := hw.symm
      go_wp2_with (at_builtin; refine wpList_append_own _ rfl _ _ 22 rfl w.heap.size 3 i0 (.int .i64 0) 1 8 Tryz.underlying22 hi hz0 hz1 hz2 rfl (by decide) _ _ _ rfl (by have := HO1.out.alloc (.cells #[.int .i64 (2 * (x : Int) + 1)] 3); unfold Own at this; rw [htk] at this; exact this) ⟨wr.heap.size, 0, none⟩ 1 1 [.int .i64 (2 * (x : Int) + 1)] rfl rfl (one_cell _ _ _) (one_one _) (by unfold maxLen; omega) (by omega) (by simp; omega) ?_; intro v5 w5 o5 g5 x5; have O5 : Hid (Own w5 w.heap.size v5 (zs.take (k + 1))) := (by have := HT2.out; show Own _ _ _ _; rw [this]; exact Own.snoc (by rw [htk]; exact o5)); have G5 : Hid (Old w w5) := Below.grown (HG4.out.alloc (.cells #[.int .i64 (2 * (x : Int) + 1)] 3)) g5 (HG4.out.alloc (.cells #[.int .i64 (2 * (x : Int) + 1)] 3)).size (fun j hj => (HO1.out.lt j hj).1); clear o5 g5 x5)
      obtain ⟨a5, cap5, rfl⟩ := (Own.row O5.out).slice
      have htk1 : (zs.take (k + 1)).length = k + 1 := by rw [List.length_take]; omega
      rw [htk1] at O5 ⊢
      exact ⟨⟨k + 1, _, _, by omega, by go_num, rfl, O5, G5⟩, by simp [intOf]; omega⟩
    · have d1 : decide ((k : Int) < (N : Int)) = false := by simp; omega
      obtain rfl : k = N := by omega
      have HF : Hid (Own wr w.heap.size (.slice a k cap) zs) := by
        have := HO1.out
        rw [List.take_of_length_le (by omega)] at this
        exact this
      go_wp2_with fail
      go_ret
      exact ⟨_, rfl, HG4.out, HF.out⟩
end Go.Proofs.YtkggfljdbdfonaaGreatDoor
/- Proved: the model's transform: the polynomial's value at each point, by Horner's rule. -/
namespace Go.Proofs.YtkggfljdbdfonaaGreatDoor
open Go.ChangeShapes Go.WideShapes Go.ChangeAt Go.RowKit
open M1
set_option linter.unusedVariables false
set_option linter.unusedSimpArgs false
theorem pts_bd' {N : Nat} (h : Sz4 N) (k : Nat) : (ptsN N).getD k 0 < 2 * N + 1 := by
  by_cases hk : k < N
  · rw [ptsN_get N k hk]
    have := back_lt0 h k
    omega
  · have e : (ptsN N).getD k 0 = 0 := by simp [List.getD, List.getElem?_eq_none (show (ptsN N).length ≤ k by rw [ptsN_len]; omega)]
    omega
theorem spec_powN (a e p : Nat) (W : World) (ha : a < p) (he : e ≤ 1000000) (hp : 2 ≤ p) (hp' : p ≤ 268435456) :
    Calls Tryz.prog 144 #[.int .i64 a, .int .i64 e, .int .i64 p] W fun en w' => en = .returned (.int .i64 ((a ^ e % p : Nat) : Int)) ∧ w' = W := by
  have c := spec_pow a e p W ⟨by omega, by omega⟩ ⟨by omega, by omega⟩ ⟨by omega, by omega⟩
  have e1 : ((a : Int) % (p : Int)).toNat = a := by rw [← Int.natCast_emod, Int.toNat_natCast, Nat.mod_eq_of_lt ha]
  rw [e1, Int.toNat_natCast, Int.toNat_natCast] at c
  exact c
end Go.Proofs.YtkggfljdbdfonaaGreatDoor
/- Proved: a part of a row, cut out of it. -/
namespace Go.Proofs.YtkggfljdbdfonaaGreatDoor
open Go.ChangeShapes Go.WideShapes Go.ChangeAt Go.RowKit
set_option linter.unusedVariables false
set_option linter.unusedSimpArgs false
theorem impl_partOf (g N part parts size : Nat) (w : World) (hN : 2 ≤ N ∧ N ≤ 16) (hp : N = parts * size) (h1 : 1 ≤ parts) (h2 : 1 ≤ size) (hlt : part < parts) :
    Calls Tryz.prog 178 #[.slice (some ⟨g, 0, none⟩) N N, .int .i64 part, .int .i64 parts] w fun e w' => e = .returned (.slice (some ⟨g, part * size, none⟩) size (N - part * size)) ∧ w' = w := by
  have hd : N / parts = size := by rw [hp]; exact Nat.mul_div_cancel_left _ (by omega)
  have e0 : (N : Int) / (parts : Int) = (size : Int) := by rw [← hd]; simp
  have hle : (part + 1) * size ≤ N := by rw [hp]; exact Nat.mul_le_mul_right _ (by omega)
  have e1 : (part : Int) * (size : Int) = ((part * size : Nat) : Int) := by simp
  have e2 : ((part : Int) + 1) * (size : Int) = (((part + 1) * size : Nat) : Int) := by simp
  have e3 : (part + 1) * size = part * size + size := by rw [Nat.add_mul, Nat.one_mul]
  have hpt : part ≤ 16 := by
    have := Nat.mul_le_mul_right size hlt
    have : parts ≤ parts * size := Nat.le_mul_of_pos_right _ (by omega)
    omega
  have hpp : parts ≤ 16 := by
    have : parts ≤ parts * size := Nat.le_mul_of_pos_right _ (by omega)
    omega
  have hsz : size ≤ 16 := by
    have : size ≤ parts * size := Nat.le_mul_of_pos_left _ (by omega)
    omega
  rw [e3] at e2 hle
  generalize part * size = lo at *
  obtain ⟨hi, hhi⟩ : ∃ hi, hi = lo + size := ⟨_, rfl⟩
  rw [← hhi] at e2 hle
  have es : hi - lo = size := by omega
  have hlh : lo ≤ hi := by omega
  have hlh2 : lo < hi := by omega
  have hle' : (lo : Int) ≤ (hi : Int) := by omega
  have hle2 : (hi : Int) ≤ (N : Int) := by omega
  have hpn : ¬ (parts : Int) = 0 := by omega
  have hpn2 : ¬ parts = 0 := by omega
  rw [← es]
  clear hp hd e3 hhi es
  go_enter Tryz.func178, Tryz.ntmps178
  go_wp2_with fail
  all_goals
    go_ret
    first
      | (exfalso; omega)
      | exact ⟨rfl, rfl⟩
end Go.Proofs.YtkggfljdbdfonaaGreatDoor
