/- Proved: the program's table of a turn: at each place the place of the point's power; none where the size or the turn is not as said. -/
import Derived.Test.YtcnkanjkdkjceaaDoorPoints
namespace Go.Proofs.YtcnkanjkdkjceaaDoor
open Go.ChangeShapes Go.WideShapes Go.ChangeAt Go.RowKit
set_option linter.unusedVariables false
set_option linter.unusedSimpArgs false
def tabN (N t : Nat) : List Nat := (List.range N).map (fun k => backN (lg N) ((2 * backN (lg N) k 0 + 1) * t % (2 * N) / 2) 0)
theorem tabN_len (N t : Nat) : (tabN N t).length = N := by simp [tabN]
theorem tabN_get (N t k : Nat) (h : k < N) : (tabN N t).getD k 0 = backN (lg N) ((2 * backN (lg N) k 0 + 1) * t % (2 * N) / 2) 0 := by simp [tabN, List.getD, h]
theorem impl_TurnTable_no (n t : Int) (w : World) (ht : -9223372036854775808 ≤ t ∧ t ≤ 9223372036854775807) (h : (rgB n && turnB n t) = false) :
    Calls Tryd.prog 22 #[.int .i64 n, .int .i64 t] w fun e w' => e = .returned (.tuple #[.slice none 0 0, .bool false]) ∧ Old w w' := by
  have c0 := fun W => impl_isSize n W
  cases hs : rgB n
  · rw [hs] at c0
    clear h hs
    go_enter Tryd.func22, Tryd.ntmps22
    go_wp2_with fail
    refine (c0 _).mono ?_
    rintro e w1 ⟨rfl, rfl⟩
    go_wp2_with fail
    go_ret2
    exact ⟨rfl, Old.refl _⟩
  · rw [hs] at c0
    have hn : 2 ≤ n ∧ n ≤ 16 := by have := rgB_yes hs; omega
    have c1 := fun W => impl_isTurn t n W ht hn
    rw [show turnB n t = false by rw [hs, Bool.true_and] at h; exact h] at c1
    clear h hs
    go_enter Tryd.func22, Tryd.ntmps22
    go_wp2_with fail
    refine (c0 _).mono ?_
    rintro e w1 ⟨rfl, rfl⟩
    go_wp2_with fail
    refine (c1 _).mono ?_
    rintro e w1 ⟨rfl, rfl⟩
    go_wp2_with fail
    go_ret2
    exact ⟨rfl, Old.refl _⟩
theorem spec_TurnTable_no (n t : Int) (w : World) (ht : -9223372036854775808 ≤ t ∧ t ≤ 9223372036854775807) (h : (rgB n && turnB n t) = false) :
    Calls Tryd.prog 34 #[.int .i64 n, .int .i64 t] w fun e w' => e = .returned (.tuple #[.slice none 0 0, .bool false]) ∧ Old w w' := by
  have c0 := fun W => spec_isSize n W
  cases hs : rgB n
  · rw [hs] at c0
    clear h hs
    go_enter Tryd.func34, Tryd.ntmps34
    go_wp2_with fail
    refine (c0 _).mono ?_
    rintro e w1 ⟨rfl, rfl⟩
    go_wp2_with fail
    go_ret2
    exact ⟨rfl, Old.refl _⟩
  · rw [hs] at c0
    have hn : 2 ≤ n ∧ n ≤ 16 := by have := rgB_yes hs; omega
    have c1 := fun W => spec_odd n t W ht hn
    rw [show turnB n t = false by rw [hs, Bool.true_and] at h; exact h] at c1
    clear h hs
    go_enter Tryd.func34, Tryd.ntmps34
    go_wp2_with fail
    refine (c0 _).mono ?_
    rintro e w1 ⟨rfl, rfl⟩
    go_wp2_with fail
    refine (c1 _).mono ?_
    rintro e w1 ⟨rfl, rfl⟩
    go_wp2_with fail
    go_ret2
    exact ⟨rfl, Old.refl _⟩
theorem et_bd (x t N : Nat) (hx : x < N) (hN : N ≤ 16) (ht : t < 2 * N) : (2 * x + 1) * t ≤ 1056 := by
  have := Nat.mul_le_mul (show 2 * x + 1 ≤ 33 by omega) (show t ≤ 32 by omega)
  omega
set_option maxRecDepth 100000 in
set_option maxHeartbeats 1000000 in
theorem impl_TurnTable_yes (N t : Nat) (w : World) (hT : TabW w) (h : Sz4 N) (ht : turnB N t = true) (htl : t < 2 * N) :
    Calls Tryd.prog 22 #[.int .i64 N, .int .i64 t] w fun e w' => ∃ v', e = .returned (.tuple #[v', .bool true]) ∧ Old w w' ∧ Own w' w.heap.size v' (toZ (tabN N t)) := by
  obtain ⟨i0, hi, hz0, hz1, hz2⟩ := info_parts Tryd.infoInt
  have hs := sz_bd h
  have c0 := fun W => impl_isSize N W
  rw [rgB_mk (by omega)] at c0
  have c1 := fun W => impl_isTurn t N W (by omega) (by omega)
  rw [ht] at c1
  have HEX : Hid (∀ k, k < N → ∀ W, TabW W → Calls Tryd.prog 52 #[.int .i64 k, .int .i64 N] W fun e w' => e = .returned (.int .i64 ((2 * backN (lg N) k 0 + 1 : Nat) : Int)) ∧ w' = W) := fun k hk W hT => impl_exponent N k W h hk hT
  have HPL : Hid (∀ m, m < 2 * N → ∀ W, TabW W → Calls Tryd.prog 51 #[.int .i64 m, .int .i64 N] W fun e w' => e = .returned (.int .i64 (backN (lg N) (m / 2) 0)) ∧ w' = W) := fun m hm W hT => impl_place N m W h hm hT
  have HE : Hid (∀ k, k < N → (toZ (tabN N t)).getD k 0 = ((backN (lg N) ((2 * backN (lg N) k 0 + 1) * t % (2 * N) / 2) 0 : Nat) : Int)) := fun k hk => by rw [toZ_get, tabN_get N t k hk]
  have hzl : (toZ (tabN N t)).length = N := by rw [toZ_len, tabN_len]
  have HBL : Hid (∀ k, backN (lg N) k 0 < N) := fun k => back_lt0 h k
  generalize toZ (tabN N t) = zs at *
  have HT : Hid (TabW w) := hT
  clear ht h hT
  have hpn : ¬ (2 * (N : Int)) = 0 := by omega
  have hpn2 : ¬ N = 0 := by omega
  go_enter Tryd.func22, Tryd.ntmps22
  go_wp2_with fail
  refine (c0 _).mono ?_
  rintro e w1 ⟨rfl, hw⟩
  obtain rfl : w = w1 := hw.symm
  go_wp2_with fail
  refine (c1 _).mono ?_
  rintro e w1 ⟨rfl, hw⟩
  obtain rfl : w = w1 := hw.symm
  go_wp2_with (at_make; refine wpList_make_full _ rfl _ _ 25 rfl w.heap.size 3 i0 (.int .i64 0) 1 Tryd.underlying25 hi hz0 hz1 .i64 .i64 _ _ N rfl rfl rfl rfl (by rw [hz2]; omega) (by unfold maxLen; omega) (by simp) ?_; intro w1 hown hgrow)
  have HO : Hid (OwnI w1 w.heap.size w.heap.size N (List.replicate N 0)) := by
    rw [made_ints] at hown
    exact hown
  have HG : Hid (Old w w1) := Old.by_ (Old.refl _) hgrow (fun b hb => by cases hb)
  clear hown hgrow
  go_loopw [7, 20] (fun x i W => ∃ k : Nat, k ≤ N ∧ i = .int .i64 k ∧ Hid (OwnI W w.heap.size w.heap.size N (fillN zs k)) ∧ Hid (Old w W)) (fun _ i _ => N - (intOf i).toNat)
  case atStart => exact ⟨0, by omega, rfl, (by show OwnI _ _ _ _ _; rw [fillN_zero, hzl]; exact HO.out), HG⟩
  case round =>
    obtain ⟨k, hk, rfl, HO1, HG2⟩ := hrel
    clear HO HG
    by_cases hlt : k < N
    · have d1 : decide ((k : Int) < (N : Int)) = true := by simp; omega
      have i1 : (k : Int) < (N : Int) := by omega
      have HT2 : Hid (TabW wr) := HT.out.old HG2.out
      have cx := HEX.out k hlt
      have hx := HBL.out k
      have HX : Hid (zs.getD k 0 = _) := HE.out k hlt
      generalize backN (lg N) k 0 = x at *
      have hb := et_bd x t N hx hs.2 htl
      have hm : (2 * x + 1) * t % (2 * N) < 2 * N := Nat.mod_lt _ (by omega)
      have cp := HPL.out _ hm
      have e1 : ((2 * x + 1 : Nat) : Int) * (t : Int) = (((2 * x + 1) * t : Nat) : Int) := by simp
      have e2 : (((2 * x + 1) * t : Nat) : Int) % (2 * (N : Int)) = (((2 * x + 1) * t % (2 * N) : Nat) : Int) := by simp
      generalize (2 * x + 1) * t = m at *
      generalize 2 * x + 1 = y at *
      generalize m % (2 * N) = q at *
      generalize backN (lg N) (q / 2) 0 = z at *
      have c3 := HO1.out.get (fillN_len zs k (by omega) |>.trans hzl) k hlt
      have c4 := HO1.out.free k
      generalize (fillN zs k).getD k 0 = oldv at *
      have HP : Hid (OwnI (wr.setCell ⟨w.heap.size, k, none⟩ (.int .i64 (z : Int))) w.heap.size w.heap.size N (fillN zs (k + 1))) := by
        have := HO1.out.put k (z : Int)
        rw [← HX.out, fillN_set zs k (by omega)] at this
        rw [← HX.out]
        exact this
      have HN2 : Hid (Old w (wr.setCell ⟨w.heap.size, k, none⟩ (.int .i64 (z : Int)))) := HG2.out.own (by simp) _
      go_wp2_with fail
      refine (cx _ HT2.out).mono ?_
      rintro e w2 ⟨rfl, hw⟩
      obtain rfl : wr = w2 := hw.symm
      go_wp2_with fail
      refine (cp _ HT2.out).mono ?_
      rintro e w2 ⟨rfl, hw⟩
      obtain rfl : wr = w2 := hw.symm
      go_wp2_with fail
      exact ⟨⟨k + 1, by omega, by go_num, HP, HN2⟩, by simp [intOf]; omega⟩
    · have d1 : decide ((k : Int) < (N : Int)) = false := by simp; omega
      obtain rfl : k = N := by omega
      have HF : Hid (Own wr w.heap.size (.slice (some ⟨w.heap.size, 0, none⟩) k k) zs) := by
        have := HO1.out.own ((fillN_len zs k (by omega)).trans hzl)
        rw [show fillN zs k = zs by rw [← hzl]; exact fillN_all zs] at this
        exact this
      go_wp2_with fail
      go_ret2
      exact ⟨_, rfl, HG2.out, HF.out⟩
end Go.Proofs.YtcnkanjkdkjceaaDoor
