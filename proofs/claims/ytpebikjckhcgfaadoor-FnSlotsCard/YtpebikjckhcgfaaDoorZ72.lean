/- Proved: several texts in one: what each proves is said ahead of it. -/
import Derived.Test.YtpebikjckhcgfaaDoorZ17
import Derived.Test.YtpebikjckhcgfaaDoorZ12
/- Proved: the exponents of the slots' points and their places, by the model. -/
namespace Go.Proofs.YtpebikjckhcgfaaDoor
open Go.ChangeShapes Go.WideShapes Go.ChangeAt Go.RowKit
set_option linter.unusedVariables false
set_option linter.unusedSimpArgs false
/-- the exponent of slot k of the first row -/
def eN (N : Nat) : Nat → Nat
  | 0 => 1
  | k + 1 => 3 * eN N k % (2 * N)
/-- the exponents of all slots -/
def exL (N : Nat) : List Nat := (List.range (N / 2)).map (eN N) ++ (List.range (N / 2)).map (fun k => 2 * N - eN N k)
/-- their places -/
def plL (N : Nat) : List Nat := (exL N).map (fun e => backN (lg N) (e / 2) 0)
theorem exL_len {N : Nat} (h : Sz4 N) : (exL N).length = N := by rcases h with rfl | rfl | rfl | rfl <;> decide
theorem plL_len {N : Nat} (h : Sz4 N) : (plL N).length = N := by rcases h with rfl | rfl | rfl | rfl <;> decide
theorem eN_bd {N : Nat} (h : Sz4 N) (k : Nat) : eN N k < 2 * N := by
  cases k with
  | zero => show 1 < 2 * N; omega
  | succ k => exact Nat.mod_lt _ (by omega)
theorem exL_low {N : Nat} (h : Sz4 N) (k : Nat) (hk : k < N / 2) : (exL N).getD k 0 = eN N k := by
  unfold exL
  rw [List.getD_eq_getElem?_getD, List.getElem?_append_left (by simp; exact hk)]
  simp [hk]
theorem exL_high {N : Nat} (h : Sz4 N) (k : Nat) (hk : k < N / 2) : (exL N).getD (N / 2 + k) 0 = 2 * N - eN N k := by
  unfold exL
  rw [List.getD_eq_getElem?_getD, List.getElem?_append_right (by simp)]
  simp [hk]
theorem exL_bd {N : Nat} (h : Sz4 N) (k : Nat) : (exL N).getD k 0 < 2 * N := by
  have key : ∀ x ∈ exL N, x < 2 * N := by rcases h with rfl | rfl | rfl | rfl <;> decide
  by_cases hk : k < (exL N).length
  · rw [List.getD_eq_getElem?_getD, List.getElem?_eq_getElem hk]
    exact key _ (List.getElem_mem hk)
  · rw [List.getD_eq_getElem?_getD, List.getElem?_eq_none (by omega)]
    show 0 < 2 * N
    omega
set_option maxRecDepth 100000 in
set_option maxHeartbeats 2000000 in
theorem spec_l10Points (N : Nat) (w : World) (h : Sz4 N) :
    Calls Tryd.prog 85 #[.int .i64 N] w fun e w' => ∃ v', e = .returned v' ∧ Old w w' ∧ Own w' w.heap.size v' (toZ (exL N)) := by
  obtain ⟨i0, hi, hz0, hz1, hz2⟩ := info_parts Tryd.infoInt
  have hs := sz_bd h
  obtain ⟨H, hH⟩ : ∃ H, N / 2 = H := ⟨_, rfl⟩
  have hN2 : N = 2 * H := by omega
  have HE1 : Hid (∀ k, k < H → (toZ (exL N)).take (k + 1) = (toZ (exL N)).take k ++ [((eN N k : Nat) : Int)]) := fun k hk => by
    rw [take_succI _ k (by rw [toZ_len, exL_len h]; omega), toZ_get, exL_low h k (by omega)]
  have HE2 : Hid (∀ k, k < H → (toZ (exL N)).take (H + k + 1) = (toZ (exL N)).take (H + k) ++ [((2 * N - eN N k : Nat) : Int)]) := fun k hk => by
    rw [take_succI _ (H + k) (by rw [toZ_len, exL_len h]; omega), toZ_get, ← hH, exL_high h k (by omega)]
  have HEG : Hid (∀ k, k < H → (toZ (exL N)).getD k 0 = ((eN N k : Nat) : Int)) := fun k hk => by
    rw [toZ_get, exL_low h k (by omega)]
  have HEB : Hid (∀ k, eN N k < 2 * N) := fun k => eN_bd h k
  have HES : Hid (∀ k, eN N (k + 1) = 3 * eN N k % (2 * N)) := fun k => rfl
  have HE0 : Hid (eN N 0 = 1) := rfl
  have hzl : (toZ (exL N)).length = N := by rw [toZ_len, exL_len h]
  have HZL : Hid ((toZ (exL N)).length = N) := hzl
  generalize toZ (exL N) = zs at *
  generalize eN N = E at *
  have eh : (N : Int) / 2 = (H : Int) := by omega
  have e1 : (1 : Int) % (2 * (N : Int)) = 1 := Int.emod_eq_of_lt (by omega) (by omega)
  have hpn : ¬ (2 * (N : Int)) = 0 := by omega
  have hpn2 : ¬ N = 0 := by omega
  have hH8 : H ≤ 8 := by omega
  have HN2 : Hid (N = 2 * H) := hN2
  clear h hH hN2 hzl
  go_enter Tryd.func85, Tryd.ntmps85
  go_wp2_with fail
  go_loopw [3, 4, 5] (fun v x i W => ∃ (k : Nat) (a : Option Addr) (cap : Nat), k ≤ H ∧ i = .int .i64 k ∧ x = .int .i64 (E k) ∧ v = .slice a k cap ∧ Hid (Own W w.heap.size (.slice a k cap) (zs.take k)) ∧ Hid (Old w W)) (fun _ _ i _ => H - (intOf i).toNat)
  case atStart => exact ⟨0, none, 0, by omega, rfl, by rw [HE0.out, e1]; rfl, rfl, (by exact own_nil _ _), Old.refl _⟩
  case round =>
    obtain ⟨k, a, cap, hk, rfl, rfl, rfl, HO1, HG4⟩ := hrel
    clear e1
    have hs4 := HG4.out.size
    by_cases hlt : k < H
    · have d1 : decide ((k : Int) < (H : Int)) = true := by simp; omega
      have HT2 : Hid (zs.take (k + 1) = zs.take k ++ [((E k : Nat) : Int)]) := HE1.out k hlt
      have htk : (zs.take k).length = k := by rw [List.length_take, HZL.out]; have := HN2.out; omega
      have htk1 : (zs.take (k + 1)).length = k + 1 := by rw [List.length_take, HZL.out]; have := HN2.out; omega
      have hx := HEB.out k
      have HES' : Hid (E (k + 1) = 3 * E k % (2 * N)) := HES.out k
      generalize E k = x at *
      have e3 : (3 : Int) * (x : Int) = ((3 * x : Nat) : Int) := by omega
      have e4 : ((3 * x : Nat) : Int) % (2 * (N : Int)) = ((3 * x % (2 * N) : Nat) : Int) := by simp
      have hx3 : 3 * x ≤ 96 := by omega
      generalize 3 * x = m at *
      generalize m % (2 * N) = q at *
      go_wp2_with (at_builtin; refine wpList_append_own _ rfl _ _ 23 rfl w.heap.size 3 i0 (.int .i64 0) 1 8 Tryd.underlying23 hi hz0 hz1 hz2 rfl (by decide) _ _ _ rfl (by have := HO1.out.alloc (.cells #[.int .i64 (x : Int)] 3); unfold Own at this; rw [htk] at this; exact this) ⟨wr.heap.size, 0, none⟩ 1 1 [.int .i64 (x : Int)] rfl rfl (one_cell _ _ _) (one_one _) (by unfold maxLen; omega) (by omega) (by simp; omega) ?_; intro v5 w5 o5 g5 x5; have O5 : Hid (Own w5 w.heap.size v5 (zs.take (k + 1))) := (by have := HT2.out; show Own _ _ _ _; rw [this]; exact Own.snoc (by rw [htk]; exact o5)); have G5 : Hid (Old w w5) := Below.grown (HG4.out.alloc (.cells #[.int .i64 (x : Int)] 3)) g5 (HG4.out.alloc (.cells #[.int .i64 (x : Int)] 3)).size (fun j hj => (HO1.out.lt j hj).1); clear o5 g5 x5)
      obtain ⟨a5, cap5, rfl⟩ := (Own.row O5.out).slice
      rw [htk1] at O5 ⊢
      exact ⟨⟨k + 1, _, _, by omega, by go_num, by rw [HES'.out]; first | rfl | go_num, rfl, O5, G5⟩, by simp [intOf]; omega⟩
    · have d1 : decide ((k : Int) < (H : Int)) = false := by simp; omega
      obtain rfl : k = H := by omega
      go_wp2_with fail
      go_loopw [3, 6] (fun v i W => ∃ (j : Nat) (a : Option Addr) (cap : Nat), j ≤ k ∧ i = .int .i64 j ∧ v = .slice a ((k + j : Nat) : Int).toNat cap ∧ Hid (Own W w.heap.size (.slice a (k + j) cap) (zs.take (k + j))) ∧ Hid (Old w W)) (fun _ i _ => k - (intOf i).toNat)
      case atStart => exact ⟨0, a, cap, by omega, rfl, rfl, HO1, HG4⟩
      case round =>
        obtain ⟨j, a2, cap2, hj, rfl, rfl, HO2, HG5⟩ := hrel
        rw [Int.toNat_natCast] at *
        have hs5 := HG5.out.size
        by_cases hjl : j < k
        · have d2 : decide ((j : Int) < (k : Int)) = true := by simp; omega
          have HT2 : Hid (zs.take (k + j + 1) = zs.take (k + j) ++ [((2 * N - E j : Nat) : Int)]) := HE2.out j hjl
          have htk : (zs.take (k + j)).length = k + j := by rw [List.length_take, HZL.out]; have := HN2.out; omega
          have htk1 : (zs.take (k + j + 1)).length = k + j + 1 := by rw [List.length_take, HZL.out]; have := HN2.out; omega
          have hcell : (zs.take (k + j)).getD j 0 = ((E j : Nat) : Int) := by
            rw [← HEG.out j hjl]
            simp [List.getD, List.getElem?_take, show j < k + j by omega]
          obtain ⟨L, hL⟩ : ∃ L, k + j = L := ⟨_, rfl⟩
          rw [hL] at HO2 HT2 htk htk1 hcell ⊢
          obtain ⟨b2, o2, hx2⟩ : ∃ b o, a2 = some ⟨b, o, none⟩ ∧ b < wr.heap.size ∧ wr.cell? ⟨b, o + j, none⟩ = some (.int .i64 (E j)) := by
            rcases Own.row HO2.out with ⟨a', c', e', e''⟩ | ⟨b, o, c', e', hb, _, hc⟩
            · rw [e''] at htk
              simp at htk
              omega
            · injection e' with e1 e2 e3
              refine ⟨b, o, e1, hb, ?_⟩
              have := hc j (by rw [htk]; omega)
              rw [hcell] at this
              exact this
          obtain ⟨rfl, hb2, hc2⟩ := hx2
          have hx := HEB.out j
          generalize E j = x at *
          have e3 : 2 * (N : Int) - (x : Int) = ((2 * N - x : Nat) : Int) := by omega
          have hm : 2 * N - x ≤ 32 := by omega
          generalize 2 * N - x = m at *
          have hjL : j < L := by omega
          have hL16 : L ≤ 16 := by omega
          have HL : Hid (k + j = L) := hL
          clear hL
          go_wp2_with (at_builtin; refine wpList_append_own _ rfl _ _ 23 rfl w.heap.size 3 i0 (.int .i64 0) 1 8 Tryd.underlying23 hi hz0 hz1 hz2 rfl (by decide) _ _ _ rfl (by have := HO2.out.alloc (.cells #[.int .i64 (m : Int)] 3); unfold Own at this; rw [htk] at this; exact this) ⟨wr.heap.size, 0, none⟩ 1 1 [.int .i64 (m : Int)] rfl rfl (one_cell _ _ _) (one_one _) (by unfold maxLen; omega) (by omega) (by simp; omega) ?_; intro v5 w5 o5 g5 x5; have O5 : Hid (Own w5 w.heap.size v5 (zs.take (L + 1))) := (by have := HT2.out; show Own _ _ _ _; rw [this]; exact Own.snoc (by rw [htk]; exact o5)); have G5 : Hid (Old w w5) := Below.grown (HG5.out.alloc (.cells #[.int .i64 (m : Int)] 3)) g5 (HG5.out.alloc (.cells #[.int .i64 (m : Int)] 3)).size (fun j hj => (HO2.out.lt j hj).1); clear o5 g5 x5)
          obtain ⟨a5, cap5, rfl⟩ := (Own.row O5.out).slice
          rw [htk1] at O5 ⊢
          have hL := HL.out
          subst hL
          exact ⟨⟨j + 1, _, _, by omega, by go_num, rfl, O5, G5⟩, by simp [intOf]; omega⟩
        · have d2 : decide ((j : Int) < (k : Int)) = false := by simp; omega
          obtain rfl : j = k := by omega
          have HF : Hid (Own wr w.heap.size (.slice a2 (j + j) cap2) zs) := by
            have := HO2.out
            rw [List.take_of_length_le (by rw [HZL.out]; have := HN2.out; omega)] at this
            exact this
          go_wp2_with fail
          go_ret
          exact ⟨_, rfl, HG5.out, HF.out⟩
end Go.Proofs.YtpebikjckhcgfaaDoor
/- Proved: contracts of MaySlot, TurnOfRows, TurnOfSwap and SlotPoints, of the model; of MaySlot, of the program. -/
namespace Go.Proofs.YtpebikjckhcgfaaDoor
open Go.ChangeShapes Go.WideShapes Go.ChangeAt Go.RowKit
open M1
set_option linter.unusedVariables false
set_option linter.unusedSimpArgs false
set_option maxRecDepth 100000 in
set_option maxHeartbeats 2000000 in
theorem spec_MaySlot_no (n p : Int) (w : World) (hp : -9223372036854775808 ≤ p ∧ p ≤ 9223372036854775807) (h : ¬ RingOk p n) :
    Calls Tryd.prog 24 #[.int .i64 n, .int .i64 p] w fun e w' => e = .returned (.bool false) ∧ Old w w' := by
  have c0 := fun W => spec_isSize n W
  have cm := fun W => spec_modulus p W
  cases hs : rgB n
  · rw [hs] at c0
    clear h hs cm
    go_enter Tryd.func24, Tryd.ntmps24
    go_wp2_with fail
    refine (c0 _).mono ?_
    rintro e w1 ⟨rfl, hw⟩
    obtain rfl := hw.symm
    go_wp2_with fail
    go_ret
    exact ⟨rfl, Old.refl _⟩
  rw [hs] at c0
  have hz := rgB_yes hs
  cases hm : modB p
  · rw [hm] at cm
    clear h hs hz hm
    go_enter Tryd.func24, Tryd.ntmps24
    go_wp2_with fail
    refine (c0 _).mono ?_
    rintro e w1 ⟨rfl, hw⟩
    obtain rfl := hw.symm
    go_wp2_with fail
    refine (cm _).mono ?_
    rintro e w1 ⟨rfl, hw⟩
    obtain rfl := hw.symm
    go_wp2_with fail
    go_ret
    exact ⟨rfl, Old.refl _⟩
  rw [hm] at cm
  obtain ⟨m1, m2⟩ := modB_yes hm
  have c := fun W => spec_IsPrime p.toNat W (by omega)
  rw [Int.toNat_of_nonneg (by omega)] at c
  have hb : 2 ≤ n ∧ n ≤ 16 := by omega
  cases hi : isP p.toNat
  · rw [hi] at c
    clear h hs hz hi hm
    go_enter Tryd.func24, Tryd.ntmps24
    go_wp2_with fail
    refine (c0 _).mono ?_
    rintro e w1 ⟨rfl, hw⟩
    obtain rfl := hw.symm
    go_wp2_with fail
    refine (cm _).mono ?_
    rintro e w1 ⟨rfl, hw⟩
    obtain rfl := hw.symm
    go_wp2_with fail
    refine (c _).mono ?_
    rintro e w2 ⟨rfl, g2⟩
    go_wp2_with fail
    go_ret
    exact ⟨rfl, g2⟩
  · rw [hi] at c
    have hd : ((p - 1) % (2 * n) == 0) = false := by
      simp only [beq_eq_false_iff_ne]
      exact fun h4 => h ⟨hz, hm, hi, h4⟩
    have hnn : ¬ n = 0 := by omega
    have hnn2 : ¬ 2 * n = 0 := by omega
    clear h hs hz hi hm
    go_enter Tryd.func24, Tryd.ntmps24
    go_wp2_with fail
    refine (c0 _).mono ?_
    rintro e w1 ⟨rfl, hw⟩
    obtain rfl := hw.symm
    go_wp2_with fail
    refine (cm _).mono ?_
    rintro e w1 ⟨rfl, hw⟩
    obtain rfl := hw.symm
    go_wp2_with fail
    refine (c _).mono ?_
    rintro e w2 ⟨rfl, g2⟩
    go_wp2_with fail
    go_ret
    exact ⟨rfl, g2⟩
set_option maxRecDepth 100000 in
set_option maxHeartbeats 2000000 in
theorem spec_MaySlot_yes (n p : Nat) (w : World) (h : RingOk p n) :
    Calls Tryd.prog 24 #[.int .i64 n, .int .i64 p] w fun e w' => e = .returned (.bool true) ∧ Old w w' := by
  obtain ⟨hz, hm, hi, hd⟩ := h
  have c0 := fun W => spec_isSize n W
  rw [rgB_mk hz] at c0
  have cm := fun W => spec_modulus p W
  rw [hm] at cm
  obtain ⟨m1, m2⟩ := modB_yes hm
  rw [Int.toNat_natCast] at hi
  have c := fun W => spec_IsPrime p W (by omega)
  rw [hi] at c
  have hd' : (((p : Int) - 1) % (2 * (n : Int)) == 0) = true := by simp [hd]
  have hb : 2 ≤ n ∧ n ≤ 16 := by omega
  have hnn : ¬ n = 0 := by omega
  have hnn2 : ¬ 2 * (n : Int) = 0 := by omega
  clear hi hd hz hm
  go_enter Tryd.func24, Tryd.ntmps24
  go_wp2_with fail
  refine (c0 _).mono ?_
  rintro e w1 ⟨rfl, hw⟩
  obtain rfl := hw.symm
  go_wp2_with fail
  refine (cm _).mono ?_
  rintro e w1 ⟨rfl, hw⟩
  obtain rfl := hw.symm
  go_wp2_with fail
  refine (c _).mono ?_
  rintro e w2 ⟨rfl, g2⟩
  go_wp2_with fail
  go_ret
  exact ⟨rfl, g2⟩
set_option maxRecDepth 100000 in
set_option maxHeartbeats 2000000 in
theorem impl_MaySlot_of (n p : Int) (w : World) (hP : PrsW w) (hT : TabW w) (x y z : Int) (ok : Bool) (c : ∀ W, PrsW W → TabW W → Calls Tryd.prog 61 #[.int .i64 p, .int .i64 n] W fun e w' => e = .returned (.tuple #[.agg #[.int .i64 x, .int .i64 y, .int .i64 z], .bool ok]) ∧ Old W w') :
    Calls Tryd.prog 25 #[.int .i64 n, .int .i64 p] w fun e w' => e = .returned (.bool ok) ∧ Old w w' := by
  have HP : Hid (PrsW w) := hP
  have HT : Hid (TabW w) := hT
  clear hP hT
  go_enter Tryd.func25, Tryd.ntmps25
  go_wp2_with fail
  refine (c _ HP.out HT.out).mono ?_
  rintro e w1 ⟨rfl, g1⟩
  go_wp2_with fail
  go_ret
  exact ⟨rfl, g1.alloc _⟩
set_option maxRecDepth 100000 in
set_option maxHeartbeats 1000000 in
theorem spec_TurnOfRows_no (n k : Int) (w : World) (h : (rgB n && resB k (n / 2)) = false) :
    Calls Tryd.prog 33 #[.int .i64 n, .int .i64 k] w fun e w' => e = .returned (.tuple #[.int .i64 0, .bool false]) ∧ Old w w' := by
  have c0 := fun W => spec_isSize n W
  cases hs : rgB n
  · rw [hs] at c0
    clear h hs
    go_enter Tryd.func33, Tryd.ntmps33
    go_wp2_with fail
    refine (c0 _).mono ?_
    rintro e w1 ⟨rfl, hw⟩
    obtain rfl := hw.symm
    go_wp2_with fail
    go_ret2
    exact ⟨rfl, Old.refl _⟩
  · rw [hs] at c0
    have hr : resB k (n / 2) = false := by rw [hs] at h; simpa using h
    have hz := rgB_yes hs
    obtain ⟨q, hq⟩ : ∃ q, n / 2 = q := ⟨_, rfl⟩
    have c1 := fun W => spec_res k q W
    rw [hq] at hr
    rw [hr] at c1
    have hb : 2 ≤ n ∧ n ≤ 16 := by omega
    have hqb : 1 ≤ q ∧ q ≤ 8 := by omega
    clear h hs hz
    go_enter Tryd.func33, Tryd.ntmps33
    go_wp2_with fail
    refine (c0 _).mono ?_
    rintro e w1 ⟨rfl, hw⟩
    obtain rfl := hw.symm
    go_wp2_with fail
    refine (c1 _).mono ?_
    rintro e w1 ⟨rfl, hw⟩
    obtain rfl := hw.symm
    go_wp2_with fail
    go_ret2
    exact ⟨rfl, Old.refl _⟩
set_option maxRecDepth 100000 in
set_option maxHeartbeats 1000000 in
theorem spec_TurnOfRows_yes (N K : Nat) (w : World) (h : Sz4 N) (hK : K < N / 2) :
    Calls Tryd.prog 33 #[.int .i64 N, .int .i64 K] w fun e w' => e = .returned (.tuple #[.int .i64 ((exL N).getD K 0 : Nat), .bool true]) ∧ Old w w' := by
  have c0 := fun W => spec_isSize N W
  rw [rgB_mk (by omega)] at c0
  obtain ⟨H, hH⟩ : ∃ H, N / 2 = H := ⟨_, rfl⟩
  have eh : (N : Int) / 2 = (H : Int) := by omega
  have c1 := fun W => spec_res K H W
  rw [show resB (K : Int) (H : Int) = true from by simp [resB]; omega] at c1
  have c2 := fun W => spec_l10Points N W h
  have hb := sz_bd h
  have hKn : K < N := by omega
  have hl := exL_len h
  have hHb : 1 ≤ H ∧ H ≤ 8 := by omega
  have hKi : (K : Int) < (N : Int) := by omega
  clear h hH
  generalize exL N = xs at *
  obtain ⟨z, hz⟩ : ∃ z, xs.getD K 0 = z := ⟨_, rfl⟩
  rw [hz]
  have HZ : Hid (xs.getD K 0 = z) := hz
  clear hz
  go_enter Tryd.func33, Tryd.ntmps33
  go_wp2_with fail
  refine (c0 _).mono ?_
  rintro e w1 ⟨rfl, hw⟩
  obtain rfl := hw.symm
  go_wp2_with fail
  refine (c1 _).mono ?_
  rintro e w1 ⟨rfl, hw⟩
  obtain rfl := hw.symm
  go_wp2_with fail
  refine (c2 _).mono ?_
  rintro e w1 ⟨v1, rfl, g1, o1⟩
  obtain ⟨b1, o1', cap1, rfl, hb1, hc1⟩ := (Own.row o1).atZ (by omega)
  rw [hl] at hc1 ⊢
  have x1 := hc1 K hKn
  have HG : Hid (Old w w1) := g1
  rw [HZ.out] at x1
  clear o1 g1 hc1 hl
  go_wp2_with fail
  go_ret2
  exact ⟨rfl, HG.out⟩
set_option maxRecDepth 100000 in
set_option maxHeartbeats 1000000 in
theorem spec_TurnOfSwap_any (n : Int) (w : World) (z : Int) (ok : Bool) (hok : rgB n = ok) (h1 : ok = true → z = 2 * n - 1) (h0 : ok = false → z = 0) :
    Calls Tryd.prog 35 #[.int .i64 n] w fun e w' => e = .returned (.tuple #[.int .i64 z, .bool ok]) ∧ Old w w' := by
  have c0 := fun W => spec_isSize n W
  rw [hok] at c0
  cases ok
  · obtain rfl := h0 rfl
    clear h1 h0 hok
    go_enter Tryd.func35, Tryd.ntmps35
    go_wp2_with fail
    refine (c0 _).mono ?_
    rintro e w1 ⟨rfl, hw⟩
    obtain rfl := hw.symm
    go_wp2_with fail
    go_ret2
    exact ⟨rfl, Old.refl _⟩
  · have hz := rgB_yes hok
    have hzz := h1 rfl
    have hb : 2 ≤ n ∧ n ≤ 16 := by omega
    subst hzz
    clear h1 h0 hok hz
    go_enter Tryd.func35, Tryd.ntmps35
    go_wp2_with fail
    refine (c0 _).mono ?_
    rintro e w1 ⟨rfl, hw⟩
    obtain rfl := hw.symm
    go_wp2_with fail
    go_ret2
    exact ⟨rfl, Old.refl _⟩
set_option maxRecDepth 100000 in
set_option maxHeartbeats 1000000 in
theorem spec_SlotPoints_no (n : Int) (w : World) (h : rgB n = false) :
    Calls Tryd.prog 26 #[.int .i64 n] w fun e w' => e = .returned (.tuple #[.slice none 0 0, .bool false]) ∧ Old w w' := by
  have c0 := fun W => spec_isSize n W
  rw [h] at c0
  clear h
  go_enter Tryd.func26, Tryd.ntmps26
  go_wp2_with fail
  refine (c0 _).mono ?_
  rintro e w1 ⟨rfl, hw⟩
  obtain rfl := hw.symm
  go_wp2_with fail
  go_ret2
  exact ⟨rfl, Old.refl _⟩
set_option maxRecDepth 100000 in
set_option maxHeartbeats 1000000 in
theorem spec_SlotPoints_yes (N : Nat) (w : World) (h : Sz4 N) :
    Calls Tryd.prog 26 #[.int .i64 N] w fun e w' => ∃ v', e = .returned (.tuple #[v', .bool true]) ∧ Old w w' ∧ Own w' w.heap.size v' (toZ (exL N)) := by
  have c0 := fun W => spec_isSize N W
  rw [rgB_mk (by omega)] at c0
  have c2 := fun W => spec_l10Points N W h
  have hb := sz_bd h
  clear h
  generalize exL N = xs at *
  go_enter Tryd.func26, Tryd.ntmps26
  go_wp2_with fail
  refine (c0 _).mono ?_
  rintro e w1 ⟨rfl, hw⟩
  obtain rfl := hw.symm
  go_wp2_with fail
  refine (c2 _).mono ?_
  rintro e w1 ⟨v1, rfl, g1, o1⟩
  have HG : Hid (Old w w1) := g1
  have HO : Hid (Own w1 w.heap.size v1 (toZ xs)) := o1
  obtain ⟨a, c, e⟩ : ∃ a c, v1 = .slice a xs.length c := by
    obtain ⟨a, c, e⟩ := (Own.row o1).slice
    rw [toZ_len] at e
    exact ⟨a, c, e⟩
  subst e
  clear o1 g1
  go_wp2_with fail
  go_ret2
  exact ⟨_, rfl, HG.out, HO.out⟩
end Go.Proofs.YtpebikjckhcgfaaDoor
