/- Proved: contracts of noise, of the program and of the model: the bits set among the lowest b, less those among the next b. -/
import Derived.Test.YtonbimgdkafnjaaCoin4
namespace Go.Proofs.Ytonbimgdkafnjaa
open Go.ChangeShapes Go.WideShapes Go.ChangeAt Go.RowKit
set_option linter.unusedVariables false
set_option linter.unusedSimpArgs false
theorem bit_mod (x b i : Nat) (h : i < b) : x % 2 ^ b / 2 ^ i % 2 = x / 2 ^ i % 2 := by
  have e := Nat.testBit_mod_two_pow x b i
  rw [decide_eq_true h, Bool.true_and, Nat.testBit_eq_decide_div_mod_eq, Nat.testBit_eq_decide_div_mod_eq] at e
  have h1 := Nat.mod_two_eq_zero_or_one (x % 2 ^ b / 2 ^ i)
  have h2 := Nat.mod_two_eq_zero_or_one (x / 2 ^ i)
  by_cases h3 : x / 2 ^ i % 2 = 1
  · rw [decide_eq_true h3] at e
    rw [of_decide_eq_true e, h3]
  · rw [decide_eq_false h3] at e
    have := of_decide_eq_false e
    omega
theorem sb_low (x b : Nat) : ∀ k, k ≤ b → sb (x % 2 ^ b) k = sb x k
  | 0, _ => rfl
  | k + 1, h => by
    unfold sb
    rw [sb_low x b k (by omega), bit_mod x b k (by omega)]
theorem sb_high (y b : Nat) (hy : y < 2 ^ b) : ∀ j, sb y (b + j) = sb y b
  | 0 => rfl
  | j + 1 => by
    show sb y (b + j) + y / 2 ^ (b + j) % 2 = sb y b
    rw [sb_high y b hy j, Nat.div_eq_of_lt (Nat.lt_of_lt_of_le hy (Nat.pow_le_pow_right (by omega) (by omega))), Nat.zero_mod, Nat.add_zero]
theorem sb_mod (x b : Nat) (hb : b ≤ 16) : sb (x % 2 ^ b) 16 = sb x b := by
  have h := sb_high (x % 2 ^ b) b (Nat.mod_lt _ (Nat.two_pow_pos b)) (16 - b)
  rw [show b + (16 - b) = 16 by omega] at h
  rw [h, sb_low x b b (Nat.le_refl _)]
theorem sb_le (x : Nat) : ∀ k, sb x k ≤ k
  | 0 => Nat.le_refl _
  | k + 1 => by
    have := sb_le x k
    have h2 : x / 2 ^ k % 2 < 2 := Nat.mod_lt _ (by omega)
    unfold sb
    omega
theorem pow16 {b : Nat} (hb : b ≤ 16) : 2 ^ b ≤ 65536 := Nat.pow_le_pow_right (by omega) hb
/-- what noise is drawn from a word -/
def nz (x b : Nat) : Int := (sb x b : Int) - (sb (x / 2 ^ b) b : Int)
/-- the first k terms of it -/
def nzK (x b k : Nat) : Int := (sb x k : Int) - (sb (x / 2 ^ b) k : Int)
theorem nzK_succ (x b k : Nat) : nzK x b (k + 1) = nzK x b k + (((x / 2 ^ k % 2 : Nat) : Int) - ((x / 2 ^ (b + k) % 2 : Nat) : Int)) := by
  show ((sb x k + x / 2 ^ k % 2 : Nat) : Int) - ((sb (x / 2 ^ b) k + x / 2 ^ b / 2 ^ k % 2 : Nat) : Int) = (sb x k : Int) - (sb (x / 2 ^ b) k : Int) + _
  rw [Nat.div_div_eq_div_mul, ← Nat.pow_add]
  omega
theorem nzK_le (x b k : Nat) : -(k : Int) ≤ nzK x b k ∧ nzK x b k ≤ k := by
  have := sb_le x k
  have := sb_le (x / 2 ^ b) k
  unfold nzK
  omega
/-- what noise leaves -/
def NzP (ws : List Int) (w : World) (c k b : Nat) (e : Ending) (w' : World) : Prop :=
  Chg w w' c (c + 2) ∧ ((k < ws.length ∧ e = .returned (.tuple #[.int .i64 (nz (ws.getD k 0).toNat b), .bool true]) ∧ Pu w' c ws (k + 1)) ∨ (k = ws.length ∧ ∃ y, e = .returned (.tuple #[.int .i64 y, .bool false])))
set_option maxRecDepth 100000 in
set_option maxHeartbeats 2000000 in
theorem noise_p (ws : List Int) (c k b : Nat) (w : World) (hw : wdB ws = true) (hl : ws.length ≤ 4000) (h : Pu w c ws k) (hb : 1 ≤ b ∧ b ≤ 16) :
    Calls Try.prog 55 #[.pointer (some ⟨c + 1, 0, none⟩), .int .i64 b] w fun e w' => NzP ws w c k b e w' := by
  obtain ⟨b1, b2⟩ := hb
  have HP : Hid (Pu w c ws k) := h
  have HW : Hid (wdB ws = true) := hw
  clear h hw
  obtain ⟨B, hB⟩ : ∃ B, B = 2 ^ b := ⟨_, rfl⟩
  have lB : B ≤ 65536 := by rw [hB]; exact pow16 b2
  have lB1 : 1 ≤ B := by rw [hB]; exact Nat.two_pow_pos b
  have E1 : IntKind.u64.wrap ((2 : Int) ^ b) = (B : Int) := by
    rw [show ((2 : Int) ^ b) = ((2 ^ b : Nat) : Int) by simp, ← hB, IntKind.wrap_u64]; omega
  obtain ⟨m, hm⟩ : ∃ m, m + 1 = B := ⟨B - 1, by omega⟩
  have E2 : (B : Int) - 1 = (m : Int) := by omega
  have HB : Hid (B = 2 ^ b) := hB
  have HM : Hid (m + 1 = B) := hm
  have lm : m ≤ 65535 := by omega
  clear hB hm
  go_enter Try.func55, Try.ntmps55
  go_wp2_with fail
  refine (take_any ws c k w HP.out hl).mono ?_
  rintro e w1 ⟨g1, t1⟩
  have HG1 : Hid (Chg w w1 c (c + 2)) := g1
  obtain ⟨x, y0, rfl, lx, HU⟩ : ∃ (x : Nat) (y0 : Bool), e = .returned (.tuple #[.int .i64 x, .bool y0]) ∧ x < 4294967296 ∧ Hid ((k < ws.length ∧ x = (ws.getD k 0).toNat ∧ y0 = true ∧ Pu w1 c ws (k + 1)) ∨ (k = ws.length ∧ y0 = false)) := by
    rcases t1.out with ⟨h1, h2, h3⟩ | ⟨h1, h2, h3⟩
    · have := wdB_get HW.out k h1
      exact ⟨(ws.getD k 0).toNat, true, by rw [h2, Int.toNat_of_nonneg this.1], by omega, Or.inl ⟨h1, rfl, rfl, h3⟩⟩
    · exact ⟨0, false, h2, by omega, Or.inr ⟨h1, rfl⟩⟩
  clear t1 g1
  obtain ⟨h, hh⟩ : ∃ h, h = x / B := ⟨_, rfl⟩
  have E3 : (x : Int) / (2 : Int) ^ b = (h : Int) := by rw [hh, HB.out]; simp
  have lh : h ≤ x := by rw [hh]; exact Nat.div_le_self _ _
  have hmod : ∀ z : Nat, z &&& m = z % B := fun z => by
    rw [HB.out, ← Nat.and_two_pow_sub_one_eq_mod, ← HB.out, ← HM.out, Nat.add_sub_cancel]
  have E4 : bits .and .u64 (x : Int) (m : Int) = ((x % B : Nat) : Int) := by rw [← hmod]; exact and_letter x m (by omega) (by omega)
  have E5 : bits .and .u64 (h : Int) (m : Int) = ((h % B : Nat) : Int) := by rw [← hmod]; exact and_letter h m (by omega) (by omega)
  have l1 : x % B < 65536 := Nat.lt_of_lt_of_le (Nat.mod_lt _ (by omega)) lB
  have l2 : h % B < 65536 := Nat.lt_of_lt_of_le (Nat.mod_lt _ (by omega)) lB
  have K1 : Hid (∀ W, Calls Try.prog 90 #[.int .u64 ((x % B : Nat) : Int)] W fun e w' => e = .returned (.int .i64 (sb x b : Nat)) ∧ w' = W) := fun W => by
    have := onesCount_any (x % B) l1 W
    rw [HB.out, sb_mod x b b2] at this
    rw [HB.out]
    exact this
  have K2 : Hid (∀ W, Calls Try.prog 90 #[.int .u64 ((h % B : Nat) : Int)] W fun e w' => e = .returned (.int .i64 (sb h b : Nat)) ∧ w' = W) := fun W => by
    have := onesCount_any (h % B) l2 W
    rw [HB.out, sb_mod h b b2] at this
    rw [HB.out]
    exact this
  have HN : Hid ((sb x b : Int) - (sb h b : Int) = nz x b) := by show _ = _; unfold nz; rw [hh, HB.out]
  have n1 := sb_le x b
  have n2 := sb_le h b
  clear hh hmod
  generalize x % B = P at *
  generalize h % B = N at *
  generalize sb x b = r1 at *
  generalize sb h b = r2 at *
  go_wp2_with fail
  refine (K1.out _).mono ?_
  rintro e w' ⟨rfl, hw⟩
  obtain rfl := hw.symm
  go_wp2_with fail
  refine (K2.out _).mono ?_
  rintro e w' ⟨rfl, hw⟩
  obtain rfl := hw.symm
  go_wp2_with fail
  go_ret2
  unfold NzP
  refine ⟨HG1.out, ?_⟩
  rcases HU.out with ⟨h1, h2, h3, h4⟩ | ⟨h1, h2⟩
  · refine Or.inl ⟨h1, ?_, h4⟩
    rw [← h2, ← HN.out, h3]
    rfl
  · refine Or.inr ⟨h1, (r1 : Int) - (r2 : Int), ?_⟩
    rw [h2]
    rfl
/-- what the model's noise leaves -/
def NzM (ws : List Int) (w : World) (q : Nat) (v : Value) (k b : Nat) (e : Ending) (w' : World) : Prop :=
  Chg w w' q (q + 1) ∧ ((k < ws.length ∧ e = .returned (.int .i64 (nz (ws.getD k 0).toNat b)) ∧ Sp w' q v ws (k + 1) true) ∨ (k = ws.length ∧ (∃ y, e = .returned (.int .i64 y)) ∧ Sp w' q v ws k false))
set_option maxRecDepth 100000 in
set_option maxHeartbeats 2000000 in
theorem noise_m (ws : List Int) (q k b : Nat) (v : Value) (w : World) (hw : wdB ws = true) (hl : ws.length ≤ 4000) (h : Sp w q v ws k true) (hb : 1 ≤ b ∧ b ≤ 16) :
    Calls Try.prog 72 #[.pointer (some ⟨q, 0, none⟩), .int .i64 b] w fun e w' => NzM ws w q v k b e w' := by
  obtain ⟨b1, b2⟩ := hb
  have HP : Hid (Sp w q v ws k true) := h
  have HW : Hid (wdB ws = true) := hw
  clear h hw
  go_enter Try.func72, Try.ntmps72
  go_wp2_with fail
  refine (word_any ws q k v true w hl HP.out).mono ?_
  rintro e w1 ⟨g1, t1⟩
  have HG1 : Hid (Chg w w1 q (q + 1)) := g1
  obtain ⟨x, rfl, lx, HU⟩ : ∃ (x : Nat), e = .returned (.int .i64 x) ∧ x < 4294967296 ∧ Hid ((k < ws.length ∧ x = (ws.getD k 0).toNat ∧ Sp w1 q v ws (k + 1) true) ∨ (k = ws.length ∧ Sp w1 q v ws k false)) := by
    rcases t1 with ⟨h1, h2, h3⟩ | ⟨h1, h2, h3⟩
    · have := wdB_get HW.out k h1
      exact ⟨(ws.getD k 0).toNat, by rw [h2, Int.toNat_of_nonneg this.1], by omega, Or.inl ⟨h1, rfl, h3⟩⟩
    · exact ⟨0, h2, by omega, Or.inr ⟨h1, h3⟩⟩
  clear t1 g1
  go_wp2_with fail
  go_loopw [6, 7] (fun n i W => ∃ j : Nat, j ≤ b ∧ i = .int .i64 j ∧ n = .int .i64 (nzK x b j) ∧ W = w1) (fun _ i _ => b - (intOf i).toNat)
  case atStart => exact ⟨0, by omega, rfl, rfl, rfl⟩
  case round =>
    obtain ⟨j, hj, rfl, rfl, hwr⟩ := hrel
    obtain rfl := hwr.symm
    by_cases hlt : j < b
    · have dl : decide ((j : Int) < (b : Int)) = true := by simp; omega
      have hs := nzK_succ x b j
      have hn := nzK_le x b j
      obtain ⟨n1, n2⟩ := hn
      obtain ⟨h1, hh1⟩ : ∃ h, h = x / 2 ^ j := ⟨_, rfl⟩
      obtain ⟨h2, hh2⟩ : ∃ h, h = x / 2 ^ (b + j) := ⟨_, rfl⟩
      have E1 : (x : Int) / (2 : Int) ^ j = (h1 : Int) := by rw [hh1]; simp
      have E2 : (x : Int) / (2 : Int) ^ (b + j) = (h2 : Int) := by rw [hh2]; simp
      have lh1 : h1 ≤ x := by rw [hh1]; exact Nat.div_le_self _ _
      have lh2 : h2 ≤ x := by rw [hh2]; exact Nat.div_le_self _ _
      have E3 : bits .and .i64 (h1 : Int) 1 = ((h1 % 2 : Nat) : Int) := by rw [← Nat.and_one_is_mod]; exact andI h1 1 (by omega) (by omega)
      have E4 : bits .and .i64 (h2 : Int) 1 = ((h2 % 2 : Nat) : Int) := by rw [← Nat.and_one_is_mod]; exact andI h2 1 (by omega) (by omega)
      have HS : Hid (nzK x b j + (((h1 % 2 : Nat) : Int) - ((h2 % 2 : Nat) : Int)) = nzK x b (j + 1)) := by rw [hh1, hh2]; exact hs.symm
      have l1 : h1 % 2 < 2 := Nat.mod_lt _ (by omega)
      have l2 : h2 % 2 < 2 := Nat.mod_lt _ (by omega)
      clear hs hh1 hh2
      generalize h1 % 2 = u1 at *
      generalize h2 % 2 = u2 at *
      obtain ⟨Y, hY⟩ : ∃ Y, nzK x b j = Y := ⟨_, rfl⟩
      rw [hY] at HS n1 n2 ⊢
      clear hY
      go_wp2_with fail
      exact ⟨⟨j + 1, by omega, by go_num, by rw [HS.out], by trivial⟩, by simp [intOf]; omega⟩
    · have dl : decide ((j : Int) < (b : Int)) = false := by simp; omega
      obtain rfl : j = b := by omega
      have HN : Hid (nzK x j j = nz x j) := rfl
      obtain ⟨Y, hY⟩ : ∃ Y, nzK x j j = Y := ⟨_, rfl⟩
      rw [hY] at HN ⊢
      clear hY
      go_wp2_with fail
      go_ret
      unfold NzM
      refine ⟨HG1.out, ?_⟩
      rcases HU.out with ⟨h1, h2, h4⟩ | ⟨h1, h2⟩
      · refine Or.inl ⟨h1, ?_, h4⟩
        rw [← h2, ← HN.out]
        rfl
      · exact Or.inr ⟨h1, ⟨_, rfl⟩, h2⟩
end Go.Proofs.Ytonbimgdkafnjaa
