/- Proved: several texts in one: what each proves is said ahead of it. -/
import Derived.Test.YtfgooclnohnkmaaGreatDoorRows
import Derived.WalkKit
import Derived.ProofKit
import Derived.OpenShut
import Derived.Handy
import Derived.WalkSmall
import Derived.Deep.QuietTactic
import Derived.BigQuiet
import Derived.Deep.DeepCutAuto
import Derived.Lib.LaidTab
import Derived.OpenVars
import Derived.WalkLawsBesides
import Derived.Test.YtfgooclnohnkmaaGreatDoorWo04
/- Proved: the walk through the library function Div64 where the high word is not 0, out of true digits. -/
namespace Go.Proofs.YtfgooclnohnkmaaGreatDoor
open Go.ChangeShapes Go.WideShapes Go.ChangeAt Go.RowKit
open M1
set_option linter.unusedVariables false
theorem bitLen_bd : ∀ (k x : Nat), 0 < x → x < 2 ^ k → k ≤ 64 → 1 ≤ Lib.bitLen x ∧ Lib.bitLen x ≤ k ∧ 2 ^ (Lib.bitLen x - 1) ≤ x ∧ x < 2 ^ Lib.bitLen x
  | 0, x, h0, h, _ => by have : x = 0 := by simpa using h
                         omega
  | k + 1, x, h0, h, hk => by
    have hp : 2 ^ (k + 1) ≤ 2 ^ 64 := Nat.pow_le_pow_right (by omega) hk
    rw [Lib.bitLen_half x (by omega) (by omega)]
    rw [Nat.pow_succ] at h
    by_cases h1 : x / 2 = 0
    · rw [h1]
      have e : Lib.bitLen 0 = 0 := by decide
      rw [e]
      refine ⟨by omega, by omega, ?_, by omega⟩
      show 2 ^ 0 ≤ x
      omega
    · obtain ⟨i1, i2, i3, i4⟩ := bitLen_bd k (x / 2) (by omega) (by omega) (by omega)
      refine ⟨by omega, by omega, ?_, ?_⟩
      · rw [show 1 + Lib.bitLen (x / 2) - 1 = (Lib.bitLen (x / 2) - 1) + 1 by omega, Nat.pow_succ]
        omega
      · rw [Nat.add_comm, Nat.pow_succ]
        omega
theorem bits_lz (y : Nat) (w : World) (h0 : 0 < y) (hy : y < 18446744073709551616) :
    Calls Tryz.prog 225 #[.int .u64 y] w fun e w' => e = .returned (.int .i64 ((64 - Lib.bitLen y : Nat) : Int)) ∧ w' = w := by
  have b := bitLen_bd 64 y h0 hy (by omega)
  have c := fun W => bits_Len64 (y : Int) W (by omega) (by omega)
  rw [Int.toNat_natCast] at c
  have e : ((64 - Lib.bitLen y : Nat) : Int) = 64 - (Lib.bitLen y : Int) := by omega
  rw [e]
  obtain ⟨b1, b2, _, _⟩ := b
  clear e
  generalize Lib.bitLen y = L at *
  go_enter Tryz.func225, Tryz.ntmps225
  go_wp2_with (go_at_call 139; refine (c _).mono ?_; rintro e w' ⟨rfl, rfl⟩)
  go_ret
  exact ⟨rfl, rfl⟩
theorem mul_K (q y0 : Nat) (hq : q < 4294967296) (hy : y0 < 4294967296) : q * y0 ≤ 18446744065119617025 := by
  have := Nat.mul_le_mul (show q ≤ 4294967295 by omega) (show y0 ≤ 4294967295 by omega)
  omega
/-- what the wrapped sums and products of a digit's rest come to -/
theorem wrap_rest (u v Q Y t : Nat) (h : Q * Y ≤ u * 4294967296 + v) (ht : u * 4294967296 + v - Q * Y = t) (htl : t < 18446744073709551616) :
    IntKind.u64.wrap (IntKind.u64.wrap (IntKind.u64.wrap ((u : Int) * 4294967296) + (v : Int)) - IntKind.u64.wrap ((Q : Int) * (Y : Int))) = (t : Int) := by
  have e : (Q : Int) * (Y : Int) = ((Q * Y : Nat) : Int) := by simp
  rw [e]
  simp only [IntKind.wrap_u64]
  generalize Q * Y = z at *
  omega
set_option maxHeartbeats 4000000 in
theorem div_walk (hi lo y s Y y1 y0 u low v1 v0 Q1 t Q0 R : Nat) (w : World) (hhi : 0 < hi) (hy : hi < y) (hyb : y < 18446744073709551616) (hlo : lo < 18446744073709551616) (hs : s < 64)
    (cz : ∀ W, Calls Tryz.prog 225 #[.int .u64 y] W fun e w' => e = .returned (.int .i64 s) ∧ w' = W)
    (r1 : IntKind.u64.wrap ((y : Int) * 2 ^ s) = (Y : Int)) (r2 : (Y : Int) / 4294967296 = (y1 : Int)) (r3 : bits BinOp.and IntKind.u64 (Y : Int) 4294967295 = (y0 : Int))
    (r4 : bits BinOp.or IntKind.u64 (IntKind.u64.wrap ((hi : Int) * 2 ^ s)) ((lo : Int) / 2 ^ (64 - s)) = (u : Int)) (r5 : IntKind.u64.wrap ((lo : Int) * 2 ^ s) = (low : Int))
    (r6 : (low : Int) / 4294967296 = (v1 : Int)) (r7 : bits BinOp.and IntKind.u64 (low : Int) 4294967295 = (v0 : Int))
    (HY : Hid (Y = y1 * 4294967296 + y0)) (A1 : Hid (Half u v1 y1 y0)) (A2 : Hid (Half t v0 y1 y0)) (hub : u < 18446744073709551616) (htb : t < 18446744073709551616)
    (E1 : Hid (Q1 = (u * 4294967296 + v1) / (y1 * 4294967296 + y0))) (E2 : Hid (Q0 = (t * 4294967296 + v0) / (y1 * 4294967296 + y0)))
    (W1 : Hid (IntKind.u64.wrap (IntKind.u64.wrap (IntKind.u64.wrap ((u : Int) * 4294967296) + (v1 : Int)) - IntKind.u64.wrap ((Q1 : Int) * (Y : Int))) = (t : Int)))
    (W2 : Hid (IntKind.u64.wrap (IntKind.u64.wrap (IntKind.u64.wrap ((t : Int) * 4294967296) + (v0 : Int)) - IntKind.u64.wrap ((Q0 : Int) * (Y : Int))) / 2 ^ s = (R : Int))) :
    Calls Tryz.prog 224 #[.int .u64 hi, .int .u64 lo, .int .u64 y] w fun e w' => ∃ q : Int, e = .returned (.tuple #[.int .u64 q, .int .u64 R]) ∧ w' = w := by
  have d1 : ((y : Int) == 0) = false := by simp; omega
  have d2 : ((hi : Int) == 0) = false := by simp; omega
  have d3 : decide ((y : Int) ≤ (hi : Int)) = false := by simp; omega
  have hy1a := A1.out.y1lo
  have hy1b := A1.out.y1hi
  have hy0b := A1.out.y0hi
  have hv1b := A1.out.vhi
  have hv0b := A2.out.vhi
  have hy1n : ¬ y1 = 0 := by omega
  obtain ⟨D0, da1, da2, da3⟩ := Dig.start A1.out
  have HD0 : Hid (Dig u v1 y1 y0 (u / y1) (u - u / y1 * y1)) := D0
  clear D0
  have r8 : (u : Int) / (y1 : Int) = ((u / y1 : Nat) : Int) := by simp
  generalize hq0 : u / y1 = q0 at *
  have r9 : (q0 : Int) * (y1 : Int) = ((q0 * y1 : Nat) : Int) := by simp
  generalize hp0 : q0 * y1 = p0 at *
  clear hq0 hp0
  go_enter Tryz.func224, Tryz.ntmps224
  go_wp2_with (go_at_call 225; refine (cz _).mono ?_; rintro e w' ⟨rfl, rfl⟩)
  clear r1 r2 r3 r4 r5 r6 r7 r8 r9 cz d1 d2 d3
  have HD0' := HD0
  obtain ⟨D1, db1, db2, db3⟩ := Dig.start A2.out
  have HE0 : Hid (Dig t v0 y1 y0 (t / y1) (t - t / y1 * y1)) := D1
  clear D1
  have r10 : (t : Int) / (y1 : Int) = ((t / y1 : Nat) : Int) := by simp
  generalize hq2 : t / y1 = q2 at *
  have r11 : (q2 : Int) * (y1 : Int) = ((q2 * y1 : Nat) : Int) := by simp
  generalize hp2 : q2 * y1 = p2 at *
  clear hq2 hp2
  go_loop [15, 16] (fun a b => ∃ q r : Nat, q ≤ 4294967297 ∧ r < 4294967296 ∧ Hid (Dig u v1 y1 y0 q r) ∧ a = .int .u64 q ∧ b = .int .u64 r) (fun a _ => (intOf a).toNat)
  case atStart => exact ⟨q0, u - p0, da3, da2, HD0, rfl, val_eq (by omega)⟩
  case round =>
    obtain ⟨q, r, hq, hr, HDa, rfl, rfl⟩ := hrel
    clear HD0 HD0' da1 da2 da3
    have w1 := W1.out
    by_cases hbig : 4294967296 ≤ q
    · have k1 : decide ((4294967296 : Int) ≤ (q : Int)) = true := by simp; omega
      obtain ⟨hq1, hm⟩ := Dig.more A1.out HDa.out (Or.inl hbig)
      have HM : Hid (Dig u v1 y1 y0 (q - 1) (r + y1)) := hm
      clear hm HDa
      by_cases hbr : 4294967296 ≤ r + y1
      · have k2 : decide ((4294967296 : Int) ≤ (r : Int) + (y1 : Int)) = true := by simp; omega
        have HQ : q - 1 = Q1 := by rw [E1.out]; exact Dig.broke A1.out HM.out (by omega) hbr
        have kq : (q : Int) - 1 = (Q1 : Int) := by omega
        clear HM HQ
        go_wp2_with fail
        try clear kq
        clear w1 r10 r11
        go_loop [16, 18] (fun b a => ∃ q r : Nat, q ≤ 4294967297 ∧ r < 4294967296 ∧ Hid (Dig t v0 y1 y0 q r) ∧ a = .int .u64 q ∧ b = .int .u64 r) (fun _ a => (intOf a).toNat)
        case atStart => exact ⟨q2, t - p2, db3, db2, HE0, rfl, val_eq (by omega)⟩
        case round =>
          obtain ⟨q', r', hq', hr', HD2, rfl, rfl⟩ := hrel
          clear HE0 db1 db2 db3
          have w2 := W2.out
          by_cases hbig2 : 4294967296 ≤ q'
          · have k4 : decide ((4294967296 : Int) ≤ (q' : Int)) = true := by simp; omega
            obtain ⟨hq3, hm⟩ := Dig.more A2.out HD2.out (Or.inl hbig2)
            have HM : Hid (Dig t v0 y1 y0 (q' - 1) (r' + y1)) := hm
            clear hm HD2
            by_cases hbr2 : 4294967296 ≤ r' + y1
            · have k5 : decide ((4294967296 : Int) ≤ (r' : Int) + (y1 : Int)) = true := by simp; omega
              have HQ2 : q' - 1 = Q0 := by rw [E2.out]; exact Dig.broke A2.out HM.out (by omega) hbr2
              have kp : (q' : Int) - 1 = (Q0 : Int) := by omega
              clear HM HQ2
              go_wp2_with fail
              go_ret2
              exact ⟨⟨_, ret_two rfl rfl⟩, rfl⟩
            · have k5 : decide ((4294967296 : Int) ≤ (r' : Int) + (y1 : Int)) = false := by simp; omega
              clear w2
              go_wp2_with fail
              go_round
              case rel => exact ⟨q' - 1, r' + y1, by omega, by omega, HM, val_eq (by omega), val_eq (by omega)⟩
              case measure => simp [intOf]; omega
          · have k4 : decide ((4294967296 : Int) ≤ (q' : Int)) = false := by simp; omega
            have hpb2 := mul_K q' y0 (by omega) hy0b
            have e6 : (q' : Int) * (y0 : Int) = ((q' * y0 : Nat) : Int) := by simp
            by_cases hgt2 : 4294967296 * r' + v0 < q' * y0
            · have hor : 4294967296 ≤ q' ∨ 4294967296 * r' + v0 < q' * y0 := Or.inr hgt2
              obtain ⟨hq3, hm⟩ := Dig.more A2.out HD2.out (hor)
              have HM : Hid (Dig t v0 y1 y0 (q' - 1) (r' + y1)) := hm
              clear hm hor HD2
              generalize q' * y0 = pp2 at *
              have k6 : decide ((4294967296 : Int) * (r' : Int) + (v0 : Int) < (pp2 : Int)) = true := by simp; omega
              by_cases hbr2 : 4294967296 ≤ r' + y1
              · have k5 : decide ((4294967296 : Int) ≤ (r' : Int) + (y1 : Int)) = true := by simp; omega
                have HQ2 : q' - 1 = Q0 := by rw [E2.out]; exact Dig.broke A2.out HM.out (by omega) hbr2
                have kp : (q' : Int) - 1 = (Q0 : Int) := by omega
                clear HM HQ2
                go_wp2_with fail
                go_ret2
                exact ⟨⟨_, ret_two rfl rfl⟩, rfl⟩
              · have k5 : decide ((4294967296 : Int) ≤ (r' : Int) + (y1 : Int)) = false := by simp; omega
                clear w2
                go_wp2_with fail
                go_round
                case rel => exact ⟨q' - 1, r' + y1, by omega, by omega, HM, val_eq (by omega), val_eq (by omega)⟩
                case measure => simp [intOf]; omega
            · have HQ2 : q' = Q0 := by rw [E2.out]; exact Dig.done A2.out HD2.out (by omega)
              clear HD2
              generalize q' * y0 = pp2 at *
              have k6 : decide ((4294967296 : Int) * (r' : Int) + (v0 : Int) < (pp2 : Int)) = false := by simp; omega
              subst HQ2
              go_wp2_with fail
              go_ret2
              exact ⟨⟨_, ret_two rfl rfl⟩, rfl⟩
      · have k2 : decide ((4294967296 : Int) ≤ (r : Int) + (y1 : Int)) = false := by simp; omega
        clear w1 r10 r11
        go_wp2_with fail
        go_round
        case rel => exact ⟨q - 1, r + y1, by omega, by omega, HM, val_eq (by omega), val_eq (by omega)⟩
        case measure => simp [intOf]; omega
    · have k1 : decide ((4294967296 : Int) ≤ (q : Int)) = false := by simp; omega
      have hpb := mul_K q y0 (by omega) hy0b
      have e5 : (q : Int) * (y0 : Int) = ((q * y0 : Nat) : Int) := by simp
      by_cases hgt : 4294967296 * r + v1 < q * y0
      · have hor : 4294967296 ≤ q ∨ 4294967296 * r + v1 < q * y0 := Or.inr hgt
        obtain ⟨hq1, hm⟩ := Dig.more A1.out HDa.out (hor)
        have HM : Hid (Dig u v1 y1 y0 (q - 1) (r + y1)) := hm
        clear hm hor HDa
        generalize q * y0 = pp at *
        have k3 : decide ((4294967296 : Int) * (r : Int) + (v1 : Int) < (pp : Int)) = true := by simp; omega
        by_cases hbr : 4294967296 ≤ r + y1
        · have k2 : decide ((4294967296 : Int) ≤ (r : Int) + (y1 : Int)) = true := by simp; omega
          have HQ : q - 1 = Q1 := by rw [E1.out]; exact Dig.broke A1.out HM.out (by omega) hbr
          have kq : (q : Int) - 1 = (Q1 : Int) := by omega
          clear HM HQ
          go_wp2_with fail
          try clear kq
          clear w1 r10 r11
          go_loop [16, 18] (fun b a => ∃ q r : Nat, q ≤ 4294967297 ∧ r < 4294967296 ∧ Hid (Dig t v0 y1 y0 q r) ∧ a = .int .u64 q ∧ b = .int .u64 r) (fun _ a => (intOf a).toNat)
          case atStart => exact ⟨q2, t - p2, db3, db2, HE0, rfl, val_eq (by omega)⟩
          case round =>
            obtain ⟨q', r', hq', hr', HD2, rfl, rfl⟩ := hrel
            clear HE0 db1 db2 db3
            have w2 := W2.out
            by_cases hbig2 : 4294967296 ≤ q'
            · have k4 : decide ((4294967296 : Int) ≤ (q' : Int)) = true := by simp; omega
              obtain ⟨hq3, hm⟩ := Dig.more A2.out HD2.out (Or.inl hbig2)
              have HM : Hid (Dig t v0 y1 y0 (q' - 1) (r' + y1)) := hm
              clear hm HD2
              by_cases hbr2 : 4294967296 ≤ r' + y1
              · have k5 : decide ((4294967296 : Int) ≤ (r' : Int) + (y1 : Int)) = true := by simp; omega
                have HQ2 : q' - 1 = Q0 := by rw [E2.out]; exact Dig.broke A2.out HM.out (by omega) hbr2
                have kp : (q' : Int) - 1 = (Q0 : Int) := by omega
                clear HM HQ2
                go_wp2_with fail
                go_ret2
                exact ⟨⟨_, ret_two rfl rfl⟩, rfl⟩
              · have k5 : decide ((4294967296 : Int) ≤ (r' : Int) + (y1 : Int)) = false := by simp; omega
                clear w2
                go_wp2_with fail
                go_round
                case rel => exact ⟨q' - 1, r' + y1, by omega, by omega, HM, val_eq (by omega), val_eq (by omega)⟩
                case measure => simp [intOf]; omega
            · have k4 : decide ((4294967296 : Int) ≤ (q' : Int)) = false := by simp; omega
              have hpb2 := mul_K q' y0 (by omega) hy0b
              have e6 : (q' : Int) * (y0 : Int) = ((q' * y0 : Nat) : Int) := by simp
              by_cases hgt2 : 4294967296 * r' + v0 < q' * y0
              · have hor : 4294967296 ≤ q' ∨ 4294967296 * r' + v0 < q' * y0 := Or.inr hgt2
                obtain ⟨hq3, hm⟩ := Dig.more A2.out HD2.out (hor)
                have HM : Hid (Dig t v0 y1 y0 (q' - 1) (r' + y1)) := hm
                clear hm hor HD2
                generalize q' * y0 = pp2 at *
                have k6 : decide ((4294967296 : Int) * (r' : Int) + (v0 : Int) < (pp2 : Int)) = true := by simp; omega
                by_cases hbr2 : 4294967296 ≤ r' + y1
                · have k5 : decide ((4294967296 : Int) ≤ (r' : Int) + (y1 : Int)) = true := by simp; omega
                  have HQ2 : q' - 1 = Q0 := by rw [E2.out]; exact Dig.broke A2.out HM.out (by omega) hbr2
                  have kp : (q' : Int) - 1 = (Q0 : Int) := by omega
                  clear HM HQ2
                  go_wp2_with fail
                  go_ret2
                  exact ⟨⟨_, ret_two rfl rfl⟩, rfl⟩
                · have k5 : decide ((4294967296 : Int) ≤ (r' : Int) + (y1 : Int)) = false := by simp; omega
                  clear w2
                  go_wp2_with fail
                  go_round
                  case rel => exact ⟨q' - 1, r' + y1, by omega, by omega, HM, val_eq (by omega), val_eq (by omega)⟩
                  case measure => simp [intOf]; omega
              · have HQ2 : q' = Q0 := by rw [E2.out]; exact Dig.done A2.out HD2.out (by omega)
                clear HD2
                generalize q' * y0 = pp2 at *
                have k6 : decide ((4294967296 : Int) * (r' : Int) + (v0 : Int) < (pp2 : Int)) = false := by simp; omega
                subst HQ2
                go_wp2_with fail
                go_ret2
                exact ⟨⟨_, ret_two rfl rfl⟩, rfl⟩
        · have k2 : decide ((4294967296 : Int) ≤ (r : Int) + (y1 : Int)) = false := by simp; omega
          clear w1 r10 r11
          go_wp2_with fail
          go_round
          case rel => exact ⟨q - 1, r + y1, by omega, by omega, HM, val_eq (by omega), val_eq (by omega)⟩
          case measure => simp [intOf]; omega
      · have HQ : q = Q1 := by rw [E1.out]; exact Dig.done A1.out HDa.out (by omega)
        clear HDa
        generalize q * y0 = pp at *
        have k3 : decide ((4294967296 : Int) * (r : Int) + (v1 : Int) < (pp : Int)) = false := by simp; omega
        subst HQ
        go_wp2_with fail
        try clear kq
        clear w1 r10 r11
        go_loop [16, 18] (fun b a => ∃ q r : Nat, q ≤ 4294967297 ∧ r < 4294967296 ∧ Hid (Dig t v0 y1 y0 q r) ∧ a = .int .u64 q ∧ b = .int .u64 r) (fun _ a => (intOf a).toNat)
        case atStart => exact ⟨q2, t - p2, db3, db2, HE0, rfl, val_eq (by omega)⟩
        case round =>
          obtain ⟨q', r', hq', hr', HD2, rfl, rfl⟩ := hrel
          clear HE0 db1 db2 db3
          have w2 := W2.out
          by_cases hbig2 : 4294967296 ≤ q'
          · have k4 : decide ((4294967296 : Int) ≤ (q' : Int)) = true := by simp; omega
            obtain ⟨hq3, hm⟩ := Dig.more A2.out HD2.out (Or.inl hbig2)
            have HM : Hid (Dig t v0 y1 y0 (q' - 1) (r' + y1)) := hm
            clear hm HD2
            by_cases hbr2 : 4294967296 ≤ r' + y1
            · have k5 : decide ((4294967296 : Int) ≤ (r' : Int) + (y1 : Int)) = true := by simp; omega
              have HQ2 : q' - 1 = Q0 := by rw [E2.out]; exact Dig.broke A2.out HM.out (by omega) hbr2
              have kp : (q' : Int) - 1 = (Q0 : Int) := by omega
              clear HM HQ2
              go_wp2_with fail
              go_ret2
              exact ⟨⟨_, ret_two rfl rfl⟩, rfl⟩
            · have k5 : decide ((4294967296 : Int) ≤ (r' : Int) + (y1 : Int)) = false := by simp; omega
              clear w2
              go_wp2_with fail
              go_round
              case rel => exact ⟨q' - 1, r' + y1, by omega, by omega, HM, val_eq (by omega), val_eq (by omega)⟩
              case measure => simp [intOf]; omega
          · have k4 : decide ((4294967296 : Int) ≤ (q' : Int)) = false := by simp; omega
            have hpb2 := mul_K q' y0 (by omega) hy0b
            have e6 : (q' : Int) * (y0 : Int) = ((q' * y0 : Nat) : Int) := by simp
            by_cases hgt2 : 4294967296 * r' + v0 < q' * y0
            · have hor : 4294967296 ≤ q' ∨ 4294967296 * r' + v0 < q' * y0 := Or.inr hgt2
              obtain ⟨hq3, hm⟩ := Dig.more A2.out HD2.out (hor)
              have HM : Hid (Dig t v0 y1 y0 (q' - 1) (r' + y1)) := hm
              clear hm hor HD2
              generalize q' * y0 = pp2 at *
              have k6 : decide ((4294967296 : Int) * (r' : Int) + (v0 : Int) < (pp2 : Int)) = true := by simp; omega
              by_cases hbr2 : 4294967296 ≤ r' + y1
              · have k5 : decide ((4294967296 : Int) ≤ (r' : Int) + (y1 : Int)) = true := by simp; omega
                have HQ2 : q' - 1 = Q0 := by rw [E2.out]; exact Dig.broke A2.out HM.out (by omega) hbr2
                have kp : (q' : Int) - 1 = (Q0 : Int) := by omega
                clear HM HQ2
                go_wp2_with fail
                go_ret2
                exact ⟨⟨_, ret_two rfl rfl⟩, rfl⟩
              · have k5 : decide ((4294967296 : Int) ≤ (r' : Int) + (y1 : Int)) = false := by simp; omega
                clear w2
                go_wp2_with fail
                go_round
                case rel => exact ⟨q' - 1, r' + y1, by omega, by omega, HM, val_eq (by omega), val_eq (by omega)⟩
                case measure => simp [intOf]; omega
            · have HQ2 : q' = Q0 := by rw [E2.out]; exact Dig.done A2.out HD2.out (by omega)
              clear HD2
              generalize q' * y0 = pp2 at *
              have k6 : decide ((4294967296 : Int) * (r' : Int) + (v0 : Int) < (pp2 : Int)) = false := by simp; omega
              subst HQ2
              go_wp2_with fail
              go_ret2
              exact ⟨⟨_, ret_two rfl rfl⟩, rfl⟩
end Go.Proofs.YtfgooclnohnkmaaGreatDoor
/- Proved: contracts of the library functions Div64 and Rem64 at every word, and products modulo any n of 64 bits. -/
namespace Go.Proofs.YtfgooclnohnkmaaGreatDoor
open Go.ChangeShapes Go.WideShapes Go.ChangeAt Go.RowKit
open M1
set_option linter.unusedVariables false
theorem shl_split (lo s : Nat) (hs : s ≤ 64) : lo * 2 ^ s / 18446744073709551616 = lo / 2 ^ (64 - s) := by
  have e : (18446744073709551616 : Nat) = 2 ^ (64 - s) * 2 ^ s := by
    rw [← Nat.pow_add, show 64 - s + s = 64 by omega]
  rw [e]
  exact Nat.mul_div_mul_right _ _ (Nat.two_pow_pos s)
theorem bits_Div64_big (hi lo y : Nat) (w : World) (hhi : 0 < hi) (hy : hi < y) (hyb : y < 18446744073709551616) (hlo : lo < 18446744073709551616) :
    Calls Tryz.prog 224 #[.int .u64 hi, .int .u64 lo, .int .u64 y] w fun e w' => ∃ q : Int, e = .returned (.tuple #[.int .u64 q, .int .u64 (((hi * 18446744073709551616 + lo) % y : Nat) : Int)]) ∧ w' = w := by
  obtain ⟨b1, b2, b3, b4⟩ := bitLen_bd 64 y (by omega) hyb (by omega)
  have cz := fun W => bits_lz y W (by omega) hyb
  generalize Lib.bitLen y = L at *
  obtain ⟨s, hs⟩ : ∃ s, s = 64 - L := ⟨_, rfl⟩
  rw [← hs] at cz
  have hP := Nat.two_pow_pos s
  have hYlo : 9223372036854775808 ≤ y * 2 ^ s := by
    have h1 : 2 ^ (L - 1) * 2 ^ s ≤ y * 2 ^ s := Nat.mul_le_mul_right _ b3
    rw [← Nat.pow_add, show L - 1 + s = 63 by omega] at h1
    exact h1
  have hYhi : y * 2 ^ s < 18446744073709551616 := by
    have h1 : y * 2 ^ s < 2 ^ L * 2 ^ s := Nat.mul_lt_mul_of_pos_right b4 hP
    rw [← Nat.pow_add, show L + s = 64 by omega] at h1
    exact h1
  have hl := shl_split lo s (by omega)
  have hlt : lo / 2 ^ (64 - s) < 2 ^ s := by
    rw [Nat.div_lt_iff_lt_mul (Nat.two_pow_pos _), ← Nat.pow_add, show s + (64 - s) = 64 by omega]
    exact hlo
  have hhy : hi * 2 ^ s + 2 ^ s ≤ y * 2 ^ s := by
    have h1 : (hi + 1) * 2 ^ s ≤ y * 2 ^ s := Nat.mul_le_mul_right _ hy
    rw [Nat.add_mul, Nat.one_mul] at h1
    exact h1
  have hN : (hi * 18446744073709551616 + lo) * 2 ^ s = (hi * 2 ^ s + lo / 2 ^ (64 - s)) * 18446744073709551616 + lo * 2 ^ s % 18446744073709551616 := by
    have h1 := Nat.div_add_mod (lo * 2 ^ s) 18446744073709551616
    rw [hl] at h1
    have h2 : (hi * 18446744073709551616 + lo) * 2 ^ s = hi * 2 ^ s * 18446744073709551616 + lo * 2 ^ s := by grind
    rw [h2]
    omega
  have hNm : ((hi * 18446744073709551616 + lo) * 2 ^ s) % (y * 2 ^ s) = (hi * 18446744073709551616 + lo) % y * 2 ^ s := Nat.mul_mod_mul_right _ _ _
  have e1 : (y : Int) * 2 ^ s = ((y * 2 ^ s : Nat) : Int) := by simp
  have e2 : (hi : Int) * 2 ^ s = ((hi * 2 ^ s : Nat) : Int) := by simp
  have e3 : (lo : Int) / 2 ^ (64 - s) = ((lo / 2 ^ (64 - s) : Nat) : Int) := by simp
  have e4 : (lo : Int) * 2 ^ s = ((lo * 2 ^ s : Nat) : Int) := by simp
  have hor : hi * 2 ^ s ||| lo / 2 ^ (64 - s) = hi * 2 ^ s + lo / 2 ^ (64 - s) := by
    rw [Nat.mul_comm, ← Nat.two_pow_add_eq_or_of_lt hlt]
  have hlowlt : lo * 2 ^ s % 18446744073709551616 < 18446744073709551616 := Nat.mod_lt _ (by omega)
  have m1 := Mul64.maskN (y * 2 ^ s) hYhi
  have m2 := Mul64.maskN (lo * 2 ^ s % 18446744073709551616) hlowlt
  have w1 := Mul64.wrapN (y * 2 ^ s) hYhi
  have w2 := Mul64.wrapN (hi * 2 ^ s) (by omega)
  have w3 := Mul64.wrapM (lo * 2 ^ s)
  have o1 := bits_or_u64_nat (hi * 2 ^ s) (lo / 2 ^ (64 - s)) (by omega) (by omega)
  rw [hor] at o1
  have hsub : s < 64 := by omega
  have D1 : Int.toNat 0 = 0 := rfl
  rw [hN] at hNm
  generalize hu : hi * 2 ^ s + lo / 2 ^ (64 - s) = u at *
  have huY : u < y * 2 ^ s := by omega
  have hYpos : 0 < y * 2 ^ s := by omega
  have eY := Nat.div_add_mod (y * 2 ^ s) 4294967296
  have eL := Nat.div_add_mod (lo * 2 ^ s % 18446744073709551616) 4294967296
  have kY : y * 2 ^ s / 4294967296 < 4294967296 ∧ 2147483648 ≤ y * 2 ^ s / 4294967296 ∧ y * 2 ^ s % 4294967296 < 4294967296 := by omega
  have kL : lo * 2 ^ s % 18446744073709551616 / 4294967296 < 4294967296 ∧ lo * 2 ^ s % 18446744073709551616 % 4294967296 < 4294967296 := by omega
  have hg : ∀ a : Nat, ((a * 2 ^ s : Nat) : Int) / 2 ^ s = (a : Int) := by
    intro a
    have h1 : ((a * 2 ^ s : Nat) : Int) = (a : Int) * 2 ^ s := by simp
    rw [h1]
    exact Int.mul_ediv_cancel _ (by have : ((2 ^ s : Nat) : Int) = (2 : Int) ^ s := by simp
                                    omega)
  generalize y * 2 ^ s = Y at *
  generalize lo * 2 ^ s % 18446744073709551616 = low at *
  have eY' : Y / 4294967296 * 4294967296 + Y % 4294967296 = Y := by rw [Nat.mul_comm]; exact eY
  have eL' : low / 4294967296 * 4294967296 + low % 4294967296 = low := by rw [Nat.mul_comm]; exact eL
  obtain ⟨t, ht⟩ : ∃ t, t = (u * 4294967296 + low / 4294967296) % Y := ⟨_, rfl⟩
  have htY : t < Y := by rw [ht]; exact Nat.mod_lt _ hYpos
  have lo1 := left_over u (low / 4294967296) Y
  have lo2 := left_over t (low % 4294967296) Y
  have td := two_digits u (low / 4294967296) (low % 4294967296) Y
  rw [← ht, eL', hNm] at td
  rw [td] at lo2
  rw [← ht] at lo1
  have rlt : (hi * 18446744073709551616 + lo) % y * 2 ^ s < 18446744073709551616 := by
    rw [← hNm]
    have := Nat.mod_lt (u * 18446744073709551616 + low) hYpos
    omega
  have H1 : Half u (low / 4294967296) (Y / 4294967296) (Y % 4294967296) := ⟨kY.2.1, kY.1, kY.2.2, kL.1, by rw [eY']; exact huY⟩
  have H2 : Half t (low % 4294967296) (Y / 4294967296) (Y % 4294967296) := ⟨kY.2.1, kY.1, kY.2.2, kL.2, by rw [eY']; exact htY⟩
  have W2 := wrap_rest t (low % 4294967296) _ Y _ lo2.2 lo2.1 rlt
  exact div_walk hi lo y s Y (Y / 4294967296) (Y % 4294967296) u low (low / 4294967296) (low % 4294967296) ((u * 4294967296 + low / 4294967296) / Y) t ((t * 4294967296 + low % 4294967296) / Y) _ w hhi hy hyb hlo hsub cz
    (by rw [e1]; exact w1) (by omega) m1 (by rw [e2, w2, e3]; exact o1) (by rw [e4]; exact w3) (by omega) m2 eY'.symm H1 H2 (by omega) (by omega)
    (by show _ = _; rw [eY']) (by show _ = _; rw [eY']) (wrap_rest u (low / 4294967296) _ Y t lo1.2 lo1.1 (by omega))
    (by show _ = _; rw [W2]; exact hg _)
theorem bits_Rem64 (hi lo y : Nat) (w : World) (hy : 0 < y) (hhb : hi < 18446744073709551616) (hyb : y < 18446744073709551616) (hlo : lo < 18446744073709551616) :
    Calls Tryz.prog 223 #[.int .u64 hi, .int .u64 lo, .int .u64 y] w fun e w' => e = .returned (.int .u64 (((hi * 18446744073709551616 + lo) % y : Nat) : Int)) ∧ ∃ n, w' = w.drewN n := by
  have eH : (hi * 18446744073709551616 + lo) % y = (hi % y * 18446744073709551616 + lo) % y := by
    rw [Nat.add_mod, Nat.mul_mod, ← Nat.add_mod]
    rw [Nat.add_mod (hi % y * 18446744073709551616), Nat.mul_mod (hi % y), Nat.mod_mod, ← Nat.add_mod]
  rw [eH]
  have hm : hi % y < y := Nat.mod_lt _ hy
  have r1 : (hi : Int) % (y : Int) = ((hi % y : Nat) : Int) := by simp
  clear eH
  generalize hi % y = h at *
  have hyn : ¬ y = 0 := by omega
  by_cases h0 : h = 0
  · subst h0
    have c := fun W => bits_Div64_zero lo y hlo hy hyb W
    rw [Nat.zero_mul, Nat.zero_add]
    generalize lo % y = R at *
    have r1' : (hi : Int) % (y : Int) = 0 := r1
    clear r1
    go_enter Tryz.func223, Tryz.ntmps223
    go_wp2_with fail
    refine (c _).mono ?_
    rintro e w' ⟨rfl, n, rfl⟩
    go_wp2_with fail
    go_ret
    exact ⟨rfl, _, rfl⟩
  · have c := fun W => bits_Div64_big h lo y W (by omega) hm hyb hlo
    generalize (h * 18446744073709551616 + lo) % y = R at *
    go_enter Tryz.func223, Tryz.ntmps223
    go_wp2_with fail
    refine (c _).mono ?_
    rintro e w' ⟨q, rfl, rfl⟩
    go_wp2_with fail
    go_ret
    exact ⟨rfl, 0, rfl⟩
theorem PR_all (n : Nat) (h0 : 0 < n) (hn : n < 18446744073709551616) : PR n := by
  intro x y W hx hy
  have c := bits_Mul64 x y (by omega) (by omega)
  have d := fun W => bits_Rem64 (x * y / 18446744073709551616) (x * y % 18446744073709551616) n W h0 (by
    have h1 : x * y < 18446744073709551616 * 18446744073709551616 := Nat.mul_lt_mul'' (by omega) (by omega)
    exact Nat.div_lt_of_lt_mul h1) hn (Nat.mod_lt _ (by omega))
  have e : x * y / 18446744073709551616 * 18446744073709551616 + x * y % 18446744073709551616 = x * y := by
    have := Nat.div_add_mod (x * y) 18446744073709551616
    omega
  rw [e] at d
  clear e
  generalize x * y / 18446744073709551616 = hi at *
  generalize x * y % 18446744073709551616 = lo at *
  generalize x * y % n = R at *
  go_enter Tryz.func220, Tryz.ntmps220
  go_wp2_with fail
  refine (c _).mono ?_
  rintro e w' ⟨rfl, rfl⟩
  go_wp2_with fail
  refine (d _).mono ?_
  rintro e w' ⟨rfl, n, rfl⟩
  go_wp2_with fail
  go_ret
  exact ⟨rfl, _, rfl⟩
end Go.Proofs.YtfgooclnohnkmaaGreatDoor
/- Proved: the contracts of IsPrime of the program and of the model at every word, and what the listed tables give a walk. -/
namespace Go.Proofs.YtfgooclnohnkmaaGreatDoor
open Go.ChangeShapes Go.WideShapes Go.ChangeAt Go.RowKit
open M1
set_option linter.unusedVariables false
theorem isP_small (n : Nat) (h : n < 2) : isP n = false := by unfold isP; rw [if_pos h]
theorem spec_IsPrime (n : Nat) (w : World) (hn : n < 18446744073709551616) :
    Calls Tryz.prog 136 #[.int .u64 n] w fun e w' => e = .returned (.bool (isP n)) ∧ Old w w' := by
  by_cases h2 : n < 2
  · rw [isP_small n h2]
    have hd : decide ((n : Int) < 2) = true := by simp; omega
    go_enter Tryz.func136, Tryz.ntmps136
    go_wp2_with fail
    go_ret
    exact ⟨rfl, Old.refl _⟩
  · exact spec_prime n w _ (by omega) hn (St.start n h2)
theorem impl_IsPrime (n : Nat) (w : World) (hn : n < 18446744073709551616) (hP : PrsW w) (hT : TabW w) :
    Calls Tryz.prog 168 #[.int .u64 n] w fun e w' => e = .returned (.bool (isP n)) ∧ ∃ k, w' = w.drewN k := by
  by_cases h2 : n < 2
  · rw [isP_small n h2]
    have hd : decide ((n : Int) < 2) = true := by simp; omega
    go_enter Tryz.func168, Tryz.ntmps168
    go_wp2_with fail
    go_ret
    exact ⟨rfl, 0, rfl⟩
  · exact impl_first n w _ (by omega) hn hP hT (St.start n h2) (PR_all n (by omega) hn)
theorem lt_of_cell {w : World} {b o : Nat} {v : Value} (h : w.cell? ⟨b, o, none⟩ = some v) : b < w.heap.size := by
  by_cases hb : b < w.heap.size
  · exact hb
  · exfalso
    have h0 : w.heap[b]? = none := Array.getElem?_eq_none (by omega)
    simp [World.cell?, h0] at h
theorem PrsW.old {w w1 : World} (h : PrsW w) (g : Old w w1) : PrsW w1 := fun j hj => by rw [g.cell (lt_of_cell (h j hj))]; exact h j hj
theorem TabW.old {w w1 : World} (h : TabW w) (g : Old w w1) : TabW w1 := fun j hj => by rw [g.cell (lt_of_cell (h j hj))]; exact h j hj
theorem var_stays {H : Type} {enc : TypeId × Value → H} {P : Program} (hl : laidOutB P = true) {W W' : World} (hg : Old W W') {n : String} {gs : List (DataW H)} {ps : List MemPlace}
    (hv : varsRowed P [n] = true) (h : DataW.TrodVars enc P W (fun _ => true) [n] gs ps) {sp : Nat → Bool} (hsp : ∀ p ∈ ps, sp p.block = true) : DataW.TrodVars enc P W' sp [n] gs ps := by
  have hlt := h.lt
  obtain ⟨g, t, cs, fuel, d, p, rfl, h1, h2, h3, h4, rfl⟩ := trodVars_one h
  have ht : P.readableRec t = true ∧ t < P.types.size := by
    have := hv
    simp only [varsRowed, List.all_cons, List.all_nil, Bool.and_true] at this
    rw [h1] at this
    cases hgl : P.globals[g]? with
    | none => rw [hgl] at h2; cases h2
    | some gl =>
      rw [hgl] at h2
      obtain rfl : gl.type = t := Option.some.inj h2
      simpa [hgl] using this
  have hp : ∀ x ∈ p, x.block < W.heap.size := fun x hx => hlt x (by simp [hx])
  have hgb : g < W.heap.size := by
    unfold World.var? at h3
    rw [h1] at h3
    simp only [Option.bind_some] at h3
    cases hh : W.heap[g]? with
    | none => rw [hh] at h3; cases h3
    | some o => exact (Array.getElem?_eq_some_iff.1 hh).1
  have h3' : W'.var? P n = some cs := by
    unfold World.var? at h3 ⊢
    rw [h1] at h3 ⊢
    simp only [Option.bind_some] at h3 ⊢
    rw [hg.block _ hgb]; exact h3
  have same : ∀ x ∈ p, W.sameAt W' x := by
    intro x hx
    have := hp x hx
    cases x with
    | cell b o => exact hg.cell this
    | map b => exact hg.block _ this
  exact trodVars_mk1 h1 h2 h3' (DataW.trod_stays (Go.kids_book hl ht.1) (Go.book_sized ht.1) (fun h => by cases h) ⟨ht.2, Go.book_self t⟩ h4 same (fun x hx => hsp x (by simp [hx])))
end Go.Proofs.YtfgooclnohnkmaaGreatDoor
/- Proved: contracts of the search for a root and of the least root, of the program and of the model: both tell the least of the odd powers of one root. -/
namespace Go.Proofs.YtfgooclnohnkmaaGreatDoor
open Go.ChangeShapes Go.WideShapes Go.ChangeAt Go.RowKit
open M1
set_option linter.unusedVariables false
theorem powM_mod (a e p : Nat) : powM (a % p) e p = a ^ e % p := by unfold powM; rw [← Nat.pow_mod]
theorem powM_two (a e h p : Nat) (hp : 0 < p) : powM (powM (a % p) e p % p) h p = powM (a % p) (e * h) p := by
  rw [powM_mod, powM_mod, powM_mod, ← Nat.pow_mod, Nat.pow_mul]
/-- the first a from 2 on whose power is not 1 -/
theorem first_ex (p m : Nat) (hp : 2 ≤ p) (hm : 1 ≤ m) : ∃ A, 2 ≤ A ∧ A ≤ p ∧ (∀ b, 2 ≤ b → b < A → powM (b % p) m p = 1) ∧ powM (A % p) m p ≠ 1 := by
  have key : ∀ k, (∃ A, 2 ≤ A ∧ A ≤ p ∧ (∀ b, 2 ≤ b → b < A → powM (b % p) m p = 1) ∧ powM (A % p) m p ≠ 1) ∨ (∀ b, 2 ≤ b → b < 2 + k → b ≤ p → powM (b % p) m p = 1) := by
    intro k
    induction k with
    | zero => right; intro b h1 h2; omega
    | succ k ih =>
      rcases ih with h | h
      · exact Or.inl h
      · by_cases hk : 2 + k ≤ p
        · by_cases h1 : powM ((2 + k) % p) m p = 1
          · right
            intro b hb1 hb2 hb3
            by_cases e : b = 2 + k
            · rw [e]; exact h1
            · exact h b hb1 (by omega) hb3
          · left
            exact ⟨2 + k, by omega, hk, fun b hb1 hb2 => h b hb1 hb2 (by omega), h1⟩
        · right
          intro b hb1 hb2 hb3
          exact h b hb1 (by omega) hb3
  rcases key p with h | h
  · exact h
  · exfalso
    have := h p hp (by omega) (Nat.le_refl p)
    rw [powM_mod] at this
    have e : p ^ m % p = 0 := Nat.mod_eq_zero_of_dvd (Nat.dvd_trans (by rw [Nat.pow_one]; exact Nat.dvd_refl p : p ∣ p ^ 1) (Nat.pow_dvd_pow p hm))
    omega
set_option maxHeartbeats 1000000 in
theorem impl_someRoot (p n m e A : Nat) (w : World) (hp3 : 3 ≤ p) (hp : p ≤ 268435456) (hm : (p - 1) / 2 = m) (he : (p - 1) / n = e) (hn : 1 ≤ n) (hn' : n ≤ 64) (hA2 : 2 ≤ A) (hAp : A ≤ p)
    (hmin : ∀ b, 2 ≤ b → b < A → powM (b % p) m p = 1) (hA : powM (A % p) m p ≠ 1) :
    Calls Tryz.prog 216 #[.int .i64 p, .int .i64 n] w fun en w' => en = .returned (.int .i64 (powM (A % p) e p)) ∧ ∃ k, w' = w.drewN k := by
  have HM : Hid (∀ b, 2 ≤ b → b < A → powM (b % p) m p = 1) := hmin
  clear hmin
  have hmb : m ≤ p := by omega
  have heb : e ≤ p := by have := Nat.div_le_self (p - 1) n; omega
  have c : ∀ (a x : Nat) (W : World), a ≤ p → x ≤ p → Calls Tryz.prog 221 #[.int .i64 a, .int .i64 x, .int .i64 p] W fun en w' => en = .returned (.int .i64 (powM (a % p) x p : Nat)) ∧ ∃ k, w' = W.drewN k := by
    intro a x W ha hx
    have h := impl_PowMod_yes (a : Int) (x : Int) (p : Int) W ⟨by omega, by omega⟩ ⟨by omega, by omega⟩ (by simp [powB]; omega)
    rw [← Int.natCast_emod, Int.toNat_natCast, Int.toNat_natCast, Int.toNat_natCast] at h
    exact h
  have r1 : ((p : Int) - 1) / 2 = (m : Int) := by omega
  have r2 : ((p : Int) - 1) / (n : Int) = (e : Int) := by
    rw [← he]
    have : ((p - 1 : Nat) : Int) = (p : Int) - 1 := by omega
    rw [← this]
    simp
  clear hm he
  have hnn : ¬ n = 0 := by omega
  have cA := fun W => c A m W (by omega) hmb
  have cE := fun W => c A e W (by omega) heb
  have HA : ((powM (A % p) m p : Int) == 1) = false := by simp; omega
  generalize powM (A % p) m p = x1 at *
  generalize powM (A % p) e p = x2 at *
  have cH : Hid (∀ (a x : Nat) (W : World), a ≤ p → x ≤ p → Calls Tryz.prog 221 #[.int .i64 a, .int .i64 x, .int .i64 p] W fun en w' => en = .returned (.int .i64 (powM (a % p) x p : Nat)) ∧ ∃ k, w' = W.drewN k) := c
  clear c hA
  go_enter Tryz.func216, Tryz.ntmps216
  go_wp2_with fail
  go_loopw [5] (fun a W => ∃ a' k : Nat, 2 ≤ a' ∧ a' ≤ A ∧ a = .int .i64 a' ∧ W = w.drewN k) (fun a _ => A - (intOf a).toNat)
  case atStart => exact ⟨2, 0, by omega, hA2, rfl, rfl⟩
  case round =>
    obtain ⟨a, k, ha2, haA, rfl, rfl⟩ := hrel
    by_cases hlt : a < A
    · have c1 := fun W => cH.out a m W (by omega) hmb
      rw [HM.out a ha2 hlt] at c1
      clear cA cE
      go_wp2_with fail
      refine (c1 _).mono ?_
      rintro en w1 ⟨rfl, k1, rfl⟩
      go_wp2_with fail
      go_roundw
      case rel => exact ⟨a + 1, _, by omega, by omega, by go_num, rfl⟩
      case measure => simp [intOf]; omega
    · obtain rfl : a = A := by omega
      go_wp2_with fail
      refine (cA _).mono ?_
      rintro en w1 ⟨rfl, k1, rfl⟩
      go_wp2_with fail
      refine (cE _).mono ?_
      rintro en w1 ⟨rfl, k2, rfl⟩
      go_wp2_with fail
      go_ret
      exact ⟨rfl, _, rfl⟩
theorem prod_bd (p x y : Nat) (hp : p ≤ 268435456) (hx : x < p) (hy : y < p) : (x : Int) * (y : Int) = ((x * y : Nat) : Int) ∧ x * y ≤ 72057594037927936 := by
  refine ⟨by simp, ?_⟩
  have := Nat.mul_le_mul (show x ≤ 268435456 by omega) (show y ≤ 268435456 by omega)
  omega
set_option maxHeartbeats 1000000 in
theorem impl_leastRoot (r p n : Nat) (w : World) (hp2 : 2 ≤ p) (hp : p ≤ 268435456) (hr : r < p) (hn : 2 ≤ n) (hn' : n ≤ 64) :
    Calls Tryz.prog 215 #[.int .i64 r, .int .i64 p, .int .i64 n] w fun en w' => en = .returned (.int .i64 (lr p (r * r % p) (n / 2 - 1) r r)) ∧ w' = w := by
  obtain ⟨s1, s2⟩ := prod_bd p r r hp hr hr
  have hsq : r * r % p < p := Nat.mod_lt _ (by omega)
  have z1 : 0 ≤ (r : Int) * (r : Int) := by omega
  have z2 : (r : Int) * (r : Int) ≤ 72057594037927936 := by omega
  have q1 : (r : Int) * (r : Int) % (p : Int) = ((r * r % p : Nat) : Int) := by rw [s1]; simp
  clear s1 s2
  generalize r * r % p = sq at *
  obtain ⟨R, hR⟩ : ∃ R, lr p sq (n / 2 - 1) r r = R := ⟨_, rfl⟩
  rw [hR]
  have H0 : Hid (lr p sq (n / 2 - 1 - 0) r r = R) := hR
  clear hR
  have hpn : ¬ p = 0 := by omega
  go_enter Tryz.func215, Tryz.ntmps215
  go_wp2_with fail
  rw [q1]
  go_loop [0, 8, 18] (fun x b i => ∃ x' b' i' : Nat, x' < p ∧ b' < p ∧ i' ≤ n / 2 - 1 ∧ Hid (lr p sq (n / 2 - 1 - i') x' b' = R) ∧ x = .int .i64 x' ∧ b = .int .i64 b' ∧ i = .int .i64 i') (fun _ _ i => n / 2 - 1 - (intOf i).toNat)
  case atStart => exact ⟨r, r, 0, hr, hr, by omega, H0, rfl, rfl, rfl⟩
  case round =>
    obtain ⟨x, b, i, hx, hb, hi, H1, rfl, rfl, rfl⟩ := hrel
    clear H0 z1 z2 q1
    by_cases hlt : i < n / 2 - 1
    · have hd : decide ((i : Int) < (n : Int) / 2 - 1) = true := by simp; omega
      obtain ⟨t1, t2⟩ := prod_bd p x sq hp hx hsq
      have y1 : 0 ≤ (x : Int) * (sq : Int) := by omega
      have y2 : (x : Int) * (sq : Int) ≤ 72057594037927936 := by omega
      have q2 : (x : Int) * (sq : Int) % (p : Int) = ((x * sq % p : Nat) : Int) := by rw [t1]; simp
      have hxs : x * sq % p < p := Nat.mod_lt _ (by omega)
      have H2 : Hid (lr p sq (n / 2 - 1 - (i + 1)) (x * sq % p) (min b (x * sq % p)) = R) := by
        have := H1.out
        rw [show n / 2 - 1 - i = (n / 2 - 1 - (i + 1)) + 1 by omega] at this
        exact this
      clear t1 t2 H1
      generalize x * sq % p = xs at *
      have hmin : min b xs < p := by omega
      go_wp2_with fail
      exact ⟨⟨xs, min b xs, i + 1, hxs, hmin, by omega, H2, val_eq q2, val_eq (by omega), by go_num⟩, by simp [intOf]; omega⟩
    · have hd : decide ((i : Int) < (n : Int) / 2 - 1) = false := by simp; omega
      obtain rfl : i = n / 2 - 1 := by omega
      have HB : Hid (b = R) := by
        have := H1.out
        rw [Nat.sub_self] at this
        exact this
      clear H1
      go_wp2_with fail
      go_ret
      exact ⟨by rw [← HB.out]; rfl, rfl⟩
set_option maxHeartbeats 2000000 in
theorem spec_leastRoot (p n m e h A : Nat) (w : World) (hp3 : 3 ≤ p) (hp : p ≤ 268435456) (hpm : p = 2 * m + 1) (hn : n = 2 * h) (hh : 1 ≤ h) (hn' : n ≤ 64) (he : (p - 1) / n = e) (hem : e * h = m) (hA2 : 2 ≤ A) (hAp : A ≤ p)
    (hmin : ∀ b, 2 ≤ b → b < A → powM (b % p) m p = 1) (hA : powM (A % p) m p ≠ 1) :
    Calls Tryz.prog 206 #[.int .i64 p, .int .i64 n] w fun en w' => en = .returned (.int .i64 (lr p (powM (A % p) e p * powM (A % p) e p % p) (n / 2 - 1) (powM (A % p) e p) (powM (A % p) e p))) ∧ w' = w := by
  have hr := powM_lt (A % p) e p (by omega)
  have hz : powM (A % p) e p = 0 → A = p := by
    intro h0
    rcases Nat.lt_or_ge A p with hlt | hge
    · exfalso
      rw [powM_mod] at h0
      refine no_zero A p m e hpm hA2 hlt ?_ h0
      by_cases h3 : A = 2
      · rw [h3, show 2 - 1 = 1 from rfl, Nat.one_pow]; exact Nat.mod_eq_of_lt (by omega)
      · have := hmin (A - 1) (by omega) (by omega)
        rw [powM_mod] at this
        exact this
    · omega
  have heb : e ≤ p := by have := Nat.div_le_self (p - 1) n; omega
  have cl : ∀ (a x : Nat) (W : World), a ≤ p → x ≤ p → Calls Tryz.prog 187 #[.int .i64 a, .int .i64 x, .int .i64 p] W fun en w' => en = .returned (.int .i64 (powM (a % p) x p : Nat)) ∧ w' = W := by
    intro a x W ha hx
    have h := spec_pow (a : Int) (x : Int) (p : Int) W ⟨by omega, by omega⟩ ⟨by omega, by omega⟩ ⟨by omega, by omega⟩
    rw [← Int.natCast_emod, Int.toNat_natCast, Int.toNat_natCast, Int.toNat_natCast] at h
    exact h
  have hcomp : ∀ g : Nat, powM (powM (g % p) e p % p) h p = powM (g % p) m p := by
    intro g; rw [powM_two g e h p (by omega), hem]
  have r2 : ((p : Int) - 1) / (n : Int) = (e : Int) := by
    rw [← he]
    have : ((p - 1 : Nat) : Int) = (p : Int) - 1 := by omega
    rw [← this]
    simp
  have r3 : (n : Int) / 2 = (h : Int) := by omega
  have hnn : ¬ n = 0 := by omega
  have HL : Hid (∀ (a x : Nat) (W : World), a ≤ p → x ≤ p → Calls Tryz.prog 187 #[.int .i64 a, .int .i64 x, .int .i64 p] W fun en w' => en = .returned (.int .i64 (powM (a % p) x p : Nat)) ∧ w' = W) := cl
  have HC : Hid (∀ g : Nat, powM (powM (g % p) e p % p) h p = powM (g % p) m p) := hcomp
  have HM : Hid (∀ b, 2 ≤ b → b < A → powM (b % p) m p = 1) := hmin
  have HA : Hid (powM (A % p) m p ≠ 1) := hA
  have HE : Hid (powM (A % p) e p = powM (A % p) e p) := rfl
  clear cl hcomp hmin hA
  have hhb : h ≤ p ∨ p < h := by omega
  obtain ⟨r, hrr⟩ : ∃ r, powM (A % p) e p = r := ⟨_, rfl⟩
  rw [hrr] at hr hz
  rw [hrr]
  have HRR : Hid (powM (A % p) e p = r) := hrr
  clear hrr HE
  have hpn : ¬ p = 0 := by omega
  have hhp : h ≤ p := by
    have h1 : e * n ≤ p - 1 := by rw [← he]; exact Nat.div_mul_le_self _ _
    have h2 : 1 ≤ e := by
      rcases Nat.eq_zero_or_pos e with h0 | h0
      · exfalso; rw [h0] at hem; omega
      · exact h0
    have h3 : 1 * n ≤ e * n := Nat.mul_le_mul_right _ h2
    omega
  have hn1 : n ≤ 2 * h := by omega
  have hn2 : 2 * h ≤ n := by omega
  obtain ⟨sq, hsq⟩ : ∃ sq, r * r % p = sq := ⟨_, rfl⟩
  rw [hsq]
  have HSQ : Hid (sq = r * r % p) := hsq.symm
  obtain ⟨R, hR⟩ : ∃ R, lr p sq (n / 2 - 1) r r = R := ⟨_, rfl⟩
  rw [hR]
  have HR0 : Hid (lrS p sq (h - 0) r r = R) := by
    show _ = _
    rw [Nat.sub_zero, show h = (h - 1) + 1 by omega, lrS_lr, Nat.min_self, ← hR, show n / 2 - 1 = h - 1 by omega]
  clear hem he hn hpm hhb hsq hR
  go_enter Tryz.func206, Tryz.ntmps206
  go_wp2_with fail
  go_loopw [5, 6] (fun o g W => ∃ o' g' : Nat, 2 ≤ g' ∧ ((g' ≤ A ∧ o' = 0) ∨ (g' = A + 1 ∧ r = o')) ∧ o = .int .i64 o' ∧ g = .int .i64 g' ∧ W = w) (fun _ g _ => A + 1 - (intOf g).toNat)
  case atStart => exact ⟨0, 2, by omega, Or.inl ⟨hA2, rfl⟩, rfl, rfl, rfl⟩
  case round =>
    obtain ⟨o, g, hg2, hph, rfl, rfl, rfl⟩ := hrel
    rcases hph with ⟨hgA, rfl⟩ | ⟨rfl, rfl⟩
    · have hd : decide ((g : Int) ≤ (p : Int)) = true := by simp; omega
      have c1 := fun W => HL.out g e W (by omega) heb
      have hx := powM_lt (g % p) e p (by omega)
      have c2 := fun W => HL.out (powM (g % p) e p) h W (by omega) hhp
      have hcg := HC.out g
      rw [hcg] at c2
      by_cases hlt : g < A
      · rw [HM.out g hg2 hlt] at c2
        generalize powM (g % p) e p = x at *
        clear hcg
        go_wp2_with fail
        refine (c1 _).mono ?_
        rintro en w1 ⟨rfl, rfl⟩
        go_wp2_with fail
        refine (c2 _).mono ?_
        rintro en w1 ⟨rfl, rfl⟩
        go_wp2_with fail
        go_roundw
        case rel => exact ⟨0, g + 1, by omega, Or.inl ⟨by omega, rfl⟩, rfl, by go_num, True.intro⟩
        case measure => simp [intOf]; omega
      · obtain rfl : g = A := by omega
        have hne : ((powM (g % p) m p : Int) != 1) = true := by have := HA.out; simp; omega
        rw [HRR.out] at c1 c2
        generalize powM (g % p) m p = y at *
        clear hcg hx
        go_wp2_with fail
        refine (c1 _).mono ?_
        rintro en w1 ⟨rfl, rfl⟩
        go_wp2_with fail
        refine (c2 _).mono ?_
        rintro en w1 ⟨rfl, rfl⟩
        go_wp2_with fail
        go_roundw
        case rel => exact ⟨r, g + 1, by omega, Or.inr ⟨rfl, rfl⟩, rfl, by go_num, True.intro⟩
        case measure => simp [intOf]
    · by_cases hAlt : A < p
      · have hd : decide (((A + 1 : Nat) : Int) ≤ (p : Int)) = true := by simp; omega
        have hrne : ¬ r = 0 := fun h0 => by have := hz h0; omega
        have hr0 : ((r : Int) == 0) = false := by simp; omega
        clear hz
        go_wp2_with fail
        go_loop [8, 9, 10] (fun b x k => ∃ b' x' i' : Nat, b' < p ∧ x' < p ∧ i' ≤ h ∧ Hid (lrS p sq (h - i') x' b' = R) ∧ b = .int .i64 b' ∧ x = .int .i64 x' ∧ k = .int .i64 (1 + 2 * i' : Nat)) (fun _ _ k => 200 - (intOf k).toNat)
        case atStart => exact ⟨r, r, 0, hr, hr, by omega, HR0, rfl, rfl, rfl⟩
        case round =>
          obtain ⟨b, x, i, hb, hx, hi, H1, rfl, rfl, rfl⟩ := hrel
          clear HR0
          by_cases hlt : i < h
          · have hk : decide (((1 + 2 * i : Nat) : Int) < (n : Int)) = true := by simp; omega
            obtain ⟨t1, t2⟩ := prod_bd p x r hp hx hr
            have y1 : 0 ≤ (x : Int) * (r : Int) := by omega
            have y2 : (x : Int) * (r : Int) ≤ 72057594037927936 := by omega
            have q2 : (x : Int) * (r : Int) % (p : Int) = ((x * r % p : Nat) : Int) := by rw [t1]; simp
            have hxr : x * r % p < p := Nat.mod_lt _ (by omega)
            have hsame : x * r % p * r % p = x * sq % p := by rw [HSQ.out, ml, mrr, Nat.mul_assoc]
            have H2 : Hid (lrS p sq (h - (i + 1)) (x * sq % p) (min b x) = R) := by
              have := H1.out
              rw [show h - i = (h - (i + 1)) + 1 by omega] at this
              exact this
            rw [← hsame] at H2
            clear t1 t2 H1 hsame
            generalize x * r % p = xr at *
            obtain ⟨t1, t2⟩ := prod_bd p xr r hp hxr hr
            have y3 : 0 ≤ (xr : Int) * (r : Int) := by omega
            have y4 : (xr : Int) * (r : Int) ≤ 72057594037927936 := by omega
            have q3 : (xr : Int) * (r : Int) % (p : Int) = ((xr * r % p : Nat) : Int) := by rw [t1]; simp
            have hxx : xr * r % p < p := Nat.mod_lt _ (by omega)
            clear t1 t2
            generalize xr * r % p = xx at *
            have Q2 : Hid ((x : Int) * (r : Int) % (p : Int) = (xr : Int)) := q2
            have Q3 : Hid ((xr : Int) * (r : Int) % (p : Int) = (xx : Int)) := q3
            by_cases hc : x < b
            · have hd2 : decide ((x : Int) < (b : Int)) = true := by simp; omega
              have hmn : min b x = x := by omega
              rw [hmn] at H2
              clear hmn
              go_wp2_with fail
              exact ⟨⟨x, xx, i + 1, hx, hxx, by omega, H2, rfl, val_eq (by first | exact Q3.out | (rw [Q2.out]; exact Q3.out)), val_eq (by omega)⟩, by simp [intOf]; omega⟩
            · have hd2 : decide ((x : Int) < (b : Int)) = false := by simp; omega
              have hmn : min b x = b := by omega
              rw [hmn] at H2
              clear hmn
              go_wp2_with fail
              exact ⟨⟨b, xx, i + 1, hb, hxx, by omega, H2, rfl, val_eq (by first | exact Q3.out | (rw [Q2.out]; exact Q3.out)), val_eq (by omega)⟩, by simp [intOf]; omega⟩
          · have hk : decide (((1 + 2 * i : Nat) : Int) < (n : Int)) = false := by simp; omega
            obtain rfl : i = h := by omega
            have HB : Hid (b = R) := by
              have := H1.out
              rw [Nat.sub_self] at this
              exact this
            clear H1
            go_wp2_with fail
            go_ret
            exact ⟨by rw [← HB.out]; rfl, rfl⟩
      · have hd : decide (((A + 1 : Nat) : Int) ≤ (p : Int)) = false := by simp; omega
        clear hz
        go_wp2_with fail
        go_loop [8, 9, 10] (fun b x k => ∃ b' x' i' : Nat, b' < p ∧ x' < p ∧ i' ≤ h ∧ Hid (lrS p sq (h - i') x' b' = R) ∧ b = .int .i64 b' ∧ x = .int .i64 x' ∧ k = .int .i64 (1 + 2 * i' : Nat)) (fun _ _ k => 200 - (intOf k).toNat)
        case atStart => exact ⟨r, r, 0, hr, hr, by omega, HR0, rfl, rfl, rfl⟩
        case round =>
          obtain ⟨b, x, i, hb, hx, hi, H1, rfl, rfl, rfl⟩ := hrel
          clear HR0
          by_cases hlt : i < h
          · have hk : decide (((1 + 2 * i : Nat) : Int) < (n : Int)) = true := by simp; omega
            obtain ⟨t1, t2⟩ := prod_bd p x r hp hx hr
            have y1 : 0 ≤ (x : Int) * (r : Int) := by omega
            have y2 : (x : Int) * (r : Int) ≤ 72057594037927936 := by omega
            have q2 : (x : Int) * (r : Int) % (p : Int) = ((x * r % p : Nat) : Int) := by rw [t1]; simp
            have hxr : x * r % p < p := Nat.mod_lt _ (by omega)
            have hsame : x * r % p * r % p = x * sq % p := by rw [HSQ.out, ml, mrr, Nat.mul_assoc]
            have H2 : Hid (lrS p sq (h - (i + 1)) (x * sq % p) (min b x) = R) := by
              have := H1.out
              rw [show h - i = (h - (i + 1)) + 1 by omega] at this
              exact this
            rw [← hsame] at H2
            clear t1 t2 H1 hsame
            generalize x * r % p = xr at *
            obtain ⟨t1, t2⟩ := prod_bd p xr r hp hxr hr
            have y3 : 0 ≤ (xr : Int) * (r : Int) := by omega
            have y4 : (xr : Int) * (r : Int) ≤ 72057594037927936 := by omega
            have q3 : (xr : Int) * (r : Int) % (p : Int) = ((xr * r % p : Nat) : Int) := by rw [t1]; simp
            have hxx : xr * r % p < p := Nat.mod_lt _ (by omega)
            clear t1 t2
            generalize xr * r % p = xx at *
            have Q2 : Hid ((x : Int) * (r : Int) % (p : Int) = (xr : Int)) := q2
            have Q3 : Hid ((xr : Int) * (r : Int) % (p : Int) = (xx : Int)) := q3
            by_cases hc : x < b
            · have hd2 : decide ((x : Int) < (b : Int)) = true := by simp; omega
              have hmn : min b x = x := by omega
              rw [hmn] at H2
              clear hmn
              go_wp2_with fail
              exact ⟨⟨x, xx, i + 1, hx, hxx, by omega, H2, rfl, val_eq (by first | exact Q3.out | (rw [Q2.out]; exact Q3.out)), val_eq (by omega)⟩, by simp [intOf]; omega⟩
            · have hd2 : decide ((x : Int) < (b : Int)) = false := by simp; omega
              have hmn : min b x = b := by omega
              rw [hmn] at H2
              clear hmn
              go_wp2_with fail
              exact ⟨⟨b, xx, i + 1, hb, hxx, by omega, H2, rfl, val_eq (by first | exact Q3.out | (rw [Q2.out]; exact Q3.out)), val_eq (by omega)⟩, by simp [intOf]; omega⟩
          · have hk : decide (((1 + 2 * i : Nat) : Int) < (n : Int)) = false := by simp; omega
            obtain rfl : i = h := by omega
            have HB : Hid (b = R) := by
              have := H1.out
              rw [Nat.sub_self] at this
              exact this
            clear H1
            go_wp2_with fail
            go_ret
            exact ⟨by rw [← HB.out]; rfl, rfl⟩
end Go.Proofs.YtfgooclnohnkmaaGreatDoor
/- Proved: contracts of RootOf, of the program and of the model: both answer one and the same least root, 0 and no where there is none. -/
namespace Go.Proofs.YtfgooclnohnkmaaGreatDoor
open Go.ChangeShapes Go.WideShapes Go.ChangeAt Go.RowKit
open M1
set_option linter.unusedVariables false
/-- at least lo and at most hi -/
def inB (x lo hi : Int) : Bool := decide (lo ≤ x ∧ x ≤ hi)
theorem inB_out {x lo hi : Int} (h : inB x lo hi = true) : lo ≤ x ∧ x ≤ hi := by simpa [inB] using h
theorem inB_not {x lo hi : Int} (h : inB x lo hi = false) : x < lo ∨ (lo ≤ x ∧ hi < x) := by simp [inB] at h; omega
theorem spec_in (x lo hi : Int) (w : World) :
    Calls Tryz.prog 121 #[.int .i64 x, .int .i64 lo, .int .i64 hi] w fun e w' => e = .returned (.bool (inB x lo hi)) ∧ w' = w := by
  cases h : inB x lo hi
  · rcases inB_not h with h1 | ⟨h1, h2⟩
    · clear h
      have d : decide (lo ≤ x) = false := by simp; omega
      go_enter Tryz.func121, Tryz.ntmps121
      go_wp2
      go_ret
      exact ⟨rfl, rfl⟩
    · clear h
      have d : decide (x ≤ hi) = false := by simp; omega
      go_enter Tryz.func121, Tryz.ntmps121
      go_wp2
      go_ret
      exact ⟨rfl, rfl⟩
  · obtain ⟨h1, h2⟩ := inB_out h
    clear h
    have d : decide (x ≤ hi) = true := by simp; omega
    go_enter Tryz.func121, Tryz.ntmps121
    go_wp2
    go_ret
    exact ⟨rfl, rfl⟩
/-- the orders of roots: powers of 2 from 2 to 64 -/
def ordB (n : Int) : Bool := inB n 2 64 && (bits BinOp.and IntKind.i64 n (n - 1) == 0)
theorem ord_even : ∀ n : Nat, n < 65 → 2 ≤ n → n &&& (n - 1) = 0 → n % 2 = 0 := by decide
theorem and_nat (a b : Nat) (ha : a ≤ 9223372036854775807) (hb : b ≤ 9223372036854775807) : bits .and .i64 (a : Int) (b : Int) = ((a &&& b : Nat) : Int) := and_i64_nat a b ha hb
theorem ordB_yes (n : Nat) (h : ordB (n : Int) = true) : 2 ≤ n ∧ n ≤ 64 ∧ n % 2 = 0 := by
  simp only [ordB, Bool.and_eq_true] at h
  obtain ⟨h1, h2⟩ := h
  obtain ⟨h3, h4⟩ := inB_out h1
  refine ⟨by omega, by omega, ord_even n (by omega) (by omega) ?_⟩
  have e : (n : Int) - 1 = ((n - 1 : Nat) : Int) := by omega
  rw [e, and_nat n (n - 1) (by omega) (by omega)] at h2
  have := beq_iff_eq.1 h2
  omega
theorem impl_isOrder (n : Int) (w : World) :
    Calls Tryz.prog 214 #[.int .i64 n] w fun e w' => e = .returned (.bool (ordB n)) ∧ w' = w := by
  cases h : inB n 2 64
  · have ho : ordB n = false := by simp [ordB, h]
    rw [ho]
    rcases inB_not h with h1 | ⟨h1, h2⟩
    · clear h ho
      have d : decide (2 ≤ n) = false := by simp; omega
      go_enter Tryz.func214, Tryz.ntmps214
      go_wp2
      go_ret
      exact ⟨rfl, rfl⟩
    · clear h ho
      have d : decide (n ≤ 64) = false := by simp; omega
      go_enter Tryz.func214, Tryz.ntmps214
      go_wp2
      go_ret
      exact ⟨rfl, rfl⟩
  · have ho : ordB n = (bits BinOp.and IntKind.i64 n (n - 1) == 0) := by simp [ordB, h]
    rw [ho]
    obtain ⟨h1, h2⟩ := inB_out h
    clear h ho
    have d : decide (n ≤ 64) = true := by simp; omega
    have d2 : decide (2 ≤ n) = true := by simp; omega
    go_enter Tryz.func214, Tryz.ntmps214
    go_wp2
    go_ret
    exact ⟨rfl, rfl⟩
theorem impl_isPM (p : Int) (w : World) (hP : PrsW w) (hT : TabW w) :
    Calls Tryz.prog 118 #[.int .i64 p] w fun e w' => e = .returned (.bool (modB p && isP p.toNat)) ∧ ∃ k, w' = w.drewN k := by
  cases h : modB p
  · have HB : Hid ((false && isP p.toNat) = false) := rfl
    generalize (false && isP p.toNat) = B at *
    clear hP hT
    go_enter Tryz.func118, Tryz.ntmps118
    go_wp2_with (go_at_call 128; refine (impl_isModulus _ _).mono ?_; rintro en w' ⟨rfl, rfl⟩)
    go_ret
    exact ⟨ret_bool HB.out.symm, 0, rfl⟩
  · obtain ⟨h1, h2⟩ := modB_yes h
    have c := fun W (h1 : PrsW W) (h2 : TabW W) => impl_IsPrime p.toNat W (by omega) h1 h2
    rw [Int.toNat_of_nonneg (by omega)] at c
    rw [Bool.true_and]
    generalize isP p.toNat = B at *
    have HP : Hid (PrsW w) := hP
    have HT : Hid (TabW w) := hT
    clear hP hT
    go_enter Tryz.func118, Tryz.ntmps118
    go_wp2_with (go_at_call 128; refine (impl_isModulus _ _).mono ?_; rintro en w' ⟨rfl, rfl⟩)
    refine (c _ HP.out HT.out).mono ?_
    rintro e w2 ⟨rfl, k, rfl⟩
    go_wp2_with fail
    go_ret
    exact ⟨rfl, k, rfl⟩
theorem lr_lt (p sq : Nat) (hp : 0 < p) : ∀ (k x b : Nat), b < p → lr p sq k x b < p
  | 0, _, _, h => h
  | k + 1, x, b, h => lr_lt p sq hp k _ _ (by have := Nat.mod_lt (x * sq) hp; omega)
/-- where RootOf answers -/
structure RootOk (p n : Int) : Prop where
  ord : ordB n = true
  md : modB p = true
  pr : isP p.toNat = true
  dv : (p - 1) % n = 0
theorem ordB_bd {n : Int} (h : ordB n = true) : 2 ≤ n ∧ n ≤ 64 := by
  simp only [ordB, Bool.and_eq_true] at h
  exact inB_out h.1
set_option maxHeartbeats 1000000 in
theorem impl_RootOf_no (p n : Int) (w : World) (hP : PrsW w) (hT : TabW w) (h : ¬ RootOk p n) :
    Calls Tryz.prog 196 #[.int .i64 p, .int .i64 n] w fun e w' => e = .returned (.tuple #[.int .i64 0, .bool false]) ∧ ∃ k, w' = w.drewN k := by
  have c0 := fun W => impl_isOrder n W
  have c1 := fun W (h1 : PrsW W) (h2 : TabW W) => impl_isPM p W h1 h2
  have HP : Hid (PrsW w) := hP
  have HT : Hid (TabW w) := hT
  clear hP hT
  cases ho : ordB n
  · rw [ho] at c0
    clear h
    go_enter Tryz.func196, Tryz.ntmps196
    go_wp2_with fail
    refine (c0 _).mono ?_
    rintro e w1 ⟨rfl, rfl⟩
    go_wp2_with fail
    go_ret2
    exact ⟨rfl, 0, rfl⟩
  · rw [ho] at c0
    obtain ⟨b1, b2⟩ := ordB_bd ho
    cases hm : (modB p && isP p.toNat)
    · rw [hm] at c1
      clear h
      go_enter Tryz.func196, Tryz.ntmps196
      go_wp2_with fail
      refine (c0 _).mono ?_
      rintro e w1 ⟨rfl, rfl⟩
      go_wp2_with fail
      refine (c1 _ HP.out HT.out).mono ?_
      rintro e w2 ⟨rfl, k, rfl⟩
      go_wp2_with fail
      go_ret2
      exact ⟨rfl, k, rfl⟩
    · rw [hm] at c1
      simp only [Bool.and_eq_true] at hm
      obtain ⟨m1, m2⟩ := modB_yes hm.1
      have hd : ((p - 1) % n != 0) = true := by
        simp only [bne_iff_ne]
        exact fun h4 => h ⟨ho, hm.1, hm.2, h4⟩
      have hnn : ¬ n = 0 := by omega
      clear h hm ho
      go_enter Tryz.func196, Tryz.ntmps196
      go_wp2_with fail
      refine (c0 _).mono ?_
      rintro e w1 ⟨rfl, rfl⟩
      go_wp2_with fail
      refine (c1 _ HP.out HT.out).mono ?_
      rintro e w2 ⟨rfl, k, rfl⟩
      go_wp2_with fail
      go_ret2
      exact ⟨rfl, k, rfl⟩
set_option maxHeartbeats 1000000 in
theorem impl_RootOf_yes (p n r R : Nat) (w : World) (hP : PrsW w) (hT : TabW w) (h : RootOk p n) (hrp : r < p)
    (cs : ∀ W, Calls Tryz.prog 216 #[.int .i64 p, .int .i64 n] W fun en w' => en = .returned (.int .i64 r) ∧ ∃ k, w' = W.drewN k)
    (cl : ∀ W, Calls Tryz.prog 215 #[.int .i64 r, .int .i64 p, .int .i64 n] W fun en w' => en = .returned (.int .i64 R) ∧ w' = W) :
    Calls Tryz.prog 196 #[.int .i64 p, .int .i64 n] w fun e w' => e = .returned (.tuple #[.int .i64 R, .bool true]) ∧ ∃ k, w' = w.drewN k := by
  obtain ⟨ho, hm, hi, hd⟩ := h
  have c0 := fun W => impl_isOrder n W
  have c1 := fun W (h1 : PrsW W) (h2 : TabW W) => impl_isPM p W h1 h2
  rw [ho] at c0
  rw [hm, hi, Bool.true_and] at c1
  obtain ⟨b1, b2⟩ := ordB_bd ho
  obtain ⟨m1, m2⟩ := modB_yes hm
  have hd' : (((p : Int) - 1) % (n : Int) != 0) = false := by simp [hd]
  have hnn : ¬ n = 0 := by omega
  have HP : Hid (PrsW w) := hP
  have HT : Hid (TabW w) := hT
  clear hP hT ho hm hi hd
  go_enter Tryz.func196, Tryz.ntmps196
  go_wp2_with fail
  refine (c0 _).mono ?_
  rintro e w1 ⟨rfl, rfl⟩
  go_wp2_with fail
  refine (c1 _ HP.out HT.out).mono ?_
  rintro e w2 ⟨rfl, k, rfl⟩
  go_wp2_with fail
  refine (cs _).mono ?_
  rintro e w3 ⟨rfl, k3, rfl⟩
  go_wp2_with fail
  refine (cl _).mono ?_
  rintro e w4 ⟨rfl, rfl⟩
  go_wp2_with fail
  go_ret2
  exact ⟨rfl, _, rfl⟩
end Go.Proofs.YtfgooclnohnkmaaGreatDoor
