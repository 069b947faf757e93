/- Proved: several texts in one: what each proves is said ahead of it. -/
import Derived.Test.YtfgooclnohnkmaaGreatDoorRows
import Derived.WalkKit
import Derived.ProofKit
import Derived.OpenShut
import Derived.Handy
import Derived.WalkSmall
import Derived.Lib.Walk
import Derived.Lib.BitFns
import Derived.Test.YtfgooclnohnkmaaGreatDoorWo03
/- Proved: the contract of IsPrime of the program, under its table, the table of the library and products modulo n: it answers by trial division and twelve witnesses. -/
namespace Go.Proofs.YtfgooclnohnkmaaGreatDoor
open Go.ChangeShapes Go.WideShapes Go.ChangeAt Go.RowKit
open M1
set_option linter.unusedVariables false
def smallP : List Nat := [2, 3, 5, 7, 11, 13, 17, 19, 23, 29, 31, 37]
def wit (n : Nat) : List Nat → Bool
  | [] => true
  | a :: r => passB n a && wit n r
def fnd (n : Nat) : List Nat → Bool
  | [] => wit n smallP
  | p :: r => if n % p = 0 then n == p else fnd n r
/-- what both answer -/
def isP (n : Nat) : Bool := if n < 2 then false else fnd n smallP
theorem above : ∀ n, n < 41 → 2 ≤ n → ∃ p, p ∈ smallP ∧ n % p = 0 := by decide
theorem above_of (n : Nat) (h2 : 2 ≤ n) (h : ∀ p, p ∈ smallP → n % p ≠ 0) : 41 ≤ n := by
  by_cases h41 : n < 41
  · obtain ⟨p, hp, hd⟩ := above n h41 h2
    exact absurd hd (h p hp)
  · omega
/-- the program's table, as it is laid -/
def PrsW (w : World) : Prop := ∀ j, j < 12 → w.cell? ⟨0, j, none⟩ = some (.int .u64 (smallP.getD j 0))
theorem PrsW.drewN {w : World} (h : PrsW w) (n : Nat) : PrsW (w.drewN n) := h
theorem twelve (k : Nat) (h : k < 12) : k = 0 ∨ k = 1 ∨ k = 2 ∨ k = 3 ∨ k = 4 ∨ k = 5 ∨ k = 6 ∨ k = 7 ∨ k = 8 ∨ k = 9 ∨ k = 10 ∨ k = 11 := by omega
structure St (n k : Nat) (B : Bool) : Prop where
  eq : fnd n (smallP.drop k) = B
  no : ∀ p, p ∈ smallP.take k → n % p ≠ 0
theorem St.start (n : Nat) (h : ¬ n < 2) : St n 0 (isP n) := ⟨by unfold isP; rw [if_neg h]; rfl, by simp⟩
theorem St.next {n k p : Nat} {B : Bool} (h : St n k B) (hk : smallP.drop k = p :: smallP.drop (k + 1)) (ht : smallP.take (k + 1) = smallP.take k ++ [p]) (hm : n % p ≠ 0) : St n (k + 1) B := by
  refine ⟨?_, ?_⟩
  · rw [← h.eq, hk, fnd, if_neg hm]
  · intro q hq
    rw [ht] at hq
    rcases List.mem_append.1 hq with hq | hq
    · exact h.no q hq
    · rw [List.mem_singleton.1 hq]; exact hm
theorem St.hit {n k p : Nat} {B : Bool} (h : St n k B) (hk : smallP.drop k = p :: smallP.drop (k + 1)) (hm : n % p = 0) : B = (n == p) := by
  rw [← h.eq, hk, fnd, if_pos hm]
theorem St.fin {n : Nat} {B : Bool} (h : St n 12 B) (h2 : 2 ≤ n) : wit n (smallP.drop 0) = B ∧ 41 ≤ n := ⟨by rw [← h.eq]; rfl, above_of n h2 h.no⟩
theorem wit_step (n k p : Nat) (hk : smallP.drop k = p :: smallP.drop (k + 1)) : wit n (smallP.drop k) = (passB n p && wit n (smallP.drop (k + 1))) := by rw [hk, wit]
theorem ix0 (W : World) : (Instr.index 212 (.agg #[.int .u64 2, .int .u64 3, .int .u64 5, .int .u64 7, .int .u64 11, .int .u64 13, .int .u64 17, .int .u64 19, .int .u64 23, .int .u64 29, .int .u64 31, .int .u64 37]) (.int .i64 0)).run Tryz.prog W = .ok (.int .u64 2) W := by kernel_rfl
theorem ix1 (W : World) : (Instr.index 212 (.agg #[.int .u64 2, .int .u64 3, .int .u64 5, .int .u64 7, .int .u64 11, .int .u64 13, .int .u64 17, .int .u64 19, .int .u64 23, .int .u64 29, .int .u64 31, .int .u64 37]) (.int .i64 1)).run Tryz.prog W = .ok (.int .u64 3) W := by kernel_rfl
theorem ix2 (W : World) : (Instr.index 212 (.agg #[.int .u64 2, .int .u64 3, .int .u64 5, .int .u64 7, .int .u64 11, .int .u64 13, .int .u64 17, .int .u64 19, .int .u64 23, .int .u64 29, .int .u64 31, .int .u64 37]) (.int .i64 2)).run Tryz.prog W = .ok (.int .u64 5) W := by kernel_rfl
theorem ix3 (W : World) : (Instr.index 212 (.agg #[.int .u64 2, .int .u64 3, .int .u64 5, .int .u64 7, .int .u64 11, .int .u64 13, .int .u64 17, .int .u64 19, .int .u64 23, .int .u64 29, .int .u64 31, .int .u64 37]) (.int .i64 3)).run Tryz.prog W = .ok (.int .u64 7) W := by kernel_rfl
theorem ix4 (W : World) : (Instr.index 212 (.agg #[.int .u64 2, .int .u64 3, .int .u64 5, .int .u64 7, .int .u64 11, .int .u64 13, .int .u64 17, .int .u64 19, .int .u64 23, .int .u64 29, .int .u64 31, .int .u64 37]) (.int .i64 4)).run Tryz.prog W = .ok (.int .u64 11) W := by kernel_rfl
theorem ix5 (W : World) : (Instr.index 212 (.agg #[.int .u64 2, .int .u64 3, .int .u64 5, .int .u64 7, .int .u64 11, .int .u64 13, .int .u64 17, .int .u64 19, .int .u64 23, .int .u64 29, .int .u64 31, .int .u64 37]) (.int .i64 5)).run Tryz.prog W = .ok (.int .u64 13) W := by kernel_rfl
theorem ix6 (W : World) : (Instr.index 212 (.agg #[.int .u64 2, .int .u64 3, .int .u64 5, .int .u64 7, .int .u64 11, .int .u64 13, .int .u64 17, .int .u64 19, .int .u64 23, .int .u64 29, .int .u64 31, .int .u64 37]) (.int .i64 6)).run Tryz.prog W = .ok (.int .u64 17) W := by kernel_rfl
theorem ix7 (W : World) : (Instr.index 212 (.agg #[.int .u64 2, .int .u64 3, .int .u64 5, .int .u64 7, .int .u64 11, .int .u64 13, .int .u64 17, .int .u64 19, .int .u64 23, .int .u64 29, .int .u64 31, .int .u64 37]) (.int .i64 7)).run Tryz.prog W = .ok (.int .u64 19) W := by kernel_rfl
theorem ix8 (W : World) : (Instr.index 212 (.agg #[.int .u64 2, .int .u64 3, .int .u64 5, .int .u64 7, .int .u64 11, .int .u64 13, .int .u64 17, .int .u64 19, .int .u64 23, .int .u64 29, .int .u64 31, .int .u64 37]) (.int .i64 8)).run Tryz.prog W = .ok (.int .u64 23) W := by kernel_rfl
theorem ix9 (W : World) : (Instr.index 212 (.agg #[.int .u64 2, .int .u64 3, .int .u64 5, .int .u64 7, .int .u64 11, .int .u64 13, .int .u64 17, .int .u64 19, .int .u64 23, .int .u64 29, .int .u64 31, .int .u64 37]) (.int .i64 9)).run Tryz.prog W = .ok (.int .u64 29) W := by kernel_rfl
theorem ix10 (W : World) : (Instr.index 212 (.agg #[.int .u64 2, .int .u64 3, .int .u64 5, .int .u64 7, .int .u64 11, .int .u64 13, .int .u64 17, .int .u64 19, .int .u64 23, .int .u64 29, .int .u64 31, .int .u64 37]) (.int .i64 10)).run Tryz.prog W = .ok (.int .u64 31) W := by kernel_rfl
theorem ix11 (W : World) : (Instr.index 212 (.agg #[.int .u64 2, .int .u64 3, .int .u64 5, .int .u64 7, .int .u64 11, .int .u64 13, .int .u64 17, .int .u64 19, .int .u64 23, .int .u64 29, .int .u64 31, .int .u64 37]) (.int .i64 11)).run Tryz.prog W = .ok (.int .u64 37) W := by kernel_rfl
theorem ret_bool {a b : Bool} (h : a = b) : Ending.returned (.bool a) = .returned (.bool b) := by rw [h]
set_option maxHeartbeats 4000000 in
theorem impl_first (n : Nat) (w : World) (B : Bool) (h2 : 2 ≤ n) (hn : n < 18446744073709551616) (hP : PrsW w) (hT : TabW w) (S0 : St n 0 B) (pr : PR n) :
    Calls Tryz.prog 168 #[.int .u64 n] w fun e w' => e = .returned (.bool B) ∧ ∃ k, w' = w.drewN k := by
  have p0 : w.cell? ⟨0, 0, none⟩ = some (.int .u64 2) := hP 0 (by decide)
  have p1 : w.cell? ⟨0, 1, none⟩ = some (.int .u64 3) := hP 1 (by decide)
  have p2 : w.cell? ⟨0, 2, none⟩ = some (.int .u64 5) := hP 2 (by decide)
  have p3 : w.cell? ⟨0, 3, none⟩ = some (.int .u64 7) := hP 3 (by decide)
  have p4 : w.cell? ⟨0, 4, none⟩ = some (.int .u64 11) := hP 4 (by decide)
  have p5 : w.cell? ⟨0, 5, none⟩ = some (.int .u64 13) := hP 5 (by decide)
  have p6 : w.cell? ⟨0, 6, none⟩ = some (.int .u64 17) := hP 6 (by decide)
  have p7 : w.cell? ⟨0, 7, none⟩ = some (.int .u64 19) := hP 7 (by decide)
  have p8 : w.cell? ⟨0, 8, none⟩ = some (.int .u64 23) := hP 8 (by decide)
  have p9 : w.cell? ⟨0, 9, none⟩ = some (.int .u64 29) := hP 9 (by decide)
  have p10 : w.cell? ⟨0, 10, none⟩ = some (.int .u64 31) := hP 10 (by decide)
  have p11 : w.cell? ⟨0, 11, none⟩ = some (.int .u64 37) := hP 11 (by decide)
  clear hP
  have hd2 : decide ((n : Int) < 2) = false := by simp; omega
  have HS : Hid (St n 0 B) := S0
  have HT : Hid (TabW w) := hT
  have PH : Hid (PR n) := pr
  clear S0 hT pr
  go_enter Tryz.func168, Tryz.ntmps168
  go_wp2_with fail
  go_loop [10] (fun k => ∃ k' : Nat, k' ≤ 12 ∧ Hid (St n k' B) ∧ k = .int .i64 k') (fun k => 12 - (intOf k).toNat)
  case atStart => exact ⟨0, by omega, HS, rfl⟩
  case round =>
    obtain ⟨k, hk, H1, rfl⟩ := hrel
    clear HS
    by_cases hlt : k < 12
    · have hdk : decide ((k : Int) < 12) = true := by simp; omega
      rcases twelve k hlt with rfl | rfl | rfl | rfl | rfl | rfl | rfl | rfl | rfl | rfl | rfl | rfl
      · have ix := ix0
        by_cases hm : n % 2 = 0
        · have HB : Hid ((n == 2) = B) := (H1.out.hit (p := 2) rfl hm).symm
          have hbm : ((n : Int) % 2 == 0) = true := by simp; omega
          have hbe : ((n : Int) == 2) = (n == 2) := by rw [Bool.eq_iff_iff]; simp; omega
          clear hm
          go_wp2_with fail
          go_ret
          exact ⟨ret_bool HB.out, 0, rfl⟩
        · have H2 : Hid (St n 1 B) := H1.out.next (p := 2) rfl rfl hm
          have hbm : ((n : Int) % 2 == 0) = false := by simp; omega
          clear hm H1
          go_wp2_with fail
          exact ⟨⟨1, by omega, H2, rfl⟩, by simp [intOf]⟩
      · have ix := ix1
        by_cases hm : n % 3 = 0
        · have HB : Hid ((n == 3) = B) := (H1.out.hit (p := 3) rfl hm).symm
          have hbm : ((n : Int) % 3 == 0) = true := by simp; omega
          have hbe : ((n : Int) == 3) = (n == 3) := by rw [Bool.eq_iff_iff]; simp; omega
          clear hm
          go_wp2_with fail
          go_ret
          exact ⟨ret_bool HB.out, 0, rfl⟩
        · have H2 : Hid (St n 2 B) := H1.out.next (p := 3) rfl rfl hm
          have hbm : ((n : Int) % 3 == 0) = false := by simp; omega
          clear hm H1
          go_wp2_with fail
          exact ⟨⟨2, by omega, H2, rfl⟩, by simp [intOf]⟩
      · have ix := ix2
        by_cases hm : n % 5 = 0
        · have HB : Hid ((n == 5) = B) := (H1.out.hit (p := 5) rfl hm).symm
          have hbm : ((n : Int) % 5 == 0) = true := by simp; omega
          have hbe : ((n : Int) == 5) = (n == 5) := by rw [Bool.eq_iff_iff]; simp; omega
          clear hm
          go_wp2_with fail
          go_ret
          exact ⟨ret_bool HB.out, 0, rfl⟩
        · have H2 : Hid (St n 3 B) := H1.out.next (p := 5) rfl rfl hm
          have hbm : ((n : Int) % 5 == 0) = false := by simp; omega
          clear hm H1
          go_wp2_with fail
          exact ⟨⟨3, by omega, H2, rfl⟩, by simp [intOf]⟩
      · have ix := ix3
        by_cases hm : n % 7 = 0
        · have HB : Hid ((n == 7) = B) := (H1.out.hit (p := 7) rfl hm).symm
          have hbm : ((n : Int) % 7 == 0) = true := by simp; omega
          have hbe : ((n : Int) == 7) = (n == 7) := by rw [Bool.eq_iff_iff]; simp; omega
          clear hm
          go_wp2_with fail
          go_ret
          exact ⟨ret_bool HB.out, 0, rfl⟩
        · have H2 : Hid (St n 4 B) := H1.out.next (p := 7) rfl rfl hm
          have hbm : ((n : Int) % 7 == 0) = false := by simp; omega
          clear hm H1
          go_wp2_with fail
          exact ⟨⟨4, by omega, H2, rfl⟩, by simp [intOf]⟩
      · have ix := ix4
        by_cases hm : n % 11 = 0
        · have HB : Hid ((n == 11) = B) := (H1.out.hit (p := 11) rfl hm).symm
          have hbm : ((n : Int) % 11 == 0) = true := by simp; omega
          have hbe : ((n : Int) == 11) = (n == 11) := by rw [Bool.eq_iff_iff]; simp; omega
          clear hm
          go_wp2_with fail
          go_ret
          exact ⟨ret_bool HB.out, 0, rfl⟩
        · have H2 : Hid (St n 5 B) := H1.out.next (p := 11) rfl rfl hm
          have hbm : ((n : Int) % 11 == 0) = false := by simp; omega
          clear hm H1
          go_wp2_with fail
          exact ⟨⟨5, by omega, H2, rfl⟩, by simp [intOf]⟩
      · have ix := ix5
        by_cases hm : n % 13 = 0
        · have HB : Hid ((n == 13) = B) := (H1.out.hit (p := 13) rfl hm).symm
          have hbm : ((n : Int) % 13 == 0) = true := by simp; omega
          have hbe : ((n : Int) == 13) = (n == 13) := by rw [Bool.eq_iff_iff]; simp; omega
          clear hm
          go_wp2_with fail
          go_ret
          exact ⟨ret_bool HB.out, 0, rfl⟩
        · have H2 : Hid (St n 6 B) := H1.out.next (p := 13) rfl rfl hm
          have hbm : ((n : Int) % 13 == 0) = false := by simp; omega
          clear hm H1
          go_wp2_with fail
          exact ⟨⟨6, by omega, H2, rfl⟩, by simp [intOf]⟩
      · have ix := ix6
        by_cases hm : n % 17 = 0
        · have HB : Hid ((n == 17) = B) := (H1.out.hit (p := 17) rfl hm).symm
          have hbm : ((n : Int) % 17 == 0) = true := by simp; omega
          have hbe : ((n : Int) == 17) = (n == 17) := by rw [Bool.eq_iff_iff]; simp; omega
          clear hm
          go_wp2_with fail
          go_ret
          exact ⟨ret_bool HB.out, 0, rfl⟩
        · have H2 : Hid (St n 7 B) := H1.out.next (p := 17) rfl rfl hm
          have hbm : ((n : Int) % 17 == 0) = false := by simp; omega
          clear hm H1
          go_wp2_with fail
          exact ⟨⟨7, by omega, H2, rfl⟩, by simp [intOf]⟩
      · have ix := ix7
        by_cases hm : n % 19 = 0
        · have HB : Hid ((n == 19) = B) := (H1.out.hit (p := 19) rfl hm).symm
          have hbm : ((n : Int) % 19 == 0) = true := by simp; omega
          have hbe : ((n : Int) == 19) = (n == 19) := by rw [Bool.eq_iff_iff]; simp; omega
          clear hm
          go_wp2_with fail
          go_ret
          exact ⟨ret_bool HB.out, 0, rfl⟩
        · have H2 : Hid (St n 8 B) := H1.out.next (p := 19) rfl rfl hm
          have hbm : ((n : Int) % 19 == 0) = false := by simp; omega
          clear hm H1
          go_wp2_with fail
          exact ⟨⟨8, by omega, H2, rfl⟩, by simp [intOf]⟩
      · have ix := ix8
        by_cases hm : n % 23 = 0
        · have HB : Hid ((n == 23) = B) := (H1.out.hit (p := 23) rfl hm).symm
          have hbm : ((n : Int) % 23 == 0) = true := by simp; omega
          have hbe : ((n : Int) == 23) = (n == 23) := by rw [Bool.eq_iff_iff]; simp; omega
          clear hm
          go_wp2_with fail
          go_ret
          exact ⟨ret_bool HB.out, 0, rfl⟩
        · have H2 : Hid (St n 9 B) := H1.out.next (p := 23) rfl rfl hm
          have hbm : ((n : Int) % 23 == 0) = false := by simp; omega
          clear hm H1
          go_wp2_with fail
          exact ⟨⟨9, by omega, H2, rfl⟩, by simp [intOf]⟩
      · have ix := ix9
        by_cases hm : n % 29 = 0
        · have HB : Hid ((n == 29) = B) := (H1.out.hit (p := 29) rfl hm).symm
          have hbm : ((n : Int) % 29 == 0) = true := by simp; omega
          have hbe : ((n : Int) == 29) = (n == 29) := by rw [Bool.eq_iff_iff]; simp; omega
          clear hm
          go_wp2_with fail
          go_ret
          exact ⟨ret_bool HB.out, 0, rfl⟩
        · have H2 : Hid (St n 10 B) := H1.out.next (p := 29) rfl rfl hm
          have hbm : ((n : Int) % 29 == 0) = false := by simp; omega
          clear hm H1
          go_wp2_with fail
          exact ⟨⟨10, by omega, H2, rfl⟩, by simp [intOf]⟩
      · have ix := ix10
        by_cases hm : n % 31 = 0
        · have HB : Hid ((n == 31) = B) := (H1.out.hit (p := 31) rfl hm).symm
          have hbm : ((n : Int) % 31 == 0) = true := by simp; omega
          have hbe : ((n : Int) == 31) = (n == 31) := by rw [Bool.eq_iff_iff]; simp; omega
          clear hm
          go_wp2_with fail
          go_ret
          exact ⟨ret_bool HB.out, 0, rfl⟩
        · have H2 : Hid (St n 11 B) := H1.out.next (p := 31) rfl rfl hm
          have hbm : ((n : Int) % 31 == 0) = false := by simp; omega
          clear hm H1
          go_wp2_with fail
          exact ⟨⟨11, by omega, H2, rfl⟩, by simp [intOf]⟩
      · have ix := ix11
        by_cases hm : n % 37 = 0
        · have HB : Hid ((n == 37) = B) := (H1.out.hit (p := 37) rfl hm).symm
          have hbm : ((n : Int) % 37 == 0) = true := by simp; omega
          have hbe : ((n : Int) == 37) = (n == 37) := by rw [Bool.eq_iff_iff]; simp; omega
          clear hm
          go_wp2_with fail
          go_ret
          exact ⟨ret_bool HB.out, 0, rfl⟩
        · have H2 : Hid (St n 12 B) := H1.out.next (p := 37) rfl rfl hm
          have hbm : ((n : Int) % 37 == 0) = false := by simp; omega
          clear hm H1
          go_wp2_with fail
          exact ⟨⟨12, by omega, H2, rfl⟩, by simp [intOf]⟩
    · have hdk : decide ((k : Int) < 12) = false := by simp; omega
      obtain rfl : k = 12 := by omega
      obtain ⟨hw0, h41⟩ := H1.out.fin h2
      have H3 : Hid (wit n (smallP.drop 0) = B) := hw0
      clear H1 hw0
      go_wp2_with fail
      go_loopw [22] (fun k W => ∃ k' m : Nat, k' ≤ 12 ∧ Hid (wit n (smallP.drop k') = B) ∧ k = .int .i64 k' ∧ W = w.drewN m) (fun k _ => 12 - (intOf k).toNat)
      case atStart => exact ⟨0, 0, by omega, H3, rfl, rfl⟩
      case round =>
        obtain ⟨k, m, hk2, H4, rfl, rfl⟩ := hrel
        clear H3
        by_cases hlt2 : k < 12
        · have hdk2 : decide ((k : Int) < 12) = true := by simp; omega
          rcases twelve k hlt2 with rfl | rfl | rfl | rfl | rfl | rfl | rfl | rfl | rfl | rfl | rfl | rfl
          · have ix := ix0
            have hw : wit n (smallP.drop 0) = (passB n 2 && wit n (smallP.drop 1)) := wit_step n 0 2 rfl
            have H4' := H4.out
            rw [hw] at H4'
            have cp := fun W (h : Hid (TabW W)) => passes_any n 2 W PH.out h.out (by omega) hn (by omega)
            cases hp : passB n 2
            · have HB : Hid (false = B) := by show _ = _; rw [← H4', hp]; rfl
              rw [hp] at cp
              clear H4' hw H4 hp
              go_wp2_with fail
              refine (cp _ (show Hid (TabW (w.drewN m)) from HT.out)).mono ?_
              rintro e w3 ⟨rfl, k3, rfl⟩
              go_wp2_with fail
              go_ret
              exact ⟨ret_bool HB.out, _, rfl⟩
            · have H5 : Hid (wit n (smallP.drop 1) = B) := by show _ = _; rw [← H4', hp]; rfl
              rw [hp] at cp
              clear H4' hw H4 hp
              go_wp2_with fail
              refine (cp _ (show Hid (TabW (w.drewN m)) from HT.out)).mono ?_
              rintro e w3 ⟨rfl, k3, rfl⟩
              go_wp2_with fail
              go_roundw
              case rel => exact ⟨1, _, by omega, H5, rfl, rfl⟩
              case measure => simp [intOf]
          · have ix := ix1
            have hw : wit n (smallP.drop 1) = (passB n 3 && wit n (smallP.drop 2)) := wit_step n 1 3 rfl
            have H4' := H4.out
            rw [hw] at H4'
            have cp := fun W (h : Hid (TabW W)) => passes_any n 3 W PH.out h.out (by omega) hn (by omega)
            cases hp : passB n 3
            · have HB : Hid (false = B) := by show _ = _; rw [← H4', hp]; rfl
              rw [hp] at cp
              clear H4' hw H4 hp
              go_wp2_with fail
              refine (cp _ (show Hid (TabW (w.drewN m)) from HT.out)).mono ?_
              rintro e w3 ⟨rfl, k3, rfl⟩
              go_wp2_with fail
              go_ret
              exact ⟨ret_bool HB.out, _, rfl⟩
            · have H5 : Hid (wit n (smallP.drop 2) = B) := by show _ = _; rw [← H4', hp]; rfl
              rw [hp] at cp
              clear H4' hw H4 hp
              go_wp2_with fail
              refine (cp _ (show Hid (TabW (w.drewN m)) from HT.out)).mono ?_
              rintro e w3 ⟨rfl, k3, rfl⟩
              go_wp2_with fail
              go_roundw
              case rel => exact ⟨2, _, by omega, H5, rfl, rfl⟩
              case measure => simp [intOf]
          · have ix := ix2
            have hw : wit n (smallP.drop 2) = (passB n 5 && wit n (smallP.drop 3)) := wit_step n 2 5 rfl
            have H4' := H4.out
            rw [hw] at H4'
            have cp := fun W (h : Hid (TabW W)) => passes_any n 5 W PH.out h.out (by omega) hn (by omega)
            cases hp : passB n 5
            · have HB : Hid (false = B) := by show _ = _; rw [← H4', hp]; rfl
              rw [hp] at cp
              clear H4' hw H4 hp
              go_wp2_with fail
              refine (cp _ (show Hid (TabW (w.drewN m)) from HT.out)).mono ?_
              rintro e w3 ⟨rfl, k3, rfl⟩
              go_wp2_with fail
              go_ret
              exact ⟨ret_bool HB.out, _, rfl⟩
            · have H5 : Hid (wit n (smallP.drop 3) = B) := by show _ = _; rw [← H4', hp]; rfl
              rw [hp] at cp
              clear H4' hw H4 hp
              go_wp2_with fail
              refine (cp _ (show Hid (TabW (w.drewN m)) from HT.out)).mono ?_
              rintro e w3 ⟨rfl, k3, rfl⟩
              go_wp2_with fail
              go_roundw
              case rel => exact ⟨3, _, by omega, H5, rfl, rfl⟩
              case measure => simp [intOf]
          · have ix := ix3
            have hw : wit n (smallP.drop 3) = (passB n 7 && wit n (smallP.drop 4)) := wit_step n 3 7 rfl
            have H4' := H4.out
            rw [hw] at H4'
            have cp := fun W (h : Hid (TabW W)) => passes_any n 7 W PH.out h.out (by omega) hn (by omega)
            cases hp : passB n 7
            · have HB : Hid (false = B) := by show _ = _; rw [← H4', hp]; rfl
              rw [hp] at cp
              clear H4' hw H4 hp
              go_wp2_with fail
              refine (cp _ (show Hid (TabW (w.drewN m)) from HT.out)).mono ?_
              rintro e w3 ⟨rfl, k3, rfl⟩
              go_wp2_with fail
              go_ret
              exact ⟨ret_bool HB.out, _, rfl⟩
            · have H5 : Hid (wit n (smallP.drop 4) = B) := by show _ = _; rw [← H4', hp]; rfl
              rw [hp] at cp
              clear H4' hw H4 hp
              go_wp2_with fail
              refine (cp _ (show Hid (TabW (w.drewN m)) from HT.out)).mono ?_
              rintro e w3 ⟨rfl, k3, rfl⟩
              go_wp2_with fail
              go_roundw
              case rel => exact ⟨4, _, by omega, H5, rfl, rfl⟩
              case measure => simp [intOf]
          · have ix := ix4
            have hw : wit n (smallP.drop 4) = (passB n 11 && wit n (smallP.drop 5)) := wit_step n 4 11 rfl
            have H4' := H4.out
            rw [hw] at H4'
            have cp := fun W (h : Hid (TabW W)) => passes_any n 11 W PH.out h.out (by omega) hn (by omega)
            cases hp : passB n 11
            · have HB : Hid (false = B) := by show _ = _; rw [← H4', hp]; rfl
              rw [hp] at cp
              clear H4' hw H4 hp
              go_wp2_with fail
              refine (cp _ (show Hid (TabW (w.drewN m)) from HT.out)).mono ?_
              rintro e w3 ⟨rfl, k3, rfl⟩
              go_wp2_with fail
              go_ret
              exact ⟨ret_bool HB.out, _, rfl⟩
            · have H5 : Hid (wit n (smallP.drop 5) = B) := by show _ = _; rw [← H4', hp]; rfl
              rw [hp] at cp
              clear H4' hw H4 hp
              go_wp2_with fail
              refine (cp _ (show Hid (TabW (w.drewN m)) from HT.out)).mono ?_
              rintro e w3 ⟨rfl, k3, rfl⟩
              go_wp2_with fail
              go_roundw
              case rel => exact ⟨5, _, by omega, H5, rfl, rfl⟩
              case measure => simp [intOf]
          · have ix := ix5
            have hw : wit n (smallP.drop 5) = (passB n 13 && wit n (smallP.drop 6)) := wit_step n 5 13 rfl
            have H4' := H4.out
            rw [hw] at H4'
            have cp := fun W (h : Hid (TabW W)) => passes_any n 13 W PH.out h.out (by omega) hn (by omega)
            cases hp : passB n 13
            · have HB : Hid (false = B) := by show _ = _; rw [← H4', hp]; rfl
              rw [hp] at cp
              clear H4' hw H4 hp
              go_wp2_with fail
              refine (cp _ (show Hid (TabW (w.drewN m)) from HT.out)).mono ?_
              rintro e w3 ⟨rfl, k3, rfl⟩
              go_wp2_with fail
              go_ret
              exact ⟨ret_bool HB.out, _, rfl⟩
            · have H5 : Hid (wit n (smallP.drop 6) = B) := by show _ = _; rw [← H4', hp]; rfl
              rw [hp] at cp
              clear H4' hw H4 hp
              go_wp2_with fail
              refine (cp _ (show Hid (TabW (w.drewN m)) from HT.out)).mono ?_
              rintro e w3 ⟨rfl, k3, rfl⟩
              go_wp2_with fail
              go_roundw
              case rel => exact ⟨6, _, by omega, H5, rfl, rfl⟩
              case measure => simp [intOf]
          · have ix := ix6
            have hw : wit n (smallP.drop 6) = (passB n 17 && wit n (smallP.drop 7)) := wit_step n 6 17 rfl
            have H4' := H4.out
            rw [hw] at H4'
            have cp := fun W (h : Hid (TabW W)) => passes_any n 17 W PH.out h.out (by omega) hn (by omega)
            cases hp : passB n 17
            · have HB : Hid (false = B) := by show _ = _; rw [← H4', hp]; rfl
              rw [hp] at cp
              clear H4' hw H4 hp
              go_wp2_with fail
              refine (cp _ (show Hid (TabW (w.drewN m)) from HT.out)).mono ?_
              rintro e w3 ⟨rfl, k3, rfl⟩
              go_wp2_with fail
              go_ret
              exact ⟨ret_bool HB.out, _, rfl⟩
            · have H5 : Hid (wit n (smallP.drop 7) = B) := by show _ = _; rw [← H4', hp]; rfl
              rw [hp] at cp
              clear H4' hw H4 hp
              go_wp2_with fail
              refine (cp _ (show Hid (TabW (w.drewN m)) from HT.out)).mono ?_
              rintro e w3 ⟨rfl, k3, rfl⟩
              go_wp2_with fail
              go_roundw
              case rel => exact ⟨7, _, by omega, H5, rfl, rfl⟩
              case measure => simp [intOf]
          · have ix := ix7
            have hw : wit n (smallP.drop 7) = (passB n 19 && wit n (smallP.drop 8)) := wit_step n 7 19 rfl
            have H4' := H4.out
            rw [hw] at H4'
            have cp := fun W (h : Hid (TabW W)) => passes_any n 19 W PH.out h.out (by omega) hn (by omega)
            cases hp : passB n 19
            · have HB : Hid (false = B) := by show _ = _; rw [← H4', hp]; rfl
              rw [hp] at cp
              clear H4' hw H4 hp
              go_wp2_with fail
              refine (cp _ (show Hid (TabW (w.drewN m)) from HT.out)).mono ?_
              rintro e w3 ⟨rfl, k3, rfl⟩
              go_wp2_with fail
              go_ret
              exact ⟨ret_bool HB.out, _, rfl⟩
            · have H5 : Hid (wit n (smallP.drop 8) = B) := by show _ = _; rw [← H4', hp]; rfl
              rw [hp] at cp
              clear H4' hw H4 hp
              go_wp2_with fail
              refine (cp _ (show Hid (TabW (w.drewN m)) from HT.out)).mono ?_
              rintro e w3 ⟨rfl, k3, rfl⟩
              go_wp2_with fail
              go_roundw
              case rel => exact ⟨8, _, by omega, H5, rfl, rfl⟩
              case measure => simp [intOf]
          · have ix := ix8
            have hw : wit n (smallP.drop 8) = (passB n 23 && wit n (smallP.drop 9)) := wit_step n 8 23 rfl
            have H4' := H4.out
            rw [hw] at H4'
            have cp := fun W (h : Hid (TabW W)) => passes_any n 23 W PH.out h.out (by omega) hn (by omega)
            cases hp : passB n 23
            · have HB : Hid (false = B) := by show _ = _; rw [← H4', hp]; rfl
              rw [hp] at cp
              clear H4' hw H4 hp
              go_wp2_with fail
              refine (cp _ (show Hid (TabW (w.drewN m)) from HT.out)).mono ?_
              rintro e w3 ⟨rfl, k3, rfl⟩
              go_wp2_with fail
              go_ret
              exact ⟨ret_bool HB.out, _, rfl⟩
            · have H5 : Hid (wit n (smallP.drop 9) = B) := by show _ = _; rw [← H4', hp]; rfl
              rw [hp] at cp
              clear H4' hw H4 hp
              go_wp2_with fail
              refine (cp _ (show Hid (TabW (w.drewN m)) from HT.out)).mono ?_
              rintro e w3 ⟨rfl, k3, rfl⟩
              go_wp2_with fail
              go_roundw
              case rel => exact ⟨9, _, by omega, H5, rfl, rfl⟩
              case measure => simp [intOf]
          · have ix := ix9
            have hw : wit n (smallP.drop 9) = (passB n 29 && wit n (smallP.drop 10)) := wit_step n 9 29 rfl
            have H4' := H4.out
            rw [hw] at H4'
            have cp := fun W (h : Hid (TabW W)) => passes_any n 29 W PH.out h.out (by omega) hn (by omega)
            cases hp : passB n 29
            · have HB : Hid (false = B) := by show _ = _; rw [← H4', hp]; rfl
              rw [hp] at cp
              clear H4' hw H4 hp
              go_wp2_with fail
              refine (cp _ (show Hid (TabW (w.drewN m)) from HT.out)).mono ?_
              rintro e w3 ⟨rfl, k3, rfl⟩
              go_wp2_with fail
              go_ret
              exact ⟨ret_bool HB.out, _, rfl⟩
            · have H5 : Hid (wit n (smallP.drop 10) = B) := by show _ = _; rw [← H4', hp]; rfl
              rw [hp] at cp
              clear H4' hw H4 hp
              go_wp2_with fail
              refine (cp _ (show Hid (TabW (w.drewN m)) from HT.out)).mono ?_
              rintro e w3 ⟨rfl, k3, rfl⟩
              go_wp2_with fail
              go_roundw
              case rel => exact ⟨10, _, by omega, H5, rfl, rfl⟩
              case measure => simp [intOf]
          · have ix := ix10
            have hw : wit n (smallP.drop 10) = (passB n 31 && wit n (smallP.drop 11)) := wit_step n 10 31 rfl
            have H4' := H4.out
            rw [hw] at H4'
            have cp := fun W (h : Hid (TabW W)) => passes_any n 31 W PH.out h.out (by omega) hn (by omega)
            cases hp : passB n 31
            · have HB : Hid (false = B) := by show _ = _; rw [← H4', hp]; rfl
              rw [hp] at cp
              clear H4' hw H4 hp
              go_wp2_with fail
              refine (cp _ (show Hid (TabW (w.drewN m)) from HT.out)).mono ?_
              rintro e w3 ⟨rfl, k3, rfl⟩
              go_wp2_with fail
              go_ret
              exact ⟨ret_bool HB.out, _, rfl⟩
            · have H5 : Hid (wit n (smallP.drop 11) = B) := by show _ = _; rw [← H4', hp]; rfl
              rw [hp] at cp
              clear H4' hw H4 hp
              go_wp2_with fail
              refine (cp _ (show Hid (TabW (w.drewN m)) from HT.out)).mono ?_
              rintro e w3 ⟨rfl, k3, rfl⟩
              go_wp2_with fail
              go_roundw
              case rel => exact ⟨11, _, by omega, H5, rfl, rfl⟩
              case measure => simp [intOf]
          · have ix := ix11
            have hw : wit n (smallP.drop 11) = (passB n 37 && wit n (smallP.drop 12)) := wit_step n 11 37 rfl
            have H4' := H4.out
            rw [hw] at H4'
            have cp := fun W (h : Hid (TabW W)) => passes_any n 37 W PH.out h.out (by omega) hn (by omega)
            cases hp : passB n 37
            · have HB : Hid (false = B) := by show _ = _; rw [← H4', hp]; rfl
              rw [hp] at cp
              clear H4' hw H4 hp
              go_wp2_with fail
              refine (cp _ (show Hid (TabW (w.drewN m)) from HT.out)).mono ?_
              rintro e w3 ⟨rfl, k3, rfl⟩
              go_wp2_with fail
              go_ret
              exact ⟨ret_bool HB.out, _, rfl⟩
            · have H5 : Hid (wit n (smallP.drop 12) = B) := by show _ = _; rw [← H4', hp]; rfl
              rw [hp] at cp
              clear H4' hw H4 hp
              go_wp2_with fail
              refine (cp _ (show Hid (TabW (w.drewN m)) from HT.out)).mono ?_
              rintro e w3 ⟨rfl, k3, rfl⟩
              go_wp2_with fail
              go_roundw
              case rel => exact ⟨12, _, by omega, H5, rfl, rfl⟩
              case measure => simp [intOf]
        · have hdk2 : decide ((k : Int) < 12) = false := by simp; omega
          obtain rfl : k = 12 := by omega
          have HB : Hid (true = B) := H4.out
          clear H4
          go_wp2_with fail
          go_ret
          exact ⟨ret_bool HB.out, m, rfl⟩
end Go.Proofs.YtfgooclnohnkmaaGreatDoor
/- Proved: the contract of IsPrime of the model: it answers as the program does, by trial division and twelve witnesses. -/
namespace Go.Proofs.YtfgooclnohnkmaaGreatDoor
open Go.ChangeShapes Go.WideShapes Go.ChangeAt Go.RowKit
open M1
set_option linter.unusedVariables false
theorem at_k : ∀ k, k < 12 → smallP.drop k = smallP.getD k 0 :: smallP.drop (k + 1) ∧ smallP.take (k + 1) = smallP.take k ++ [smallP.getD k 0] ∧ 2 ≤ smallP.getD k 0 ∧ smallP.getD k 0 ≤ 37 := by decide
def HasP (b : Nat) (w : World) : Prop := ∀ j, j < 12 → w.cell? ⟨b, j, none⟩ = some (.int .u64 (smallP.getD j 0))
theorem hasP_new (w : World) (t : TypeId) : HasP w.heap.size (w.alloc (.cells #[.int .u64 2, .int .u64 3, .int .u64 5, .int .u64 7, .int .u64 11, .int .u64 13, .int .u64 17, .int .u64 19, .int .u64 23, .int .u64 29, .int .u64 31, .int .u64 37] t)) := by
  intro j hj
  rcases twelve j hj with rfl | rfl | rfl | rfl | rfl | rfl | rfl | rfl | rfl | rfl | rfl | rfl <;> simp [smallP]
theorem beq_cast (n p : Nat) : ((n : Int) == (p : Int)) = (n == p) := by rw [Bool.eq_iff_iff]; simp; omega
theorem halve (d s n : Nat) (h0 : 0 < d) (he : d % 2 = 0) (hn : n - 1 < 18446744073709551616) (h : d * 2 ^ s = n - 1) : s + 1 < 64 ∧ d / 2 * 2 ^ (s + 1) = n - 1 := by
  have e : d / 2 * 2 ^ (s + 1) = d * 2 ^ s := by
    rw [Nat.pow_succ, Nat.mul_comm (2 ^ s) 2, ← Nat.mul_assoc]
    congr 1; omega
  refine ⟨?_, by rw [e, h]⟩
  by_cases hs : s + 1 < 64
  · exact hs
  · exfalso
    have h1 : 2 ^ 64 ≤ 2 ^ (s + 1) := Nat.pow_le_pow_right (by omega) (by omega)
    have h2 : 1 * 2 ^ (s + 1) ≤ d / 2 * 2 ^ (s + 1) := Nat.mul_le_mul_right _ (by omega)
    omega
theorem val_unique : ∀ (a b m k : Nat), 2 ^ a * (2 * m + 1) = 2 ^ b * (2 * k + 1) → a = b
  | 0, 0, _, _, _ => rfl
  | 0, b + 1, m, k, h => by
    exfalso
    rw [Nat.pow_succ, Nat.pow_zero, Nat.one_mul, Nat.mul_comm (2 ^ b) 2, Nat.mul_assoc] at h
    omega
  | a + 1, 0, m, k, h => by
    exfalso
    rw [Nat.pow_succ, Nat.pow_zero, Nat.one_mul, Nat.mul_comm (2 ^ a) 2, Nat.mul_assoc] at h
    omega
  | a + 1, b + 1, m, k, h => by
    rw [Nat.pow_succ, Nat.pow_succ, Nat.mul_comm (2 ^ a) 2, Nat.mul_comm (2 ^ b) 2, Nat.mul_assoc, Nat.mul_assoc] at h
    rw [val_unique a b m k (by omega)]
theorem ctz_of (d s n : Nat) (h0 : 2 ≤ n) (hd : d < 18446744073709551616) (hs : s < 64) (h : d * 2 ^ s = n - 1) (ho : d % 2 = 1) (hn : n - 1 < 18446744073709551616) : Lib.ctz 64 (n - 1) = s := by
  unfold Lib.ctz
  rw [if_neg (by omega)]
  obtain ⟨m, hm, _⟩ := Lib.ctzFrom_spec 64 (n - 1) (by omega) (by omega)
  refine val_unique _ _ m (d / 2) ?_
  rw [← hm, ← h, Nat.mul_comm]
  congr 1; omega
set_option maxHeartbeats 4000000 in
theorem spec_prime (n : Nat) (w : World) (B : Bool) (h2 : 2 ≤ n) (hn : n < 18446744073709551616) (S0 : St n 0 B) :
    Calls Tryz.prog 136 #[.int .u64 n] w fun e w' => e = .returned (.bool B) ∧ Old w w' := by
  have hd2 : decide ((n : Int) < 2) = false := by simp; omega
  have HS : Hid (St n 0 B) := S0
  clear S0
  go_enter Tryz.func136, Tryz.ntmps136
  go_wp2_with fail
  go_loopw [16] (fun k W => ∃ k' : Nat, k' ≤ 12 ∧ Hid (St n k' B) ∧ k = .int .i64 k' ∧ Hid (Old w W) ∧ Hid (HasP w.heap.size W)) (fun k _ => 12 - (intOf k).toNat)
  case atStart => exact ⟨0, by omega, HS, rfl, Old.alloc (Old.refl _) _, hasP_new _ _⟩
  case round =>
    obtain ⟨k, hk, H1, rfl, G1, C1⟩ := hrel
    clear HS
    by_cases hlt : k < 12
    · have hdk : decide ((k : Int) < 12) = true := by simp; omega
      obtain ⟨a1, a2, a3, a4⟩ := at_k k hlt
      have hc := C1.out k hlt
      generalize smallP.getD k 0 = p at *
      have hpn : ¬ p = 0 := by omega
      by_cases hm : n % p = 0
      · have HB : Hid ((n == p) = B) := (H1.out.hit (p := p) a1 hm).symm
        have hbm : ((n : Int) % (p : Int) == 0) = true := by simp; omega
        clear hm a1 a2
        go_wp2_with fail
        go_ret
        exact ⟨ret_bool ((beq_cast n p).trans HB.out), G1.out⟩
      · have H2 : Hid (St n (k + 1) B) := H1.out.next (p := p) a1 a2 hm
        have hbm : ((n : Int) % (p : Int) == 0) = false := by simp; omega
        clear hm a1 a2
        go_wp2_with fail
        exact ⟨⟨k + 1, by omega, H2, by go_num, G1, C1⟩, by simp [intOf]; omega⟩
    · have hdk : decide ((k : Int) < 12) = false := by simp; omega
      obtain rfl : k = 12 := by omega
      obtain ⟨hw0, h41⟩ := H1.out.fin h2
      have HN : Hid (n % 2 ≠ 0) := H1.out.no 2 (by decide)
      have H3 : Hid (wit n (smallP.drop 0) = B) := hw0
      clear H1 hw0 C1
      obtain ⟨w1, rfl⟩ : ∃ w1 : World, w1 = wr := ⟨_, rfl⟩
      have HD0 : Hid ((n - 1) * 2 ^ 0 = n - 1) := by show _ = _; simp
      go_wp2_with fail
      go_loop [5, 6] (fun d s => ∃ d' s' : Nat, 0 < d' ∧ d' < 18446744073709551616 ∧ s' < 64 ∧ Hid (d' * 2 ^ s' = n - 1) ∧ d = .int .u64 d' ∧ s = .int .i64 s') (fun d _ => (intOf d).toNat)
      case atStart => exact ⟨n - 1, 0, by omega, by omega, by omega, HD0, val_eq (by omega), rfl⟩
      case round =>
        obtain ⟨d, s, hd0, hd64, hs, HD, rfl, rfl⟩ := hrel
        clear HD0
        have An := and_one_u64 (d : Int) (by omega) (by omega)
        by_cases he : d % 2 = 0
        · have hbit : (bits BinOp.and IntKind.u64 (d : Int) 1 == 0) = true := by rw [An]; simp; omega
          obtain ⟨hs2, hd2'⟩ := halve d s n hd0 he (by omega) HD.out
          have HD2 : Hid (d / 2 * 2 ^ (s + 1) = n - 1) := hd2'
          clear An hd2' HD
          go_wp2_with fail
          exact ⟨⟨d / 2, s + 1, by omega, by omega, hs2, HD2, by go_num, by go_num⟩, by simp [intOf]; omega⟩
        · have hbit : (bits BinOp.and IntKind.u64 (d : Int) 1 == 0) = false := by rw [An]; simp; omega
          have hcz := ctz_of d s n h2 hd64 hs HD.out (by omega) (by omega)
          have hdd : (n - 1) / 2 ^ s = d := by rw [← HD.out]; exact Nat.mul_div_cancel _ (Nat.two_pow_pos s)
          have HP : Hid (∀ a, passB n a = (powM a d n == 1 || sqs n s (powM a d n))) := by
            intro a
            unfold passB
            rw [hcz, hdd]
          have hs1 : 1 ≤ s := by
            rcases Nat.eq_zero_or_pos s with h0 | h0
            · exfalso
              have := HD.out
              rw [h0] at this
              simp at this
              have hodd := HN.out
              omega
            · exact h0
          clear An HD hcz hdd
          go_wp2_with fail
          go_loopw [39] (fun k W => ∃ k' : Nat, k' ≤ 12 ∧ Hid (wit n (smallP.drop k') = B) ∧ k = .int .i64 k' ∧ Hid (Old w W) ∧ Hid (HasP w1.heap.size W)) (fun k _ => 12 - (intOf k).toNat)
          case atStart => exact ⟨0, by omega, H3, rfl, Old.alloc G1.out _, hasP_new _ _⟩
          case round =>
            obtain ⟨k, hk3, H4, rfl, G2, C2⟩ := hrel
            clear H3
            obtain ⟨w2, rfl⟩ : ∃ w2 : World, w2 = wr := ⟨_, rfl⟩
            by_cases hlt : k < 12
            · have hdk3 : decide ((k : Int) < 12) = true := by simp; omega
              obtain ⟨a1, _, a3, a4⟩ := at_k k hlt
              have hw := wit_step n k _ a1
              have hc := C2.out k hlt
              generalize smallP.getD k 0 = a at *
              have H4' := H4.out
              rw [hw] at H4'
              have H5 : Hid ((passB n a && wit n (smallP.drop (k + 1))) = B) := H4'
              clear H4' hw H4 a1
              have hTp := HP.out a
              have cpw := fun W => spec_PowBig a d n W (by omega) (by omega) hd64 hn
              have hx0 := powM_lt a d n (by omega)
              generalize powM a d n = x0 at *
              generalize hT : passB n a = T at *
              have o1 : ∃ o : Bool, ((x0 == 1 || x0 == n - 1) = o) := ⟨_, rfl⟩
              obtain ⟨o, ho⟩ := o1
              have HT0 : Hid ((o || sqs n (s - 1) (x0 * x0 % n)) = T) := by
                show _ = _
                rw [hTp, ← ho, show s = (s - 1) + 1 by omega, sqs, Bool.or_assoc]
                simp
              clear hTp hT
              have hcase : (x0 = 1 ∧ o = true) ∨ (x0 ≠ 1 ∧ x0 = n - 1 ∧ o = true) ∨ (x0 ≠ 1 ∧ x0 ≠ n - 1 ∧ o = false) := by
                rw [← ho]
                by_cases e1 : x0 = 1
                · left; exact ⟨e1, by simp [e1]⟩
                · right
                  by_cases e2 : x0 = n - 1
                  · left; exact ⟨e1, e2, by simp [e2]⟩
                  · right; exact ⟨e1, e2, by simp [e1, e2]⟩
              clear ho
              rcases hcase with ⟨e1, rfl⟩ | ⟨e1, e2, rfl⟩ | ⟨e1, e2, rfl⟩
              · have hb1 : ((x0 : Int) == 1) = true := by simp; omega
                clear e1
                go_wp2_with fail
                refine (cpw _).mono ?_
                rintro e w3 ⟨rfl, rfl⟩
                go_wp2_with fail
                go_loopw [9, 10, 11] (fun x o k W => ∃ (x' : Nat) (o' : Bool) (k' : Nat), x' < n ∧ 1 ≤ k' ∧ k' ≤ s ∧ Hid ((o' || sqs n (s - k') (x' * x' % n)) = T) ∧ x = .int .u64 x' ∧ o = .bool o' ∧ k = .int .i64 k' ∧ Hid (Old w W) ∧ Hid (HasP w1.heap.size W)) (fun _ _ k _ => s - (intOf k).toNat)
                case atStart => exact ⟨x0, _, 1, hx0, by omega, by omega, HT0, rfl, rfl, rfl, G2, C2⟩
                case round =>
                  obtain ⟨x, o, kk, hx, hkk1, hkk, H6, rfl, rfl, rfl, G3, C3⟩ := hrel
                  clear HT0 cpw
                  cases o
                  · by_cases hin : kk < s
                    · have hdi : decide ((kk : Int) < (s : Int)) = true := by simp; omega
                      have csq := fun W => spec_MulBig x x n W hx (by omega) hn
                      have H6' := H6.out
                      have mx : x * x % n < n := Nat.mod_lt _ (by omega)
                      generalize x * x % n = xx at *
                      rw [Bool.false_or, show s - kk = (s - (kk + 1)) + 1 by omega, sqs] at H6'
                      have H7 : Hid ((xx == n - 1 || sqs n (s - (kk + 1)) (xx * xx % n)) = T) := H6'
                      clear H6' H6
                      have hbq : ((xx : Int) == (n : Int) - 1) = (xx == n - 1) := by rw [Bool.eq_iff_iff]; simp; omega
                      generalize (xx == n - 1) = oo at *
                      go_wp2_with fail
                      refine (csq _).mono ?_
                      rintro e w4 ⟨rfl, rfl⟩
                      go_wp2_with fail
                      go_roundw
                      case rel => exact ⟨xx, oo, kk + 1, mx, by omega, by omega, H7, rfl, rfl, by go_num, G3, C3⟩
                      case measure => simp [intOf]; omega
                    · have hdi : decide ((kk : Int) < (s : Int)) = false := by simp; omega
                      obtain rfl : kk = s := by omega
                      have HB : Hid (false = B) := by
                        show _ = _
                        rw [← H5.out, ← H6.out, Nat.sub_self, sqs]
                        rfl
                      clear H6 H5
                      go_wp2_with fail
                      go_ret
                      exact ⟨ret_bool HB.out, G3.out⟩
                  · have HB : Hid (wit n (smallP.drop (k + 1)) = B) := by
                      show _ = _
                      rw [← H5.out, ← H6.out]
                      rfl
                    clear H6 H5
                    by_cases hin : kk < s
                    · have hdi : decide ((kk : Int) < (s : Int)) = true := by simp; omega
                      go_wp2_with fail
                      go_roundw
                      case rel => exact ⟨k + 1, by omega, HB, by go_num, G3, C3⟩
                      case measure => simp [intOf]; omega
                    · have hdi : decide ((kk : Int) < (s : Int)) = false := by simp; omega
                      go_wp2_with fail
                      go_roundw
                      case rel => exact ⟨k + 1, by omega, HB, by go_num, G3, C3⟩
                      case measure => simp [intOf]; omega
              · have hb1 : ((x0 : Int) == 1) = false := by simp; omega
                have hb2 : ((x0 : Int) == (n : Int) - 1) = true := by simp; omega
                clear e1 e2
                go_wp2_with fail
                refine (cpw _).mono ?_
                rintro e w3 ⟨rfl, rfl⟩
                go_wp2_with fail
                go_loopw [9, 10, 11] (fun x o k W => ∃ (x' : Nat) (o' : Bool) (k' : Nat), x' < n ∧ 1 ≤ k' ∧ k' ≤ s ∧ Hid ((o' || sqs n (s - k') (x' * x' % n)) = T) ∧ x = .int .u64 x' ∧ o = .bool o' ∧ k = .int .i64 k' ∧ Hid (Old w W) ∧ Hid (HasP w1.heap.size W)) (fun _ _ k _ => s - (intOf k).toNat)
                case atStart => exact ⟨x0, _, 1, hx0, by omega, by omega, HT0, rfl, rfl, rfl, G2, C2⟩
                case round =>
                  obtain ⟨x, o, kk, hx, hkk1, hkk, H6, rfl, rfl, rfl, G3, C3⟩ := hrel
                  clear HT0 cpw
                  cases o
                  · by_cases hin : kk < s
                    · have hdi : decide ((kk : Int) < (s : Int)) = true := by simp; omega
                      have csq := fun W => spec_MulBig x x n W hx (by omega) hn
                      have H6' := H6.out
                      have mx : x * x % n < n := Nat.mod_lt _ (by omega)
                      generalize x * x % n = xx at *
                      rw [Bool.false_or, show s - kk = (s - (kk + 1)) + 1 by omega, sqs] at H6'
                      have H7 : Hid ((xx == n - 1 || sqs n (s - (kk + 1)) (xx * xx % n)) = T) := H6'
                      clear H6' H6
                      have hbq : ((xx : Int) == (n : Int) - 1) = (xx == n - 1) := by rw [Bool.eq_iff_iff]; simp; omega
                      generalize (xx == n - 1) = oo at *
                      go_wp2_with fail
                      refine (csq _).mono ?_
                      rintro e w4 ⟨rfl, rfl⟩
                      go_wp2_with fail
                      go_roundw
                      case rel => exact ⟨xx, oo, kk + 1, mx, by omega, by omega, H7, rfl, rfl, by go_num, G3, C3⟩
                      case measure => simp [intOf]; omega
                    · have hdi : decide ((kk : Int) < (s : Int)) = false := by simp; omega
                      obtain rfl : kk = s := by omega
                      have HB : Hid (false = B) := by
                        show _ = _
                        rw [← H5.out, ← H6.out, Nat.sub_self, sqs]
                        rfl
                      clear H6 H5
                      go_wp2_with fail
                      go_ret
                      exact ⟨ret_bool HB.out, G3.out⟩
                  · have HB : Hid (wit n (smallP.drop (k + 1)) = B) := by
                      show _ = _
                      rw [← H5.out, ← H6.out]
                      rfl
                    clear H6 H5
                    by_cases hin : kk < s
                    · have hdi : decide ((kk : Int) < (s : Int)) = true := by simp; omega
                      go_wp2_with fail
                      go_roundw
                      case rel => exact ⟨k + 1, by omega, HB, by go_num, G3, C3⟩
                      case measure => simp [intOf]; omega
                    · have hdi : decide ((kk : Int) < (s : Int)) = false := by simp; omega
                      go_wp2_with fail
                      go_roundw
                      case rel => exact ⟨k + 1, by omega, HB, by go_num, G3, C3⟩
                      case measure => simp [intOf]; omega
              · have hb1 : ((x0 : Int) == 1) = false := by simp; omega
                have hb2 : ((x0 : Int) == (n : Int) - 1) = false := by simp; omega
                clear e1 e2
                go_wp2_with fail
                refine (cpw _).mono ?_
                rintro e w3 ⟨rfl, rfl⟩
                go_wp2_with fail
                go_loopw [9, 10, 11] (fun x o k W => ∃ (x' : Nat) (o' : Bool) (k' : Nat), x' < n ∧ 1 ≤ k' ∧ k' ≤ s ∧ Hid ((o' || sqs n (s - k') (x' * x' % n)) = T) ∧ x = .int .u64 x' ∧ o = .bool o' ∧ k = .int .i64 k' ∧ Hid (Old w W) ∧ Hid (HasP w1.heap.size W)) (fun _ _ k _ => s - (intOf k).toNat)
                case atStart => exact ⟨x0, _, 1, hx0, by omega, by omega, HT0, rfl, rfl, rfl, G2, C2⟩
                case round =>
                  obtain ⟨x, o, kk, hx, hkk1, hkk, H6, rfl, rfl, rfl, G3, C3⟩ := hrel
                  clear HT0 cpw
                  cases o
                  · by_cases hin : kk < s
                    · have hdi : decide ((kk : Int) < (s : Int)) = true := by simp; omega
                      have csq := fun W => spec_MulBig x x n W hx (by omega) hn
                      have H6' := H6.out
                      have mx : x * x % n < n := Nat.mod_lt _ (by omega)
                      generalize x * x % n = xx at *
                      rw [Bool.false_or, show s - kk = (s - (kk + 1)) + 1 by omega, sqs] at H6'
                      have H7 : Hid ((xx == n - 1 || sqs n (s - (kk + 1)) (xx * xx % n)) = T) := H6'
                      clear H6' H6
                      have hbq : ((xx : Int) == (n : Int) - 1) = (xx == n - 1) := by rw [Bool.eq_iff_iff]; simp; omega
                      generalize (xx == n - 1) = oo at *
                      go_wp2_with fail
                      refine (csq _).mono ?_
                      rintro e w4 ⟨rfl, rfl⟩
                      go_wp2_with fail
                      go_roundw
                      case rel => exact ⟨xx, oo, kk + 1, mx, by omega, by omega, H7, rfl, rfl, by go_num, G3, C3⟩
                      case measure => simp [intOf]; omega
                    · have hdi : decide ((kk : Int) < (s : Int)) = false := by simp; omega
                      obtain rfl : kk = s := by omega
                      have HB : Hid (false = B) := by
                        show _ = _
                        rw [← H5.out, ← H6.out, Nat.sub_self, sqs]
                        rfl
                      clear H6 H5
                      go_wp2_with fail
                      go_ret
                      exact ⟨ret_bool HB.out, G3.out⟩
                  · have HB : Hid (wit n (smallP.drop (k + 1)) = B) := by
                      show _ = _
                      rw [← H5.out, ← H6.out]
                      rfl
                    clear H6 H5
                    by_cases hin : kk < s
                    · have hdi : decide ((kk : Int) < (s : Int)) = true := by simp; omega
                      go_wp2_with fail
                      go_roundw
                      case rel => exact ⟨k + 1, by omega, HB, by go_num, G3, C3⟩
                      case measure => simp [intOf]; omega
                    · have hdi : decide ((kk : Int) < (s : Int)) = false := by simp; omega
                      go_wp2_with fail
                      go_roundw
                      case rel => exact ⟨k + 1, by omega, HB, by go_num, G3, C3⟩
                      case measure => simp [intOf]; omega
            · have hdk3 : decide ((k : Int) < 12) = false := by simp; omega
              obtain rfl : k = 12 := by omega
              have HB : Hid (true = B) := H4.out
              clear H4
              go_wp2_with fail
              go_ret
              exact ⟨ret_bool HB.out, G2.out⟩
end Go.Proofs.YtfgooclnohnkmaaGreatDoor
/- Proved: the contract of the library function Len64 at every word: how many bits a number has. -/
namespace Go.Proofs.YtfgooclnohnkmaaGreatDoor
theorem len_at (k b : Int) (x : Nat) (hb : 0 ≤ b) (hb' : b < 256) (hk : 0 ≤ k) (hk' : k ≤ 64) (h : (Lib.bitLen x : Int) = k + (Lib.bitLen b.toNat : Int)) :
    (k + ((Lib.len8 (b % 256) + 9223372036854775808) % 18446744073709551616 - 9223372036854775808) + 9223372036854775808) % 18446744073709551616 - 9223372036854775808 = (Lib.bitLen x : Int) := by
  rw [Int.emod_eq_of_lt hb hb', Lib.len8_int b hb (by omega), h]
  have l := Lib.bitLen_le8 ⟨b.toNat, by omega⟩
  simp only at l
  omega
set_option maxHeartbeats 1000000 in
set_option maxRecDepth 100000 in
theorem bits_Len64 (x : Int) (w : World) (h0 : 0 ≤ x) (h1 : x ≤ 18446744073709551615) :
    Calls Tryz.prog 139 #[.int .u64 x] w fun e w' => e = .returned (.int .i64 (Lib.bitLen x.toNat)) ∧ w' = w := by
  go_enter Tryz.func139, Tryz.ntmps139
  go_wp2
  all_goals (go_ret; refine ⟨congrArg Ending.returned (congrArg (Value.int IntKind.i64) ?_), rfl⟩)
  · rw [show x / 4294967296 / 65536 / 256 = x / 72057594037927936 by omega]
    refine len_at 56 (x / 72057594037927936) _ (by omega) (by omega) (by omega) (by omega) ?_
    rw [Lib.bitLen_shift56 x.toNat (by omega) (by omega), show (x / 72057594037927936).toNat = x.toNat / 72057594037927936 by omega]
    omega
  · rw [show x / 4294967296 / 65536 = x / 281474976710656 by omega]
    refine len_at 48 (x / 281474976710656) _ (by omega) (by omega) (by omega) (by omega) ?_
    rw [Lib.bitLen_shift48 x.toNat (by omega) (by omega), show (x / 281474976710656).toNat = x.toNat / 281474976710656 by omega]
    omega
  · rw [show x / 4294967296 / 256 = x / 1099511627776 by omega]
    refine len_at 40 (x / 1099511627776) _ (by omega) (by omega) (by omega) (by omega) ?_
    rw [Lib.bitLen_shift40 x.toNat (by omega) (by omega), show (x / 1099511627776).toNat = x.toNat / 1099511627776 by omega]
    omega
  · refine len_at 32 (x / 4294967296) _ (by omega) (by omega) (by omega) (by omega) ?_
    rw [Lib.bitLen_shift32 x.toNat (by omega) (by omega), show (x / 4294967296).toNat = x.toNat / 4294967296 by omega]
    omega
  · rw [show x / 65536 / 256 = x / 16777216 by omega]
    refine len_at 24 (x / 16777216) _ (by omega) (by omega) (by omega) (by omega) ?_
    rw [Lib.bitLen_shift24 x.toNat (by omega) (by omega), show (x / 16777216).toNat = x.toNat / 16777216 by omega]
    omega
  · refine len_at 16 (x / 65536) _ (by omega) (by omega) (by omega) (by omega) ?_
    rw [Lib.bitLen_shift16 x.toNat (by omega) (by omega), show (x / 65536).toNat = x.toNat / 65536 by omega]
    omega
  · refine len_at 8 (x / 256) _ (by omega) (by omega) (by omega) (by omega) ?_
    rw [Lib.bitLen_shift8 x.toNat (by omega) (by omega), show (x / 256).toNat = x.toNat / 256 by omega]
    omega
  · rw [Int.emod_eq_of_lt h0 (by omega)]
    exact Lib.len8_int x h0 (by omega)
end Go.Proofs.YtfgooclnohnkmaaGreatDoor
/- Proved: the digits of a long division by halves of a word are the true ones; no program in sight. -/
namespace Go.Proofs.YtfgooclnohnkmaaGreatDoor.M1
/-- what holds of a guessed digit q and what is left r of u over the high half y1, where the digit is of u, v over y1, y0 -/
structure Dig (u v y1 y0 q r : Nat) : Prop where
  eq : q * y1 + r = u
  ge : (u * 4294967296 + v) / (y1 * 4294967296 + y0) ≤ q
structure Half (u v y1 y0 : Nat) : Prop where
  y1lo : 2147483648 ≤ y1
  y1hi : y1 < 4294967296
  y0hi : y0 < 4294967296
  vhi : v < 4294967296
  ult : u < y1 * 4294967296 + y0
theorem div_lt_K (u v Y K : Nat) (hv : v < K) (hu : u < Y) : (u * K + v) / Y < K := by
  apply Nat.div_lt_of_lt_mul
  have : (u + 1) * K ≤ Y * K := Nat.mul_le_mul_right _ (by omega)
  rw [Nat.add_mul] at this
  omega
theorem Half.Qlt {u v y1 y0 : Nat} (h : Half u v y1 y0) : (u * 4294967296 + v) / (y1 * 4294967296 + y0) < 4294967296 :=
  div_lt_K u v _ 4294967296 h.vhi h.ult
theorem Dig.start {u v y1 y0 : Nat} (h : Half u v y1 y0) : Dig u v y1 y0 (u / y1) (u - u / y1 * y1) ∧ u / y1 * y1 ≤ u ∧ u - u / y1 * y1 < 4294967296 ∧ u / y1 ≤ 4294967297 := by
  obtain ⟨h1, h2, h3, h4, h5⟩ := h
  have e := Nat.div_add_mod u y1
  have m := Nat.mod_lt u (show y1 > 0 by omega)
  rw [Nat.mul_comm] at e
  refine ⟨⟨by omega, ?_⟩, by omega, by omega, ?_⟩
  · rw [Nat.le_div_iff_mul_le (by omega)]
    have hq := Nat.div_mul_le_self (u * 4294967296 + v) (y1 * 4294967296 + y0)
    generalize (u * 4294967296 + v) / (y1 * 4294967296 + y0) = Q at *
    have e2 : Q * (y1 * 4294967296 + y0) = Q * y1 * 4294967296 + Q * y0 := by grind
    generalize Q * y1 = a at *
    generalize Q * y0 = b at *
    omega
  · rw [Nat.div_le_iff_le_mul_add_pred (by omega)]
    omega
theorem Dig.more {u v y1 y0 q r : Nat} (h : Half u v y1 y0) (d : Dig u v y1 y0 q r) (hc : 4294967296 ≤ q ∨ 4294967296 * r + v < q * y0) : 1 ≤ q ∧ Dig u v y1 y0 (q - 1) (r + y1) := by
  have hQ := h.Qlt
  have hm : 1 ≤ q ∧ (q - 1) * y1 + (r + y1) = u ∧ (u * 4294967296 + v) / (y1 * 4294967296 + y0) ≤ q - 1 := ?_
  · exact ⟨hm.1, ⟨hm.2.1, hm.2.2⟩⟩
  obtain ⟨h1, h2, h3, h4, h5⟩ := h
  obtain ⟨e, g⟩ := d
  have hlt : (u * 4294967296 + v) / (y1 * 4294967296 + y0) < q := by
    rcases hc with hc | hc
    · omega
    · rw [Nat.div_lt_iff_lt_mul (by omega)]
      have e2 : q * (y1 * 4294967296 + y0) = q * y1 * 4294967296 + q * y0 := by grind
      rw [e2]
      generalize q * y1 = a at *
      generalize q * y0 = b at *
      omega
  generalize (u * 4294967296 + v) / (y1 * 4294967296 + y0) = Q at *
  refine ⟨by omega, ?_, by omega⟩
  obtain ⟨q', rfl⟩ : ∃ q', q = q' + 1 := ⟨q - 1, by omega⟩
  rw [Nat.add_sub_cancel, Nat.add_mul] at *
  omega
theorem Dig.done {u v y1 y0 q r : Nat} (h : Half u v y1 y0) (d : Dig u v y1 y0 q r) (hc : q * y0 ≤ 4294967296 * r + v) : q = (u * 4294967296 + v) / (y1 * 4294967296 + y0) := by
  obtain ⟨h1, h2, h3, h4, h5⟩ := h
  obtain ⟨e, g⟩ := d
  apply Nat.le_antisymm _ g
  rw [Nat.le_div_iff_mul_le (by omega)]
  have e2 : q * (y1 * 4294967296 + y0) = q * y1 * 4294967296 + q * y0 := by grind
  rw [e2]
  generalize q * y1 = a at *
  generalize q * y0 = b at *
  omega
theorem Dig.broke {u v y1 y0 q r : Nat} (h : Half u v y1 y0) (d : Dig u v y1 y0 q r) (hq : q ≤ 4294967296) (hr : 4294967296 ≤ r) : q = (u * 4294967296 + v) / (y1 * 4294967296 + y0) := by
  have h' := h
  obtain ⟨h1, h2, h3, h4, h5⟩ := h'
  apply d.done h
  have : q * y0 ≤ 4294967296 * y0 := Nat.mul_le_mul_right _ hq
  omega
/-- what is left behind a digit -/
theorem left_over (u v Y : Nat) : u * 4294967296 + v - (u * 4294967296 + v) / Y * Y = (u * 4294967296 + v) % Y ∧ (u * 4294967296 + v) / Y * Y ≤ u * 4294967296 + v := by
  have e := Nat.div_add_mod (u * 4294967296 + v) Y
  rw [Nat.mul_comm] at e
  generalize (u * 4294967296 + v) / Y * Y = a at *
  omega
theorem two_digits (u v1 v0 Y : Nat) : ((u * 4294967296 + v1) % Y * 4294967296 + v0) % Y = (u * 18446744073709551616 + (v1 * 4294967296 + v0)) % Y := by
  rw [Nat.add_mod, Nat.mul_mod, Nat.mod_mod, ← Nat.mul_mod, ← Nat.add_mod]
  have e2 : (u * 4294967296 + v1) * 4294967296 + v0 = u * 18446744073709551616 + (v1 * 4294967296 + v0) := by omega
  rw [e2]
end Go.Proofs.YtfgooclnohnkmaaGreatDoor.M1
