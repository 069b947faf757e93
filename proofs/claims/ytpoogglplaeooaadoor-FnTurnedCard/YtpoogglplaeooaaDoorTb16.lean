/- Proved: several texts in one: what each proves is said ahead of it. -/
import Derived.Test.YtpoogglplaeooaaDoorTb04
import Derived.Deep.RegionLaw
import Derived.Test.YtpoogglplaeooaaDoorTb13
/- Proved: a part of a row, cut out of it. -/
namespace Go.Proofs.YtpoogglplaeooaaDoor
open Go.ChangeShapes Go.WideShapes Go.ChangeAt Go.RowKit
set_option linter.unusedVariables false
set_option linter.unusedSimpArgs false
theorem impl_partOf (g N part parts size : Nat) (w : World) (hN : 2 ≤ N ∧ N ≤ 16) (hp : N = parts * size) (h1 : 1 ≤ parts) (h2 : 1 ≤ size) (hlt : part < parts) :
    Calls Tryd.prog 48 #[.slice (some ⟨g, 0, none⟩) N N, .int .i64 part, .int .i64 parts] w fun e w' => e = .returned (.slice (some ⟨g, part * size, none⟩) size (N - part * size)) ∧ w' = w := by
  have hd : N / parts = size := by rw [hp]; exact Nat.mul_div_cancel_left _ (by omega)
  have e0 : (N : Int) / (parts : Int) = (size : Int) := by rw [← hd]; simp
  have hle : (part + 1) * size ≤ N := by rw [hp]; exact Nat.mul_le_mul_right _ (by omega)
  have e1 : (part : Int) * (size : Int) = ((part * size : Nat) : Int) := by simp
  have e2 : ((part : Int) + 1) * (size : Int) = (((part + 1) * size : Nat) : Int) := by simp
  have e3 : (part + 1) * size = part * size + size := by rw [Nat.add_mul, Nat.one_mul]
  have hpt : part ≤ 16 := by
    have := Nat.mul_le_mul_right size hlt
    have : parts ≤ parts * size := Nat.le_mul_of_pos_right _ (by omega)
    omega
  have hpp : parts ≤ 16 := by
    have : parts ≤ parts * size := Nat.le_mul_of_pos_right _ (by omega)
    omega
  have hsz : size ≤ 16 := by
    have : size ≤ parts * size := Nat.le_mul_of_pos_left _ (by omega)
    omega
  rw [e3] at e2 hle
  generalize part * size = lo at *
  obtain ⟨hi, hhi⟩ : ∃ hi, hi = lo + size := ⟨_, rfl⟩
  rw [← hhi] at e2 hle
  have es : hi - lo = size := by omega
  have hlh : lo ≤ hi := by omega
  have hlh2 : lo < hi := by omega
  have hle' : (lo : Int) ≤ (hi : Int) := by omega
  have hle2 : (hi : Int) ≤ (N : Int) := by omega
  have hpn : ¬ (parts : Int) = 0 := by omega
  have hpn2 : ¬ parts = 0 := by omega
  rw [← es]
  clear hp hd e3 hhi es
  go_enter Tryd.func48, Tryd.ntmps48
  go_wp2_with fail
  all_goals
    go_ret
    first
      | (exfalso; omega)
      | exact ⟨rfl, rfl⟩
end Go.Proofs.YtpoogglplaeooaaDoor
/- Proved: how many noughts a ring's size has, the exponents of its points and their places, by the program and by the model. -/
namespace Go.Proofs.YtpoogglplaeooaaDoor
open Go.ChangeShapes Go.WideShapes Go.ChangeAt Go.RowKit
set_option linter.unusedVariables false
set_option linter.unusedSimpArgs false
abbrev Sz4 (N : Nat) : Prop := N = 2 ∨ N = 4 ∨ N = 8 ∨ N = 16
def lg (N : Nat) : Nat := if N = 2 then 1 else if N = 4 then 2 else if N = 8 then 3 else 4
theorem lg_pow {N : Nat} (h : Sz4 N) : 2 ^ lg N = N ∧ 1 ≤ lg N ∧ lg N ≤ 4 := by rcases h with rfl | rfl | rfl | rfl <;> decide
theorem lg_ctz {N : Nat} (h : Sz4 N) : Lib.ctz 64 N = lg N := by rcases h with rfl | rfl | rfl | rfl <;> decide +kernel
theorem sz_bd {N : Nat} (h : Sz4 N) : 2 ≤ N ∧ N ≤ 16 := by omega
theorem back_lt (b : Nat) : ∀ (s k o : Nat), o < 2 ^ b → backN s k o < 2 ^ (b + s)
  | 0, k, o, h => h
  | s + 1, k, o, h => by
    have := back_lt (b + 1) s (k / 2) (2 * o + k % 2) (by rw [Nat.pow_succ]; omega)
    rw [show b + 1 + s = b + (s + 1) by omega] at this
    exact this
theorem back_lt0 {N : Nat} (h : Sz4 N) (k : Nat) : backN (lg N) k 0 < N := by
  have := back_lt 0 (lg N) k 0 (by decide)
  rw [Nat.zero_add, (lg_pow h).1] at this
  exact this
theorem impl_noughts (N : Nat) (w : World) (h : Sz4 N) (hT : TabW w) :
    Calls Tryd.prog 46 #[.int .i64 N] w fun e w' => e = .returned (.int .i64 (lg N)) ∧ w' = w := by
  have hb := sz_bd h
  have c := fun W (hT : TabW W) => bits_tz N (by omega) (by omega) W hT
  rw [lg_ctz h] at c
  have HT : Hid (TabW w) := hT
  generalize lg N = L at *
  clear hT h
  go_enter Tryd.func46, Tryd.ntmps46
  go_wp2_with fail
  refine (c _ HT.out).mono ?_
  rintro e w1 ⟨rfl, rfl⟩
  go_wp2_with fail
  go_ret
  exact ⟨rfl, rfl⟩
theorem impl_backN (N k : Nat) (w : World) (h : Sz4 N) (hk : k < N) :
    Calls Tryd.prog 49 #[.int .i64 k, .int .i64 (lg N)] w fun e w' => e = .returned (.int .i64 (backN (lg N) k 0)) ∧ w' = w :=
  back_impl_yes k (lg N) w (by have := lg_pow h; omega) (by rw [(lg_pow h).1]; exact hk)
theorem impl_exponent (N k : Nat) (w : World) (h : Sz4 N) (hk : k < N) (hT : TabW w) :
    Calls Tryd.prog 34 #[.int .i64 k, .int .i64 N] w fun e w' => e = .returned (.int .i64 ((2 * backN (lg N) k 0 + 1 : Nat) : Int)) ∧ w' = w := by
  have c1 := fun W (hT : TabW W) => impl_noughts N W h hT
  have c2 := fun W => impl_backN N k W h hk
  have hb := back_lt0 h k
  have hs := sz_bd h
  have HT : Hid (TabW w) := hT
  generalize backN (lg N) k 0 = x at *
  generalize lg N = L at *
  clear hT h
  go_enter Tryd.func34, Tryd.ntmps34
  go_wp2_with fail
  refine (c1 _ HT.out).mono ?_
  rintro e w1 ⟨rfl, rfl⟩
  go_wp2_with fail
  refine (c2 _).mono ?_
  rintro e w1 ⟨rfl, rfl⟩
  go_wp2_with fail
  go_ret
  exact ⟨by congr 1, rfl⟩
theorem impl_place (N m : Nat) (w : World) (h : Sz4 N) (hm : m < 2 * N) (hT : TabW w) :
    Calls Tryd.prog 33 #[.int .i64 m, .int .i64 N] w fun e w' => e = .returned (.int .i64 (backN (lg N) (m / 2) 0)) ∧ w' = w := by
  have c1 := fun W (hT : TabW W) => impl_noughts N W h hT
  have c2 := fun W => impl_backN N (m / 2) W h (by omega)
  have e : ((m / 2 : Nat) : Int) = (m : Int) / 2 := by omega
  rw [e] at c2
  have hs := sz_bd h
  have HT : Hid (TabW w) := hT
  generalize backN (lg N) (m / 2) 0 = x at *
  generalize lg N = L at *
  clear hT h e
  go_enter Tryd.func33, Tryd.ntmps33
  go_wp2_with fail
  refine (c1 _ HT.out).mono ?_
  rintro e w1 ⟨rfl, rfl⟩
  go_wp2_with fail
  refine (c2 _).mono ?_
  rintro e w1 ⟨rfl, rfl⟩
  go_wp2_with fail
  go_ret
  exact ⟨rfl, rfl⟩
def ptsN (N : Nat) : List Nat := (List.range N).map (fun k => 2 * backN (lg N) k 0 + 1)
theorem ptsN_get (N k : Nat) (h : k < N) : (ptsN N).getD k 0 = 2 * backN (lg N) k 0 + 1 := by simp [ptsN, List.getD, h]
end Go.Proofs.YtpoogglplaeooaaDoor
/- Proved: the model's transform: the polynomial's value at each point, by Horner's rule. -/
namespace Go.Proofs.YtpoogglplaeooaaDoor
open Go.ChangeShapes Go.WideShapes Go.ChangeAt Go.RowKit
open M1
set_option linter.unusedVariables false
set_option linter.unusedSimpArgs false
/-- Horner's rule, c numbers taken from the last one on -/
def horS (P x : Nat) (xs : List Nat) (N : Nat) : Nat → Nat
  | 0 => 0
  | c + 1 => (horS P x xs N c * x + xs.getD (N - 1 - c) 0) % P
theorem horS_lt (P x : Nat) (xs : List Nat) (N : Nat) (hP : 0 < P) : ∀ c, horS P x xs N c < P
  | 0 => hP
  | c + 1 => Nat.mod_lt _ hP
def fwdS (P N R : Nat) (xs : List Nat) : List Nat := (List.range N).map (fun k => horS P (R ^ ((ptsN N).getD k 0) % P) xs N N)
theorem fwdS_len (P N R : Nat) (xs : List Nat) : (fwdS P N R xs).length = N := by simp [fwdS]
theorem fwdS_get (P N R : Nat) (xs : List Nat) (k : Nat) (h : k < N) : (fwdS P N R xs).getD k 0 = horS P (R ^ ((ptsN N).getD k 0) % P) xs N N := by simp [fwdS, List.getD, h]
end Go.Proofs.YtpoogglplaeooaaDoor
/- Proved: the statement on MulEach at every ring and lists, in a world in which the tables are laid. -/
namespace Go.Proofs.YtpoogglplaeooaaDoor
open Go.ChangeShapes Go.WideShapes Go.ChangeAt Go.RowKit
set_option linter.unusedVariables false
theorem GR.bounds {p n r : Int} {P N R : Nat} (h : GR p n r P N R) : (2 ≤ p ∧ p ≤ 268435456) ∧ (2 ≤ n ∧ n ≤ 16) := by
  have h1 := modB_yes h.ok.md
  have h2 := h.ok.sz
  have := h.ep
  have := h.en
  omega
end Go.Proofs.YtpoogglplaeooaaDoor
/- Proved: the program's table of a turn: at each place the place of the point's power; none where the size or the turn is not as said. -/
namespace Go.Proofs.YtpoogglplaeooaaDoor
open Go.ChangeShapes Go.WideShapes Go.ChangeAt Go.RowKit
set_option linter.unusedVariables false
set_option linter.unusedSimpArgs false
def tabN (N t : Nat) : List Nat := (List.range N).map (fun k => backN (lg N) ((2 * backN (lg N) k 0 + 1) * t % (2 * N) / 2) 0)
theorem tabN_len (N t : Nat) : (tabN N t).length = N := by simp [tabN]
theorem tabN_get (N t k : Nat) (h : k < N) : (tabN N t).getD k 0 = backN (lg N) ((2 * backN (lg N) k 0 + 1) * t % (2 * N) / 2) 0 := by simp [tabN, List.getD, h]
theorem et_bd (x t N : Nat) (hx : x < N) (hN : N ≤ 16) (ht : t < 2 * N) : (2 * x + 1) * t ≤ 1056 := by
  have := Nat.mul_le_mul (show 2 * x + 1 ≤ 33 by omega) (show t ≤ 32 by omega)
  omega
set_option maxRecDepth 100000 in
set_option maxHeartbeats 1000000 in
theorem impl_TurnTable_yes (N t : Nat) (w : World) (hT : TabW w) (h : Sz4 N) (ht : turnB N t = true) (htl : t < 2 * N) :
    Calls Tryd.prog 15 #[.int .i64 N, .int .i64 t] w fun e w' => ∃ v', e = .returned (.tuple #[v', .bool true]) ∧ Old w w' ∧ Own w' w.heap.size v' (toZ (tabN N t)) := by
  obtain ⟨i0, hi, hz0, hz1, hz2⟩ := info_parts Tryd.infoInt
  have hs := sz_bd h
  have c0 := fun W => impl_isSize N W
  rw [rgB_mk (by omega)] at c0
  have c1 := fun W => impl_isTurn t N W (by omega) (by omega)
  rw [ht] at c1
  have HEX : Hid (∀ k, k < N → ∀ W, TabW W → Calls Tryd.prog 34 #[.int .i64 k, .int .i64 N] W fun e w' => e = .returned (.int .i64 ((2 * backN (lg N) k 0 + 1 : Nat) : Int)) ∧ w' = W) := fun k hk W hT => impl_exponent N k W h hk hT
  have HPL : Hid (∀ m, m < 2 * N → ∀ W, TabW W → Calls Tryd.prog 33 #[.int .i64 m, .int .i64 N] W fun e w' => e = .returned (.int .i64 (backN (lg N) (m / 2) 0)) ∧ w' = W) := fun m hm W hT => impl_place N m W h hm hT
  have HE : Hid (∀ k, k < N → (toZ (tabN N t)).getD k 0 = ((backN (lg N) ((2 * backN (lg N) k 0 + 1) * t % (2 * N) / 2) 0 : Nat) : Int)) := fun k hk => by rw [toZ_get, tabN_get N t k hk]
  have hzl : (toZ (tabN N t)).length = N := by rw [toZ_len, tabN_len]
  have HBL : Hid (∀ k, backN (lg N) k 0 < N) := fun k => back_lt0 h k
  generalize toZ (tabN N t) = zs at *
  have HT : Hid (TabW w) := hT
  clear ht h hT
  have hpn : ¬ (2 * (N : Int)) = 0 := by omega
  have hpn2 : ¬ N = 0 := by omega
  go_enter Tryd.func15, Tryd.ntmps15
  go_wp2_with fail
  refine (c0 _).mono ?_
  rintro e w1 ⟨rfl, hw⟩
  obtain rfl : w = w1 := hw.symm
  go_wp2_with fail
  refine (c1 _).mono ?_
  rintro e w1 ⟨rfl, hw⟩
  obtain rfl : w = w1 := hw.symm
  go_wp2_with (at_make; refine wpList_make_full _ rfl _ _ 25 rfl w.heap.size 3 i0 (.int .i64 0) 1 Tryd.underlying25 hi hz0 hz1 .i64 .i64 _ _ N rfl rfl rfl rfl (by rw [hz2]; omega) (by unfold maxLen; omega) (by simp) ?_; intro w1 hown hgrow)
  have HO : Hid (OwnI w1 w.heap.size w.heap.size N (List.replicate N 0)) := by
    rw [made_ints] at hown
    exact hown
  have HG : Hid (Old w w1) := Old.by_ (Old.refl _) hgrow (fun b hb => by cases hb)
  clear hown hgrow
  go_loopw [7, 20] (fun x i W => ∃ k : Nat, k ≤ N ∧ i = .int .i64 k ∧ Hid (OwnI W w.heap.size w.heap.size N (fillN zs k)) ∧ Hid (Old w W)) (fun _ i _ => N - (intOf i).toNat)
  case atStart => exact ⟨0, by omega, rfl, (by show OwnI _ _ _ _ _; rw [fillN_zero, hzl]; exact HO.out), HG⟩
  case round =>
    obtain ⟨k, hk, rfl, HO1, HG2⟩ := hrel
    clear HO HG
    by_cases hlt : k < N
    · have d1 : decide ((k : Int) < (N : Int)) = true := by simp; omega
      have i1 : (k : Int) < (N : Int) := by omega
      have HT2 : Hid (TabW wr) := HT.out.old HG2.out
      have cx := HEX.out k hlt
      have hx := HBL.out k
      have HX : Hid (zs.getD k 0 = _) := HE.out k hlt
      generalize backN (lg N) k 0 = x at *
      have hb := et_bd x t N hx hs.2 htl
      have hm : (2 * x + 1) * t % (2 * N) < 2 * N := Nat.mod_lt _ (by omega)
      have cp := HPL.out _ hm
      have e1 : ((2 * x + 1 : Nat) : Int) * (t : Int) = (((2 * x + 1) * t : Nat) : Int) := by simp
      have e2 : (((2 * x + 1) * t : Nat) : Int) % (2 * (N : Int)) = (((2 * x + 1) * t % (2 * N) : Nat) : Int) := by simp
      generalize (2 * x + 1) * t = m at *
      generalize 2 * x + 1 = y at *
      generalize m % (2 * N) = q at *
      generalize backN (lg N) (q / 2) 0 = z at *
      have c3 := HO1.out.get (fillN_len zs k (by omega) |>.trans hzl) k hlt
      have c4 := HO1.out.free k
      generalize (fillN zs k).getD k 0 = oldv at *
      have HP : Hid (OwnI (wr.setCell ⟨w.heap.size, k, none⟩ (.int .i64 (z : Int))) w.heap.size w.heap.size N (fillN zs (k + 1))) := by
        have := HO1.out.put k (z : Int)
        rw [← HX.out, fillN_set zs k (by omega)] at this
        rw [← HX.out]
        exact this
      have HN2 : Hid (Old w (wr.setCell ⟨w.heap.size, k, none⟩ (.int .i64 (z : Int)))) := HG2.out.own (by simp) _
      go_wp2_with fail
      refine (cx _ HT2.out).mono ?_
      rintro e w2 ⟨rfl, hw⟩
      obtain rfl : wr = w2 := hw.symm
      go_wp2_with fail
      refine (cp _ HT2.out).mono ?_
      rintro e w2 ⟨rfl, hw⟩
      obtain rfl : wr = w2 := hw.symm
      go_wp2_with fail
      exact ⟨⟨k + 1, by omega, by go_num, HP, HN2⟩, by simp [intOf]; omega⟩
    · have d1 : decide ((k : Int) < (N : Int)) = false := by simp; omega
      obtain rfl : k = N := by omega
      have HF : Hid (Own wr w.heap.size (.slice (some ⟨w.heap.size, 0, none⟩) k k) zs) := by
        have := HO1.out.own ((fillN_len zs k (by omega)).trans hzl)
        rw [show fillN zs k = zs by rw [← hzl]; exact fillN_all zs] at this
        exact this
      go_wp2_with fail
      go_ret2
      exact ⟨_, rfl, HG2.out, HF.out⟩
end Go.Proofs.YtpoogglplaeooaaDoor
