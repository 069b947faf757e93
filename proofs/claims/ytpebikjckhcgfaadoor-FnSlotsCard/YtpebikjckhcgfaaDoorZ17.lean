/- Proved: several texts in one: what each proves is said ahead of it. -/
import Derived.Test.YtpebikjckhcgfaaDoorZ12
import Derived.RegionTactic
import Derived.ChangeAlike
import Derived.Deep.RegionLaw
import Derived.Deep.AppendLies
/- Proved: rows of the call's own that are filled one by one, rows of numbers read, rows appended to. -/
namespace Go.Proofs.YtpebikjckhcgfaaDoor
open Go.ChangeShapes Go.WideShapes Go.ChangeAt Go.RowKit
set_option linter.unusedVariables false
theorem toZ_len (xs : List Nat) : (toZ xs).length = xs.length := by simp
theorem toZ_get (xs : List Nat) (j : Nat) : (toZ xs).getD j 0 = ((xs.getD j 0 : Nat) : Int) := by
  simp [List.getD, List.getElem?_map]
  cases xs[j]? <;> rfl
theorem Row.atZ {w : World} {v : Value} {xs : List Nat} (h : Row w v (toZ xs)) (h0 : 0 < xs.length) :
    ∃ b o cap, v = .slice (some ⟨b, o, none⟩) xs.length cap ∧ b < w.heap.size ∧ ∀ j, j < xs.length → w.cell? ⟨b, o + j, none⟩ = some (.int .i64 ((xs.getD j 0 : Nat) : Int)) := by
  rcases h with ⟨a, cap, e, e2⟩ | ⟨b, o, cap, e, hb, h1, hc⟩
  · have := congrArg List.length e2
    simp at this
    rw [this] at h0
    cases h0
  · rw [toZ_len] at e hc
    exact ⟨b, o, cap, e, hb, fun j hj => by rw [hc j hj, toZ_get]⟩
/-- a row of n numbers of the call's own, at its head -/
abbrev OwnI (w : World) (base g n : Nat) (xs : List Int) : Prop := w.ownsRow base 3 1 (.slice (some ⟨g, 0, none⟩) n n) n (xs.map (Value.int .i64))
theorem OwnI.get {w : World} {base g n : Nat} {xs : List Int} (h : OwnI w base g n xs) (hn : xs.length = n) (j : Nat) (hj : j < n) : w.cell? ⟨g, j, none⟩ = some (.int .i64 (xs.getD j 0)) := by
  rw [World.ownsRow.cellAt h j (by omega)]
  have : j < xs.length := by omega
  simp [List.getD, this]
theorem OwnI.free {w : World} {base g n : Nat} {xs : List Int} (h : OwnI w base g n xs) (j : Nat) : w.frozen? ⟨g, j, none⟩ = false := World.ownsRow.frozenAt h j
theorem OwnI.put {w : World} {base g n : Nat} {xs : List Int} (h : OwnI w base g n xs) (j : Nat) (y : Int) : OwnI (w.setCell ⟨g, j, none⟩ (.int .i64 y)) base g n (xs.set j y) := by
  have := (World.ownsRow.stored h j (.int .i64 y)).1
  unfold OwnI
  rw [List.map_set]
  exact this
theorem OwnI.own {w : World} {base g n : Nat} {xs : List Int} (h : OwnI w base g n xs) (hn : xs.length = n) : Own w base (.slice (some ⟨g, 0, none⟩) n n) xs := by
  unfold Own
  rw [hn]
  exact h
theorem OwnI.drewN {w : World} {base g n : Nat} {xs : List Int} (h : OwnI w base g n xs) (k : Nat) : OwnI (w.drewN k) base g n xs := h
theorem OwnI.old {w w' : World} {base g n : Nat} {xs : List Int} (h : OwnI w base g n xs) (hg : Old w w') : OwnI w' base g n xs := by
  refine ⟨h.1, ?_⟩
  rcases h.2 with hn | ⟨p, cap, cur, e, hb, hgg, rest⟩
  · exact .inl hn
  · refine .inr ⟨p, cap, cur, e, hb, ?_, rest⟩
    rw [hg.block p (Array.getElem?_eq_some_iff.1 hgg).1]
    exact hgg
theorem OwnI.new (w w1 : World) (n : Nat) (h : w1.ownsRow w.heap.size 3 1 (.slice (some ⟨w.heap.size, 0, none⟩) n n) n (madeCells (Value.int .i64 0).cells (n * 1)).toList) : OwnI w1 w.heap.size w.heap.size n (List.replicate n 0) := by
  rw [made_ints] at h
  exact h
theorem fill_get (xs : List Int) (k : Nat) (h : k < xs.length) : k < (fillN xs k).length := by rw [fillN_len xs k (by omega)]; exact h
theorem mul_lt28 (x y P : Nat) (hx : x < P) (hy : y < P) (hP : P ≤ 268435456) : x * y ≤ 72057594037927936 := by
  have := Nat.mul_le_mul (Nat.le_of_lt hx) (Nat.le_of_lt hy)
  have := Nat.mul_le_mul hP hP
  omega
theorem getD_lt {P : Nat} {xs : List Nat} (h : ∀ x ∈ xs, x < P) (hP : 0 < P) (j : Nat) : xs.getD j 0 < P := by
  by_cases hj : j < xs.length
  · have e : xs.getD j 0 = xs[j] := by simp [List.getD, hj]
    rw [e]
    exact h _ (List.getElem_mem hj)
  · have e : xs.getD j 0 = 0 := by simp [List.getD, List.getElem?_eq_none (show xs.length ≤ j by omega)]
    rw [e]
    exact hP
theorem one_cell (w : World) (x : Value) (t : TypeId) : ∀ j u, [x][j]? = some u → (w.alloc (.cells #[x] t)).cell? ((⟨w.heap.size, 0, none⟩ : Addr).add j) = some u := by
  intro j u h
  match j, h with
  | 0, h =>
    have : x = u := by simpa using h
    subst this
    exact cell_at w _ _ _ _ rfl
  | j + 1, h => simp at h
theorem one_one (x : Int) : ∀ u ∈ [Value.int .i64 x], u.oneCell' = true := by simp [Value.oneCell']
theorem Own.snoc {w : World} {base : Nat} {v : Value} {xs : List Int} {y : Int} (h : w.ownsRow base 3 1 v (xs.length + 1) (xs.map (Value.int .i64) ++ [.int .i64 y])) : Own w base v (xs ++ [y]) := by
  unfold Own
  rw [List.length_append, List.map_append]
  exact h
theorem Own.alloc {w : World} {base : Nat} {v : Value} {xs : List Int} (h : Own w base v xs) (o : Obj) : Own (w.alloc o) base v xs := h.old ((Old.refl _).alloc _)
theorem Old.grow {a b c : World} {v : Value} {xs : List Value} {n : Nat} (h : Old a b) (ho : b.ownsRow a.heap.size 3 1 v n xs) (g : b.grownBy c v.ownBlock) : Old a c :=
  Below.grown h g h.size (fun k hk => (ho.lt k hk).1)
end Go.Proofs.YtpebikjckhcgfaaDoor
/- Proved: how many noughts a ring's size has, the exponents of its points and their places, by the program and by the model. -/
namespace Go.Proofs.YtpebikjckhcgfaaDoor
open Go.ChangeShapes Go.WideShapes Go.ChangeAt Go.RowKit
set_option linter.unusedVariables false
set_option linter.unusedSimpArgs false
abbrev Sz4 (N : Nat) : Prop := N = 2 ∨ N = 4 ∨ N = 8 ∨ N = 16
def lg (N : Nat) : Nat := if N = 2 then 1 else if N = 4 then 2 else if N = 8 then 3 else 4
theorem lg_pow {N : Nat} (h : Sz4 N) : 2 ^ lg N = N ∧ 1 ≤ lg N ∧ lg N ≤ 4 := by rcases h with rfl | rfl | rfl | rfl <;> decide
theorem lg_ctz {N : Nat} (h : Sz4 N) : Lib.ctz 64 N = lg N := by rcases h with rfl | rfl | rfl | rfl <;> decide +kernel
theorem sz_bd {N : Nat} (h : Sz4 N) : 2 ≤ N ∧ N ≤ 16 := by omega
theorem back_lt (b : Nat) : ∀ (s k o : Nat), o < 2 ^ b → backN s k o < 2 ^ (b + s)
  | 0, k, o, h => h
  | s + 1, k, o, h => by
    have := back_lt (b + 1) s (k / 2) (2 * o + k % 2) (by rw [Nat.pow_succ]; omega)
    rw [show b + 1 + s = b + (s + 1) by omega] at this
    exact this
theorem back_lt0 {N : Nat} (h : Sz4 N) (k : Nat) : backN (lg N) k 0 < N := by
  have := back_lt 0 (lg N) k 0 (by decide)
  rw [Nat.zero_add, (lg_pow h).1] at this
  exact this
theorem impl_noughts (N : Nat) (w : World) (h : Sz4 N) (hT : TabW w) :
    Calls Tryd.prog 124 #[.int .i64 N] w fun e w' => e = .returned (.int .i64 (lg N)) ∧ w' = w := by
  have hb := sz_bd h
  have c := fun W (hT : TabW W) => bits_tz N (by omega) (by omega) W hT
  rw [lg_ctz h] at c
  have HT : Hid (TabW w) := hT
  generalize lg N = L at *
  clear hT h
  go_enter Tryd.func124, Tryd.ntmps124
  go_wp2_with fail
  refine (c _ HT.out).mono ?_
  rintro e w1 ⟨rfl, rfl⟩
  go_wp2_with fail
  go_ret
  exact ⟨rfl, rfl⟩
theorem impl_backN (N k : Nat) (w : World) (h : Sz4 N) (hk : k < N) :
    Calls Tryd.prog 127 #[.int .i64 k, .int .i64 (lg N)] w fun e w' => e = .returned (.int .i64 (backN (lg N) k 0)) ∧ w' = w :=
  back_impl_yes k (lg N) w (by have := lg_pow h; omega) (by rw [(lg_pow h).1]; exact hk)
theorem impl_place (N m : Nat) (w : World) (h : Sz4 N) (hm : m < 2 * N) (hT : TabW w) :
    Calls Tryd.prog 120 #[.int .i64 m, .int .i64 N] w fun e w' => e = .returned (.int .i64 (backN (lg N) (m / 2) 0)) ∧ w' = w := by
  have c1 := fun W (hT : TabW W) => impl_noughts N W h hT
  have c2 := fun W => impl_backN N (m / 2) W h (by omega)
  have e : ((m / 2 : Nat) : Int) = (m : Int) / 2 := by omega
  rw [e] at c2
  have hs := sz_bd h
  have HT : Hid (TabW w) := hT
  generalize backN (lg N) (m / 2) 0 = x at *
  generalize lg N = L at *
  clear hT h e
  go_enter Tryd.func120, Tryd.ntmps120
  go_wp2_with fail
  refine (c1 _ HT.out).mono ?_
  rintro e w1 ⟨rfl, rfl⟩
  go_wp2_with fail
  refine (c2 _).mono ?_
  rintro e w1 ⟨rfl, rfl⟩
  go_wp2_with fail
  go_ret
  exact ⟨rfl, rfl⟩
def bitsN : Nat → Nat → Nat
  | 0, _ => 0
  | f + 1, n => if n = 0 then 0 else bitsN f (n / 2) + 1
theorem spec_bits (N : Nat) (w : World) (h : Sz4 N) :
    Calls Tryd.prog 162 #[.int .i64 N] w fun e w' => e = .returned (.int .i64 ((lg N + 1 : Nat) : Int)) ∧ w' = w := by
  rcases h with rfl | rfl | rfl | rfl
  all_goals
    go_enter Tryd.func162, Tryd.ntmps162
    go_wp2_with fail
    refine wp_loop_rounds 6 ?_
    repeat (rw [rounds_succ]; go_wp2_with fail; try (first | (go_ret; exact ⟨rfl, rfl⟩)))
def ptsN (N : Nat) : List Nat := (List.range N).map (fun k => 2 * backN (lg N) k 0 + 1)
theorem ptsN_len (N : Nat) : (ptsN N).length = N := by simp [ptsN]
theorem ptsN_get (N k : Nat) (h : k < N) : (ptsN N).getD k 0 = 2 * backN (lg N) k 0 + 1 := by simp [ptsN, List.getD, h]
theorem take_succN (xs : List Nat) (k : Nat) (h : k < xs.length) : xs.take (k + 1) = xs.take k ++ [xs.getD k 0] := by
  rw [List.take_succ_eq_append_getElem h]
  simp [List.getD, h]
set_option maxRecDepth 100000 in
set_option maxHeartbeats 1000000 in
theorem spec_points (N : Nat) (w : World) (h : Sz4 N) :
    Calls Tryd.prog 130 #[.int .i64 N] w fun e w' => ∃ v', e = .returned v' ∧ Old w w' ∧ Own w' w.heap.size v' (toZ (ptsN N)) := by
  obtain ⟨i0, hi, hz0, hz1, hz2⟩ := info_parts Tryd.infoInt
  have c1 := fun W => spec_bits N W h
  have hs := sz_bd h
  have hL := lg_pow h
  have HB : Hid (∀ k, k < N → ∀ W, Calls Tryd.prog 163 #[.int .i64 k, .int .i64 (lg N)] W fun e w' => e = .returned (.int .i64 (backN (lg N) k 0)) ∧ w' = W) := fun k hk W => back_spec k (lg N) W (by omega) (by omega)
  have HE : Hid (∀ k, k < N → (toZ (ptsN N)).take (k + 1) = (toZ (ptsN N)).take k ++ [((2 * backN (lg N) k 0 + 1 : Nat) : Int)]) := fun k hk => by
    rw [take_succI _ k (by rw [toZ_len, ptsN_len]; exact hk), toZ_get, ptsN_get N k hk]
  have hzl : (toZ (ptsN N)).length = N := by rw [toZ_len, ptsN_len]
  have HBL : Hid (∀ k, backN (lg N) k 0 < N) := fun k => back_lt0 h k
  have eL : ((lg N + 1 : Nat) : Int) - 1 = (lg N : Int) := by omega
  have hL4 : lg N ≤ 4 := hL.2.2
  generalize toZ (ptsN N) = zs at *
  clear hL h
  generalize lg N = L at *
  have eL2 : (((L + 1 : Nat) : Int)) = (L : Int) + 1 := by omega
  rw [eL2] at c1
  clear eL eL2
  go_enter Tryd.func130, Tryd.ntmps130
  go_wp2_with fail
  refine (c1 _).mono ?_
  rintro e w1 ⟨rfl, hw⟩
  obtain rfl : w = w1 := hw.symm
  go_wp2_with fail
  go_loopw [3, 5] (fun v i W => ∃ (k : Nat) (a : Option Addr) (cap : Nat), k ≤ N ∧ i = .int .i64 k ∧ v = .slice a k cap ∧ Hid (Own W w.heap.size (.slice a k cap) (zs.take k)) ∧ Hid (Old w W)) (fun _ i _ => N - (intOf i).toNat)
  case atStart => exact ⟨0, none, 0, by omega, rfl, rfl, (by exact own_nil _ _), Old.refl _⟩
  case round =>
    obtain ⟨k, a, cap, hk, rfl, rfl, HO1, HG4⟩ := hrel
    have hs4 := HG4.out.size
    by_cases hlt : k < N
    · have d1 : decide ((k : Int) < (N : Int)) = true := by simp; omega
      have cb := HB.out k hlt
      have HT1 := HE.out k hlt
      have hx := HBL.out k
      generalize backN L k 0 = x at *
      have e2 : ((2 * x + 1 : Nat) : Int) = 2 * (x : Int) + 1 := by omega
      rw [e2] at HT1
      have HT2 : Hid (zs.take (k + 1) = zs.take k ++ [2 * (x : Int) + 1]) := HT1
      have htk : (zs.take k).length = k := by rw [List.length_take]; omega
      clear e2 HT1
      go_wp2_with fail
      refine (cb _).mono ?_
      rintro e w2 ⟨rfl, hw⟩
      obtain rfl : wr = w2 := hw.symm
      go_wp2_with (at_builtin; refine wpList_append_own _ rfl _ _ 23 rfl w.heap.size 3 i0 (.int .i64 0) 1 8 Tryd.underlying23 hi hz0 hz1 hz2 rfl (by decide) _ _ _ rfl (by have := HO1.out.alloc (.cells #[.int .i64 (2 * (x : Int) + 1)] 3); unfold Own at this; rw [htk] at this; exact this) ⟨wr.heap.size, 0, none⟩ 1 1 [.int .i64 (2 * (x : Int) + 1)] rfl rfl (one_cell _ _ _) (one_one _) (by unfold maxLen; omega) (by omega) (by simp; omega) ?_; intro v5 w5 o5 g5 x5; have O5 : Hid (Own w5 w.heap.size v5 (zs.take (k + 1))) := (by have := HT2.out; show Own _ _ _ _; rw [this]; exact Own.snoc (by rw [htk]; exact o5)); have G5 : Hid (Old w w5) := Below.grown (HG4.out.alloc (.cells #[.int .i64 (2 * (x : Int) + 1)] 3)) g5 (HG4.out.alloc (.cells #[.int .i64 (2 * (x : Int) + 1)] 3)).size (fun j hj => (HO1.out.lt j hj).1); clear o5 g5 x5)
      obtain ⟨a5, cap5, rfl⟩ := (Own.row O5.out).slice
      have htk1 : (zs.take (k + 1)).length = k + 1 := by rw [List.length_take]; omega
      rw [htk1] at O5 ⊢
      exact ⟨⟨k + 1, _, _, by omega, by go_num, rfl, O5, G5⟩, by simp [intOf]; omega⟩
    · have d1 : decide ((k : Int) < (N : Int)) = false := by simp; omega
      obtain rfl : k = N := by omega
      have HF : Hid (Own wr w.heap.size (.slice a k cap) zs) := by
        have := HO1.out
        rw [List.take_of_length_le (by omega)] at this
        exact this
      go_wp2_with fail
      go_ret
      exact ⟨_, rfl, HG4.out, HF.out⟩
end Go.Proofs.YtpebikjckhcgfaaDoor
/- Proved: the model's transform: the polynomial's value at each point, by Horner's rule. -/
namespace Go.Proofs.YtpebikjckhcgfaaDoor
open Go.ChangeShapes Go.WideShapes Go.ChangeAt Go.RowKit
open M1
set_option linter.unusedVariables false
set_option linter.unusedSimpArgs false
/-- Horner's rule, c numbers taken from the last one on -/
def horS (P x : Nat) (xs : List Nat) (N : Nat) : Nat → Nat
  | 0 => 0
  | c + 1 => (horS P x xs N c * x + xs.getD (N - 1 - c) 0) % P
theorem horS_lt (P x : Nat) (xs : List Nat) (N : Nat) (hP : 0 < P) : ∀ c, horS P x xs N c < P
  | 0 => hP
  | c + 1 => Nat.mod_lt _ hP
theorem horS_step (P x : Nat) (xs : List Nat) (N m : Nat) (h : m < N) : horS P x xs N (N - m) = (horS P x xs N (N - (m + 1)) * x + xs.getD m 0) % P := by
  rw [show N - m = (N - (m + 1)) + 1 by omega, horS, show N - 1 - (N - (m + 1)) = m by omega]
def fwdS (P N R : Nat) (xs : List Nat) : List Nat := (List.range N).map (fun k => horS P (R ^ ((ptsN N).getD k 0) % P) xs N N)
theorem fwdS_len (P N R : Nat) (xs : List Nat) : (fwdS P N R xs).length = N := by simp [fwdS]
theorem fwdS_get (P N R : Nat) (xs : List Nat) (k : Nat) (h : k < N) : (fwdS P N R xs).getD k 0 = horS P (R ^ ((ptsN N).getD k 0) % P) xs N N := by simp [fwdS, List.getD, h]
theorem pts_bd' {N : Nat} (h : Sz4 N) (k : Nat) : (ptsN N).getD k 0 < 2 * N + 1 := by
  by_cases hk : k < N
  · rw [ptsN_get N k hk]
    have := back_lt0 h k
    omega
  · have e : (ptsN N).getD k 0 = 0 := by simp [List.getD, List.getElem?_eq_none (show (ptsN N).length ≤ k by rw [ptsN_len]; omega)]
    omega
theorem spec_powN (a e p : Nat) (W : World) (ha : a < p) (he : e ≤ 1000000) (hp : 2 ≤ p) (hp' : p ≤ 268435456) :
    Calls Tryd.prog 132 #[.int .i64 a, .int .i64 e, .int .i64 p] W fun en w' => en = .returned (.int .i64 ((a ^ e % p : Nat) : Int)) ∧ w' = W := by
  have c := spec_pow a e p W ⟨by omega, by omega⟩ ⟨by omega, by omega⟩ ⟨by omega, by omega⟩
  have e1 : ((a : Int) % (p : Int)).toNat = a := by rw [← Int.natCast_emod, Int.toNat_natCast, Nat.mod_eq_of_lt ha]
  rw [e1, Int.toNat_natCast, Int.toNat_natCast] at c
  exact c
set_option maxRecDepth 100000 in
set_option maxHeartbeats 2000000 in
theorem spec_l3Forward (P N R : Nat) (xs : List Nat) (v : Value) (w : World) (hv : Row w v (toZ xs)) (hP : 2 ≤ P ∧ P ≤ 268435456) (h : Sz4 N) (hR : R < P) (la : xs.length = N) (ha : ∀ x ∈ xs, x < P) :
    Calls Tryd.prog 87 #[.agg #[.int .i64 P, .int .i64 N, .int .i64 R], v] w fun e w' => ∃ v', e = .returned v' ∧ Old w w' ∧ Own w' w.heap.size v' (toZ (fwdS P N R xs)) := by
  obtain ⟨i0, hi, hz0, hz1, hz2⟩ := info_parts Tryd.infoInt
  have hs := sz_bd h
  obtain ⟨b0, o0, cap0, rfl, hb0, hc0⟩ := hv.atZ (by omega)
  rw [la] at hc0 ⊢
  have HC0 : Hid (∀ j, j < N → w.cell? ⟨b0, o0 + j, none⟩ = some (.int .i64 ((xs.getD j 0 : Nat) : Int))) := hc0
  have c2 := fun W => spec_points N W h
  have HPB : Hid (∀ k, (ptsN N).getD k 0 < 2 * N + 1) := fun k => pts_bd' h k
  have hpl := ptsN_len N
  have HA : Hid (∀ k, xs.getD k 0 < P) := fun k => getD_lt ha (by omega) k
  have HPW : Hid (∀ e, e < 2 * N + 1 → ∀ W, Calls Tryd.prog 132 #[.int .i64 R, .int .i64 e, .int .i64 P] W fun en w' => en = .returned (.int .i64 ((R ^ e % P : Nat) : Int)) ∧ w' = W) := fun e he W => spec_powN R e P W hR (by omega) hP.1 hP.2
  have HXL : Hid (∀ e, R ^ e % P < P) := fun e => Nat.mod_lt _ (by omega)
  have HH0 : Hid (∀ x, horS P x xs N (N - N) = 0) := fun x => by rw [Nat.sub_self]; rfl
  have HH1 : Hid (∀ x m, m < N → horS P x xs N (N - m) = (horS P x xs N (N - (m + 1)) * x + xs.getD m 0) % P) := fun x m hm => horS_step P x xs N m hm
  have HH2 : Hid (∀ x m, horS P x xs N (N - m) < P) := fun x m => horS_lt P x xs N (by omega) _
  have HE : Hid (∀ k, k < N → (toZ (fwdS P N R xs)).take (k + 1) = (toZ (fwdS P N R xs)).take k ++ [((horS P (R ^ ((ptsN N).getD k 0) % P) xs N (N - 0) : Nat) : Int)]) := fun k hk => by
    rw [take_succI _ k (by rw [toZ_len, fwdS_len]; exact hk), toZ_get, fwdS_get P N R xs k hk]
    rfl
  have hzl : (toZ (fwdS P N R xs)).length = N := by rw [toZ_len, fwdS_len]
  generalize toZ (fwdS P N R xs) = zs at *
  obtain ⟨HH, eHH⟩ : ∃ HH : Nat → Nat → Nat, HH = fun x m => horS P x xs N (N - m) := ⟨_, rfl⟩
  have HH0' : Hid (∀ x, HH x N = 0) := by rw [eHH]; exact HH0
  have HH1' : Hid (∀ x m, m < N → HH x m = (HH x (m + 1) * x + xs.getD m 0) % P) := by rw [eHH]; exact HH1
  have HH2' : Hid (∀ x m, HH x m < P) := by rw [eHH]; exact HH2
  have HE' : Hid (∀ k, k < N → zs.take (k + 1) = zs.take k ++ [((HH (R ^ ((ptsN N).getD k 0) % P) 0 : Nat) : Int)]) := by rw [eHH]; exact HE
  clear HH0 HH1 HH2 HE eHH
  generalize ptsN N = ps at *
  clear hc0 hv la ha h hR
  have RC0 : Hid (Rc (w.alloc (.cells #[.int .i64 P, .int .i64 N, .int .i64 R] 30)) w.heap.size P N R) := Rc.new w _ _ _
  have hpn : ¬ (P : Int) = 0 := by omega
  have hpn2 : ¬ P = 0 := by omega
  go_enter Tryd.func87, Tryd.ntmps87
  go_wp2_with fail
  refine (c2 _).mono ?_
  rintro e w1 ⟨v1, rfl, g1, o1⟩
  obtain ⟨b1, o1', cap1, rfl, hb1, hc1⟩ := (Own.row o1).atZ (by omega)
  rw [hpl] at hc1 ⊢
  have HC1 : Hid (∀ j, j < N → w1.cell? ⟨b1, o1' + j, none⟩ = some (.int .i64 ((ps.getD j 0 : Nat) : Int))) := hc1
  have HG1 : Hid (Old w w1) := Old.trans ((Old.refl w).alloc _) g1
  have RC1 : Hid (Rc w1 w.heap.size P N R) := RC0.out.old g1
  clear g1 o1 hc1 RC0
  go_wp2_with fail
  go_loopw [5, 15] (fun v i W => ∃ (k : Nat) (a : Option Addr) (cap : Nat), k ≤ N ∧ i = .int .i64 k ∧ v = .slice a k cap ∧ Hid (Own W w1.heap.size (.slice a k cap) (zs.take k)) ∧ Hid (Old w1 W)) (fun _ i _ => N - (intOf i).toNat)
  case atStart => exact ⟨0, none, 0, by omega, rfl, rfl, (by exact own_nil _ _), Old.refl _⟩
  case round =>
    obtain ⟨k, a, cap, hk, rfl, rfl, HO1, HG2⟩ := hrel
    have hs4 := HG2.out.size
    by_cases hlt : k < N
    · have d1 : decide ((k : Int) < (N : Int)) = true := by simp; omega
      have x1 : wr.cell? ⟨b1, o1' + k, none⟩ = some (.int .i64 ((ps.getD k 0 : Nat) : Int)) := (HG2.out.cell (p := ⟨b1, o1' + k, none⟩) hb1).trans (HC1.out k hlt)
      have z0 := (RC1.out.old HG2.out).c0
      have z2 := (RC1.out.old HG2.out).c2
      have cp := HPW.out _ (HPB.out k)
      have hxl := HXL.out (ps.getD k 0)
      have HT2 : Hid (zs.take (k + 1) = zs.take k ++ [((HH (R ^ (ps.getD k 0) % P) 0 : Nat) : Int)]) := HE'.out k hlt
      generalize ps.getD k 0 = E at *
      generalize R ^ E % P = x at *
      have htk : (zs.take k).length = k := by rw [List.length_take]; omega
      go_wp2_with fail
      refine (cp _).mono ?_
      rintro e w2 ⟨rfl, hw⟩
      obtain rfl : wr = w2 := hw.symm
      go_wp2_with fail
      clear x1 z2
      go_loopw [9, 10] (fun y i W => ∃ (m : Nat) , m ≤ N ∧ i = .int .i64 ((m : Int) - 1) ∧ y = .int .i64 ((HH x m : Nat) : Int) ∧ Hid (Own W w1.heap.size (.slice a k cap) (zs.take k)) ∧ Hid (Old w1 W)) (fun _ i _ => ((intOf i) + 1).toNat)
      case atStart => exact ⟨N, by omega, rfl, by rw [HH0'.out]; rfl, HO1, HG2⟩
      case round =>
        obtain ⟨m, hm, rfl, rfl, HO3, HG3⟩ := hrel
        clear HO1 HG2 hs4 z0
        have hs5 := HG3.out.size
        have z0 := (RC1.out.old HG3.out).c0
        by_cases hz : m = 0
        · subst hz
          have d2 : decide ((0 : Int) ≤ ((0 : Nat) : Int) - 1) = false := by simp
          go_wp2_with (at_builtin; refine wpList_append_own _ rfl _ _ 23 rfl w1.heap.size 3 i0 (.int .i64 0) 1 8 Tryd.underlying23 hi hz0 hz1 hz2 rfl (by decide) _ _ _ rfl (by have := HO3.out.alloc (.cells #[.int .i64 ((HH x 0 : Nat) : Int)] 3); unfold Own at this; rw [htk] at this; exact this) ⟨wr.heap.size, 0, none⟩ 1 1 [.int .i64 ((HH x 0 : Nat) : Int)] rfl rfl (one_cell _ _ _) (one_one _) (by unfold maxLen; omega) (by omega) (by simp; omega) ?_; intro v5 w5 o5 g5 x5; have O5 : Hid (Own w5 w1.heap.size v5 (zs.take (k + 1))) := (by have := HT2.out; show Own _ _ _ _; rw [this]; exact Own.snoc (by rw [htk]; exact o5)); have G5 : Hid (Old w1 w5) := Below.grown (HG3.out.alloc (.cells #[.int .i64 ((HH x 0 : Nat) : Int)] 3)) g5 (HG3.out.alloc (.cells #[.int .i64 ((HH x 0 : Nat) : Int)] 3)).size (fun j hj => (HO3.out.lt j hj).1); clear o5 g5 x5)
          obtain ⟨a5, cap5, rfl⟩ := (Own.row O5.out).slice
          have htk1 : (zs.take (k + 1)).length = k + 1 := by rw [List.length_take]; omega
          rw [htk1] at O5 ⊢
          exact ⟨⟨k + 1, _, _, by omega, by go_num, rfl, O5, G5⟩, by simp [intOf]; omega⟩
        · obtain ⟨m', rfl⟩ : ∃ m', m = m' + 1 := ⟨m - 1, by omega⟩
          have em : ((m' + 1 : Nat) : Int) - 1 = (m' : Int) := by omega
          rw [em]
          have d2 : decide ((0 : Int) ≤ (m' : Int)) = true := by simp
          have i2 : (m' : Int) < (N : Int) := by omega
          have x2 : wr.cell? ⟨b0, o0 + m', none⟩ = some (.int .i64 ((xs.getD m' 0 : Nat) : Int)) := ((Old.trans HG1.out HG3.out).cell (p := ⟨b0, o0 + m', none⟩) hb0).trans (HC0.out m' (by omega))
          have HS : Hid (HH x m' = (HH x (m' + 1) * x + xs.getD m' 0) % P) := HH1'.out x m' (by omega)
          have hy := HH2'.out x (m' + 1)
          have hal := HA.out m'
          generalize HH x (m' + 1) = y at *
          generalize xs.getD m' 0 = av at *
          have hmul := mul_lt28 y x P hy hxl hP.2
          have e1 : (y : Int) * (x : Int) = ((y * x : Nat) : Int) := by simp
          generalize y * x = s at *
          have ew1 : IntKind.i64.wrap ((s : Nat) : Int) = (s : Int) := by rw [IntKind.wrap_i64]; omega
          have e2 : (s : Int) + (av : Int) = ((s + av : Nat) : Int) := by simp
          have hu : s + av ≤ 72057594306363392 := by omega
          generalize s + av = u at *
          have ew2 : IntKind.i64.wrap ((u : Nat) : Int) = (u : Int) := by rw [IntKind.wrap_i64]; omega
          have e3 : (u : Int) % (P : Int) = ((u % P : Nat) : Int) := by simp
          have e4 : Int.tmod (u : Int) (P : Int) = ((u % P : Nat) : Int) := by rw [Int.tmod_eq_emod_of_nonneg (by omega)]; simp
          have HS2 : Hid (((u % P : Nat) : Int) = ((HH x m' : Nat) : Int)) := by rw [HS.out]; rfl
          clear em HS
          generalize u % P = q at *
          go_wp2_with fail
          go_quiet (fail)
          go_wp2_with fail
          exact ⟨⟨m', by omega, by go_num, by rw [HS2.out], HO3.out.old ((Old.refl _).drewN _), HG3.out.drewN _⟩, by simp [intOf]⟩
    · have d1 : decide ((k : Int) < (N : Int)) = false := by simp; omega
      obtain rfl : k = N := by omega
      have HF : Hid (Own wr w.heap.size (.slice a k cap) zs) := by
        have := HO1.out
        rw [List.take_of_length_le (by omega)] at this
        exact this.low HG1.out.size
      go_wp2_with fail
      go_ret
      exact ⟨_, rfl, Old.trans HG1.out HG2.out, HF.out⟩
end Go.Proofs.YtpebikjckhcgfaaDoor
/- Proved: a part of a row, cut out of it. -/
namespace Go.Proofs.YtpebikjckhcgfaaDoor
open Go.ChangeShapes Go.WideShapes Go.ChangeAt Go.RowKit
set_option linter.unusedVariables false
set_option linter.unusedSimpArgs false
theorem impl_partOf (g N part parts size : Nat) (w : World) (hN : 2 ≤ N ∧ N ≤ 16) (hp : N = parts * size) (h1 : 1 ≤ parts) (h2 : 1 ≤ size) (hlt : part < parts) :
    Calls Tryd.prog 126 #[.slice (some ⟨g, 0, none⟩) N N, .int .i64 part, .int .i64 parts] w fun e w' => e = .returned (.slice (some ⟨g, part * size, none⟩) size (N - part * size)) ∧ w' = w := by
  have hd : N / parts = size := by rw [hp]; exact Nat.mul_div_cancel_left _ (by omega)
  have e0 : (N : Int) / (parts : Int) = (size : Int) := by rw [← hd]; simp
  have hle : (part + 1) * size ≤ N := by rw [hp]; exact Nat.mul_le_mul_right _ (by omega)
  have e1 : (part : Int) * (size : Int) = ((part * size : Nat) : Int) := by simp
  have e2 : ((part : Int) + 1) * (size : Int) = (((part + 1) * size : Nat) : Int) := by simp
  have e3 : (part + 1) * size = part * size + size := by rw [Nat.add_mul, Nat.one_mul]
  have hpt : part ≤ 16 := by
    have := Nat.mul_le_mul_right size hlt
    have : parts ≤ parts * size := Nat.le_mul_of_pos_right _ (by omega)
    omega
  have hpp : parts ≤ 16 := by
    have : parts ≤ parts * size := Nat.le_mul_of_pos_right _ (by omega)
    omega
  have hsz : size ≤ 16 := by
    have : size ≤ parts * size := Nat.le_mul_of_pos_left _ (by omega)
    omega
  rw [e3] at e2 hle
  generalize part * size = lo at *
  obtain ⟨hi, hhi⟩ : ∃ hi, hi = lo + size := ⟨_, rfl⟩
  rw [← hhi] at e2 hle
  have es : hi - lo = size := by omega
  have hlh : lo ≤ hi := by omega
  have hlh2 : lo < hi := by omega
  have hle' : (lo : Int) ≤ (hi : Int) := by omega
  have hle2 : (hi : Int) ≤ (N : Int) := by omega
  have hpn : ¬ (parts : Int) = 0 := by omega
  have hpn2 : ¬ parts = 0 := by omega
  rw [← es]
  clear hp hd e3 hhi es
  go_enter Tryd.func126, Tryd.ntmps126
  go_wp2_with fail
  all_goals
    go_ret
    first
      | (exfalso; omega)
      | exact ⟨rfl, rfl⟩
end Go.Proofs.YtpebikjckhcgfaaDoor
