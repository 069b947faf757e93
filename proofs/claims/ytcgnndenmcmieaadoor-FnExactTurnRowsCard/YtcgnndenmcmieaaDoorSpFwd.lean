/- Proved: the model's transform: the polynomial's value at each point, by Horner's rule. -/
import Derived.Test.YtcgnndenmcmieaaDoorPoints
namespace Go.Proofs.YtcgnndenmcmieaaDoor
open Go.ChangeShapes Go.WideShapes Go.ChangeAt Go.RowKit
open M1
set_option linter.unusedVariables false
set_option linter.unusedSimpArgs false
/-- Horner's rule, c numbers taken from the last one on -/
def horS (P x : Nat) (xs : List Nat) (N : Nat) : Nat → Nat
  | 0 => 0
  | c + 1 => (horS P x xs N c * x + xs.getD (N - 1 - c) 0) % P
theorem horS_lt (P x : Nat) (xs : List Nat) (N : Nat) (hP : 0 < P) : ∀ c, horS P x xs N c < P
  | 0 => hP
  | c + 1 => Nat.mod_lt _ hP
theorem horS_step (P x : Nat) (xs : List Nat) (N m : Nat) (h : m < N) : horS P x xs N (N - m) = (horS P x xs N (N - (m + 1)) * x + xs.getD m 0) % P := by
  rw [show N - m = (N - (m + 1)) + 1 by omega, horS, show N - 1 - (N - (m + 1)) = m by omega]
def fwdS (P N R : Nat) (xs : List Nat) : List Nat := (List.range N).map (fun k => horS P (R ^ ((ptsN N).getD k 0) % P) xs N N)
theorem fwdS_len (P N R : Nat) (xs : List Nat) : (fwdS P N R xs).length = N := by simp [fwdS]
theorem fwdS_get (P N R : Nat) (xs : List Nat) (k : Nat) (h : k < N) : (fwdS P N R xs).getD k 0 = horS P (R ^ ((ptsN N).getD k 0) % P) xs N N := by simp [fwdS, List.getD, h]
theorem pts_bd' {N : Nat} (h : Sz4 N) (k : Nat) : (ptsN N).getD k 0 < 2 * N + 1 := by
  by_cases hk : k < N
  · rw [ptsN_get N k hk]
    have := back_lt0 h k
    omega
  · have e : (ptsN N).getD k 0 = 0 := by simp [List.getD, List.getElem?_eq_none (show (ptsN N).length ≤ k by rw [ptsN_len]; omega)]
    omega
theorem spec_powN (a e p : Nat) (W : World) (ha : a < p) (he : e ≤ 1000000) (hp : 2 ≤ p) (hp' : p ≤ 268435456) :
    Calls Tryd.prog 147 #[.int .i64 a, .int .i64 e, .int .i64 p] W fun en w' => en = .returned (.int .i64 ((a ^ e % p : Nat) : Int)) ∧ w' = W := by
  have c := spec_pow a e p W ⟨by omega, by omega⟩ ⟨by omega, by omega⟩ ⟨by omega, by omega⟩
  have e1 : ((a : Int) % (p : Int)).toNat = a := by rw [← Int.natCast_emod, Int.toNat_natCast, Nat.mod_eq_of_lt ha]
  rw [e1, Int.toNat_natCast, Int.toNat_natCast] at c
  exact c
set_option maxRecDepth 100000 in
set_option maxHeartbeats 2000000 in
theorem spec_l3Forward (P N R : Nat) (xs : List Nat) (v : Value) (w : World) (hv : Row w v (toZ xs)) (hP : 2 ≤ P ∧ P ≤ 268435456) (h : Sz4 N) (hR : R < P) (la : xs.length = N) (ha : ∀ x ∈ xs, x < P) :
    Calls Tryd.prog 116 #[.agg #[.int .i64 P, .int .i64 N, .int .i64 R], v] w fun e w' => ∃ v', e = .returned v' ∧ Old w w' ∧ Own w' w.heap.size v' (toZ (fwdS P N R xs)) := by
  obtain ⟨i0, hi, hz0, hz1, hz2⟩ := info_parts Tryd.infoInt
  have hs := sz_bd h
  obtain ⟨b0, o0, cap0, rfl, hb0, hc0⟩ := hv.atZ (by omega)
  rw [la] at hc0 ⊢
  have HC0 : Hid (∀ j, j < N → w.cell? ⟨b0, o0 + j, none⟩ = some (.int .i64 ((xs.getD j 0 : Nat) : Int))) := hc0
  have c2 := fun W => spec_points N W h
  have HPB : Hid (∀ k, (ptsN N).getD k 0 < 2 * N + 1) := fun k => pts_bd' h k
  have hpl := ptsN_len N
  have HA : Hid (∀ k, xs.getD k 0 < P) := fun k => getD_lt ha (by omega) k
  have HPW : Hid (∀ e, e < 2 * N + 1 → ∀ W, Calls Tryd.prog 147 #[.int .i64 R, .int .i64 e, .int .i64 P] W fun en w' => en = .returned (.int .i64 ((R ^ e % P : Nat) : Int)) ∧ w' = W) := fun e he W => spec_powN R e P W hR (by omega) hP.1 hP.2
  have HXL : Hid (∀ e, R ^ e % P < P) := fun e => Nat.mod_lt _ (by omega)
  have HH0 : Hid (∀ x, horS P x xs N (N - N) = 0) := fun x => by rw [Nat.sub_self]; rfl
  have HH1 : Hid (∀ x m, m < N → horS P x xs N (N - m) = (horS P x xs N (N - (m + 1)) * x + xs.getD m 0) % P) := fun x m hm => horS_step P x xs N m hm
  have HH2 : Hid (∀ x m, horS P x xs N (N - m) < P) := fun x m => horS_lt P x xs N (by omega) _
  have HE : Hid (∀ k, k < N → (toZ (fwdS P N R xs)).take (k + 1) = (toZ (fwdS P N R xs)).take k ++ [((horS P (R ^ ((ptsN N).getD k 0) % P) xs N (N - 0) : Nat) : Int)]) := fun k hk => by
    rw [take_succI _ k (by rw [toZ_len, fwdS_len]; exact hk), toZ_get, fwdS_get P N R xs k hk]
    rfl
  have hzl : (toZ (fwdS P N R xs)).length = N := by rw [toZ_len, fwdS_len]
  generalize toZ (fwdS P N R xs) = zs at *
  obtain ⟨HH, eHH⟩ : ∃ HH : Nat → Nat → Nat, HH = fun x m => horS P x xs N (N - m) := ⟨_, rfl⟩
  have HH0' : Hid (∀ x, HH x N = 0) := by rw [eHH]; exact HH0
  have HH1' : Hid (∀ x m, m < N → HH x m = (HH x (m + 1) * x + xs.getD m 0) % P) := by rw [eHH]; exact HH1
  have HH2' : Hid (∀ x m, HH x m < P) := by rw [eHH]; exact HH2
  have HE' : Hid (∀ k, k < N → zs.take (k + 1) = zs.take k ++ [((HH (R ^ ((ptsN N).getD k 0) % P) 0 : Nat) : Int)]) := by rw [eHH]; exact HE
  clear HH0 HH1 HH2 HE eHH
  generalize ptsN N = ps at *
  clear hc0 hv la ha h hR
  have RC0 : Hid (Rc (w.alloc (.cells #[.int .i64 P, .int .i64 N, .int .i64 R] 27)) w.heap.size P N R) := Rc.new w _ _ _
  have hpn : ¬ (P : Int) = 0 := by omega
  have hpn2 : ¬ P = 0 := by omega
  go_enter Tryd.func116, Tryd.ntmps116
  go_wp2_with fail
  refine (c2 _).mono ?_
  rintro e w1 ⟨v1, rfl, g1, o1⟩
  obtain ⟨b1, o1', cap1, rfl, hb1, hc1⟩ := (Own.row o1).atZ (by omega)
  rw [hpl] at hc1 ⊢
  have HC1 : Hid (∀ j, j < N → w1.cell? ⟨b1, o1' + j, none⟩ = some (.int .i64 ((ps.getD j 0 : Nat) : Int))) := hc1
  have HG1 : Hid (Old w w1) := Old.trans ((Old.refl w).alloc _) g1
  have RC1 : Hid (Rc w1 w.heap.size P N R) := RC0.out.old g1
  clear g1 o1 hc1 RC0
  go_wp2_with fail
  go_loopw [5, 15] (fun v i W => ∃ (k : Nat) (a : Option Addr) (cap : Nat), k ≤ N ∧ i = .int .i64 k ∧ v = .slice a k cap ∧ Hid (Own W w1.heap.size (.slice a k cap) (zs.take k)) ∧ Hid (Old w1 W)) (fun _ i _ => N - (intOf i).toNat)
  case atStart => exact ⟨0, none, 0, by omega, rfl, rfl, (by exact own_nil _ _), Old.refl _⟩
  case round =>
    obtain ⟨k, a, cap, hk, rfl, rfl, HO1, HG2⟩ := hrel
    have hs4 := HG2.out.size
    by_cases hlt : k < N
    · have d1 : decide ((k : Int) < (N : Int)) = true := by simp; omega
      have x1 : wr.cell? ⟨b1, o1' + k, none⟩ = some (.int .i64 ((ps.getD k 0 : Nat) : Int)) := (HG2.out.cell (p := ⟨b1, o1' + k, none⟩) hb1).trans (HC1.out k hlt)
      have z0 := (RC1.out.old HG2.out).c0
      have z2 := (RC1.out.old HG2.out).c2
      have cp := HPW.out _ (HPB.out k)
      have hxl := HXL.out (ps.getD k 0)
      have HT2 : Hid (zs.take (k + 1) = zs.take k ++ [((HH (R ^ (ps.getD k 0) % P) 0 : Nat) : Int)]) := HE'.out k hlt
      generalize ps.getD k 0 = E at *
      generalize R ^ E % P = x at *
      have htk : (zs.take k).length = k := by rw [List.length_take]; omega
      go_wp2_with fail
      refine (cp _).mono ?_
      rintro e w2 ⟨rfl, hw⟩
      obtain rfl : wr = w2 := hw.symm
      go_wp2_with fail
      clear x1 z2
      go_loopw [9, 10] (fun y i W => ∃ (m : Nat) , m ≤ N ∧ i = .int .i64 ((m : Int) - 1) ∧ y = .int .i64 ((HH x m : Nat) : Int) ∧ Hid (Own W w1.heap.size (.slice a k cap) (zs.take k)) ∧ Hid (Old w1 W)) (fun _ i _ => ((intOf i) + 1).toNat)
      case atStart => exact ⟨N, by omega, rfl, by rw [HH0'.out]; rfl, HO1, HG2⟩
      case round =>
        obtain ⟨m, hm, rfl, rfl, HO3, HG3⟩ := hrel
        clear HO1 HG2 hs4 z0
        have hs5 := HG3.out.size
        have z0 := (RC1.out.old HG3.out).c0
        by_cases hz : m = 0
        · subst hz
          have d2 : decide ((0 : Int) ≤ ((0 : Nat) : Int) - 1) = false := by simp
          go_wp2_with (at_builtin; refine wpList_append_own _ rfl _ _ 24 rfl w1.heap.size 3 i0 (.int .i64 0) 1 8 Tryd.underlying24 hi hz0 hz1 hz2 rfl (by decide) _ _ _ rfl (by have := HO3.out.alloc (.cells #[.int .i64 ((HH x 0 : Nat) : Int)] 3); unfold Own at this; rw [htk] at this; exact this) ⟨wr.heap.size, 0, none⟩ 1 1 [.int .i64 ((HH x 0 : Nat) : Int)] rfl rfl (one_cell _ _ _) (one_one _) (by unfold maxLen; omega) (by omega) (by simp; omega) ?_; intro v5 w5 o5 g5 x5; have O5 : Hid (Own w5 w1.heap.size v5 (zs.take (k + 1))) := (by have := HT2.out; show Own _ _ _ _; rw [this]; exact Own.snoc (by rw [htk]; exact o5)); have G5 : Hid (Old w1 w5) := Below.grown (HG3.out.alloc (.cells #[.int .i64 ((HH x 0 : Nat) : Int)] 3)) g5 (HG3.out.alloc (.cells #[.int .i64 ((HH x 0 : Nat) : Int)] 3)).size (fun j hj => (HO3.out.lt j hj).1); clear o5 g5 x5)
          obtain ⟨a5, cap5, rfl⟩ := (Own.row O5.out).slice
          have htk1 : (zs.take (k + 1)).length = k + 1 := by rw [List.length_take]; omega
          rw [htk1] at O5 ⊢
          exact ⟨⟨k + 1, _, _, by omega, by go_num, rfl, O5, G5⟩, by simp [intOf]; omega⟩
        · obtain ⟨m', rfl⟩ : ∃ m', m = m' + 1 := ⟨m - 1, by omega⟩
          have em : ((m' + 1 : Nat) : Int) - 1 = (m' : Int) := by omega
          rw [em]
          have d2 : decide ((0 : Int) ≤ (m' : Int)) = true := by simp
          have i2 : (m' : Int) < (N : Int) := by omega
          have x2 : wr.cell? ⟨b0, o0 + m', none⟩ = some (.int .i64 ((xs.getD m' 0 : Nat) : Int)) := ((Old.trans HG1.out HG3.out).cell (p := ⟨b0, o0 + m', none⟩) hb0).trans (HC0.out m' (by omega))
          have HS : Hid (HH x m' = (HH x (m' + 1) * x + xs.getD m' 0) % P) := HH1'.out x m' (by omega)
          have hy := HH2'.out x (m' + 1)
          have hal := HA.out m'
          generalize HH x (m' + 1) = y at *
          generalize xs.getD m' 0 = av at *
          have hmul := mul_lt28 y x P hy hxl hP.2
          have e1 : (y : Int) * (x : Int) = ((y * x : Nat) : Int) := by simp
          generalize y * x = s at *
          have ew1 : IntKind.i64.wrap ((s : Nat) : Int) = (s : Int) := by rw [IntKind.wrap_i64]; omega
          have e2 : (s : Int) + (av : Int) = ((s + av : Nat) : Int) := by simp
          have hu : s + av ≤ 72057594306363392 := by omega
          generalize s + av = u at *
          have ew2 : IntKind.i64.wrap ((u : Nat) : Int) = (u : Int) := by rw [IntKind.wrap_i64]; omega
          have e3 : (u : Int) % (P : Int) = ((u % P : Nat) : Int) := by simp
          have e4 : Int.tmod (u : Int) (P : Int) = ((u % P : Nat) : Int) := by rw [Int.tmod_eq_emod_of_nonneg (by omega)]; simp
          have HS2 : Hid (((u % P : Nat) : Int) = ((HH x m' : Nat) : Int)) := by rw [HS.out]; rfl
          clear em HS
          generalize u % P = q at *
          go_wp2_with fail
          go_quiet (fail)
          go_wp2_with fail
          exact ⟨⟨m', by omega, by go_num, by rw [HS2.out], HO3.out.old ((Old.refl _).drewN _), HG3.out.drewN _⟩, by simp [intOf]⟩
    · have d1 : decide ((k : Int) < (N : Int)) = false := by simp; omega
      obtain rfl : k = N := by omega
      have HF : Hid (Own wr w.heap.size (.slice a k cap) zs) := by
        have := HO1.out
        rw [List.take_of_length_le (by omega)] at this
        exact this.low HG1.out.size
      go_wp2_with fail
      go_ret
      exact ⟨_, rfl, Old.trans HG1.out HG2.out, HF.out⟩
end Go.Proofs.YtcgnndenmcmieaaDoor
