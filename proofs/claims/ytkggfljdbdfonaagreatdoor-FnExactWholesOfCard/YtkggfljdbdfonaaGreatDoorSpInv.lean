/- Proved: the model's inverse transform: the sum over the points, times the inverse of N. -/
import Derived.Test.YtkggfljdbdfonaaGreatDoorWo28
import Derived.Test.YtkggfljdbdfonaaGreatDoorWo11
import Derived.Deep.RegionHeld3
namespace Go.Proofs.YtkggfljdbdfonaaGreatDoor
open Go.ChangeShapes Go.WideShapes Go.ChangeAt Go.RowKit
open M1
set_option linter.unusedVariables false
set_option linter.unusedSimpArgs false
/-- the sum over the first c points, of the coefficient i -/
def invS (P B : Nat) (ps xs : List Nat) (i : Nat) : Nat → Nat
  | 0 => 0
  | c + 1 => (invS P B ps xs i c + xs.getD c 0 * (B ^ (ps.getD c 0 * i) % P)) % P
theorem invS_lt (P B : Nat) (ps xs : List Nat) (i : Nat) (hP : 0 < P) : ∀ c, invS P B ps xs i c < P
  | 0 => hP
  | c + 1 => Nat.mod_lt _ hP
def invL (P N R : Nat) (xs : List Nat) : List Nat := (List.range N).map (fun i => invS P (invM R P) (ptsN N) xs i N * invM (N % P) P % P)
theorem invL_len (P N R : Nat) (xs : List Nat) : (invL P N R xs).length = N := by simp [invL]
theorem invL_get (P N R : Nat) (xs : List Nat) (k : Nat) (h : k < N) : (invL P N R xs).getD k 0 = invS P (invM R P) (ptsN N) xs k N * invM (N % P) P % P := by simp [invL, List.getD, h]
theorem spec_invN (a p : Nat) (W : World) (ha : a ≤ 268435456) (hp : 2 ≤ p ∧ p ≤ 268435456) :
    Calls Tryz.prog 142 #[.int .i64 a, .int .i64 p] W fun en w' => en = .returned (.int .i64 ((invM (a % p) p : Nat) : Int)) ∧ w' = W := by
  have c := spec_inv a p W ⟨by omega, by omega⟩ ⟨by omega, by omega⟩
  rw [← Int.natCast_emod, Int.toNat_natCast, Int.toNat_natCast] at c
  exact c
set_option maxRecDepth 100000 in
set_option maxHeartbeats 2000000 in
theorem spec_l3Inverse (P N R : Nat) (xs : List Nat) (v : Value) (w : World) (hv : Row w v (toZ xs)) (hP : 2 ≤ P ∧ P ≤ 268435456) (h : Sz4 N) (hR : R < P) (la : xs.length = N) (ha : ∀ x ∈ xs, x < P) (hB : invM R P < P) (hM : invM (N % P) P < P) :
    Calls Tryz.prog 95 #[.agg #[.int .i64 P, .int .i64 N, .int .i64 R], v] w fun e w' => ∃ v', e = .returned v' ∧ Old w w' ∧ Own w' w.heap.size v' (toZ (invL P N R xs)) := by
  obtain ⟨i0, hi, hz0, hz1, hz2⟩ := info_parts Tryz.infoInt
  have hs := sz_bd h
  obtain ⟨b0, o0, cap0, rfl, hb0, hc0⟩ := hv.atZ (by omega)
  rw [la] at hc0 ⊢
  have HC0 : Hid (∀ j, j < N → w.cell? ⟨b0, o0 + j, none⟩ = some (.int .i64 ((xs.getD j 0 : Nat) : Int))) := hc0
  have c2 := fun W => spec_points N W h
  have cR := fun W => spec_invN R P W (by omega) hP
  rw [Nat.mod_eq_of_lt hR] at cR
  have cN := fun W => spec_invN N P W (by omega) hP
  have HPB : Hid (∀ k, (ptsN N).getD k 0 < 2 * N + 1) := fun k => pts_bd' h k
  have hpl := ptsN_len N
  have HA : Hid (∀ k, xs.getD k 0 < P) := fun k => getD_lt ha (by omega) k
  have HI0 : Hid (∀ i, invS P (invM R P) (ptsN N) xs i 0 = 0) := fun i => rfl
  have HI1 : Hid (∀ i c, invS P (invM R P) (ptsN N) xs i (c + 1) = (invS P (invM R P) (ptsN N) xs i c + xs.getD c 0 * (invM R P ^ ((ptsN N).getD c 0 * i) % P)) % P) := fun i c => rfl
  have HI2 : Hid (∀ i c, invS P (invM R P) (ptsN N) xs i c < P) := fun i c => invS_lt _ _ _ _ _ (by omega) c
  have HE : Hid (∀ k, k < N → (toZ (invL P N R xs)).take (k + 1) = (toZ (invL P N R xs)).take k ++ [((invS P (invM R P) (ptsN N) xs k N * invM (N % P) P % P : Nat) : Int)]) := fun k hk => by
    rw [take_succI _ k (by rw [toZ_len, invL_len]; exact hk), toZ_get, invL_get P N R xs k hk]
  have hzl : (toZ (invL P N R xs)).length = N := by rw [toZ_len, invL_len]
  generalize toZ (invL P N R xs) = zs at *
  obtain ⟨II, eII⟩ : ∃ II : Nat → Nat → Nat, II = fun i c => invS P (invM R P) (ptsN N) xs i c := ⟨_, rfl⟩
  have HI0' : Hid (∀ i, II i 0 = 0) := by rw [eII]; exact HI0
  have HI1' : Hid (∀ i c, II i (c + 1) = (II i c + xs.getD c 0 * (invM R P ^ ((ptsN N).getD c 0 * i) % P)) % P) := by rw [eII]; exact HI1
  have HI2' : Hid (∀ i c, II i c < P) := by rw [eII]; exact HI2
  have HE' : Hid (∀ k, k < N → zs.take (k + 1) = zs.take k ++ [((II k N * invM (N % P) P % P : Nat) : Int)]) := by rw [eII]; exact HE
  clear HI0 HI1 HI2 HE eII
  generalize ptsN N = ps at *
  generalize invM R P = B at *
  generalize invM (N % P) P = M at *
  have HPW : Hid (∀ e : Nat, e < 1000000 → ∀ W, Calls Tryz.prog 144 #[.int .i64 B, .int .i64 e, .int .i64 P] W fun en w' => en = .returned (.int .i64 ((B ^ e % P : Nat) : Int)) ∧ w' = W) := fun e he W => spec_powN B e P W hB (by omega) hP.1 hP.2
  have HXL : Hid (∀ e : Nat, B ^ e % P < P) := fun e => Nat.mod_lt _ (by omega)
  clear hc0 hv la ha h hR
  have RC0 : Hid (Rc (w.alloc (.cells #[.int .i64 P, .int .i64 N, .int .i64 R] 116)) w.heap.size P N R) := Rc.new w _ _ _
  have hpn : ¬ (P : Int) = 0 := by omega
  have hpn2 : ¬ P = 0 := by omega
  go_enter Tryz.func95, Tryz.ntmps95
  go_wp2_with fail
  refine (cR _).mono ?_
  rintro e w1 ⟨rfl, hw⟩
  have HGa : Hid (Old w w1) := by rw [hw]; exact (Old.refl w).alloc _
  have RCa : Hid (Rc w1 w.heap.size P N R) := by rw [hw]; exact RC0.out
  clear hw RC0
  have z0 := RCa.out.c0
  have z1 := RCa.out.c1
  go_wp2_with fail
  refine (cN _).mono ?_
  rintro e w2 ⟨rfl, hw⟩
  obtain rfl : w1 = w2 := hw.symm
  go_wp2_with fail
  refine (c2 _).mono ?_
  rintro e w2 ⟨v1, rfl, g1, o1⟩
  obtain ⟨b1, o1', cap1, rfl, hb1, hc1⟩ := (Own.row o1).atZ (by omega)
  rw [hpl] at hc1 ⊢
  have HC1 : Hid (∀ j, j < N → w2.cell? ⟨b1, o1' + j, none⟩ = some (.int .i64 ((ps.getD j 0 : Nat) : Int))) := hc1
  have HG1 : Hid (Old w w2) := Old.trans HGa.out g1
  have RC1 : Hid (Rc w2 w.heap.size P N R) := RCa.out.old g1
  clear g1 o1 hc1 RCa HGa z0 z1
  go_wp2_with fail
  go_loopw [5, 9] (fun v i W => ∃ (k : Nat) (a : Option Addr) (cap : Nat), k ≤ N ∧ i = .int .i64 k ∧ v = .slice a k cap ∧ Hid (Own W w2.heap.size (.slice a k cap) (zs.take k)) ∧ Hid (Old w2 W)) (fun _ i _ => N - (intOf i).toNat)
  case atStart => exact ⟨0, none, 0, by omega, rfl, rfl, (by exact own_nil _ _), Old.refl _⟩
  case round =>
    obtain ⟨k, a, cap, hk, rfl, rfl, HO1, HG2⟩ := hrel
    have hs4 := HG2.out.size
    have z1 := (RC1.out.old HG2.out).c1
    by_cases hlt : k < N
    · have d1 : decide ((k : Int) < (N : Int)) = true := by simp; omega
      have HT2 : Hid (zs.take (k + 1) = zs.take k ++ [((II k N * M % P : Nat) : Int)]) := HE'.out k hlt
      have htk : (zs.take k).length = k := by rw [List.length_take]; omega
      go_wp2_with fail
      go_loopw [10, 34] (fun y i W => ∃ (m : Nat), m ≤ N ∧ i = .int .i64 m ∧ y = .int .i64 ((II k m : Nat) : Int) ∧ Hid (Own W w2.heap.size (.slice a k cap) (zs.take k)) ∧ Hid (Old w2 W)) (fun _ i _ => N - (intOf i).toNat)
      case atStart => exact ⟨0, by omega, rfl, by rw [HI0'.out]; rfl, HO1, HG2⟩
      case round =>
        obtain ⟨m, hm, rfl, rfl, HO3, HG3⟩ := hrel
        clear HO1 HG2 hs4 z1
        have hs5 := HG3.out.size
        have z0 := (RC1.out.old HG3.out).c0
        by_cases hlt2 : m < N
        · have d2 : decide ((m : Int) < (N : Int)) = true := by simp; omega
          have x1 : wr.cell? ⟨b1, o1' + m, none⟩ = some (.int .i64 ((ps.getD m 0 : Nat) : Int)) := (HG3.out.cell (p := ⟨b1, o1' + m, none⟩) hb1).trans (HC1.out m hlt2)
          have x2 : wr.cell? ⟨b0, o0 + m, none⟩ = some (.int .i64 ((xs.getD m 0 : Nat) : Int)) := ((Old.trans HG1.out HG3.out).cell (p := ⟨b0, o0 + m, none⟩) hb0).trans (HC0.out m (by omega))
          have HS : Hid (II k (m + 1) = (II k m + xs.getD m 0 * (B ^ (ps.getD m 0 * k) % P)) % P) := HI1'.out k m
          have hy := HI2'.out k m
          have hal := HA.out m
          have hpb := HPB.out m
          generalize II k m = y at *
          generalize xs.getD m 0 = av at *
          generalize ps.getD m 0 = E at *
          have hek : E * k ≤ 33 * 16 := Nat.mul_le_mul (by omega) (by omega)
          have e0 : (E : Int) * (k : Int) = ((E * k : Nat) : Int) := by simp
          have cp := HPW.out (E * k) (by omega)
          have hxl := HXL.out (E * k)
          generalize E * k = ek at *
          generalize B ^ ek % P = x at *
          have ew0 : IntKind.i64.wrap ((ek : Nat) : Int) = (ek : Int) := by rw [IntKind.wrap_i64]; omega
          have hmul := mul_lt28 av x P hal hxl hP.2
          have e1 : (av : Int) * (x : Int) = ((av * x : Nat) : Int) := by simp
          generalize av * x = s at *
          have ew1 : IntKind.i64.wrap ((s : Nat) : Int) = (s : Int) := by rw [IntKind.wrap_i64]; omega
          have e2 : (y : Int) + (s : Int) = ((y + s : Nat) : Int) := by simp
          have hu : y + s ≤ 72057594306363392 := by omega
          generalize y + s = u at *
          have ew2 : IntKind.i64.wrap ((u : Nat) : Int) = (u : Int) := by rw [IntKind.wrap_i64]; omega
          have e3 : (u : Int) % (P : Int) = ((u % P : Nat) : Int) := by simp
          have e4 : Int.tmod (u : Int) (P : Int) = ((u % P : Nat) : Int) := by rw [Int.tmod_eq_emod_of_nonneg (by omega)]; simp
          have HS2 : Hid (((u % P : Nat) : Int) = ((II k (m + 1) : Nat) : Int)) := by rw [HS.out]; rfl
          clear HS
          generalize u % P = q at *
          have HAS : Hid (∀ W', Old wr W' → W'.cell? ⟨b0, o0 + m, none⟩ = some (.int .i64 (av : Int)) ∧ W'.cell? ⟨w.heap.size, 0, none⟩ = some (.int .i64 (P : Int))) := fun W' g => ⟨(g.cell (p := ⟨b0, o0 + m, none⟩) (Nat.lt_of_lt_of_le hb0 (Old.trans HG1.out HG3.out).size)).trans x2, ((RC1.out.old HG3.out).old g).c0⟩
          go_wp2_with fail
          clear x1
          go_region_held3 (fun W' => W'.cell? ⟨b0, o0 + m, none⟩ = some (.int .i64 (av : Int)) ∧ W'.cell? ⟨w.heap.size, 0, none⟩ = some (.int .i64 (P : Int))) (first | with_reducible exact HAS.out _ G5.out | with_reducible exact HAS.out _ (Below.drew (Old.refl wr)) | with_reducible exact HAS.out _ (Old.refl wr)) (first
            | (go_at_call 144; refine (cp _).mono ?_; rintro e w5 ⟨rfl, hw5⟩; have G5 : Hid (Old wr w5) := (by rw [hw5]; exact Below.drew (Old.refl wr)); clear hw5)
            | fail)
          have HO5 : Hid (Own w5 w2.heap.size (.slice a k cap) (zs.take k)) := HO3.out.old G5.out
          have HG5 : Hid (Old w2 w5) := Old.trans HG3.out G5.out
          clear HAS HO3 HG3 G5 x2 z0
          go_wp2_with fail
          exact ⟨⟨m + 1, by omega, by go_num, by rw [HS2.out], HO5, HG5⟩, by simp [intOf]; omega⟩
        · have d2 : decide ((m : Int) < (N : Int)) = false := by simp; omega
          obtain rfl : m = N := by omega
          have hy := HI2'.out k m
          generalize II k m = y at *
          have hmul := mul_lt28 y M P hy hM hP.2
          have e1 : (y : Int) * (M : Int) = ((y * M : Nat) : Int) := by simp
          generalize y * M = u at *
          have ew2 : IntKind.i64.wrap ((u : Nat) : Int) = (u : Int) := by rw [IntKind.wrap_i64]; omega
          have e4 : Int.tmod (u : Int) (P : Int) = ((u % P : Nat) : Int) := by rw [Int.tmod_eq_emod_of_nonneg (by omega)]; simp
          generalize u % P = q at *
          go_wp2_with (at_builtin; refine wpList_append_own _ rfl _ _ 22 rfl w2.heap.size 3 i0 (.int .i64 0) 1 8 Tryz.underlying22 hi hz0 hz1 hz2 rfl (by decide) _ _ _ rfl (by have := HO3.out.alloc (.cells #[.int .i64 (q : Int)] 3); unfold Own at this; rw [htk] at this; exact this) ⟨wr.heap.size, 0, none⟩ 1 1 [.int .i64 (q : Int)] rfl rfl (one_cell _ _ _) (one_one _) (by unfold maxLen; omega) (by omega) (by simp; omega) ?_; intro v5 w5 o5 g5 x5; have O5 : Hid (Own w5 w2.heap.size v5 (zs.take (k + 1))) := (by have := HT2.out; show Own _ _ _ _; rw [this]; exact Own.snoc (by rw [htk]; exact o5)); have G5 : Hid (Old w2 w5) := Below.grown (HG3.out.alloc (.cells #[.int .i64 (q : Int)] 3)) g5 (HG3.out.alloc (.cells #[.int .i64 (q : Int)] 3)).size (fun j hj => (HO3.out.lt j hj).1); clear o5 g5 x5)
          obtain ⟨a5, cap5, rfl⟩ := (Own.row O5.out).slice
          have htk1 : (zs.take (k + 1)).length = k + 1 := by rw [List.length_take]; omega
          rw [htk1] at O5 ⊢
          exact ⟨⟨k + 1, _, _, by omega, by go_num, rfl, O5, G5⟩, by simp [intOf]; omega⟩
    · have d1 : decide ((k : Int) < (N : Int)) = false := by simp; omega
      obtain rfl : k = N := by omega
      have HF : Hid (Own wr w.heap.size (.slice a k cap) zs) := by
        have := HO1.out
        rw [List.take_of_length_le (by omega)] at this
        exact this.low HG1.out.size
      go_wp2_with fail
      go_ret
      exact ⟨_, rfl, Old.trans HG1.out HG2.out, HF.out⟩
end Go.Proofs.YtkggfljdbdfonaaGreatDoor
