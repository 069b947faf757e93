/- Proved: several texts in one: what each proves is said ahead of it. -/
import Derived.Deep.RegionHeld3
import Derived.Test.YtfgooclnohnkmaaGreatDoorWo17
/- Proved: the model's inverse transform: the sum over the points, times the inverse of N. -/
namespace Go.Proofs.YtfgooclnohnkmaaGreatDoor
open Go.ChangeShapes Go.WideShapes Go.ChangeAt Go.RowKit
open M1
set_option linter.unusedVariables false
set_option linter.unusedSimpArgs false
/-- the sum over the first c points, of the coefficient i -/
def invS (P B : Nat) (ps xs : List Nat) (i : Nat) : Nat → Nat
  | 0 => 0
  | c + 1 => (invS P B ps xs i c + xs.getD c 0 * (B ^ (ps.getD c 0 * i) % P)) % P
theorem invS_lt (P B : Nat) (ps xs : List Nat) (i : Nat) (hP : 0 < P) : ∀ c, invS P B ps xs i c < P
  | 0 => hP
  | c + 1 => Nat.mod_lt _ hP
def invL (P N R : Nat) (xs : List Nat) : List Nat := (List.range N).map (fun i => invS P (invM R P) (ptsN N) xs i N * invM (N % P) P % P)
theorem invL_len (P N R : Nat) (xs : List Nat) : (invL P N R xs).length = N := by simp [invL]
theorem invL_get (P N R : Nat) (xs : List Nat) (k : Nat) (h : k < N) : (invL P N R xs).getD k 0 = invS P (invM R P) (ptsN N) xs k N * invM (N % P) P % P := by simp [invL, List.getD, h]
theorem spec_invN (a p : Nat) (W : World) (ha : a ≤ 268435456) (hp : 2 ≤ p ∧ p ≤ 268435456) :
    Calls Tryz.prog 170 #[.int .i64 a, .int .i64 p] W fun en w' => en = .returned (.int .i64 ((invM (a % p) p : Nat) : Int)) ∧ w' = W := by
  have c := spec_inv a p W ⟨by omega, by omega⟩ ⟨by omega, by omega⟩
  rw [← Int.natCast_emod, Int.toNat_natCast, Int.toNat_natCast] at c
  exact c
set_option maxRecDepth 100000 in
set_option maxHeartbeats 2000000 in
theorem spec_l3Inverse (P N R : Nat) (xs : List Nat) (v : Value) (w : World) (hv : Row w v (toZ xs)) (hP : 2 ≤ P ∧ P ≤ 268435456) (h : Sz4 N) (hR : R < P) (la : xs.length = N) (ha : ∀ x ∈ xs, x < P) (hB : invM R P < P) (hM : invM (N % P) P < P) :
    Calls Tryz.prog 155 #[.agg #[.int .i64 P, .int .i64 N, .int .i64 R], v] w fun e w' => ∃ v', e = .returned v' ∧ Old w w' ∧ Own w' w.heap.size v' (toZ (invL P N R xs)) := by
  obtain ⟨i0, hi, hz0, hz1, hz2⟩ := info_parts Tryz.infoInt
  have hs := sz_bd h
  obtain ⟨b0, o0, cap0, rfl, hb0, hc0⟩ := hv.atZ (by omega)
  rw [la] at hc0 ⊢
  have HC0 : Hid (∀ j, j < N → w.cell? ⟨b0, o0 + j, none⟩ = some (.int .i64 ((xs.getD j 0 : Nat) : Int))) := hc0
  have c2 := fun W => spec_points N W h
  have cR := fun W => spec_invN R P W (by omega) hP
  rw [Nat.mod_eq_of_lt hR] at cR
  have cN := fun W => spec_invN N P W (by omega) hP
  have HPB : Hid (∀ k, (ptsN N).getD k 0 < 2 * N + 1) := fun k => pts_bd' h k
  have hpl := ptsN_len N
  have HA : Hid (∀ k, xs.getD k 0 < P) := fun k => getD_lt ha (by omega) k
  have HI0 : Hid (∀ i, invS P (invM R P) (ptsN N) xs i 0 = 0) := fun i => rfl
  have HI1 : Hid (∀ i c, invS P (invM R P) (ptsN N) xs i (c + 1) = (invS P (invM R P) (ptsN N) xs i c + xs.getD c 0 * (invM R P ^ ((ptsN N).getD c 0 * i) % P)) % P) := fun i c => rfl
  have HI2 : Hid (∀ i c, invS P (invM R P) (ptsN N) xs i c < P) := fun i c => invS_lt _ _ _ _ _ (by omega) c
  have HE : Hid (∀ k, k < N → (toZ (invL P N R xs)).take (k + 1) = (toZ (invL P N R xs)).take k ++ [((invS P (invM R P) (ptsN N) xs k N * invM (N % P) P % P : Nat) : Int)]) := fun k hk => by
    rw [take_succI _ k (by rw [toZ_len, invL_len]; exact hk), toZ_get, invL_get P N R xs k hk]
  have hzl : (toZ (invL P N R xs)).length = N := by rw [toZ_len, invL_len]
  generalize toZ (invL P N R xs) = zs at *
  obtain ⟨II, eII⟩ : ∃ II : Nat → Nat → Nat, II = fun i c => invS P (invM R P) (ptsN N) xs i c := ⟨_, rfl⟩
  have HI0' : Hid (∀ i, II i 0 = 0) := by rw [eII]; exact HI0
  have HI1' : Hid (∀ i c, II i (c + 1) = (II i c + xs.getD c 0 * (invM R P ^ ((ptsN N).getD c 0 * i) % P)) % P) := by rw [eII]; exact HI1
  have HI2' : Hid (∀ i c, II i c < P) := by rw [eII]; exact HI2
  have HE' : Hid (∀ k, k < N → zs.take (k + 1) = zs.take k ++ [((II k N * invM (N % P) P % P : Nat) : Int)]) := by rw [eII]; exact HE
  clear HI0 HI1 HI2 HE eII
  generalize ptsN N = ps at *
  generalize invM R P = B at *
  generalize invM (N % P) P = M at *
  have HPW : Hid (∀ e : Nat, e < 1000000 → ∀ W, Calls Tryz.prog 187 #[.int .i64 B, .int .i64 e, .int .i64 P] W fun en w' => en = .returned (.int .i64 ((B ^ e % P : Nat) : Int)) ∧ w' = W) := fun e he W => spec_powN B e P W hB (by omega) hP.1 hP.2
  have HXL : Hid (∀ e : Nat, B ^ e % P < P) := fun e => Nat.mod_lt _ (by omega)
  clear hc0 hv la ha h hR
  have RC0 : Hid (Rc (w.alloc (.cells #[.int .i64 P, .int .i64 N, .int .i64 R] 151)) w.heap.size P N R) := Rc.new w _ _ _
  have hpn : ¬ (P : Int) = 0 := by omega
  have hpn2 : ¬ P = 0 := by omega
  go_enter Tryz.func155, Tryz.ntmps155
  go_wp2_with fail
  refine (cR _).mono ?_
  rintro e w1 ⟨rfl, hw⟩
  have HGa : Hid (Old w w1) := by rw [hw]; exact (Old.refl w).alloc _
  have RCa : Hid (Rc w1 w.heap.size P N R) := by rw [hw]; exact RC0.out
  clear hw RC0
  have z0 := RCa.out.c0
  have z1 := RCa.out.c1
  go_wp2_with fail
  refine (cN _).mono ?_
  rintro e w2 ⟨rfl, hw⟩
  obtain rfl : w1 = w2 := hw.symm
  go_wp2_with fail
  refine (c2 _).mono ?_
  rintro e w2 ⟨v1, rfl, g1, o1⟩
  obtain ⟨b1, o1', cap1, rfl, hb1, hc1⟩ := (Own.row o1).atZ (by omega)
  rw [hpl] at hc1 ⊢
  have HC1 : Hid (∀ j, j < N → w2.cell? ⟨b1, o1' + j, none⟩ = some (.int .i64 ((ps.getD j 0 : Nat) : Int))) := hc1
  have HG1 : Hid (Old w w2) := Old.trans HGa.out g1
  have RC1 : Hid (Rc w2 w.heap.size P N R) := RCa.out.old g1
  clear g1 o1 hc1 RCa HGa z0 z1
  go_wp2_with fail
  go_loopw [5, 9] (fun v i W => ∃ (k : Nat) (a : Option Addr) (cap : Nat), k ≤ N ∧ i = .int .i64 k ∧ v = .slice a k cap ∧ Hid (Own W w2.heap.size (.slice a k cap) (zs.take k)) ∧ Hid (Old w2 W)) (fun _ i _ => N - (intOf i).toNat)
  case atStart => exact ⟨0, none, 0, by omega, rfl, rfl, (by exact own_nil _ _), Old.refl _⟩
  case round =>
    obtain ⟨k, a, cap, hk, rfl, rfl, HO1, HG2⟩ := hrel
    have hs4 := HG2.out.size
    have z1 := (RC1.out.old HG2.out).c1
    by_cases hlt : k < N
    · have d1 : decide ((k : Int) < (N : Int)) = true := by simp; omega
      have HT2 : Hid (zs.take (k + 1) = zs.take k ++ [((II k N * M % P : Nat) : Int)]) := HE'.out k hlt
      have htk : (zs.take k).length = k := by rw [List.length_take]; omega
      go_wp2_with fail
      go_loopw [10, 34] (fun y i W => ∃ (m : Nat), m ≤ N ∧ i = .int .i64 m ∧ y = .int .i64 ((II k m : Nat) : Int) ∧ Hid (Own W w2.heap.size (.slice a k cap) (zs.take k)) ∧ Hid (Old w2 W)) (fun _ i _ => N - (intOf i).toNat)
      case atStart => exact ⟨0, by omega, rfl, by rw [HI0'.out]; rfl, HO1, HG2⟩
      case round =>
        obtain ⟨m, hm, rfl, rfl, HO3, HG3⟩ := hrel
        clear HO1 HG2 hs4 z1
        have hs5 := HG3.out.size
        have z0 := (RC1.out.old HG3.out).c0
        by_cases hlt2 : m < N
        · have d2 : decide ((m : Int) < (N : Int)) = true := by simp; omega
          have x1 : wr.cell? ⟨b1, o1' + m, none⟩ = some (.int .i64 ((ps.getD m 0 : Nat) : Int)) := (HG3.out.cell (p := ⟨b1, o1' + m, none⟩) hb1).trans (HC1.out m hlt2)
          have x2 : wr.cell? ⟨b0, o0 + m, none⟩ = some (.int .i64 ((xs.getD m 0 : Nat) : Int)) := ((Old.trans HG1.out HG3.out).cell (p := ⟨b0, o0 + m, none⟩) hb0).trans (HC0.out m (by omega))
          have HS : Hid (II k (m + 1) = (II k m + xs.getD m 0 * (B ^ (ps.getD m 0 * k) % P)) % P) := HI1'.out k m
          have hy := HI2'.out k m
          have hal := HA.out m
          have hpb := HPB.out m
          generalize II k m = y at *
          generalize xs.getD m 0 = av at *
          generalize ps.getD m 0 = E at *
          have hek : E * k ≤ 33 * 16 := Nat.mul_le_mul (by omega) (by omega)
          have e0 : (E : Int) * (k : Int) = ((E * k : Nat) : Int) := by simp
          have cp := HPW.out (E * k) (by omega)
          have hxl := HXL.out (E * k)
          generalize E * k = ek at *
          generalize B ^ ek % P = x at *
          have ew0 : IntKind.i64.wrap ((ek : Nat) : Int) = (ek : Int) := by rw [IntKind.wrap_i64]; omega
          have hmul := mul_lt28 av x P hal hxl hP.2
          have e1 : (av : Int) * (x : Int) = ((av * x : Nat) : Int) := by simp
          generalize av * x = s at *
          have ew1 : IntKind.i64.wrap ((s : Nat) : Int) = (s : Int) := by rw [IntKind.wrap_i64]; omega
          have e2 : (y : Int) + (s : Int) = ((y + s : Nat) : Int) := by simp
          have hu : y + s ≤ 72057594306363392 := by omega
          generalize y + s = u at *
          have ew2 : IntKind.i64.wrap ((u : Nat) : Int) = (u : Int) := by rw [IntKind.wrap_i64]; omega
          have e3 : (u : Int) % (P : Int) = ((u % P : Nat) : Int) := by simp
          have e4 : Int.tmod (u : Int) (P : Int) = ((u % P : Nat) : Int) := by rw [Int.tmod_eq_emod_of_nonneg (by omega)]; simp
          have HS2 : Hid (((u % P : Nat) : Int) = ((II k (m + 1) : Nat) : Int)) := by rw [HS.out]; rfl
          clear HS
          generalize u % P = q at *
          have HAS : Hid (∀ W', Old wr W' → W'.cell? ⟨b0, o0 + m, none⟩ = some (.int .i64 (av : Int)) ∧ W'.cell? ⟨w.heap.size, 0, none⟩ = some (.int .i64 (P : Int))) := fun W' g => ⟨(g.cell (p := ⟨b0, o0 + m, none⟩) (Nat.lt_of_lt_of_le hb0 (Old.trans HG1.out HG3.out).size)).trans x2, ((RC1.out.old HG3.out).old g).c0⟩
          go_wp2_with fail
          clear x1
          go_region_held3 (fun W' => W'.cell? ⟨b0, o0 + m, none⟩ = some (.int .i64 (av : Int)) ∧ W'.cell? ⟨w.heap.size, 0, none⟩ = some (.int .i64 (P : Int))) (first | with_reducible exact HAS.out _ G5.out | with_reducible exact HAS.out _ (Below.drew (Old.refl wr)) | with_reducible exact HAS.out _ (Old.refl wr)) (first
            | (go_at_call 187; refine (cp _).mono ?_; rintro e w5 ⟨rfl, hw5⟩; have G5 : Hid (Old wr w5) := (by rw [hw5]; exact Below.drew (Old.refl wr)); clear hw5)
            | fail)
          have HO5 : Hid (Own w5 w2.heap.size (.slice a k cap) (zs.take k)) := HO3.out.old G5.out
          have HG5 : Hid (Old w2 w5) := Old.trans HG3.out G5.out
          clear HAS HO3 HG3 G5 x2 z0
          go_wp2_with fail
          exact ⟨⟨m + 1, by omega, by go_num, by rw [HS2.out], HO5, HG5⟩, by simp [intOf]; omega⟩
        · have d2 : decide ((m : Int) < (N : Int)) = false := by simp; omega
          obtain rfl : m = N := by omega
          have hy := HI2'.out k m
          generalize II k m = y at *
          have hmul := mul_lt28 y M P hy hM hP.2
          have e1 : (y : Int) * (M : Int) = ((y * M : Nat) : Int) := by simp
          generalize y * M = u at *
          have ew2 : IntKind.i64.wrap ((u : Nat) : Int) = (u : Int) := by rw [IntKind.wrap_i64]; omega
          have e4 : Int.tmod (u : Int) (P : Int) = ((u % P : Nat) : Int) := by rw [Int.tmod_eq_emod_of_nonneg (by omega)]; simp
          generalize u % P = q at *
          go_wp2_with (at_builtin; refine wpList_append_own _ rfl _ _ 23 rfl w2.heap.size 3 i0 (.int .i64 0) 1 8 Tryz.underlying23 hi hz0 hz1 hz2 rfl (by decide) _ _ _ rfl (by have := HO3.out.alloc (.cells #[.int .i64 (q : Int)] 3); unfold Own at this; rw [htk] at this; exact this) ⟨wr.heap.size, 0, none⟩ 1 1 [.int .i64 (q : Int)] rfl rfl (one_cell _ _ _) (one_one _) (by unfold maxLen; omega) (by omega) (by simp; omega) ?_; intro v5 w5 o5 g5 x5; have O5 : Hid (Own w5 w2.heap.size v5 (zs.take (k + 1))) := (by have := HT2.out; show Own _ _ _ _; rw [this]; exact Own.snoc (by rw [htk]; exact o5)); have G5 : Hid (Old w2 w5) := Below.grown (HG3.out.alloc (.cells #[.int .i64 (q : Int)] 3)) g5 (HG3.out.alloc (.cells #[.int .i64 (q : Int)] 3)).size (fun j hj => (HO3.out.lt j hj).1); clear o5 g5 x5)
          obtain ⟨a5, cap5, rfl⟩ := (Own.row O5.out).slice
          have htk1 : (zs.take (k + 1)).length = k + 1 := by rw [List.length_take]; omega
          rw [htk1] at O5 ⊢
          exact ⟨⟨k + 1, _, _, by omega, by go_num, rfl, O5, G5⟩, by simp [intOf]; omega⟩
    · have d1 : decide ((k : Int) < (N : Int)) = false := by simp; omega
      obtain rfl : k = N := by omega
      have HF : Hid (Own wr w.heap.size (.slice a k cap) zs) := by
        have := HO1.out
        rw [List.take_of_length_le (by omega)] at this
        exact this.low HG1.out.size
      go_wp2_with fail
      go_ret
      exact ⟨_, rfl, Old.trans HG1.out HG2.out, HF.out⟩
end Go.Proofs.YtfgooclnohnkmaaGreatDoor
/- Proved: joining again and again gives the sums over the points. -/
namespace Go.Proofs.YtfgooclnohnkmaaGreatDoor
set_option linter.unusedVariables false
set_option linter.unusedSimpArgs false
theorem jn_get (P w0 off hh : Nat) (fs : List Nat) (hl : off + 2 * hh ≤ fs.length) : ∀ i, i ≤ hh → ∀ m, (jnS P w0 off hh fs i).getD m 0 =
    if off ≤ m ∧ m < off + i then (fs.getD m 0 + fs.getD (m + hh) 0) % P else if off + hh ≤ m ∧ m < off + hh + i then (fs.getD (m - hh) 0 + P - fs.getD m 0) * w0 % P else fs.getD m 0
  | 0, _, m => by
    rw [if_neg (by omega), if_neg (by omega)]
    rfl
  | i + 1, hi, m => by
    have ih := jn_get P w0 off hh fs hl i (by omega)
    have hln := jnS_len P w0 off hh fs i
    have e1 : (jnS P w0 off hh fs i).getD (off + i) 0 = fs.getD (off + i) 0 := by rw [ih, if_neg (by omega), if_neg (by omega)]
    have e2 : (jnS P w0 off hh fs i).getD (off + hh + i) 0 = fs.getD (off + hh + i) 0 := by rw [ih, if_neg (by omega), if_neg (by omega)]
    rw [jnS, gset _ _ _ _ (by rw [List.length_set, hln]; omega), gset _ _ _ _ (by rw [hln]; omega), e1, e2, ih m]
    by_cases h1 : m = off + hh + i
    · subst h1
      rw [if_pos rfl, if_neg (by omega), if_pos (by omega), show off + hh + i - hh = off + i by omega]
    · rw [if_neg h1]
      by_cases h2 : m = off + i
      · subst h2
        rw [if_pos rfl, if_pos (by omega), show off + i + hh = off + hh + i by omega]
      · rw [if_neg h2]
        by_cases h3 : off ≤ m ∧ m < off + i
        · rw [if_pos h3, if_pos (by omega)]
        · rw [if_neg h3]
          by_cases h4 : off + hh ≤ m ∧ m < off + hh + i
          · rw [if_pos h4, if_neg (by omega), if_pos (by omega)]
          · rw [if_neg h4, if_neg (by omega), if_neg (by omega)]
/-- what a step's joins leave at each place -/
theorem ip_get (P N R t hh : Nat) (fs : List Nat) (hl : fs.length = N) (hD : 2 ^ t = hh) (hN : N / 2 ^ (t + 1) * (2 * hh) = N) (h0 : 0 < hh) : ∀ J, J ≤ N / 2 ^ (t + 1) → ∀ m, m < N → (ipS P N R t fs J).getD m 0 =
    if m / (2 * hh) < J then (if m % (2 * hh) < hh then (fs.getD m 0 + fs.getD (m + hh) 0) % P else (fs.getD (m - hh) 0 + P - fs.getD m 0) * (R ^ (2 * N - backN (lg N) (N / 2 ^ (t + 1) + m / (2 * hh)) 0) % P) % P) else fs.getD m 0
  | 0, _, m, _ => by rw [if_neg (Nat.not_lt_zero _)]; rfl
  | J + 1, hJ, m, hm => by
    have ih := ip_get P N R t hh fs hl hD hN h0 J (by omega)
    have hb : (J + 1) * (2 * hh) ≤ N := by
      have := Nat.mul_le_mul_right (2 * hh) hJ
      rw [hN] at this
      exact this
    have hb' : J * (2 * hh) + 2 * hh ≤ N := by rw [Nat.add_mul, Nat.one_mul] at hb; exact hb
    rw [ipS, hD, jn_get P _ _ hh _ (by rw [ipS_len, hl]; exact hb') hh (Nat.le_refl _) m]
    have hdl := dv_lo m (2 * hh) (by omega)
    by_cases hj : m / (2 * hh) = J
    · rw [hj] at hdl
      have hg : ∀ m', J * (2 * hh) ≤ m' → m' < J * (2 * hh) + 2 * hh → (ipS P N R t fs J).getD m' 0 = fs.getD m' 0 := fun m' a b => by
        rw [ih m' (by omega), dv a b, if_neg (by omega)]
      rw [if_pos (show m / (2 * hh) < J + 1 by omega), hj]
      clear ih
      by_cases hlo : m % (2 * hh) < hh
      · rw [if_pos (by omega), if_pos hlo, hg m (by omega) (by omega), hg (m + hh) (by omega) (by omega)]
      · rw [if_neg (by omega), if_pos (by omega), if_neg hlo, hg m (by omega) (by omega), hg (m - hh) (by omega) (by omega)]
    · have hne : ¬ (J * (2 * hh) ≤ m ∧ m < J * (2 * hh) + 2 * hh) := fun h => hj (dv h.1 h.2)
      rw [if_neg (by omega), if_neg (by omega), ih m hm]
      by_cases hlt : m / (2 * hh) < J
      · rw [if_pos hlt, if_pos (show m / (2 * hh) < J + 1 by omega)]
      · rw [if_neg hlt, if_neg (show ¬ m / (2 * hh) < J + 1 by omega)]
/-- a sum over n places from a on -/
def sumK (f : Nat → Int) (a : Nat) : Nat → Int
  | 0 => 0
  | n + 1 => sumK f a n + f (a + n)
theorem sumK_add (f : Nat → Int) (a n : Nat) : ∀ m, sumK f a (n + m) = sumK f a n + sumK f (a + n) m
  | 0 => by simp [sumK]
  | m + 1 => by rw [← Nat.add_assoc, sumK, sumK_add f a n m, sumK, Nat.add_assoc a n m]; omega
theorem sumK_cg {P : Int} {f g : Nat → Int} (a : Nat) : ∀ n, (∀ j, j < n → Cg P (f (a + j)) (g (a + j))) → Cg P (sumK f a n) (sumK g a n)
  | 0, _ => Cg.refl _ _
  | n + 1, h => (sumK_cg a n (fun j hj => h j (by omega))).add (h n (by omega))
theorem sumK_mul (f : Nat → Int) (c : Int) (a : Nat) : ∀ n, sumK (fun k => f k * c) a n = sumK f a n * c
  | 0 => by simp [sumK]
  | n + 1 => by rw [sumK, sumK_mul f c a n, sumK, Int.add_mul]
/-- a step joins the sums -/
theorem step_iv (P N hh Q : Nat) (fs gs : List Nat) (W : Nat → Nat) (X : Nat → Int) (B : Int) (e : Nat → Nat) (hP : 0 < P) (hN : Q * (2 * hh) = N) (h0 : 0 < hh) (hlt : ∀ m, fs.getD m 0 < P)
    (hg : ∀ m, m < N → gs.getD m 0 = if m % (2 * hh) < hh then (fs.getD m 0 + fs.getD (m + hh) 0) % P else (fs.getD (m - hh) 0 + P - fs.getD m 0) * W (m / (2 * hh)) % P)
    (hw : ∀ k, k < N → Cg P (B ^ (e k * hh)) (if k % (2 * hh) < hh then (W (k / (2 * hh)) : Int) else -(W (k / (2 * hh)) : Int)))
    (ih : ∀ J i, J * hh + hh ≤ N → i < hh → Cg P (fs.getD (J * hh + i) 0 : Nat) (sumK (fun k => X k * B ^ (e k * i)) (J * hh) hh))
    (J i : Nat) (hJ : J < Q) (hi : i < 2 * hh) : Cg P (gs.getD (J * (2 * hh) + i) 0 : Nat) (sumK (fun k => X k * B ^ (e k * i)) (J * (2 * hh)) (2 * hh)) := by
  have hb : J * (2 * hh) + 2 * hh ≤ N := by
    have := Nat.mul_le_mul_right (2 * hh) (show J + 1 ≤ Q by omega)
    rw [hN, Nat.add_mul, Nat.one_mul] at this
    exact this
  obtain ⟨off, eo⟩ : ∃ off, off = J * (2 * hh) := ⟨_, rfl⟩
  have eo1 : 2 * J * hh = off := by rw [eo, Nat.mul_comm 2 J, Nat.mul_assoc]
  have eo2 : (2 * J + 1) * hh = off + hh := by rw [Nat.add_mul, eo1, Nat.one_mul]
  have hgo : ∀ i, i < 2 * hh → (off + i) / (2 * hh) = J ∧ (off + i) % (2 * hh) = i := fun i hi => by
    have h1 : (off + i) / (2 * hh) = J := dv (by omega) (by omega)
    have h2 := dv_lo (off + i) (2 * hh) (by omega)
    rw [h1] at h2
    exact ⟨h1, by omega⟩
  have ia := fun i hi => ih (2 * J) i (by rw [eo1]; omega) hi
  have ib := fun i hi => ih (2 * J + 1) i (by rw [eo2]; omega) hi
  rw [eo1] at ia
  rw [eo2] at ib
  rw [← eo] at hb ⊢
  rw [show 2 * hh = hh + hh by omega, sumK_add, hg (off + i) (by omega), (hgo i hi).1, (hgo i hi).2]
  by_cases hlo : i < hh
  · rw [if_pos hlo]
    refine (Cg.mod P _).trans ?_
    push_cast
    have h2 := ib i hlo
    rw [show off + hh + i = off + i + hh by omega] at h2
    exact (ia i hlo).add h2
  · rw [if_neg hlo]
    obtain ⟨j, rfl⟩ : ∃ j, i = hh + j := ⟨i - hh, by omega⟩
    have hj : j < hh := by omega
    have h1 := ia j hj
    have h2 := ib j hj
    rw [show off + (hh + j) - hh = off + j by omega, show off + (hh + j) = off + hh + j by omega]
    refine (Cg.mod P _).trans ?_
    have hl1 := hlt (off + hh + j)
    have e1 : (((fs.getD (off + j) 0 + P - fs.getD (off + hh + j) 0) * W J : Nat) : Int) = ((fs.getD (off + j) 0 : Nat) : Int) * (W J : Int) + ((fs.getD (off + hh + j) 0 : Nat) : Int) * (-(W J : Int)) + (P : Int) * (W J : Int) := by
      rw [Int.natCast_mul, show ((fs.getD (off + j) 0 + P - fs.getD (off + hh + j) 0 : Nat) : Int) = ((fs.getD (off + j) 0 : Nat) : Int) + (P : Int) - ((fs.getD (off + hh + j) 0 : Nat) : Int) by omega]
      grind
    rw [e1]
    have s1 : Cg P (sumK (fun k => X k * B ^ (e k * (hh + j))) off hh) (sumK (fun k => X k * B ^ (e k * j)) off hh * (W J : Int)) := by
      rw [← sumK_mul]
      refine sumK_cg off hh (fun m hm => ?_)
      have := hw (off + m) (by omega)
      rw [(hgo m (by omega)).1, (hgo m (by omega)).2, if_pos hm] at this
      rw [Nat.mul_add, Int.pow_add, Int.mul_comm (B ^ (e (off + m) * hh)), ← Int.mul_assoc]
      exact (Cg.refl _ _).mul this
    have s2 : Cg P (sumK (fun k => X k * B ^ (e k * (hh + j))) (off + hh) hh) (sumK (fun k => X k * B ^ (e k * j)) (off + hh) hh * (-(W J : Int))) := by
      rw [← sumK_mul]
      refine sumK_cg (off + hh) hh (fun m hm => ?_)
      have := hw (off + hh + m) (by omega)
      rw [show off + hh + m = off + (hh + m) by omega, (hgo (hh + m) (by omega)).1, (hgo (hh + m) (by omega)).2, if_neg (by omega)] at this
      rw [show off + hh + m = off + (hh + m) by omega, Nat.mul_add, Int.pow_add, Int.mul_comm (B ^ (e (off + (hh + m)) * hh)), ← Int.mul_assoc]
      exact (Cg.refl _ _).mul this
    refine Cg.trans ?_ (s1.add s2).symm
    have h3 := (h1.mul (Cg.refl (P : Int) (W J : Int))).add (h2.mul (Cg.refl (P : Int) (-(W J : Int))))
    refine Cg.trans ?_ h3
    exact ⟨(W J : Int), rfl⟩
end Go.Proofs.YtfgooclnohnkmaaGreatDoor
/- Proved: the lists that the program's inverse and the model's make are the same. -/
namespace Go.Proofs.YtfgooclnohnkmaaGreatDoor
open M1
set_option linter.unusedVariables false
set_option linter.unusedSimpArgs false
theorem inv_pw {P N R : Nat} {B : Nat} (r1 : Cg P ((R : Int) ^ (2 * N)) 1) (r2 : Cg P ((R : Int) ^ N) (-1)) (hB : Cg P ((R : Int) * (B : Int)) 1) :
    Cg P ((B : Int) ^ (2 * N)) 1 ∧ Cg P ((B : Int) ^ N) (-1) ∧ ∀ z, z ≤ 2 * N → Cg P ((B : Int) ^ z) ((R : Int) ^ (2 * N - z)) := by
  have hz : ∀ z, Cg P ((R : Int) ^ z * (B : Int) ^ z) 1 := fun z => by
    have := hB.pow z
    rw [Int.one_pow, Int.mul_pow] at this
    exact this
  refine ⟨?_, ?_, fun z hz' => ?_⟩
  · have h := (r1.mul (Cg.refl (P : Int) ((B : Int) ^ (2 * N)))).symm.trans (hz (2 * N))
    rw [Int.one_mul] at h
    exact h
  · have h := ((r2.mul (Cg.refl (P : Int) ((B : Int) ^ N))).symm.trans (hz N)).neg
    rw [Int.neg_mul, Int.one_mul, Int.neg_neg] at h
    exact h
  · have h1 := (Cg.refl (P : Int) ((R : Int) ^ (2 * N - z))).mul (hz z)
    rw [Int.mul_one, ← Int.mul_assoc, ← Int.pow_add, show 2 * N - z + z = 2 * N by omega] at h1
    have h2 := (r1.mul (Cg.refl (P : Int) ((B : Int) ^ z))).symm.trans h1
    rw [Int.one_mul] at h2
    exact h2
theorem halt {N : Nat} (h : Sz4 N) (t : Nat) (ht : t < lg N) : ∃ s, s < lg N ∧ N / 2 ^ (t + 1) = 2 ^ s ∧ N / 2 ^ s = 2 * 2 ^ t ∧ N / 2 ^ (t + 1) * (2 * 2 ^ t) = N := by
  have key : ∀ M ∈ [2, 4, 8, 16], ∀ t, t < lg M → lg M - 1 - t < lg M ∧ M / 2 ^ (t + 1) = 2 ^ (lg M - 1 - t) ∧ M / 2 ^ (lg M - 1 - t) = 2 * 2 ^ t ∧ M / 2 ^ (t + 1) * (2 * 2 ^ t) = M := by
    intro M hM t ht
    simp only [List.mem_cons, List.not_mem_nil, or_false] at hM
    have hs4 : t < 4 := by have := (lg_pow (N := M) (by omega)).2.2; omega
    rcases hM with rfl | rfl | rfl | rfl <;> (have : t = 0 ∨ t = 1 ∨ t = 2 ∨ t = 3 := by omega) <;> rcases this with rfl | rfl | rfl | rfl <;> revert ht <;> decide
  exact ⟨_, key N (by simp only [List.mem_cons, List.not_mem_nil, or_false]; omega) t ht⟩
theorem isS_sum (P N R B : Nat) (xs : List Nat) (hS : Sz4 N) (hl : xs.length = N) (hP : 0 < P) (hlt : ∀ x ∈ xs, x < P) (r1 : Cg P ((R : Int) ^ (2 * N)) 1) (r2 : Cg P ((R : Int) ^ N) (-1)) (hB : Cg P ((R : Int) * (B : Int)) 1) : ∀ t, t ≤ lg N → ∀ J i, J * 2 ^ t + 2 ^ t ≤ N → i < 2 ^ t →
    Cg P (((isS P N R xs t).getD (J * 2 ^ t + i) 0 : Nat) : Int) (sumK (fun k => ((xs.getD k 0 : Nat) : Int) * (B : Int) ^ ((2 * backN (lg N) k 0 + 1) * i)) (J * 2 ^ t) (2 ^ t))
  | 0, _, J, i, hJ, hi => by
    obtain rfl : i = 0 := by simpa using hi
    simp only [isS, sumK, Nat.pow_zero, Nat.mul_one, Nat.add_zero, Nat.mul_zero, Int.zero_add, Int.pow_zero, Int.mul_one]
    exact Cg.refl _ _
  | t + 1, ht, J, i, hJ, hi => by
    obtain ⟨s, hs, q1, q2, q3⟩ := halt hS t (by omega)
    obtain ⟨b1, b2, b3⟩ := inv_pw r1 r2 hB
    have h0 : 0 < 2 ^ t := Nat.pos_of_ne_zero (by simp)
    have ih := isS_sum P N R B xs hS hl hP hlt r1 r2 hB t (by omega)
    have hg := ip_get P N R t (2 ^ t) (isS P N R xs t) (by rw [isS_len, hl]) rfl q3 h0 (N / 2 ^ (t + 1)) (Nat.le_refl _)
    have hf := fun k hk => fact hS s hs k hk
    have hbk := fun k => back_lt0 hS k
    have hlt2 := fun m => getD_lt (isS_lt P N R xs hP hlt t) hP m
    rw [isS]
    rw [q2, ← q1] at hf
    generalize isS P N R xs t = fs at *
    generalize N / 2 ^ (t + 1) = Q at *
    rw [show (2 : Nat) ^ (t + 1) = 2 * 2 ^ t by rw [Nat.pow_succ, Nat.mul_comm]] at hJ hi ⊢
    generalize 2 ^ t = hh at *
    rw [show 2 * hh / 2 = hh by omega] at hf
    have hJQ : J < Q := by
      have h1 : (J + 1) * (2 * hh) ≤ Q * (2 * hh) := by rw [Nat.add_mul, Nat.one_mul, q3]; exact hJ
      have := Nat.le_of_mul_le_mul_right h1 (by omega)
      omega
    have hmq : ∀ m, m < N → m / (2 * hh) < Q := fun m hm => by
      rw [Nat.div_lt_iff_lt_mul (by omega), q3]
      exact hm
    refine step_iv P N hh Q fs _ (fun J => R ^ (2 * N - backN (lg N) (Q + J) 0) % P) (fun k => ((xs.getD k 0 : Nat) : Int)) (B : Int) (fun k => 2 * backN (lg N) k 0 + 1) hP q3 h0 hlt2 (fun m hm => ?_) (fun k hk => ?_) ih J i hJQ hi
    · rw [hg m hm, if_pos (hmq m hm)]
    · have hfk := hf k hk
      have hz := hbk (Q + k / (2 * hh))
      generalize backN (lg N) (Q + k / (2 * hh)) 0 = z at *
      have hm : Cg P ((R ^ (2 * N - z) % P : Nat) : Int) ((R : Int) ^ (2 * N - z)) := by
        have := Cg.mod P (R ^ (2 * N - z))
        push_cast at this ⊢
        exact this
      by_cases hlo : k % (2 * hh) < hh
      · rw [if_pos hlo] at hfk ⊢
        exact (pow_per b1 _ _ hfk).trans ((b3 z (by omega)).trans hm.symm)
      · rw [if_neg hlo] at hfk ⊢
        refine (pow_per b1 _ _ hfk).trans ?_
        rw [Int.pow_add]
        refine (((b3 z (by omega)).trans hm.symm).mul b2).trans ?_
        rw [Int.mul_neg, Int.mul_one]
        exact Cg.refl _ _
theorem invS_sum (P B : Nat) (ps xs : List Nat) (i : Nat) : ∀ c, Cg P ((invS P B ps xs i c : Nat) : Int) (sumK (fun k => ((xs.getD k 0 : Nat) : Int) * (B : Int) ^ (ps.getD k 0 * i)) 0 c)
  | 0 => Cg.refl _ _
  | c + 1 => by
    rw [invS, sumK, Nat.zero_add]
    refine (Cg.mod P _).trans ?_
    rw [Int.natCast_add, Int.natCast_mul]
    refine (invS_sum P B ps xs i c).add ((Cg.refl _ _).mul ?_)
    have := Cg.mod P (B ^ (ps.getD c 0 * i))
    push_cast at this ⊢
    exact this
theorem inv_root {P N R : Nat} (hP : 2 ≤ P) (hN : 0 < N) (r1 : Cg P ((R : Int) ^ (2 * N)) 1) : Cg P ((R : Int) * ((invM R P : Nat) : Int)) 1 := by
  have e : Cg P ((R * (R ^ (2 * N - 1) % P) : Nat) : Int) 1 := by
    have h1 := (Cg.refl (P : Int) (R : Int)).mul (Cg.mod P (R ^ (2 * N - 1)))
    rw [Int.natCast_mul]
    refine h1.trans ?_
    rw [← Int.natCast_mul, Nat.mul_comm, ← Nat.pow_succ, show (2 * N - 1).succ = 2 * N by omega]
    push_cast
    exact r1
  have h2 : R * (R ^ (2 * N - 1) % P) % P = 1 := Cg.eq_of_lt ((Cg.mod P _).trans e) (Nat.mod_lt _ (by omega)) (by omega)
  rw [invM_of R _ P (Nat.mod_lt _ (by omega)) h2, ← Int.natCast_mul]
  exact e
theorem inv_same (P N R : Nat) (xs : List Nat) (hS : Sz4 N) (hl : xs.length = N) (hP : 2 ≤ P) (hlt : ∀ x ∈ xs, x < P) (r1 : Cg P ((R : Int) ^ (2 * N)) 1) (r2 : Cg P ((R : Int) ^ N) (-1)) :
    (isS P N R xs (lg N)).map (fun x => x * invM (N % P) P % P) = invL P N R xs := by
  have hs := sz_bd hS
  refine list_eq (by rw [List.length_map, isS_len, invL_len, hl]) (fun k hk => ?_)
  rw [invL_len] at hk
  have hk2 : k < (isS P N R xs (lg N)).length := by rw [isS_len, hl]; exact hk
  have e0 : ((isS P N R xs (lg N)).map (fun x => x * invM (N % P) P % P)).getD k 0 = (isS P N R xs (lg N)).getD k 0 * invM (N % P) P % P := by simp [List.getD, hk2]
  rw [e0, invL_get P N R xs k hk]
  have h1 := isS_sum P N R (invM R P) xs hS hl (by omega) hlt r1 r2 (inv_root hP (by omega) r1) (lg N) (Nat.le_refl _) 0 k
  rw [(lg_pow hS).1, Nat.zero_mul, Nat.zero_add, Nat.zero_add] at h1
  have h2 := invS_sum P (invM R P) (ptsN N) xs k N
  have h3 : Cg P (sumK (fun j => ((xs.getD j 0 : Nat) : Int) * ((invM R P : Nat) : Int) ^ ((2 * backN (lg N) j 0 + 1) * k)) 0 N) (sumK (fun j => ((xs.getD j 0 : Nat) : Int) * ((invM R P : Nat) : Int) ^ ((ptsN N).getD j 0 * k)) 0 N) := by
    refine sumK_cg 0 N (fun j hj => ?_)
    rw [Nat.zero_add, ptsN_get N j hj]
    exact Cg.refl _ _
  have h4 := ((h1 (Nat.le_refl _) hk).trans h3).trans h2.symm
  rw [Cg.eq_of_lt h4 (getD_lt (isS_lt P N R xs (by omega) hlt _) (by omega) k) (invS_lt _ _ _ _ _ (by omega) _)]
end Go.Proofs.YtfgooclnohnkmaaGreatDoor
/- Proved: what a table of the primes from 41 to 16383 and of the numbers to be looked at would have to say, for every number up to 268435455 that passes the twelve witnesses to be a prime; no program in sight. -/
namespace Go.Proofs.YtfgooclnohnkmaaGreatDoor.F1
open Go.Proofs.YtfgooclnohnkmaaGreatDoor
open M1
set_option linter.unusedVariables false
/-- a step of a power by five binary digits -/
def w5 (a n r x : Nat) : Nat := Nat.mod (Nat.mul (Nat.pow r 32) (Nat.pow a (Nat.mod x 32))) n
/-- a power, by five digits at a time -/
def pm (a e n : Nat) : Nat := w5 a n (w5 a n (w5 a n (w5 a n (Nat.mod (Nat.pow a (Nat.div e 1048576)) n) (Nat.div e 32768)) (Nat.div e 1024)) (Nat.div e 32)) e
theorem w5_eq (a n x : Nat) : w5 a n (a ^ (x / 32) % n) x = a ^ x % n := by
  show (a ^ (x / 32) % n) ^ 32 * a ^ (x % 32) % n = a ^ x % n
  rw [Nat.mul_mod, ← Nat.pow_mod, ← Nat.mul_mod, ← Nat.pow_mul, ← Nat.pow_add, Nat.mul_comm (x / 32) 32, Nat.div_add_mod]
theorem pm_eq (a e n : Nat) : pm a e n = a ^ e % n := by
  have h1 : e / 32768 / 32 = e / 1048576 := by rw [Nat.div_div_eq_div_mul]
  have h2 : e / 1024 / 32 = e / 32768 := by rw [Nat.div_div_eq_div_mul]
  have h3 : e / 32 / 32 = e / 1024 := by rw [Nat.div_div_eq_div_mul]
  show w5 a n (w5 a n (w5 a n (w5 a n (a ^ (e / 1048576) % n) (e / 32768)) (e / 1024)) (e / 32)) e = _
  rw [← h1, w5_eq, ← h2, w5_eq, ← h3, w5_eq, w5_eq]
def passK (n a : Nat) : Bool := pm a ((n - 1) / 2 ^ Lib.ctz 64 (n - 1)) n == 1 || sqs n (Lib.ctz 64 (n - 1)) (pm a ((n - 1) / 2 ^ Lib.ctz 64 (n - 1)) n)
theorem passK_eq (n a : Nat) : passK n a = passB n a := by unfold passK passB powM; rw [pm_eq]
def P37 : Nat := 3710369067405
/-- k + 1 does not pass -/
def candK (k : Nat) : Bool := cond (Nat.beq (Nat.gcd (Nat.succ k) P37) 1) (cond (Nat.beq (pm 2 k (Nat.succ k)) 1) (!(passK (Nat.succ k) 2 && passK (Nat.succ k) 3 && passK (Nat.succ k) 5 && passK (Nat.succ k) 7)) true) true
def cand (n : Nat) : Bool := Nat.rec true (fun k _ => candK k) n
/-- 2^d numbers from lo on -/
def allT (f : Nat → Bool) (d : Nat) : Nat → Bool := Nat.rec (fun lo => f lo) (fun d ih lo => cond (ih lo) (ih (Nat.add lo (Nat.pow 2 d))) false) d
theorem allT_all (f : Nat → Bool) : ∀ (d lo : Nat), allT f d lo = true → ∀ i, i < 2 ^ d → f (lo + i) = true
  | 0, lo, h, i, hi => by
    obtain rfl : i = 0 := by simpa using hi
    exact h
  | d + 1, lo, h, i, hi => by
    have h' : cond (allT f d lo) (allT f d (lo + 2 ^ d)) false = true := h
    cases h1 : allT f d lo with
    | false => rw [h1] at h'; cases h'
    | true =>
      rw [h1] at h'
      by_cases hlt : i < 2 ^ d
      · exact allT_all f d lo h1 i hlt
      · have := allT_all f d (lo + 2 ^ d) h' (i - 2 ^ d) (by rw [Nat.pow_succ] at hi; omega)
        rw [show lo + 2 ^ d + (i - 2 ^ d) = lo + i by omega] at this
        exact this
def tq (q t : Nat) : Bool := cond (Nat.ble (Nat.mul q (Nat.succ (Nat.mul t (Nat.pred q)))) 268435455) (cand (Nat.mul q (Nat.succ (Nat.mul t (Nat.pred q))))) true
/-- not all the twelve have 1 for their d-th power -/
def okd (q d : Nat) : Bool := smallP.any fun a => !(Nat.beq (Nat.mod (Nat.pow a d) q) 1)
def chkf (q f : Nat) : Bool := cond (Nat.beq (Nat.mod (Nat.pred q) f) 0) ((okd q f || Nat.beq f (Nat.pred q)) && (okd q (Nat.div (Nat.pred q) f) || Nat.beq f 1)) true
def prm (q : Nat) : Bool := allT (fun d => cond (Nat.beq (Nat.mod q d) 0) (Nat.ble q d) true) 7 2
def chkQ (q : Nat) : Bool := cond (Nat.beq (Nat.gcd q (Nat.mul 2 P37)) 1) (cond (prm q) (cond (allT (chkf q) 7 1) (allT (tq q) (Nat.succ (Nat.log2 (Nat.div 268435455 (Nat.mul q (Nat.pred q))))) 1) false) true) true

theorem sqs_ex (n : Nat) (hn : 2 ≤ n) : ∀ (s x : Nat), sqs n s x = true → ∃ i, i < s ∧ x ^ 2 ^ i % n = n - 1
  | 0, x, h => by cases h
  | k + 1, x, h => by
    have h' : (x == n - 1 || sqs n k (x * x % n)) = true := h
    rcases Bool.or_eq_true _ _ ▸ h' with h1 | h1
    · have e : x = n - 1 := by simpa using h1
      exact ⟨0, by omega, by rw [e, Nat.pow_zero, Nat.pow_one]; exact Nat.mod_eq_of_lt (by omega)⟩
    · obtain ⟨i, hi, he⟩ := sqs_ex n hn k _ h1
      refine ⟨i + 1, by omega, ?_⟩
      rw [← Nat.pow_mod] at he
      rw [← he, Nat.pow_succ 2 i, Nat.mul_comm (2 ^ i) 2, Nat.pow_mul, Nat.pow_two]
theorem ctz_mul (x : Nat) (h0 : 0 < x) (h : x < 2 ^ 64) : 2 ^ Lib.ctz 64 x * (x / 2 ^ Lib.ctz 64 x) = x := by
  have e : Lib.ctz 64 x = Lib.ctzFrom 64 x := by unfold Lib.ctz; rw [if_neg (by omega)]
  obtain ⟨m, hm, _⟩ := Lib.ctzFrom_spec 64 x h0 h
  rw [← e] at hm
  have : 2 ^ Lib.ctz 64 x ∣ x := ⟨_, hm⟩
  exact Nat.mul_div_cancel' this
theorem pass_fermat (n a : Nat) (hn : 3 ≤ n) (hn' : n - 1 < 2 ^ 64) (h : passB n a = true) : a ^ (n - 1) % n = 1 := by
  have hm := ctz_mul (n - 1) (by omega) hn'
  unfold passB powM at h
  generalize Lib.ctz 64 (n - 1) = s at *
  generalize (n - 1) / 2 ^ s = d at *
  have e0 : a ^ (n - 1) % n = (a ^ d % n) ^ 2 ^ s % n := by rw [← hm, Nat.mul_comm, Nat.pow_mul, ← Nat.pow_mod]
  rcases Bool.or_eq_true _ _ ▸ h with h1 | h1
  · have e : a ^ d % n = 1 := by simpa using h1
    rw [e0, e, Nat.one_pow, Nat.mod_eq_of_lt (by omega)]
  · obtain ⟨i, hi, he⟩ := sqs_ex n (by omega) s _ h1
    have e1 : 2 ^ s = 2 ^ i * (2 * 2 ^ (s - i - 1)) := by
      rw [← Nat.pow_succ', ← Nat.pow_add]
      congr 1
      omega
    have e2 : (n - 1) * (n - 1) % n = 1 := by
      have : (n - 1) * (n - 1) = 1 + n * (n - 2) := by
        obtain ⟨k, rfl⟩ : ∃ k, n = k + 2 := ⟨n - 2, by omega⟩
        rw [show k + 2 - 1 = k + 1 by omega, show k + 2 - 2 = k by omega]
        grind
      rw [this, Nat.add_mul_mod_self_left, Nat.mod_eq_of_lt (by omega)]
    rw [e0, e1, Nat.pow_mul, Nat.pow_mod, he, Nat.pow_mul, Nat.pow_two, Nat.pow_mod, e2, Nat.one_pow, Nat.mod_eq_of_lt (by omega)]
theorem pow_sub (a q m n : Nat) (hq : 2 ≤ q) (h1 : a ^ m % q = 1) (h2 : a ^ n % q = 1) : a ^ (n % m) % q = 1 := by
  have e := Nat.div_add_mod n m
  rw [← e, Nat.pow_add, Nat.pow_mul, Nat.mul_mod, Nat.pow_mod (a ^ m), h1, Nat.one_pow, Nat.mod_eq_of_lt (show 1 < q by omega), Nat.one_mul, Nat.mod_mod] at h2
  exact h2
theorem pow_gcd (a q : Nat) (hq : 2 ≤ q) (m n : Nat) : a ^ m % q = 1 → a ^ n % q = 1 → a ^ Nat.gcd m n % q = 1 := by
  induction m, n using Nat.gcd.induction with
  | H0 n => intro _ h; simpa using h
  | H1 m n hm ih =>
    intro h1 h2
    rw [Nat.gcd_rec]
    exact ih (pow_sub a q m n hq h1 h2) h1
theorem okd_ex {q d : Nat} (h : okd q d = true) : ∃ a ∈ smallP, a ^ d % q ≠ 1 := by
  unfold okd at h
  rw [List.any_eq_true] at h
  obtain ⟨a, ha, h1⟩ := h
  refine ⟨a, ha, fun e => ?_⟩
  have e' : Nat.mod (Nat.pow a d) q = 1 := e
  rw [e'] at h1
  cases h1
theorem nbeq {a b : Nat} (h : Nat.beq a b = true) : a = b := Nat.eq_of_beq_eq_true h
theorem nbeq_mk {a b : Nat} (h : a = b) : Nat.beq a b = true := by subst h; exact Nat.beq_refl a
theorem chkf_no (q d : Nat) (hq : 3 ≤ q) (hq' : q ≤ 16383) (h : allT (chkf q) 7 1 = true) (hd : d ∣ q - 1) (hne : d ≠ q - 1) : ∃ a ∈ smallP, a ^ d % q ≠ 1 := by
  have hall := allT_all _ _ _ h
  obtain ⟨c, hc⟩ := hd
  have hd0 : 0 < d := by rcases Nat.eq_zero_or_pos d with h | h; · subst h; omega
                         · exact h
  have hc0 : 0 < c := by rcases Nat.eq_zero_or_pos c with h | h; · subst h; omega
                         · exact h
  have use : ∀ f, 1 ≤ f → f ≤ 128 → f ∣ q - 1 → (okd q f = true ∨ f = q - 1) ∧ (okd q ((q - 1) / f) = true ∨ f = 1) := by
    intro f h1 h2 h3
    have hf := hall (f - 1) (by omega)
    rw [show 1 + (f - 1) = f by omega] at hf
    unfold chkf at hf
    have e : Nat.beq (Nat.mod (Nat.pred q) f) 0 = true := nbeq_mk (Nat.mod_eq_zero_of_dvd h3)
    rw [e] at hf
    have hf' : ((okd q f || Nat.beq f (Nat.pred q)) && (okd q (Nat.div (Nat.pred q) f) || Nat.beq f 1)) = true := hf
    rw [Bool.and_eq_true, Bool.or_eq_true, Bool.or_eq_true] at hf'
    exact ⟨hf'.1.imp id nbeq, hf'.2.imp id nbeq⟩
  by_cases hs : d ≤ 128
  · rcases (use d hd0 hs ⟨c, hc⟩).1 with h1 | h1
    · exact okd_ex h1
    · exact absurd h1 hne
  · have hcs : c ≤ 128 := by
      by_cases hc2 : c ≤ 128
      · exact hc2
      · have := Nat.mul_le_mul (show 129 ≤ d by omega) (show 129 ≤ c by omega)
        omega
    rcases (use c hc0 hcs ⟨d, by rw [hc, Nat.mul_comm]⟩).2 with h1 | h1
    · have e : (q - 1) / c = d := by rw [hc, Nat.mul_div_cancel _ hc0]
      rw [e] at h1
      exact okd_ex h1
    · subst h1
      rw [Nat.mul_one] at hc
      exact absurd hc.symm hne
/-- the order of the twelve together is q - 1 -/
theorem order_all (q e : Nat) (hq : 3 ≤ q) (hq' : q ≤ 16383) (hf : ∀ a ∈ smallP, a ^ (q - 1) % q = 1) (h : allT (chkf q) 7 1 = true) (he : ∀ a ∈ smallP, a ^ e % q = 1) : q - 1 ∣ e := by
  have hg : ∀ a ∈ smallP, a ^ Nat.gcd e (q - 1) % q = 1 := fun a ha => pow_gcd a q (by omega) e (q - 1) (he a ha) (hf a ha)
  by_cases hne : Nat.gcd e (q - 1) = q - 1
  · rw [← hne]; exact Nat.gcd_dvd_left _ _
  · obtain ⟨a, ha, h1⟩ := chkf_no q _ hq hq' h (Nat.gcd_dvd_right e (q - 1)) hne
    exact absurd (hg a ha) h1
theorem small_pr : ∀ a ∈ smallP, ∀ d, d ≤ 37 → d ∣ a → d = 1 ∨ d = a := by decide
theorem small_Pr (a : Nat) (ha : a ∈ smallP) : Pr a := by
  have hb : ∀ a ∈ smallP, 2 ≤ a ∧ a ≤ 37 := by decide
  refine ⟨(hb a ha).1, fun d hd => ?_⟩
  have := Nat.le_of_dvd (by have := (hb a ha).1; omega) hd
  exact small_pr a ha d (by have := (hb a ha).2; omega) hd
theorem cop_all (n : Nat) (h : ∀ a ∈ smallP, n % a ≠ 0) : Nat.Coprime n (2 * P37) := by
  have c : ∀ a ∈ smallP, Nat.Coprime n a := fun a ha => ((small_Pr a ha).cop (fun hd => h a ha (Nat.mod_eq_zero_of_dvd hd))).symm
  have e : 2 * P37 = 2 * (3 * (5 * (7 * (11 * (13 * (17 * (19 * (23 * (29 * (31 * 37)))))))))) := by decide
  rw [e]
  have m : ∀ a, a ∈ smallP → ∀ b, Nat.Coprime n b → Nat.Coprime n (a * b) := fun a ha b hb => Nat.Coprime.mul_right (c a ha) hb
  exact m 2 (by decide) _ (m 3 (by decide) _ (m 5 (by decide) _ (m 7 (by decide) _ (m 11 (by decide) _ (m 13 (by decide) _ (m 17 (by decide) _ (m 19 (by decide) _ (m 23 (by decide) _ (m 29 (by decide) _ (m 31 (by decide) _ (c 37 (by decide))))))))))))
theorem prm_of (q : Nat) (h : Pr q) : prm q = true := by
  have key2 : ∀ (f : Nat → Bool) (d lo : Nat), (∀ i, lo ≤ i → f i = true) → allT f d lo = true := by
    intro f d
    induction d with
    | zero => intro lo hf; exact hf lo (Nat.le_refl _)
    | succ d ih =>
      intro lo hf
      show cond (allT f d lo) (allT f d (lo + 2 ^ d)) false = true
      rw [ih lo hf, ih (lo + 2 ^ d) (fun i hi => hf i (Nat.le_trans (Nat.le_add_right _ _) hi))]
      rfl
  refine key2 _ _ _ (fun d hd => ?_)
  cases hb : Nat.beq (Nat.mod q d) 0 with
  | false => rfl
  | true =>
    have hdv : d ∣ q := Nat.dvd_of_mod_eq_zero (nbeq hb)
    rcases h.2 d hdv with h1 | h1
    · omega
    · subst h1; exact Nat.ble_self_eq_true d
/-- what the table says gives: a number that passes is a prime -/
theorem pr_of_table (tab : ∀ q, 41 ≤ q → q ≤ 16383 → chkQ q = true) (n : Nat) (h41 : 41 ≤ n) (hN : n ≤ 268435455) (hd : ∀ a ∈ smallP, n % a ≠ 0) (hp : ∀ a ∈ smallP, passB n a = true) : Pr n := by
  apply Classical.byContradiction
  intro hno
  obtain ⟨q, m, hq, hn, hm, hqq⟩ := not_pr (by omega) hno
  have hq2 := hq.1
  have hcop : Nat.Coprime q (2 * P37) := Nat.Coprime.coprime_dvd_left ⟨m, hn⟩ (cop_all n hd)
  have hq41 : 41 ≤ q := by
    by_cases h : 41 ≤ q
    · exact h
    · obtain ⟨a, ha, h0⟩ := above q (by omega) hq2
      have hda : a ∣ q := Nat.dvd_of_mod_eq_zero h0
      exact absurd (Nat.mod_eq_zero_of_dvd (Nat.dvd_trans hda ⟨m, hn⟩)) (hd a ha)
  have hq' : q ≤ 16383 := by
    by_cases h : q ≤ 16383
    · exact h
    · have := Nat.mul_le_mul (show 16384 ≤ q by omega) (show 16384 ≤ q by omega)
      omega
  have hc := tab q hq41 hq'
  unfold chkQ at hc
  have e1 : Nat.beq (Nat.gcd q (Nat.mul 2 P37)) 1 = true := nbeq_mk hcop
  rw [e1, prm_of q hq] at hc
  cases hf : allT (chkf q) 7 1 with
  | false => rw [hf] at hc; cases hc
  | true =>
    rw [hf] at hc
    have hc' : allT (tq q) (Nat.succ (Nat.log2 (Nat.div 268435455 (Nat.mul q (Nat.pred q))))) 1 = true := hc
    have hfer : ∀ a ∈ smallP, a ^ (q - 1) % q = 1 := by
      intro a ha
      refine hq.fermat (fun hda => ?_)
      have hb : ∀ a ∈ smallP, 2 ≤ a ∧ a ≤ 37 := by decide
      have := Nat.le_of_dvd (by have := (hb a ha).1; omega) hda
      have := (hb a ha).2
      omega
    have hdvd : q - 1 ∣ m - 1 := by
      refine order_all q (m - 1) (by omega) hq' hfer hf (fun a ha => ?_)
      have h1 := pass_fermat n a (by omega) (by omega) (hp a ha)
      have h2 : a ^ (n - 1) % q = 1 := by
        have := Nat.mod_mul_right_mod (a ^ (n - 1)) q m
        rw [← hn, h1, Nat.mod_eq_of_lt (by omega)] at this
        exact this.symm
      have e : n - 1 = (q - 1) * m + (m - 1) := by
        rw [hn, Nat.sub_mul, Nat.one_mul]
        have := Nat.mul_le_mul (show 1 ≤ q by omega) (Nat.le_refl m)
        omega
      rw [e, Nat.pow_add, Nat.pow_mul, Nat.mul_mod, Nat.pow_mod, hfer a ha, Nat.one_pow, Nat.mod_eq_of_lt (show 1 < q by omega), Nat.one_mul, Nat.mod_mod] at h2
      exact h2
    obtain ⟨t, ht⟩ := hdvd
    have ht0 : 0 < t := by
      rcases Nat.eq_zero_or_pos t with h | h
      · subst h; omega
      · exact h
    have hnt : n = q * (t * (q - 1) + 1) := by
      rw [hn]
      congr 1
      rw [Nat.mul_comm t]
      omega
    have htl : t ≤ 268435455 / (q * (q - 1)) := by
      rw [Nat.le_div_iff_mul_le (Nat.mul_pos (by omega) (by omega))]
      have : t * (q * (q - 1)) ≤ n := by
        rw [hnt, Nat.mul_add, Nat.mul_one]
        have : t * (q * (q - 1)) = q * (t * (q - 1)) := by rw [Nat.mul_left_comm]
        omega
      omega
    have hlog : t - 1 < 2 ^ Nat.succ (Nat.log2 (268435455 / (q * (q - 1)))) := by
      have := Nat.lt_log2_self (n := 268435455 / (q * (q - 1)))
      omega
    have hx := allT_all _ _ _ hc' (t - 1) hlog
    rw [show 1 + (t - 1) = t by omega] at hx
    unfold tq at hx
    have en : Nat.mul q (Nat.succ (Nat.mul t (Nat.pred q))) = n := hnt.symm
    rw [en] at hx
    have eb : Nat.ble n 268435455 = true := Nat.ble_eq_true_of_le hN
    rw [eb] at hx
    have hx' : cand n = true := hx
    obtain ⟨k, rfl⟩ : ∃ k, n = k + 1 := ⟨n - 1, by omega⟩
    have hy : candK k = true := hx'
    unfold candK at hy
    have hcn : Nat.Coprime (k + 1) P37 := Nat.Coprime.coprime_dvd_right ⟨2, by rw [Nat.mul_comm]⟩ (cop_all (k + 1) hd)
    have b1 : Nat.beq (Nat.gcd (Nat.succ k) P37) 1 = true := nbeq_mk hcn
    have hf2 := pass_fermat (k + 1) 2 (by omega) (by omega) (hp 2 (by decide))
    have b2 : Nat.beq (pm 2 k (Nat.succ k)) 1 = true := nbeq_mk (by rw [pm_eq]; exact hf2)
    rw [b1, b2] at hy
    have p2 : passK (Nat.succ k) 2 = true := by rw [passK_eq]; exact hp 2 (by decide)
    have p3 : passK (Nat.succ k) 3 = true := by rw [passK_eq]; exact hp 3 (by decide)
    have p5 : passK (Nat.succ k) 5 = true := by rw [passK_eq]; exact hp 5 (by decide)
    have p7 : passK (Nat.succ k) 7 = true := by rw [passK_eq]; exact hp 7 (by decide)
    rw [p2, p3, p5, p7] at hy
    cases hy
end Go.Proofs.YtfgooclnohnkmaaGreatDoor.F1
/- Proved: the table of the primes from 41 to 63, by reckoning in the kernel; no program in sight. -/
namespace Go.Proofs.YtfgooclnohnkmaaGreatDoor.F1
theorem tab41 : allT chkQ 0 41 = true := by decide +kernel
theorem tab42 : allT chkQ 1 42 = true := by decide +kernel
theorem tab44 : allT chkQ 2 44 = true := by decide +kernel
theorem tab48 : allT chkQ 3 48 = true := by decide +kernel
theorem tab56 : allT chkQ 3 56 = true := by decide +kernel
end Go.Proofs.YtfgooclnohnkmaaGreatDoor.F1
/- Proved: the table of the primes from 64 to 255, by reckoning in the kernel; no program in sight. -/
namespace Go.Proofs.YtfgooclnohnkmaaGreatDoor.F1
theorem tab64 : allT chkQ 4 64 = true := by decide +kernel
theorem tab80 : allT chkQ 4 80 = true := by decide +kernel
theorem tab96 : allT chkQ 5 96 = true := by decide +kernel
theorem tab128 : allT chkQ 7 128 = true := by decide +kernel
end Go.Proofs.YtfgooclnohnkmaaGreatDoor.F1
/- Proved: the table of the primes from 256 to 16383, by reckoning in the kernel; no program in sight. -/
namespace Go.Proofs.YtfgooclnohnkmaaGreatDoor.F1
theorem tab256 : allT chkQ 8 256 = true := by decide +kernel
theorem tab512 : allT chkQ 9 512 = true := by decide +kernel
theorem tab1024 : allT chkQ 10 1024 = true := by decide +kernel
theorem tab2048 : allT chkQ 11 2048 = true := by decide +kernel
theorem tab4096 : allT chkQ 12 4096 = true := by decide +kernel
theorem tab8192 : allT chkQ 13 8192 = true := by decide +kernel
end Go.Proofs.YtfgooclnohnkmaaGreatDoor.F1
/- Proved: every number up to 268435455 that passes trial division and the twelve witnesses is a prime, and so are the ten great ones that are drawn; no program in sight. -/
namespace Go.Proofs.YtfgooclnohnkmaaGreatDoor.F1
open Go.Proofs.YtfgooclnohnkmaaGreatDoor
set_option linter.unusedVariables false
theorem tab_all (q : Nat) (h1 : 41 ≤ q) (h2 : q ≤ 16383) : chkQ q = true := by
  have use : ∀ d lo, allT chkQ d lo = true → lo ≤ q → q < lo + 2 ^ d → chkQ q = true := by
    intro d lo h h3 h4
    have := allT_all chkQ d lo h (q - lo) (by omega)
    rwa [show lo + (q - lo) = q by omega] at this
  by_cases c41 : q < 42
  · exact use 0 41 tab41 (by omega) (by simpa using c41)
  by_cases c42 : q < 44
  · exact use 1 42 tab42 (by omega) (by simpa using c42)
  by_cases c44 : q < 48
  · exact use 2 44 tab44 (by omega) (by simpa using c44)
  by_cases c48 : q < 56
  · exact use 3 48 tab48 (by omega) (by simpa using c48)
  by_cases c56 : q < 64
  · exact use 3 56 tab56 (by omega) (by simpa using c56)
  by_cases c64 : q < 80
  · exact use 4 64 tab64 (by omega) (by simpa using c64)
  by_cases c80 : q < 96
  · exact use 4 80 tab80 (by omega) (by simpa using c80)
  by_cases c96 : q < 128
  · exact use 5 96 tab96 (by omega) (by simpa using c96)
  by_cases c128 : q < 256
  · exact use 7 128 tab128 (by omega) (by simpa using c128)
  by_cases c256 : q < 512
  · exact use 8 256 tab256 (by omega) (by simpa using c256)
  by_cases c512 : q < 1024
  · exact use 9 512 tab512 (by omega) (by simpa using c512)
  by_cases c1024 : q < 2048
  · exact use 10 1024 tab1024 (by omega) (by simpa using c1024)
  by_cases c2048 : q < 4096
  · exact use 11 2048 tab2048 (by omega) (by simpa using c2048)
  by_cases c4096 : q < 8192
  · exact use 12 4096 tab4096 (by omega) (by simpa using c4096)
  exact use 13 8192 tab8192 (by omega) (by simp; omega)
theorem wit_all (n : Nat) : ∀ l : List Nat, wit n l = true → ∀ a ∈ l, passB n a = true
  | [], _, a, ha => by cases ha
  | x :: l, h, a, ha => by
    have h' : (passB n x && wit n l) = true := h
    rw [Bool.and_eq_true] at h'
    rcases List.mem_cons.1 ha with rfl | h1
    · exact h'.1
    · exact wit_all n l h'.2 a h1
theorem fnd_all (n : Nat) : ∀ l : List Nat, fnd n l = true → (∃ a ∈ l, n = a) ∨ ((∀ a ∈ l, n % a ≠ 0) ∧ wit n smallP = true)
  | [], h => Or.inr ⟨fun a ha => (by cases ha), h⟩
  | x :: l, h => by
    unfold fnd at h
    by_cases hx : n % x = 0
    · rw [if_pos hx] at h
      exact Or.inl ⟨x, List.mem_cons_self .., by simpa using h⟩
    · rw [if_neg hx] at h
      rcases fnd_all n l h with ⟨a, ha, e⟩ | ⟨h1, h2⟩
      · exact Or.inl ⟨a, List.mem_cons_of_mem _ ha, e⟩
      · refine Or.inr ⟨fun a ha => ?_, h2⟩
        rcases List.mem_cons.1 ha with rfl | h3
        · exact hx
        · exact h1 a h3
theorem pr_of_isP (n : Nat) (h : isP n = true) (hN : n ≤ 268435455) : Pr n := by
  unfold isP at h
  by_cases h2 : n < 2
  · rw [if_pos h2] at h; cases h
  · rw [if_neg h2] at h
    rcases fnd_all n smallP h with ⟨a, ha, rfl⟩ | ⟨h1, h3⟩
    · exact small_Pr n ha
    · exact pr_of_table tab_all n (above_of n (by omega) h1) hN h1 (wit_all n smallP h3)
end Go.Proofs.YtfgooclnohnkmaaGreatDoor.F1
/- Proved: the modulus of a good ring is a prime. -/
namespace Go.Proofs.YtfgooclnohnkmaaGreatDoor
open Go.ChangeShapes Go.WideShapes Go.ChangeAt Go.RowKit
set_option linter.unusedVariables false
theorem no_28 : isP 268435456 = false := by decide +kernel
theorem ring_pr {P N : Nat} (h : RingOk P N) : F1.Pr P := by
  have h1 := modB_yes h.md
  have h2 := h.pr
  rw [Int.toNat_natCast] at h2
  refine F1.pr_of_isP P h2 ?_
  have hn : P ≠ 268435456 := fun e => by
    rw [e, no_28] at h2
    cases h2
  omega
end Go.Proofs.YtfgooclnohnkmaaGreatDoor
/- Proved: rows brought ahead and back: what the program and the model make of each. -/
namespace Go.Proofs.YtfgooclnohnkmaaGreatDoor
open Go.ChangeShapes Go.WideShapes Go.ChangeAt Go.RowKit
set_option linter.unusedVariables false
set_option linter.unusedSimpArgs false
open M1
def mkL (f : Int → Int → List Int → List Int) (ps : List Int) (Rf : Nat → Int) (xss : List (List Int)) : List (List Int) := (List.range ps.length).map fun k => f (ps.getD k 0) (Rf k) (xss.getD k [])
theorem mkL_len (f : Int → Int → List Int → List Int) (ps : List Int) (Rf : Nat → Int) (xss : List (List Int)) : (mkL f ps Rf xss).length = ps.length := by simp [mkL]
theorem mkL_get (f : Int → Int → List Int → List Int) (ps : List Int) (Rf : Nat → Int) (xss : List (List Int)) (k : Nat) (hk : k < ps.length) : (mkL f ps Rf xss).getD k [] = f (ps.getD k 0) (Rf k) (xss.getD k []) := by
  simp [mkL, List.getD, hk]
def bkZ (N p r : Int) (xs : List Int) : List Int := toZ (invL p.toNat N.toNat r.toNat (xs.map Int.toNat))
def backF (N : Int) (a : Bool) (p r : Int) (xs : List Int) : List Int := if a then bkZ N p r xs else xs
theorem toZ_back (ys : List Nat) : (toZ ys).map Int.toNat = ys := by
  rw [toZ, List.map_map]
  refine (List.map_congr_left fun x hx => ?_).trans (List.map_id ys)
  simp
theorem gr_poly {N : Int} {ps : List Int} {xss : List (List Int)} (h : grB N ps xss = true) : xss.length = ps.length ∧ ∀ k, k < ps.length → RingOk (ps.getD k 0) N ∧ polyB (ps.getD k 0) N (xss.getD k []) = true := by
  unfold grB rwB rwA at h
  rw [Bool.and_eq_true, Bool.and_eq_true, decide_eq_true_eq, decide_eq_true_eq] at h
  obtain ⟨h1, h2, h3⟩ := h
  obtain ⟨s1, s2, s3⟩ := sp_ring h1
  refine ⟨h2, fun k hk => ⟨s3 k hk, ?_⟩⟩
  first
  | exact h3 k (by omega) (by omega)
  | exact h3 k (by omega)
/-- a row of good rows, opened -/
theorem row_open {N : Int} {ps : List Int} {xss : List (List Int)} {Rf : Nat → Int} (hR : ∀ k, RingOk (ps.getD k 0) N → ((0 ≤ Rf k ∧ Rf k < ps.getD k 0) ∧ (∀ W, PrsW W → TabW W → Calls Tryz.prog 163 #[.int .i64 (ps.getD k 0), .int .i64 N] W fun e w' => e = .returned (.tuple #[.agg #[.int .i64 (ps.getD k 0), .int .i64 N, .int .i64 (Rf k)], .bool true]) ∧ Old W w')) ∧ (∀ W, Calls Tryz.prog 185 #[.int .i64 (ps.getD k 0), .int .i64 N] W fun e w' => e = .returned (.tuple #[.agg #[.int .i64 (ps.getD k 0), .int .i64 N, .int .i64 (Rf k)], .bool true]) ∧ Old W w') ∧ ∃ P M R : Nat, ps.getD k 0 = P ∧ N = M ∧ Rf k = R ∧ R < P ∧ RingOk P M ∧ (F1.Pr P → Rt P (2 * M) R)) (h : grB N ps xss = true) (k : Nat) (hk : k < ps.length) :
    ∃ (P M R : Nat) (ys : List Nat), ps.getD k 0 = P ∧ N = M ∧ Rf k = R ∧ xss.getD k [] = toZ ys ∧ R < P ∧ (2 ≤ P ∧ P ≤ 268435456) ∧ Sz4 M ∧ ys.length = M ∧ (∀ y ∈ ys, y < P) ∧ Cg P ((R : Int) ^ (2 * M)) 1 ∧ Cg P ((R : Int) ^ M) (-1) := by
  obtain ⟨h1, h2⟩ := gr_poly h
  obtain ⟨h3, h4⟩ := h2 k hk
  obtain ⟨_, _, P, M, R, e1, e2, e3, hlt, hok, hrt⟩ := hR k h3
  rw [e1, e2] at h4
  obtain ⟨ys, e4, la, ha⟩ := polyB_yes h4
  have b1 := modB_yes hok.md
  have b2 := hok.sz
  have hP : 2 ≤ P ∧ P ≤ 268435456 := by omega
  have hS : Sz4 M := by omega
  obtain ⟨r1, r2⟩ := (hrt (ring_pr hok)).cg hP.1
  exact ⟨P, M, R, ys, e1, e2, e3, e4, hlt, hP, hS, la, ha, r1, r2⟩
theorem bkZ_toZ (P M R : Nat) (ys : List Nat) : bkZ M P R (toZ ys) = toZ (invL P M R ys) := by
  unfold bkZ
  rw [toZ_back]
  simp
theorem sz4_bd {M : Nat} (h : Sz4 M) : 2 ≤ M ∧ M ≤ 16 := by
  unfold Sz4 at h
  omega
theorem backF_len (N : Int) (a : Bool) (ps : List Int) (xss : List (List Int)) (Rf : Nat → Int) (hR : ∀ k, RingOk (ps.getD k 0) N → ((0 ≤ Rf k ∧ Rf k < ps.getD k 0) ∧ (∀ W, PrsW W → TabW W → Calls Tryz.prog 163 #[.int .i64 (ps.getD k 0), .int .i64 N] W fun e w' => e = .returned (.tuple #[.agg #[.int .i64 (ps.getD k 0), .int .i64 N, .int .i64 (Rf k)], .bool true]) ∧ Old W w')) ∧ (∀ W, Calls Tryz.prog 185 #[.int .i64 (ps.getD k 0), .int .i64 N] W fun e w' => e = .returned (.tuple #[.agg #[.int .i64 (ps.getD k 0), .int .i64 N, .int .i64 (Rf k)], .bool true]) ∧ Old W w') ∧ ∃ P M R : Nat, ps.getD k 0 = P ∧ N = M ∧ Rf k = R ∧ R < P ∧ RingOk P M ∧ (F1.Pr P → Rt P (2 * M) R)) (h : grB N ps xss = true) (k : Nat) (hk : k < ps.length) : (((backF N a) (ps.getD k 0) (Rf k) (xss.getD k [])).length : Int) = N := by
  obtain ⟨P, M, R, ys, e1, e2, e3, e4, hlt, hP2, hS, la, ha, r1, r2⟩ := row_open hR h k hk
  rw [e1, e3, e4, e2]
  unfold backF
  split
  all_goals first | (rw [toZ_len, la]) | (rw [bkZ_toZ, toZ_len, invL_len]; omega) | (rw [bkZ_toZ, toZ_len, invL_len])
theorem spec_l5Back_any (N : Int) (ps : List Int) (a : Bool) (xss : List (List Int)) (Rf : Nat → Int) (hR : ∀ k, RingOk (ps.getD k 0) N → ((0 ≤ Rf k ∧ Rf k < ps.getD k 0) ∧ (∀ W, PrsW W → TabW W → Calls Tryz.prog 163 #[.int .i64 (ps.getD k 0), .int .i64 N] W fun e w' => e = .returned (.tuple #[.agg #[.int .i64 (ps.getD k 0), .int .i64 N, .int .i64 (Rf k)], .bool true]) ∧ Old W w')) ∧ (∀ W, Calls Tryz.prog 185 #[.int .i64 (ps.getD k 0), .int .i64 N] W fun e w' => e = .returned (.tuple #[.agg #[.int .i64 (ps.getD k 0), .int .i64 N, .int .i64 (Rf k)], .bool true]) ∧ Old W w') ∧ ∃ P M R : Nat, ps.getD k 0 = P ∧ N = M ∧ Rf k = R ∧ R < P ∧ RingOk P M ∧ (F1.Pr P → Rt P (2 * M) R)) (v u1 : Value) (w : World) (hv : Row w v ps) (h1 : RowS w u1 xss) (h : grB N ps xss = true) :
    Calls Tryz.prog 85 #[.agg #[.int .i64 N, v], .agg #[.bool a, u1]] w fun e w' => ∃ v', e = .returned v' ∧ Old w w' ∧ OwS (mkL (backF N a) ps Rf xss) w' w.heap.size w'.heap.size v' := by
  obtain ⟨t1, t2, t3, t4, t5, t6⟩ := two_parts (two_of.2 ⟨h, h, (rfl : a = a)⟩)
  obtain ⟨p1, p2⟩ := gr_poly h
  have cR : ∀ k, k < ps.length → ∀ W, Calls Tryz.prog 185 #[.int .i64 (ps.getD k 0), .int .i64 N] W fun e w' => e = .returned (.tuple #[.agg #[.int .i64 (ps.getD k 0), .int .i64 N, .int .i64 (Rf k)], .bool true]) ∧ Old W w' := fun k hk => (hR k (p2 k hk).1).2.1
  cases a
  · refine spec_l5Back_c N ps xss _ Rf v u1 w hv h1 t2 t3 (mkL_len _ _ _ _) cR (fun k hk => ?_)
    have q := (t6 k hk).1
    rw [mkL_get _ _ _ _ _ hk]
    refine ⟨?_, by omega, by omega⟩
    unfold backF
    simp
  · refine spec_l5Back_t N ps xss _ Rf v u1 w hv h1 t2 t3 (mkL_len _ _ _ _) cR (fun k hk W u hu => ?_)
    obtain ⟨P, M, R, ys, e1, e2, e3, e4, hlt, hP2, hS, la, ha, r1, r2⟩ := row_open hR h k hk
    rw [mkL_get _ _ _ _ _ hk]
    rw [e4] at hu
    rw [e1, e3, e4, e2, show backF M true P R (toZ ys) = toZ (invL P M R ys) from bkZ_toZ P M R ys]
    exact spec_l3Inverse P M R ys u W hu hP2 hS hlt la ha (invM_ltI _ _ (by omega)) (invM_ltI _ _ (by omega))
theorem impl_BackRows (N : Int) (ps : List Int) (a : Bool) (xss : List (List Int)) (Rf : Nat → Int) (hR : ∀ k, RingOk (ps.getD k 0) N → ((0 ≤ Rf k ∧ Rf k < ps.getD k 0) ∧ (∀ W, PrsW W → TabW W → Calls Tryz.prog 163 #[.int .i64 (ps.getD k 0), .int .i64 N] W fun e w' => e = .returned (.tuple #[.agg #[.int .i64 (ps.getD k 0), .int .i64 N, .int .i64 (Rf k)], .bool true]) ∧ Old W w')) ∧ (∀ W, Calls Tryz.prog 185 #[.int .i64 (ps.getD k 0), .int .i64 N] W fun e w' => e = .returned (.tuple #[.agg #[.int .i64 (ps.getD k 0), .int .i64 N, .int .i64 (Rf k)], .bool true]) ∧ Old W w') ∧ ∃ P M R : Nat, ps.getD k 0 = P ∧ N = M ∧ Rf k = R ∧ R < P ∧ RingOk P M ∧ (F1.Pr P → Rt P (2 * M) R)) (v u1 : Value) (w : World) (lo1 hi1 : Nat) (hP : PrsW w) (hT : TabW w) (hv : Row w v ps) (hf : Fit v) (h1 : OwS xss w lo1 hi1 u1) (hlp : ps.length ≤ 1048576) (hl1 : xss.length ≤ 1048576) (hr1 : ∀ r ∈ xss, r.length ≤ 1048576) :
    Calls Tryz.prog 87 #[.agg #[.int .i64 N, v], .agg #[.bool a, u1]] w fun e w' => (grB N ps xss = true → Rs w false (mkL (backF N a) ps Rf xss) true e w') ∧ (grB N ps xss = false → Rs w false [] false e w') := by
  obtain ⟨us1, cs1, at1⟩ := h1.ats ps
  obtain ⟨a0, cap0, ev⟩ := hv.slice
  obtain ⟨a1, cap1, e1⟩ := h1.slice
  subst ev e1
  have c1 := fun W W' (q : Old w W) (p1 : PrsW W') (p2 : TabW W') (q' : Old W W') => impl_ringRows N a ps xss Rf us1 cs1 (.slice a0 ps.length cap0) a1 cap1 W' p1 p2 (hv.old (Old.trans q q')) hf hlp hl1 hr1 (fun h => (at1 h).old (Old.trans q q')) (fun k hk => (hR k hk).1)
  cases hyes : grB N ps xss
  · refine (impl_BackRows_of N ps xss a a0 a1 cap0 cap1 w false [] false (fun W q => eachRow_back_no N ps a false xss Rf us1 _ a1 cap1 W (hP.old q) (hT.old q) (hv.old q) (fun W' p1 p2 q' => c1 W W' q p1 p2 q') hyes)).mono (fun e w' h => ⟨(fun h' => by cases h'), fun _ => h⟩)
  · obtain ⟨t1, t2, t3, t4, t5, t6⟩ := two_parts (two_of.2 ⟨hyes, hyes, (rfl : a = a)⟩)
    obtain ⟨Nn, hNn⟩ : ∃ Nn : Nat, N = Nn := ⟨N.toNat, by omega⟩
    subst hNn
    refine (impl_BackRows_of Nn ps xss a a0 a1 cap0 cap1 w false (mkL (backF Nn a) ps Rf xss) true (fun W q => eachRow_back_yes Nn ps a false xss Rf us1 _ a1 cap1 W (hP.old q) (hT.old q) (hv.old q) (fun W' p1 p2 q' => c1 W W' q p1 p2 q') hyes (mkL (backF Nn a) ps Rf xss) (mkL_len _ _ _ _) t2.2 (fun k hk => ?_))).mono (fun e w' h => ⟨fun _ => h, (fun h' => by cases h')⟩)
    obtain ⟨s1, s2, s3, s4⟩ := t6 k hk
    obtain ⟨b1, _, _, _, rr1⟩ := at1 (by omega)
    have row1 := (rr1 k (by omega)).2.2
    have l1 : (xss.getD k []).length = Nn := by omega
    rw [l1] at row1
    have row2 := row1.recap (c' := Nn) (fun h => by rw [h] at l1; simp at l1; omega)
    have hlen := backF_len Nn a ps xss Rf hR hyes k hk
    rw [mkL_get _ _ _ _ _ hk]
    refine ⟨by omega, fun W' q' => ?_⟩
    obtain ⟨P, M, R, ys, e1, e2, e3, e4, hlt, hP2, hS, la, ha, r1, r2⟩ := row_open hR hyes k hk
    obtain rfl : Nn = M := by omega
    rw [e1, e3, e4] at hlen ⊢
    rw [e4] at row2 l1
    have hN2 := sz4_bd hS
    cases a
    · refine impl_madeBack_c P R Nn _ (us1 k) W' (fun W'' q'' => ?_)
      exact impl_copied P R false Nn (toZ ys) (us1 k) W'' (row2.old (Old.trans q (Old.trans q' q''))) hN2 l1
    · refine impl_madeBack_t P R Nn _ (us1 k) W' (fun W'' q'' => ?_) (by omega) (by omega)
      rw [show backF Nn true P R (toZ ys) = toZ (invL P Nn R ys) from bkZ_toZ P Nn R ys, ← inv_same P Nn R ys hS la hP2.1 ha r1 r2]
      exact impl_inverse0 P Nn R ys _ W'' (hT.old (Old.trans q (Old.trans q' q''))) (row2.old (Old.trans q (Old.trans q' q''))) hP2 hS hlt la ha
end Go.Proofs.YtfgooclnohnkmaaGreatDoor
