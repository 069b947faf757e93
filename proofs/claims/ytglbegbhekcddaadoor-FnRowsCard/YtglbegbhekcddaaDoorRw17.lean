/- Proved: several texts in one: what each proves is said ahead of it. -/
import Derived.Test.YtglbegbhekcddaaDoorRw15
import Derived.Test.YtglbegbhekcddaaDoorRw16
import Derived.Deep.AppendLies
import Derived.Maps.AppendAt
import Derived.Test.YtglbegbhekcddaaDoorRw05
import Derived.Deep.RegionHeld3
import Derived.Test.YtglbegbhekcddaaDoorRw12
/- Proved: rows added, as the model makes them. -/
namespace Go.Proofs.YtglbegbhekcddaaDoor
open Go.ChangeShapes Go.WideShapes Go.ChangeAt Go.RowKit
open M1
set_option linter.unusedVariables false
set_option linter.unusedSimpArgs false
theorem one_sl (a : Option Addr) (n c : Nat) : ∀ u ∈ [Value.slice a n c], u.oneCell' = true := by simp [Value.oneCell']
end Go.Proofs.YtglbegbhekcddaaDoor
/- Proved: the opposites of rows, as the model makes them. -/
namespace Go.Proofs.YtglbegbhekcddaaDoor
open Go.ChangeShapes Go.WideShapes Go.ChangeAt Go.RowKit
open M1
set_option linter.unusedVariables false
set_option linter.unusedSimpArgs false
def subF (p x y : Int) : Int := (x - y) % p
end Go.Proofs.YtglbegbhekcddaaDoor
/- Proved: the model's inverse transform: the sum over the points, times the inverse of N. -/
namespace Go.Proofs.YtglbegbhekcddaaDoor
open Go.ChangeShapes Go.WideShapes Go.ChangeAt Go.RowKit
open M1
set_option linter.unusedVariables false
set_option linter.unusedSimpArgs false
def invS (P B : Nat) (ps xs : List Nat) (i : Nat) : Nat → Nat
  | 0 => 0
  | c + 1 => (invS P B ps xs i c + xs.getD c 0 * (B ^ (ps.getD c 0 * i) % P)) % P
theorem invS_lt (P B : Nat) (ps xs : List Nat) (i : Nat) (hP : 0 < P) : ∀ c, invS P B ps xs i c < P
  | 0 => hP
  | c + 1 => Nat.mod_lt _ hP
def invL (P N R : Nat) (xs : List Nat) : List Nat := (List.range N).map (fun i => invS P (invM R P) (ptsN N) xs i N * invM (N % P) P % P)
theorem invL_len (P N R : Nat) (xs : List Nat) : (invL P N R xs).length = N := by simp [invL]
theorem invL_get (P N R : Nat) (xs : List Nat) (k : Nat) (h : k < N) : (invL P N R xs).getD k 0 = invS P (invM R P) (ptsN N) xs k N * invM (N % P) P % P := by simp [invL, List.getD, h]
end Go.Proofs.YtglbegbhekcddaaDoor
/- Proved: the program's two rows, number by number. -/
namespace Go.Proofs.YtglbegbhekcddaaDoor
open Go.ChangeShapes Go.WideShapes Go.ChangeAt Go.RowKit
set_option linter.unusedVariables false
set_option linter.unusedSimpArgs false
set_option maxRecDepth 100000 in
set_option maxHeartbeats 4000000 in
theorem impl_less (p r p' r' N' : Int) (n n' : Bool) (Nn : Nat) (xs ys : List Int) (ua ub : Option Addr) (w : World) (hv : Row w (.slice ua Nn Nn) xs) (hu : Row w (.slice ub Nn Nn) ys) (hp : 2 ≤ p ∧ p ≤ 268435456) (hN : 2 ≤ Nn ∧ Nn ≤ 16) (la : xs.length = Nn) (lb : ys.length = Nn) (ha : ∀ i, i < Nn → (0 ≤ xs.getD i 0 ∧ xs.getD i 0 < p) ∧ (0 ≤ ys.getD i 0 ∧ ys.getD i 0 < p)) :
    Calls Tryd.prog 20 #[.agg #[.int .i64 p, .int .i64 Nn, .int .i64 r, .bool n, .slice ua Nn Nn], .agg #[.int .i64 p', .int .i64 N', .int .i64 r', .bool n', .slice ub Nn Nn]] w fun e w' => ∃ g, e = .returned (.slice (some ⟨g, 0, none⟩) Nn Nn) ∧ Old w w' ∧ Own w' w.heap.size (.slice (some ⟨g, 0, none⟩) Nn Nn) (pairR subF p xs ys) := by
  obtain ⟨i0, hi, hz0, hz1, hz2⟩ := info_parts Tryd.infoInt
  rcases hv with ⟨_, _, e, e'⟩ | ⟨b1, o1, cap1, e, hb1, h01, hc1⟩
  · subst e'
    simp at la
    omega
  rcases hu with ⟨_, _, e_, e'⟩ | ⟨b2, o2, cap2, e_, hb2, h02, hc2⟩
  · subst e'
    simp at lb
    omega
  simp only [Value.slice.injEq] at e e_
  obtain ⟨rfl, e7, e8⟩ := e
  obtain ⟨rfl, e9, e10⟩ := e_
  have HC1 : Hid (∀ j, j < Nn → w.cell? ⟨b1, o1 + j, none⟩ = some (.int .i64 (xs.getD j 0))) := fun j hj => hc1 j (by omega)
  have HC2 : Hid (∀ j, j < Nn → w.cell? ⟨b2, o2 + j, none⟩ = some (.int .i64 (ys.getD j 0))) := fun j hj => hc2 j (by omega)
  have HE : Hid (∀ k, k < Nn → (pairR subF p xs ys).getD k 0 = subF p (xs.getD k 0) (ys.getD k 0)) := fun k hk => pairR_get _ _ _ _ _ (by omega)
  have hlen : (pairR subF p xs ys).length = Nn := by rw [pairR_len, la]
  have HA : Hid (∀ i, i < Nn → (0 ≤ xs.getD i 0 ∧ xs.getD i 0 < p) ∧ (0 ≤ ys.getD i 0 ∧ ys.getD i 0 < p)) := ha
  generalize pairR subF p xs ys = zs at *
  clear hc1 hc2 la lb ha e7 e8 e9 e10 h01 h02
  have HB : Hid (∀ W', Old ((w.alloc (.cells #[.int .i64 p, .int .i64 Nn, .int .i64 r, .bool n, .slice (some ⟨b1, o1, none⟩) Nn Nn] 42)).alloc (.cells #[.int .i64 p', .int .i64 N', .int .i64 r', .bool n', .slice (some ⟨b2, o2, none⟩) Nn Nn] 42)) W' → (W'.cell? ⟨w.heap.size, 0, none⟩ = some (.int .i64 p) ∧ W'.cell? ⟨w.heap.size, 1, none⟩ = some (.int .i64 Nn) ∧ W'.cell? ⟨w.heap.size, 4, none⟩ = some (.slice (some ⟨b1, o1, none⟩) Nn Nn) ∧ W'.cell? ⟨w.heap.size + 1, 4, none⟩ = some (.slice (some ⟨b2, o2, none⟩) Nn Nn))) := fun W' g =>
    ⟨(g.cell (p := ⟨w.heap.size, 0, none⟩) (by simp; omega)).trans (by simp [cell_at, cell_lt]), (g.cell (p := ⟨w.heap.size, 1, none⟩) (by simp; omega)).trans (by simp [cell_at, cell_lt]), (g.cell (p := ⟨w.heap.size, 4, none⟩) (by simp; omega)).trans (by simp [cell_at, cell_lt]), (g.cell (p := ⟨w.heap.size + 1, 4, none⟩) (by simp)).trans (by simp [cell_at, cell_lt])⟩
  have HSZ : Hid (((w.alloc (.cells #[.int .i64 p, .int .i64 Nn, .int .i64 r, .bool n, .slice (some ⟨b1, o1, none⟩) Nn Nn] 42)).alloc (.cells #[.int .i64 p', .int .i64 N', .int .i64 r', .bool n', .slice (some ⟨b2, o2, none⟩) Nn Nn] 42)).heap.size = w.heap.size + 1 + 1) := by show _ = _; simp
  have hpn : ¬ p = 0 := by omega
  go_enter Tryd.func20, Tryd.ntmps20
  go_wp2_with (at_make; refine wpList_make_full _ rfl _ _ 23 rfl (w.heap.size + 1 + 1) 3 i0 (.int .i64 0) 1 Tryd.underlying23 hi hz0 hz1 .i64 .i64 _ _ Nn rfl rfl rfl rfl (by rw [hz2]; omega) (by unfold maxLen; omega) (by simp) ?_; intro w1 hown hgrow; have z1 := (HB.out w1 (Old.by_ (Old.refl _) hgrow (fun b hb => by cases hb))).2.1)
  have HO : Hid (OwnI w1 (w.heap.size + 1 + 1) (w.heap.size + 1 + 1) Nn (List.replicate Nn 0)) := by
    rw [made_ints, HSZ.out] at hown
    exact hown
  have HG : Hid (Old ((w.alloc (.cells #[.int .i64 p, .int .i64 Nn, .int .i64 r, .bool n, .slice (some ⟨b1, o1, none⟩) Nn Nn] 42)).alloc (.cells #[.int .i64 p', .int .i64 N', .int .i64 r', .bool n', .slice (some ⟨b2, o2, none⟩) Nn Nn] 42)) w1) := Old.by_ (Old.refl _) hgrow (fun b hb => by cases hb)
  clear hown hgrow z1
  go_loopw [14] (fun i W => ∃ k : Nat, k ≤ Nn ∧ i = .int .i64 k ∧ Hid (OwnI W (w.heap.size + 1 + 1) (w.heap.size + 1 + 1) Nn (fillN zs k)) ∧ Hid (Old ((w.alloc (.cells #[.int .i64 p, .int .i64 Nn, .int .i64 r, .bool n, .slice (some ⟨b1, o1, none⟩) Nn Nn] 42)).alloc (.cells #[.int .i64 p', .int .i64 N', .int .i64 r', .bool n', .slice (some ⟨b2, o2, none⟩) Nn Nn] 42)) W)) (fun i _ => Nn - (intOf i).toNat)
  case atStart => exact ⟨0, by omega, rfl, (by show OwnI _ _ _ _ _; rw [fillN_zero, hlen]; exact HO.out), HG⟩
  case round =>
    obtain ⟨k, hk, rfl, HO1, HG2⟩ := hrel
    clear HO HG
    have HG1 : Hid (Old w wr) := Old.trans (((Old.refl w).alloc _).alloc _) HG2.out
    by_cases hlt : k < Nn
    · have d1 : decide ((k : Int) < (Nn : Int)) = true := by simp; omega
      have i1 : (k : Int) < (Nn : Int) := by omega
      have c1 : wr.cell? ⟨b1, o1 + k, none⟩ = some (.int .i64 (xs.getD k 0)) := (HG1.out.cell (p := ⟨b1, o1 + k, none⟩) hb1).trans (HC1.out k hlt)
      have c2 : wr.cell? ⟨b2, o2 + k, none⟩ = some (.int .i64 (ys.getD k 0)) := (HG1.out.cell (p := ⟨b2, o2 + k, none⟩) hb2).trans (HC2.out k hlt)
      obtain ⟨z0, z1, z4, z5⟩ := HB.out wr HG2.out
      have c3 := HO1.out.get (fillN_len zs k (by omega) |>.trans hlen) k hlt
      have c4 := HO1.out.free k
      have HX : Hid (zs.getD k 0 = subF p (xs.getD k 0) (ys.getD k 0)) := HE.out k hlt
      obtain ⟨⟨bx1, bx2⟩, ⟨by1, by2⟩⟩ := HA.out k hlt
      generalize xs.getD k 0 = x at *
      generalize ys.getD k 0 = y at *
      have HP : Hid (OwnI (wr.setCell ⟨w.heap.size + 1 + 1, k, none⟩ (.int .i64 (subF p x y))) (w.heap.size + 1 + 1) (w.heap.size + 1 + 1) Nn (fillN zs (k + 1))) := by
        have := HO1.out.put k (subF p x y)
        rw [← HX.out, fillN_set zs k (by omega)] at this
        rw [← HX.out]
        exact this
      obtain ⟨q, hq⟩ : ∃ q, (x - y) % p = q := ⟨_, rfl⟩
      have cr := fun W => impl_residueOf (x - y) p W (by omega) (by omega)
      rw [hq] at cr
      have ew : IntKind.i64.wrap (x - y) = x - y := by rw [IntKind.wrap_i64]; omega
      have e5 : subF p x y = q := hq
      rw [e5] at HX
      have hqb : 0 ≤ q ∧ q < 268435456 := by
        have g1 := Int.emod_nonneg (x - y) (show p ≠ 0 by omega)
        have g2 := Int.emod_lt_of_pos (x - y) (show 0 < p by omega)
        omega
      clear HP hq e5
      have hbk1 : b1 < wr.heap.size := by have := HG1.out.size; omega
      have hbk2 : b2 < wr.heap.size := by have := HG1.out.size; omega
      have hwz : w.heap.size + 1 + 1 ≤ wr.heap.size := by have := HG2.out.size; have := HSZ.out; omega
      have HAS : Hid (∀ W', Old wr W' → (W'.cell? ⟨w.heap.size, 0, none⟩ = some (.int .i64 p) ∧ W'.cell? ⟨w.heap.size, 4, none⟩ = some (.slice (some ⟨b1, o1, none⟩) Nn Nn) ∧ W'.cell? ⟨w.heap.size + 1, 4, none⟩ = some (.slice (some ⟨b2, o2, none⟩) Nn Nn) ∧ W'.cell? ⟨b1, o1 + k, none⟩ = some (.int .i64 x) ∧ W'.cell? ⟨b2, o2 + k, none⟩ = some (.int .i64 y))) := fun W' g => by
        obtain ⟨s0, s1, s4, s5⟩ := HB.out W' (Old.trans HG2.out g)
        exact ⟨s0, s4, s5, (g.cell (p := ⟨b1, o1 + k, none⟩) hbk1).trans c1, (g.cell (p := ⟨b2, o2 + k, none⟩) hbk2).trans c2⟩
      have HAS2 : Hid (∀ W' z, Old wr W' → ((fun W' => W'.cell? ⟨w.heap.size, 0, none⟩ = some (.int .i64 p) ∧ W'.cell? ⟨w.heap.size, 4, none⟩ = some (.slice (some ⟨b1, o1, none⟩) Nn Nn) ∧ W'.cell? ⟨w.heap.size + 1, 4, none⟩ = some (.slice (some ⟨b2, o2, none⟩) Nn Nn) ∧ W'.cell? ⟨b1, o1 + k, none⟩ = some (.int .i64 x) ∧ W'.cell? ⟨b2, o2 + k, none⟩ = some (.int .i64 y)) (W'.setCell ⟨w.heap.size + 1 + 1, k, none⟩ z))) := fun W' z g => by
        obtain ⟨s0, s4, s5, s6, s7⟩ := HAS.out W' g
        have key : ∀ (bb j : Nat) (v : Value), bb ≠ w.heap.size + 1 + 1 → W'.cell? ⟨bb, j, none⟩ = some v → (W'.setCell ⟨w.heap.size + 1 + 1, k, none⟩ z).cell? ⟨bb, j, none⟩ = some v := fun bb j v hb hz => (cellO _ _ _ _ hb).trans hz
        exact ⟨key _ _ _ (by omega) s0, key _ _ _ (by omega) s4, key _ _ _ (by omega) s5, key _ _ _ (by omega) s6, key _ _ _ (by omega) s7⟩
      have HLK : Hid (zs.length = Nn) := hlen
      clear z0 z1 z4 z5 c1 c2 c3 c4
      obtain ⟨z0, z4, z5, c1, c2⟩ := HAS.out wr (Old.refl _)
      go_wp2_with fail
      go_region_held3 (fun W' => W'.cell? ⟨w.heap.size, 0, none⟩ = some (.int .i64 p) ∧ W'.cell? ⟨w.heap.size, 4, none⟩ = some (.slice (some ⟨b1, o1, none⟩) Nn Nn) ∧ W'.cell? ⟨w.heap.size + 1, 4, none⟩ = some (.slice (some ⟨b2, o2, none⟩) Nn Nn) ∧ W'.cell? ⟨b1, o1 + k, none⟩ = some (.int .i64 x) ∧ W'.cell? ⟨b2, o2 + k, none⟩ = some (.int .i64 y)) (first | with_reducible exact HAS.out _ G5.out | with_reducible exact HAS.out _ (Below.drew (Old.refl wr)) | with_reducible exact HAS2.out _ _ G5.out | with_reducible exact HAS.out _ (Old.refl wr)) (first
        | (go_at_call 37; refine (cr _).mono ?_; rintro e w5 ⟨rfl, hw5⟩; have G5 : Hid (Old wr w5) := (by rw [hw5]; exact Below.drew (Old.refl wr)); clear hw5; have c3 := (HO1.out.old G5.out).get (fillN_len zs k (by omega) |>.trans HLK.out) k hlt; have c4 := (HO1.out.old G5.out).free k; generalize (fillN zs k).getD k 0 = oldv at c3)
        | fail)
      all_goals
        have HP : Hid (OwnI (w5.setCell ⟨w.heap.size + 1 + 1, k, none⟩ (.int .i64 q)) (w.heap.size + 1 + 1) (w.heap.size + 1 + 1) Nn (fillN zs (k + 1))) := by
          have := (HO1.out.old G5.out).put k q
          rw [← HX.out, fillN_set zs k (by omega)] at this
          rw [← HX.out]
          exact this
        have HN2 : Hid (Old ((w.alloc (.cells #[.int .i64 p, .int .i64 Nn, .int .i64 r, .bool n, .slice (some ⟨b1, o1, none⟩) Nn Nn] 42)).alloc (.cells #[.int .i64 p', .int .i64 N', .int .i64 r', .bool n', .slice (some ⟨b2, o2, none⟩) Nn Nn] 42)) (w5.setCell ⟨w.heap.size + 1 + 1, k, none⟩ (.int .i64 q))) := (Old.trans HG2.out G5.out).own (by have := HSZ.out; simp; try omega) _
        go_wp2_with fail
        exact ⟨⟨k + 1, by omega, by go_num, HP, HN2⟩, by simp [intOf]; omega⟩
    · have d1 : decide ((k : Int) < (Nn : Int)) = false := by simp; omega
      obtain rfl : k = Nn := by omega
      have HF : Hid (Own wr (w.heap.size + 1 + 1) (.slice (some ⟨w.heap.size + 1 + 1, 0, none⟩) k k) zs) := by
        have := HO1.out.own ((fillN_len zs k (by omega)).trans hlen)
        rw [show fillN zs k = zs by rw [← hlen]; exact fillN_all zs] at this
        exact this
      go_wp2_with fail
      go_ret
      exact ⟨_, rfl, HG1.out, HF.out.low (by omega)⟩
end Go.Proofs.YtglbegbhekcddaaDoor
