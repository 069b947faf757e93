/- Proved: the program's two rows, number by number. -/
import Derived.Test.YtglbegbhekcddaaDoorRw15
import Derived.Test.YtglbegbhekcddaaDoorRw16
namespace Go.Proofs.YtglbegbhekcddaaDoor
open Go.ChangeShapes Go.WideShapes Go.ChangeAt Go.RowKit
set_option linter.unusedVariables false
set_option linter.unusedSimpArgs false
set_option maxRecDepth 100000 in
set_option maxHeartbeats 4000000 in
theorem impl_plus (p r p' r' N' : Int) (n n' : Bool) (Nn : Nat) (xs ys : List Int) (ua ub : Option Addr) (w : World) (hv : Row w (.slice ua Nn Nn) xs) (hu : Row w (.slice ub Nn Nn) ys) (hp : 2 ≤ p ∧ p ≤ 268435456) (hN : 2 ≤ Nn ∧ Nn ≤ 16) (la : xs.length = Nn) (lb : ys.length = Nn) (ha : ∀ i, i < Nn → (0 ≤ xs.getD i 0 ∧ xs.getD i 0 < p) ∧ (0 ≤ ys.getD i 0 ∧ ys.getD i 0 < p)) :
    Calls Tryd.prog 19 #[.agg #[.int .i64 p, .int .i64 Nn, .int .i64 r, .bool n, .slice ua Nn Nn], .agg #[.int .i64 p', .int .i64 N', .int .i64 r', .bool n', .slice ub Nn Nn]] w fun e w' => ∃ g, e = .returned (.slice (some ⟨g, 0, none⟩) Nn Nn) ∧ Old w w' ∧ Own w' w.heap.size (.slice (some ⟨g, 0, none⟩) Nn Nn) (pairR addF p xs ys) := by
  obtain ⟨i0, hi, hz0, hz1, hz2⟩ := info_parts Tryd.infoInt
  rcases hv with ⟨_, _, e, e'⟩ | ⟨b1, o1, cap1, e, hb1, h01, hc1⟩
  · subst e'
    simp at la
    omega
  rcases hu with ⟨_, _, e_, e'⟩ | ⟨b2, o2, cap2, e_, hb2, h02, hc2⟩
  · subst e'
    simp at lb
    omega
  simp only [Value.slice.injEq] at e e_
  obtain ⟨rfl, e7, e8⟩ := e
  obtain ⟨rfl, e9, e10⟩ := e_
  have HC1 : Hid (∀ j, j < Nn → w.cell? ⟨b1, o1 + j, none⟩ = some (.int .i64 (xs.getD j 0))) := fun j hj => hc1 j (by omega)
  have HC2 : Hid (∀ j, j < Nn → w.cell? ⟨b2, o2 + j, none⟩ = some (.int .i64 (ys.getD j 0))) := fun j hj => hc2 j (by omega)
  have HE : Hid (∀ k, k < Nn → (pairR addF p xs ys).getD k 0 = addF p (xs.getD k 0) (ys.getD k 0)) := fun k hk => pairR_get _ _ _ _ _ (by omega)
  have hlen : (pairR addF p xs ys).length = Nn := by rw [pairR_len, la]
  have HA : Hid (∀ i, i < Nn → (0 ≤ xs.getD i 0 ∧ xs.getD i 0 < p) ∧ (0 ≤ ys.getD i 0 ∧ ys.getD i 0 < p)) := ha
  generalize pairR addF p xs ys = zs at *
  clear hc1 hc2 la lb ha e7 e8 e9 e10 h01 h02
  have HB : Hid (∀ W', Old ((w.alloc (.cells #[.int .i64 p, .int .i64 Nn, .int .i64 r, .bool n, .slice (some ⟨b1, o1, none⟩) Nn Nn] 42)).alloc (.cells #[.int .i64 p', .int .i64 N', .int .i64 r', .bool n', .slice (some ⟨b2, o2, none⟩) Nn Nn] 42)) W' → (W'.cell? ⟨w.heap.size, 0, none⟩ = some (.int .i64 p) ∧ W'.cell? ⟨w.heap.size, 1, none⟩ = some (.int .i64 Nn) ∧ W'.cell? ⟨w.heap.size, 4, none⟩ = some (.slice (some ⟨b1, o1, none⟩) Nn Nn) ∧ W'.cell? ⟨w.heap.size + 1, 4, none⟩ = some (.slice (some ⟨b2, o2, none⟩) Nn Nn))) := fun W' g =>
    ⟨(g.cell (p := ⟨w.heap.size, 0, none⟩) (by simp; omega)).trans (by simp [cell_at, cell_lt]), (g.cell (p := ⟨w.heap.size, 1, none⟩) (by simp; omega)).trans (by simp [cell_at, cell_lt]), (g.cell (p := ⟨w.heap.size, 4, none⟩) (by simp; omega)).trans (by simp [cell_at, cell_lt]), (g.cell (p := ⟨w.heap.size + 1, 4, none⟩) (by simp)).trans (by simp [cell_at, cell_lt])⟩
  have HSZ : Hid (((w.alloc (.cells #[.int .i64 p, .int .i64 Nn, .int .i64 r, .bool n, .slice (some ⟨b1, o1, none⟩) Nn Nn] 42)).alloc (.cells #[.int .i64 p', .int .i64 N', .int .i64 r', .bool n', .slice (some ⟨b2, o2, none⟩) Nn Nn] 42)).heap.size = w.heap.size + 1 + 1) := by show _ = _; simp
  have hpn : ¬ p = 0 := by omega
  go_enter Tryd.func19, Tryd.ntmps19
  go_wp2_with (at_make; refine wpList_make_full _ rfl _ _ 23 rfl (w.heap.size + 1 + 1) 3 i0 (.int .i64 0) 1 Tryd.underlying23 hi hz0 hz1 .i64 .i64 _ _ Nn rfl rfl rfl rfl (by rw [hz2]; omega) (by unfold maxLen; omega) (by simp) ?_; intro w1 hown hgrow; have z1 := (HB.out w1 (Old.by_ (Old.refl _) hgrow (fun b hb => by cases hb))).2.1)
  have HO : Hid (OwnI w1 (w.heap.size + 1 + 1) (w.heap.size + 1 + 1) Nn (List.replicate Nn 0)) := by
    rw [made_ints, HSZ.out] at hown
    exact hown
  have HG : Hid (Old ((w.alloc (.cells #[.int .i64 p, .int .i64 Nn, .int .i64 r, .bool n, .slice (some ⟨b1, o1, none⟩) Nn Nn] 42)).alloc (.cells #[.int .i64 p', .int .i64 N', .int .i64 r', .bool n', .slice (some ⟨b2, o2, none⟩) Nn Nn] 42)) w1) := Old.by_ (Old.refl _) hgrow (fun b hb => by cases hb)
  clear hown hgrow z1
  go_loopw [14] (fun i W => ∃ k : Nat, k ≤ Nn ∧ i = .int .i64 k ∧ Hid (OwnI W (w.heap.size + 1 + 1) (w.heap.size + 1 + 1) Nn (fillN zs k)) ∧ Hid (Old ((w.alloc (.cells #[.int .i64 p, .int .i64 Nn, .int .i64 r, .bool n, .slice (some ⟨b1, o1, none⟩) Nn Nn] 42)).alloc (.cells #[.int .i64 p', .int .i64 N', .int .i64 r', .bool n', .slice (some ⟨b2, o2, none⟩) Nn Nn] 42)) W)) (fun i _ => Nn - (intOf i).toNat)
  case atStart => exact ⟨0, by omega, rfl, (by show OwnI _ _ _ _ _; rw [fillN_zero, hlen]; exact HO.out), HG⟩
  case round =>
    obtain ⟨k, hk, rfl, HO1, HG2⟩ := hrel
    clear HO HG
    have HG1 : Hid (Old w wr) := Old.trans (((Old.refl w).alloc _).alloc _) HG2.out
    by_cases hlt : k < Nn
    · have d1 : decide ((k : Int) < (Nn : Int)) = true := by simp; omega
      have i1 : (k : Int) < (Nn : Int) := by omega
      have c1 : wr.cell? ⟨b1, o1 + k, none⟩ = some (.int .i64 (xs.getD k 0)) := (HG1.out.cell (p := ⟨b1, o1 + k, none⟩) hb1).trans (HC1.out k hlt)
      have c2 : wr.cell? ⟨b2, o2 + k, none⟩ = some (.int .i64 (ys.getD k 0)) := (HG1.out.cell (p := ⟨b2, o2 + k, none⟩) hb2).trans (HC2.out k hlt)
      obtain ⟨z0, z1, z4, z5⟩ := HB.out wr HG2.out
      have c3 := HO1.out.get (fillN_len zs k (by omega) |>.trans hlen) k hlt
      have c4 := HO1.out.free k
      have HX : Hid (zs.getD k 0 = addF p (xs.getD k 0) (ys.getD k 0)) := HE.out k hlt
      obtain ⟨⟨bx1, bx2⟩, ⟨by1, by2⟩⟩ := HA.out k hlt
      generalize xs.getD k 0 = x at *
      generalize ys.getD k 0 = y at *
      generalize (fillN zs k).getD k 0 = oldv at *
      have HP : Hid (OwnI (wr.setCell ⟨w.heap.size + 1 + 1, k, none⟩ (.int .i64 (addF p x y))) (w.heap.size + 1 + 1) (w.heap.size + 1 + 1) Nn (fillN zs (k + 1))) := by
        have := HO1.out.put k (addF p x y)
        rw [← HX.out, fillN_set zs k (by omega)] at this
        rw [← HX.out]
        exact this
      obtain ⟨q, hq⟩ : ∃ q, addF p x y = q := ⟨_, rfl⟩
      have e3 : (IntKind.i64.wrap (x + y)).tmod p = q := by
        rw [IntKind.wrap_i64]
        rw [show (x + y + 9223372036854775808) % 18446744073709551616 - 9223372036854775808 = x + y by omega]
        rw [Int.tmod_eq_emod_of_nonneg (by omega)]
        exact hq
      have e4 : (x + y).tmod p = q := by
        rw [Int.tmod_eq_emod_of_nonneg (by omega)]
        exact hq
      have e5 : (x + y) % p = q := hq
      have hqb : 0 ≤ q ∧ q < 268435456 := by
        have g1 := Int.emod_nonneg (x + y) (show p ≠ 0 by omega)
        have g2 := Int.emod_lt_of_pos (x + y) (show 0 < p by omega)
        omega
      rw [hq] at HP
      clear hq HX
      have HN2 : Hid (Old ((w.alloc (.cells #[.int .i64 p, .int .i64 Nn, .int .i64 r, .bool n, .slice (some ⟨b1, o1, none⟩) Nn Nn] 42)).alloc (.cells #[.int .i64 p', .int .i64 N', .int .i64 r', .bool n', .slice (some ⟨b2, o2, none⟩) Nn Nn] 42)) (wr.setCell ⟨w.heap.size + 1 + 1, k, none⟩ (.int .i64 q))) := HG2.out.own (by have := HSZ.out; simp; try omega) _
      go_wp2_with fail
      go_region
      go_wp2_with fail
      exact ⟨⟨k + 1, by omega, by go_num, HP.out, HN2.out.drewN 1⟩, by simp [intOf]; omega⟩
    · have d1 : decide ((k : Int) < (Nn : Int)) = false := by simp; omega
      obtain rfl : k = Nn := by omega
      have HF : Hid (Own wr (w.heap.size + 1 + 1) (.slice (some ⟨w.heap.size + 1 + 1, 0, none⟩) k k) zs) := by
        have := HO1.out.own ((fillN_len zs k (by omega)).trans hlen)
        rw [show fillN zs k = zs by rw [← hlen]; exact fillN_all zs] at this
        exact this
      go_wp2_with fail
      go_ret
      exact ⟨_, rfl, HG1.out, HF.out.low (by omega)⟩
end Go.Proofs.YtglbegbhekcddaaDoor
