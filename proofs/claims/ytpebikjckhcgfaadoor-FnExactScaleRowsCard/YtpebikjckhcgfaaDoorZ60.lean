/- Proved: several texts in one: what each proves is said ahead of it. -/
import Derived.Test.YtpebikjckhcgfaaDoorZ20
import Derived.Test.YtpebikjckhcgfaaDoorZ17
import Derived.Deep.RegionHeld3
/- Proved: the program's row times a number. -/
namespace Go.Proofs.YtpebikjckhcgfaaDoor
open Go.ChangeShapes Go.WideShapes Go.ChangeAt Go.RowKit
set_option linter.unusedVariables false
set_option linter.unusedSimpArgs false
set_option maxRecDepth 100000 in
set_option maxHeartbeats 4000000 in
theorem impl_scaled (p r by_ : Int) (n : Bool) (Nn : Nat) (xs : List Int) (ua : Option Addr) (w : World) (hv : Row w (.slice ua Nn Nn) xs) (hby : 0 ≤ by_ ∧ by_ ≤ 268435456) (hp : 2 ≤ p ∧ p ≤ 268435456) (hN : 2 ≤ Nn ∧ Nn ≤ 16) (la : xs.length = Nn) (ha : ∀ i, i < Nn → (0 ≤ xs.getD i 0 ∧ xs.getD i 0 < p)) :
    Calls Tryd.prog 108 #[.agg #[.int .i64 p, .int .i64 Nn, .int .i64 r, .bool n, .slice ua Nn Nn], .int .i64 by_] w fun e w' => ∃ g, e = .returned (.slice (some ⟨g, 0, none⟩) Nn Nn) ∧ Old w w' ∧ Own w' w.heap.size (.slice (some ⟨g, 0, none⟩) Nn Nn) (pairR (mulF fun _ => by_) p xs xs) := by
  obtain ⟨i0, hi, hz0, hz1, hz2⟩ := info_parts Tryd.infoInt
  rcases hv with ⟨_, _, e, e'⟩ | ⟨b1, o1, cap1, e, hb1, h01, hc1⟩
  · subst e'
    simp at la
    omega
  simp only [Value.slice.injEq] at e
  obtain ⟨rfl, e7, e8⟩ := e
  have HC1 : Hid (∀ j, j < Nn → w.cell? ⟨b1, o1 + j, none⟩ = some (.int .i64 (xs.getD j 0))) := fun j hj => hc1 j (by omega)
  have HE : Hid (∀ k, k < Nn → (pairR (mulF fun _ => by_) p xs xs).getD k 0 = mulF (fun _ => by_) p (xs.getD k 0) (xs.getD k 0)) := fun k hk => pairR_get _ _ _ _ _ (by omega)
  have hlen : (pairR (mulF fun _ => by_) p xs xs).length = Nn := by rw [pairR_len, la]
  have HA : Hid (∀ i, i < Nn → (0 ≤ xs.getD i 0 ∧ xs.getD i 0 < p)) := ha
  generalize pairR (mulF fun _ => by_) p xs xs = zs at *
  clear hc1 la ha e7 e8 h01
  have HB : Hid (∀ W', Old (w.alloc (.cells #[.int .i64 p, .int .i64 Nn, .int .i64 r, .bool n, .slice (some ⟨b1, o1, none⟩) Nn Nn] 116)) W' → (W'.cell? ⟨w.heap.size, 0, none⟩ = some (.int .i64 p) ∧ W'.cell? ⟨w.heap.size, 1, none⟩ = some (.int .i64 Nn) ∧ W'.cell? ⟨w.heap.size, 4, none⟩ = some (.slice (some ⟨b1, o1, none⟩) Nn Nn))) := fun W' g =>
    ⟨(g.cell (p := ⟨w.heap.size, 0, none⟩) (by simp)).trans (by simp [cell_at, cell_lt]), (g.cell (p := ⟨w.heap.size, 1, none⟩) (by simp)).trans (by simp [cell_at, cell_lt]), (g.cell (p := ⟨w.heap.size, 4, none⟩) (by simp)).trans (by simp [cell_at, cell_lt])⟩
  have HSZ : Hid ((w.alloc (.cells #[.int .i64 p, .int .i64 Nn, .int .i64 r, .bool n, .slice (some ⟨b1, o1, none⟩) Nn Nn] 116)).heap.size = w.heap.size + 1) := by show _ = _; simp
  have hpn : ¬ p = 0 := by omega
  go_enter Tryd.func108, Tryd.ntmps108
  go_wp2_with (at_make; refine wpList_make_full _ rfl _ _ 23 rfl (w.heap.size + 1) 3 i0 (.int .i64 0) 1 Tryd.underlying23 hi hz0 hz1 .i64 .i64 _ _ Nn rfl rfl rfl rfl (by rw [hz2]; omega) (by unfold maxLen; omega) (by simp) ?_; intro w1 hown hgrow; have z1 := (HB.out w1 (Old.by_ (Old.refl _) hgrow (fun b hb => by cases hb))).2.1)
  have HO : Hid (OwnI w1 (w.heap.size + 1) (w.heap.size + 1) Nn (List.replicate Nn 0)) := by
    rw [made_ints, HSZ.out] at hown
    exact hown
  have HG : Hid (Old (w.alloc (.cells #[.int .i64 p, .int .i64 Nn, .int .i64 r, .bool n, .slice (some ⟨b1, o1, none⟩) Nn Nn] 116)) w1) := Old.by_ (Old.refl _) hgrow (fun b hb => by cases hb)
  clear hown hgrow z1
  go_loopw [14] (fun i W => ∃ k : Nat, k ≤ Nn ∧ i = .int .i64 k ∧ Hid (OwnI W (w.heap.size + 1) (w.heap.size + 1) Nn (fillN zs k)) ∧ Hid (Old (w.alloc (.cells #[.int .i64 p, .int .i64 Nn, .int .i64 r, .bool n, .slice (some ⟨b1, o1, none⟩) Nn Nn] 116)) W)) (fun i _ => Nn - (intOf i).toNat)
  case atStart => exact ⟨0, by omega, rfl, (by show OwnI _ _ _ _ _; rw [fillN_zero, hlen]; exact HO.out), HG⟩
  case round =>
    obtain ⟨k, hk, rfl, HO1, HG2⟩ := hrel
    clear HO HG
    have HG1 : Hid (Old w wr) := Old.trans ((Old.refl w).alloc _) HG2.out
    by_cases hlt : k < Nn
    · have d1 : decide ((k : Int) < (Nn : Int)) = true := by simp; omega
      have i1 : (k : Int) < (Nn : Int) := by omega
      have c1 : wr.cell? ⟨b1, o1 + k, none⟩ = some (.int .i64 (xs.getD k 0)) := (HG1.out.cell (p := ⟨b1, o1 + k, none⟩) hb1).trans (HC1.out k hlt)
      obtain ⟨z0, z1, z4⟩ := HB.out wr HG2.out
      have c3 := HO1.out.get (fillN_len zs k (by omega) |>.trans hlen) k hlt
      have c4 := HO1.out.free k
      have HX : Hid (zs.getD k 0 = mulF (fun _ => by_) p (xs.getD k 0) (xs.getD k 0)) := HE.out k hlt
      obtain ⟨bx1, bx2⟩ := HA.out k hlt
      generalize xs.getD k 0 = x at *
      generalize (fillN zs k).getD k 0 = oldv at *
      have HP : Hid (OwnI (wr.setCell ⟨w.heap.size + 1, k, none⟩ (.int .i64 (mulF (fun _ => by_) p x x))) (w.heap.size + 1) (w.heap.size + 1) Nn (fillN zs (k + 1))) := by
        have := HO1.out.put k (mulF (fun _ => by_) p x x)
        rw [← HX.out, fillN_set zs k (by omega)] at this
        rw [← HX.out]
        exact this
      obtain ⟨q, hq⟩ : ∃ q, mulF (fun _ => by_) p x x = q := ⟨_, rfl⟩
      have hxm : 0 ≤ x * by_ ∧ x * by_ ≤ 72057594037927936 := by
        refine ⟨Int.mul_nonneg bx1 hby.1, ?_⟩
        have h1 := Int.mul_le_mul_of_nonneg_right (show x ≤ 268435456 by omega) hby.1
        have h2 := Int.mul_le_mul_of_nonneg_left hby.2 (show (0 : Int) ≤ 268435456 by omega)
        omega
      have hq' : x * by_ % p = q := hq
      have hqb : 0 ≤ q ∧ q < 268435456 := by
        have g1 := Int.emod_nonneg (x * by_) (show p ≠ 0 by omega)
        have g2 := Int.emod_lt_of_pos (x * by_) (show 0 < p by omega)
        omega
      obtain ⟨xm, hxmE⟩ : ∃ z, x * by_ = z := ⟨_, rfl⟩
      rw [hxmE] at hq' hxm
      have e3 : (IntKind.i64.wrap xm).tmod p = q := by
        rw [IntKind.wrap_i64]
        rw [show (xm + 9223372036854775808) % 18446744073709551616 - 9223372036854775808 = xm by omega]
        rw [Int.tmod_eq_emod_of_nonneg (by omega)]
        exact hq'
      have e4 : xm.tmod p = q := by
        rw [Int.tmod_eq_emod_of_nonneg (by omega)]
        exact hq'
      rw [hq] at HP
      clear hq HX
      have HN2 : Hid (Old (w.alloc (.cells #[.int .i64 p, .int .i64 Nn, .int .i64 r, .bool n, .slice (some ⟨b1, o1, none⟩) Nn Nn] 116)) (wr.setCell ⟨w.heap.size + 1, k, none⟩ (.int .i64 q))) := HG2.out.own (by have := HSZ.out; simp; try omega) _
      go_wp2_with fail
      go_region
      go_wp2_with fail
      exact ⟨⟨k + 1, by omega, by go_num, HP.out, HN2.out.drewN 1⟩, by simp [intOf]; omega⟩
    · have d1 : decide ((k : Int) < (Nn : Int)) = false := by simp; omega
      obtain rfl : k = Nn := by omega
      have HF : Hid (Own wr (w.heap.size + 1) (.slice (some ⟨w.heap.size + 1, 0, none⟩) k k) zs) := by
        have := HO1.out.own ((fillN_len zs k (by omega)).trans hlen)
        rw [show fillN zs k = zs by rw [← hlen]; exact fillN_all zs] at this
        exact this
      go_wp2_with fail
      go_ret
      exact ⟨_, rfl, HG1.out, HF.out.low (by omega)⟩
end Go.Proofs.YtpebikjckhcgfaaDoor
/- Proved: the change that ScaleRows hands on. -/
namespace Go.Proofs.YtpebikjckhcgfaaDoor
open Go.ChangeShapes Go.WideShapes Go.ChangeAt Go.RowKit
set_option linter.unusedVariables false
set_option linter.unusedSimpArgs false
set_option maxRecDepth 100000 in
set_option maxHeartbeats 4000000 in
theorem scale_change (p r mp : Int) (n nb : Bool) (Nn : Nat) (zs : List Int) (ua ab : Option Addr) (lb cb kb : Nat) (w : World) (hb : StW w kb (.bool nb) (.slice ab lb cb) 68)
    (cm : ∀ W, Old w W → Calls Tryd.prog 109 #[.agg #[.bool nb, .slice ab lb cb], .int .i64 p] W fun e w' => e = .returned (.int .i64 mp) ∧ Old W w')
    (cs : ∀ W, Old w W → Calls Tryd.prog 108 #[.agg #[.int .i64 p, .int .i64 Nn, .int .i64 r, .bool n, .slice ua Nn Nn], .int .i64 mp] W fun e w' => ∃ g, e = .returned (.slice (some ⟨g, 0, none⟩) Nn Nn) ∧ Old W w' ∧ Own w' W.heap.size (.slice (some ⟨g, 0, none⟩) Nn Nn) zs) :
    Calls Tryd.prog 107 #[.agg #[.int .i64 p, .int .i64 Nn, .int .i64 r, .bool n, .slice ua Nn Nn], .pointer (some ⟨kb, 0, none⟩)] w fun e w' => ∃ g, e = .returned (.slice (some ⟨g, 0, none⟩) Nn Nn) ∧ Old w w' ∧ Own w' w.heap.size (.slice (some ⟨g, 0, none⟩) Nn Nn) zs := by
  have HA : Hid (Old w (w.alloc (.cells #[.int .i64 p, .int .i64 Nn, .int .i64 r, .bool n, .slice ua Nn Nn] 116))) := (Old.refl w).alloc _
  have HAS : Hid (∀ W', Old (w.alloc (.cells #[.int .i64 p, .int .i64 Nn, .int .i64 r, .bool n, .slice ua Nn Nn] 116)) W' → (W'.cell? ⟨w.heap.size, 0, none⟩ = some (.int .i64 p) ∧ W'.cell? ⟨w.heap.size, 1, none⟩ = some (.int .i64 Nn) ∧ W'.cell? ⟨w.heap.size, 2, none⟩ = some (.int .i64 r) ∧ W'.cell? ⟨w.heap.size, 3, none⟩ = some (.bool n) ∧ W'.cell? ⟨w.heap.size, 4, none⟩ = some (.slice ua Nn Nn) ∧ W'.cell? ⟨kb, 0, none⟩ = some (.bool nb) ∧ W'.cell? ⟨kb, 1, none⟩ = some (.slice ab lb cb))) := fun W' q => by
    have s := hb.old (Old.trans HA.out q)
    exact ⟨(q.cell (p := ⟨w.heap.size, 0, none⟩) (by simp)).trans (cell_at _ _ _ _ _ rfl), (q.cell (p := ⟨w.heap.size, 1, none⟩) (by simp)).trans (cell_at _ _ _ _ _ rfl), (q.cell (p := ⟨w.heap.size, 2, none⟩) (by simp)).trans (cell_at _ _ _ _ _ rfl), (q.cell (p := ⟨w.heap.size, 3, none⟩) (by simp)).trans (cell_at _ _ _ _ _ rfl), (q.cell (p := ⟨w.heap.size, 4, none⟩) (by simp)).trans (cell_at _ _ _ _ _ rfl), s.c0, s.c1⟩
  have hsz : (w.alloc (.cells #[.int .i64 p, .int .i64 Nn, .int .i64 r, .bool n, .slice ua Nn Nn] 116)).heap.size = w.heap.size + 1 := by simp
  clear hb
  go_enter Tryd.func107, Tryd.ntmps107
  go_wp2_with fail
  generalize (w.alloc (.cells #[.int .i64 p, .int .i64 Nn, .int .i64 r, .bool n, .slice ua Nn Nn] 116)) = w0 at *
  obtain ⟨z0, z1, z2, z3, z4, z5, z6⟩ := HAS.out w0 (Old.refl _)
  go_region_held3 (fun W' => W'.cell? ⟨w.heap.size, 0, none⟩ = some (.int .i64 p) ∧ W'.cell? ⟨w.heap.size, 1, none⟩ = some (.int .i64 Nn) ∧ W'.cell? ⟨w.heap.size, 2, none⟩ = some (.int .i64 r) ∧ W'.cell? ⟨w.heap.size, 3, none⟩ = some (.bool n) ∧ W'.cell? ⟨w.heap.size, 4, none⟩ = some (.slice ua Nn Nn) ∧ W'.cell? ⟨kb, 0, none⟩ = some (.bool nb) ∧ W'.cell? ⟨kb, 1, none⟩ = some (.slice ab lb cb)) (first | with_reducible exact HAS.out _ G2.out | with_reducible exact HAS.out _ G1.out | with_reducible exact HAS.out _ (Below.drew (Old.refl w0)) | with_reducible exact HAS.out _ (Old.refl w0)) (first
    | (go_at_call 109; refine (cm _ (Below.drew HA.out)).mono ?_; rintro e w1 ⟨rfl, g1⟩; have G1 : Hid (Old w0 w1) := Old.trans (Below.drew (Old.refl w0)) g1; clear g1)
    | (go_at_call 108; refine (cs _ (Old.trans HA.out G1.out)).mono ?_; rintro e w2 ⟨g5, rfl, g2, o2⟩; have G2 : Hid (Old w0 w2) := Old.trans G1.out g2; have O2 : Hid (Own w2 w1.heap.size (.slice (some ⟨g5, 0, none⟩) Nn Nn) zs) := o2; clear g2 o2)
    | fail)
  all_goals
    go_wp2_with fail
    go_ret
    exact ⟨_, rfl, Old.trans HA.out G2.out, O2.out.low (by have := G1.out.size; omega)⟩
end Go.Proofs.YtpebikjckhcgfaaDoor
