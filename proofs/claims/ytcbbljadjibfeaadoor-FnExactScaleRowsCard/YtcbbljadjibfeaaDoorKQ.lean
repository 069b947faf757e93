/- Proved: several texts in one: what each proves is said ahead of it. -/
import Derived.Test.YtcbbljadjibfeaaDoorScl
import Derived.Test.YtcbbljadjibfeaaDoorKE
import Derived.Deep.RegionHeld3
import Derived.Test.YtcbbljadjibfeaaDoorMks
import Derived.Test.YtcbbljadjibfeaaDoorAdn
import Derived.Test.YtcbbljadjibfeaaDoorRRs2
/- Proved: the program's row times a number. -/
namespace Go.Proofs.YtcbbljadjibfeaaDoor
open Go.ChangeShapes Go.WideShapes Go.ChangeAt Go.RowKit
set_option linter.unusedVariables false
set_option linter.unusedSimpArgs false
set_option maxRecDepth 100000 in
set_option maxHeartbeats 4000000 in
theorem impl_scaled (p r by_ : Int) (n : Bool) (Nn : Nat) (xs : List Int) (ua : Option Addr) (w : World) (hv : Row w (.slice ua Nn Nn) xs) (hby : 0 ≤ by_ ∧ by_ ≤ 268435456) (hp : 2 ≤ p ∧ p ≤ 268435456) (hN : 2 ≤ Nn ∧ Nn ≤ 16) (la : xs.length = Nn) (ha : ∀ i, i < Nn → (0 ≤ xs.getD i 0 ∧ xs.getD i 0 < p)) :
    Calls Tryd.prog 88 #[.agg #[.int .i64 p, .int .i64 Nn, .int .i64 r, .bool n, .slice ua Nn Nn], .int .i64 by_] w fun e w' => ∃ g, e = .returned (.slice (some ⟨g, 0, none⟩) Nn Nn) ∧ Old w w' ∧ Own w' w.heap.size (.slice (some ⟨g, 0, none⟩) Nn Nn) (pairR (mulF fun _ => by_) p xs xs) := by
  obtain ⟨i0, hi, hz0, hz1, hz2⟩ := info_parts Tryd.infoInt
  rcases hv with ⟨_, _, e, e'⟩ | ⟨b1, o1, cap1, e, hb1, h01, hc1⟩
  · subst e'
    simp at la
    omega
  simp only [Value.slice.injEq] at e
  obtain ⟨rfl, e7, e8⟩ := e
  have HC1 : Hid (∀ j, j < Nn → w.cell? ⟨b1, o1 + j, none⟩ = some (.int .i64 (xs.getD j 0))) := fun j hj => hc1 j (by omega)
  have HE : Hid (∀ k, k < Nn → (pairR (mulF fun _ => by_) p xs xs).getD k 0 = mulF (fun _ => by_) p (xs.getD k 0) (xs.getD k 0)) := fun k hk => pairR_get _ _ _ _ _ (by omega)
  have hlen : (pairR (mulF fun _ => by_) p xs xs).length = Nn := by rw [pairR_len, la]
  have HA : Hid (∀ i, i < Nn → (0 ≤ xs.getD i 0 ∧ xs.getD i 0 < p)) := ha
  generalize pairR (mulF fun _ => by_) p xs xs = zs at *
  clear hc1 la ha e7 e8 h01
  have HB : Hid (∀ W', Old (w.alloc (.cells #[.int .i64 p, .int .i64 Nn, .int .i64 r, .bool n, .slice (some ⟨b1, o1, none⟩) Nn Nn] 110)) W' → (W'.cell? ⟨w.heap.size, 0, none⟩ = some (.int .i64 p) ∧ W'.cell? ⟨w.heap.size, 1, none⟩ = some (.int .i64 Nn) ∧ W'.cell? ⟨w.heap.size, 4, none⟩ = some (.slice (some ⟨b1, o1, none⟩) Nn Nn))) := fun W' g =>
    ⟨(g.cell (p := ⟨w.heap.size, 0, none⟩) (by simp)).trans (by simp [cell_at, cell_lt]), (g.cell (p := ⟨w.heap.size, 1, none⟩) (by simp)).trans (by simp [cell_at, cell_lt]), (g.cell (p := ⟨w.heap.size, 4, none⟩) (by simp)).trans (by simp [cell_at, cell_lt])⟩
  have HSZ : Hid ((w.alloc (.cells #[.int .i64 p, .int .i64 Nn, .int .i64 r, .bool n, .slice (some ⟨b1, o1, none⟩) Nn Nn] 110)).heap.size = w.heap.size + 1) := by show _ = _; simp
  have hpn : ¬ p = 0 := by omega
  go_enter Tryd.func88, Tryd.ntmps88
  go_wp2_with (at_make; refine wpList_make_full _ rfl _ _ 22 rfl (w.heap.size + 1) 3 i0 (.int .i64 0) 1 Tryd.underlying22 hi hz0 hz1 .i64 .i64 _ _ Nn rfl rfl rfl rfl (by rw [hz2]; omega) (by unfold maxLen; omega) (by simp) ?_; intro w1 hown hgrow; have z1 := (HB.out w1 (Old.by_ (Old.refl _) hgrow (fun b hb => by cases hb))).2.1)
  have HO : Hid (OwnI w1 (w.heap.size + 1) (w.heap.size + 1) Nn (List.replicate Nn 0)) := by
    rw [made_ints, HSZ.out] at hown
    exact hown
  have HG : Hid (Old (w.alloc (.cells #[.int .i64 p, .int .i64 Nn, .int .i64 r, .bool n, .slice (some ⟨b1, o1, none⟩) Nn Nn] 110)) w1) := Old.by_ (Old.refl _) hgrow (fun b hb => by cases hb)
  clear hown hgrow z1
  go_loopw [14] (fun i W => ∃ k : Nat, k ≤ Nn ∧ i = .int .i64 k ∧ Hid (OwnI W (w.heap.size + 1) (w.heap.size + 1) Nn (fillN zs k)) ∧ Hid (Old (w.alloc (.cells #[.int .i64 p, .int .i64 Nn, .int .i64 r, .bool n, .slice (some ⟨b1, o1, none⟩) Nn Nn] 110)) W)) (fun i _ => Nn - (intOf i).toNat)
  case atStart => exact ⟨0, by omega, rfl, (by show OwnI _ _ _ _ _; rw [fillN_zero, hlen]; exact HO.out), HG⟩
  case round =>
    obtain ⟨k, hk, rfl, HO1, HG2⟩ := hrel
    clear HO HG
    have HG1 : Hid (Old w wr) := Old.trans ((Old.refl w).alloc _) HG2.out
    by_cases hlt : k < Nn
    · have d1 : decide ((k : Int) < (Nn : Int)) = true := by simp; omega
      have i1 : (k : Int) < (Nn : Int) := by omega
      have c1 : wr.cell? ⟨b1, o1 + k, none⟩ = some (.int .i64 (xs.getD k 0)) := (HG1.out.cell (p := ⟨b1, o1 + k, none⟩) hb1).trans (HC1.out k hlt)
      obtain ⟨z0, z1, z4⟩ := HB.out wr HG2.out
      have c3 := HO1.out.get (fillN_len zs k (by omega) |>.trans hlen) k hlt
      have c4 := HO1.out.free k
      have HX : Hid (zs.getD k 0 = mulF (fun _ => by_) p (xs.getD k 0) (xs.getD k 0)) := HE.out k hlt
      obtain ⟨bx1, bx2⟩ := HA.out k hlt
      generalize xs.getD k 0 = x at *
      generalize (fillN zs k).getD k 0 = oldv at *
      have HP : Hid (OwnI (wr.setCell ⟨w.heap.size + 1, k, none⟩ (.int .i64 (mulF (fun _ => by_) p x x))) (w.heap.size + 1) (w.heap.size + 1) Nn (fillN zs (k + 1))) := by
        have := HO1.out.put k (mulF (fun _ => by_) p x x)
        rw [← HX.out, fillN_set zs k (by omega)] at this
        rw [← HX.out]
        exact this
      obtain ⟨q, hq⟩ : ∃ q, mulF (fun _ => by_) p x x = q := ⟨_, rfl⟩
      have hxm : 0 ≤ x * by_ ∧ x * by_ ≤ 72057594037927936 := by
        refine ⟨Int.mul_nonneg bx1 hby.1, ?_⟩
        have h1 := Int.mul_le_mul_of_nonneg_right (show x ≤ 268435456 by omega) hby.1
        have h2 := Int.mul_le_mul_of_nonneg_left hby.2 (show (0 : Int) ≤ 268435456 by omega)
        omega
      have hq' : x * by_ % p = q := hq
      have hqb : 0 ≤ q ∧ q < 268435456 := by
        have g1 := Int.emod_nonneg (x * by_) (show p ≠ 0 by omega)
        have g2 := Int.emod_lt_of_pos (x * by_) (show 0 < p by omega)
        omega
      obtain ⟨xm, hxmE⟩ : ∃ z, x * by_ = z := ⟨_, rfl⟩
      rw [hxmE] at hq' hxm
      have e3 : (IntKind.i64.wrap xm).tmod p = q := by
        rw [IntKind.wrap_i64]
        rw [show (xm + 9223372036854775808) % 18446744073709551616 - 9223372036854775808 = xm by omega]
        rw [Int.tmod_eq_emod_of_nonneg (by omega)]
        exact hq'
      have e4 : xm.tmod p = q := by
        rw [Int.tmod_eq_emod_of_nonneg (by omega)]
        exact hq'
      rw [hq] at HP
      clear hq HX
      have HN2 : Hid (Old (w.alloc (.cells #[.int .i64 p, .int .i64 Nn, .int .i64 r, .bool n, .slice (some ⟨b1, o1, none⟩) Nn Nn] 110)) (wr.setCell ⟨w.heap.size + 1, k, none⟩ (.int .i64 q))) := HG2.out.own (by have := HSZ.out; simp; try omega) _
      go_wp2_with fail
      go_region
      go_wp2_with fail
      exact ⟨⟨k + 1, by omega, by go_num, HP.out, HN2.out.drewN 1⟩, by simp [intOf]; omega⟩
    · have d1 : decide ((k : Int) < (Nn : Int)) = false := by simp; omega
      obtain rfl : k = Nn := by omega
      have HF : Hid (Own wr (w.heap.size + 1) (.slice (some ⟨w.heap.size + 1, 0, none⟩) k k) zs) := by
        have := HO1.out.own ((fillN_len zs k (by omega)).trans hlen)
        rw [show fillN zs k = zs by rw [← hlen]; exact fillN_all zs] at this
        exact this
      go_wp2_with fail
      go_ret
      exact ⟨_, rfl, HG1.out, HF.out.low (by omega)⟩
end Go.Proofs.YtcbbljadjibfeaaDoor
/- Proved: the change that ScaleRows hands on. -/
namespace Go.Proofs.YtcbbljadjibfeaaDoor
open Go.ChangeShapes Go.WideShapes Go.ChangeAt Go.RowKit
set_option linter.unusedVariables false
set_option linter.unusedSimpArgs false
set_option maxRecDepth 100000 in
set_option maxHeartbeats 4000000 in
theorem scale_change (p r mp : Int) (n nb : Bool) (Nn : Nat) (zs : List Int) (ua ab : Option Addr) (lb cb kb : Nat) (w : World) (hb : StW w kb (.bool nb) (.slice ab lb cb) 24)
    (cm : ∀ W, Old w W → Calls Tryd.prog 89 #[.agg #[.bool nb, .slice ab lb cb], .int .i64 p] W fun e w' => e = .returned (.int .i64 mp) ∧ Old W w')
    (cs : ∀ W, Old w W → Calls Tryd.prog 88 #[.agg #[.int .i64 p, .int .i64 Nn, .int .i64 r, .bool n, .slice ua Nn Nn], .int .i64 mp] W fun e w' => ∃ g, e = .returned (.slice (some ⟨g, 0, none⟩) Nn Nn) ∧ Old W w' ∧ Own w' W.heap.size (.slice (some ⟨g, 0, none⟩) Nn Nn) zs) :
    Calls Tryd.prog 87 #[.agg #[.int .i64 p, .int .i64 Nn, .int .i64 r, .bool n, .slice ua Nn Nn], .pointer (some ⟨kb, 0, none⟩)] w fun e w' => ∃ g, e = .returned (.slice (some ⟨g, 0, none⟩) Nn Nn) ∧ Old w w' ∧ Own w' w.heap.size (.slice (some ⟨g, 0, none⟩) Nn Nn) zs := by
  have HA : Hid (Old w (w.alloc (.cells #[.int .i64 p, .int .i64 Nn, .int .i64 r, .bool n, .slice ua Nn Nn] 110))) := (Old.refl w).alloc _
  have HAS : Hid (∀ W', Old (w.alloc (.cells #[.int .i64 p, .int .i64 Nn, .int .i64 r, .bool n, .slice ua Nn Nn] 110)) W' → (W'.cell? ⟨w.heap.size, 0, none⟩ = some (.int .i64 p) ∧ W'.cell? ⟨w.heap.size, 1, none⟩ = some (.int .i64 Nn) ∧ W'.cell? ⟨w.heap.size, 2, none⟩ = some (.int .i64 r) ∧ W'.cell? ⟨w.heap.size, 3, none⟩ = some (.bool n) ∧ W'.cell? ⟨w.heap.size, 4, none⟩ = some (.slice ua Nn Nn) ∧ W'.cell? ⟨kb, 0, none⟩ = some (.bool nb) ∧ W'.cell? ⟨kb, 1, none⟩ = some (.slice ab lb cb))) := fun W' q => by
    have s := hb.old (Old.trans HA.out q)
    exact ⟨(q.cell (p := ⟨w.heap.size, 0, none⟩) (by simp)).trans (cell_at _ _ _ _ _ rfl), (q.cell (p := ⟨w.heap.size, 1, none⟩) (by simp)).trans (cell_at _ _ _ _ _ rfl), (q.cell (p := ⟨w.heap.size, 2, none⟩) (by simp)).trans (cell_at _ _ _ _ _ rfl), (q.cell (p := ⟨w.heap.size, 3, none⟩) (by simp)).trans (cell_at _ _ _ _ _ rfl), (q.cell (p := ⟨w.heap.size, 4, none⟩) (by simp)).trans (cell_at _ _ _ _ _ rfl), s.c0, s.c1⟩
  have hsz : (w.alloc (.cells #[.int .i64 p, .int .i64 Nn, .int .i64 r, .bool n, .slice ua Nn Nn] 110)).heap.size = w.heap.size + 1 := by simp
  clear hb
  go_enter Tryd.func87, Tryd.ntmps87
  go_wp2_with fail
  generalize (w.alloc (.cells #[.int .i64 p, .int .i64 Nn, .int .i64 r, .bool n, .slice ua Nn Nn] 110)) = w0 at *
  obtain ⟨z0, z1, z2, z3, z4, z5, z6⟩ := HAS.out w0 (Old.refl _)
  go_region_held3 (fun W' => W'.cell? ⟨w.heap.size, 0, none⟩ = some (.int .i64 p) ∧ W'.cell? ⟨w.heap.size, 1, none⟩ = some (.int .i64 Nn) ∧ W'.cell? ⟨w.heap.size, 2, none⟩ = some (.int .i64 r) ∧ W'.cell? ⟨w.heap.size, 3, none⟩ = some (.bool n) ∧ W'.cell? ⟨w.heap.size, 4, none⟩ = some (.slice ua Nn Nn) ∧ W'.cell? ⟨kb, 0, none⟩ = some (.bool nb) ∧ W'.cell? ⟨kb, 1, none⟩ = some (.slice ab lb cb)) (first | with_reducible exact HAS.out _ G2.out | with_reducible exact HAS.out _ G1.out | with_reducible exact HAS.out _ (Below.drew (Old.refl w0)) | with_reducible exact HAS.out _ (Old.refl w0)) (first
    | (go_at_call 89; refine (cm _ (Below.drew HA.out)).mono ?_; rintro e w1 ⟨rfl, g1⟩; have G1 : Hid (Old w0 w1) := Old.trans (Below.drew (Old.refl w0)) g1; clear g1)
    | (go_at_call 88; refine (cs _ (Old.trans HA.out G1.out)).mono ?_; rintro e w2 ⟨g5, rfl, g2, o2⟩; have G2 : Hid (Old w0 w2) := Old.trans G1.out g2; have O2 : Hid (Own w2 w1.heap.size (.slice (some ⟨g5, 0, none⟩) Nn Nn) zs) := o2; clear g2 o2)
    | fail)
  all_goals
    go_wp2_with fail
    go_ret
    exact ⟨_, rfl, Old.trans HA.out G2.out, O2.out.low (by have := G1.out.size; omega)⟩
end Go.Proofs.YtcbbljadjibfeaaDoor
/- Proved: the program's eachRow. -/
namespace Go.Proofs.YtcbbljadjibfeaaDoor
open Go.ChangeShapes Go.WideShapes Go.ChangeAt Go.RowKit
open M1
set_option linter.unusedVariables false
set_option linter.unusedSimpArgs false
set_option maxRecDepth 100000 in
set_option maxHeartbeats 4000000 in
theorem eachRow_scale_no (kb : Nat) (N : Int) (ps : List Int) (a ah : Bool) (xss : List (List Int)) (Rf : Nat → Int) (us1 : Nat → Option Addr) (v : Value) (a1 : Option Addr) (cap1 : Nat) (w : World) (hP : PrsW w) (hT : TabW w) (hv : Row w v ps)
    (c1 : ∀ W, PrsW W → TabW W → Old w W → Calls Tryd.prog 69 #[.agg #[.int .i64 N, v], .agg #[.bool a, .slice a1 xss.length cap1]] W fun e w' => Old W w' ∧ ((grB N ps xss = false ∧ e = .returned (.tuple #[.slice none 0 0, .bool false])) ∨ (grB N ps xss = true ∧ ∃ g, W.heap.size ≤ g ∧ e = .returned (.tuple #[.slice (some ⟨g, 0, none⟩) ps.length ps.length, .bool true]) ∧ RRs w' g N a ps Rf us1 ps.length))) (hno : grB N ps xss = false) :
    Calls Tryd.prog 86 #[.agg #[.int .i64 N, v], .agg #[.bool a, .slice a1 xss.length cap1], .bool ah, .func (.func 87) #[] #[.pointer (some ⟨kb, 0, none⟩)]] w (Rs w false [] false) := by
  have HP : Hid (PrsW w) := hP
  have HT : Hid (TabW w) := hT
  obtain ⟨a0, cap0, ev⟩ := hv.slice
  subst ev
  have HA : Hid (Old w (((w.alloc (.cells #[.int .i64 N, .slice a0 ps.length cap0] 42)).alloc (.cells #[.bool a, .slice a1 xss.length cap1] 51)).alloc (.cells #[.bool false, .slice none 0 0] 51))) := (((Old.refl w).alloc _).alloc _).alloc _
  have HS : Hid (StW (((w.alloc (.cells #[.int .i64 N, .slice a0 ps.length cap0] 42)).alloc (.cells #[.bool a, .slice a1 xss.length cap1] 51)).alloc (.cells #[.bool false, .slice none 0 0] 51)) (w.heap.size + 1 + 1) (.bool false) (.slice none 0 0) 51) := by
    have := StW.new ((w.alloc (.cells #[.int .i64 N, .slice a0 ps.length cap0] 42)).alloc (.cells #[.bool a, .slice a1 xss.length cap1] 51)) (.bool false) (.slice none 0 0) 51
    simp at this
    exact this
  clear hv hP hT
  go_enter Tryd.func86, Tryd.ntmps86
  go_wp2_with fail
  refine (c1 _ (HP.out.old HA.out) (HT.out.old HA.out) HA.out).mono ?_
  rintro e w2 ⟨g1, hl⟩
  have HG2 : Hid (Old w w2) := Old.trans HA.out g1
  have S2 : Hid (StW w2 (w.heap.size + 1 + 1) (.bool false) (.slice none 0 0) 51) := HS.out.old g1
  have hs2 : w.heap.size + 1 + 1 < w2.heap.size := S2.out.lt
  clear g1
  rcases hl with ⟨hB, rfl⟩ | ⟨hB, g, hg, rfl, hrr⟩
  · have q0 := S2.out.c0
    have q1 := S2.out.c1
    have f0 := S2.out.f0
    have f1 := S2.out.f1
    clear hB hno
    go_wp2_with fail
    refine bodyPost_ret (ret_rb (x := .bool false) (y := .slice none 0 0) (z := .bool false) Tryd.results86 _ _ rfl rfl (st_put2 S2.out _ _)) rfl ⟨_, rfl, ?_, XR.nil _ _ _ _ (Nat.le_refl _)⟩
    exact (HG2.out.own (p := ⟨w.heap.size + 1 + 1, 0, none⟩) (by simp; omega) _).own (p := ⟨w.heap.size + 1 + 1, 1, none⟩) (by simp; omega) _
  · rw [hno] at hB
    cases hB
set_option maxRecDepth 100000 in
set_option maxHeartbeats 8000000 in
theorem eachRow_scale_yes (kb : Nat) (Nn : Nat) (ps : List Int) (a ah : Bool) (xss : List (List Int)) (Rf : Nat → Int) (us1 : Nat → Option Addr) (v : Value) (a1 : Option Addr) (cap1 : Nat) (w : World) (hP : PrsW w) (hT : TabW w) (hv : Row w v ps)
    (c1 : ∀ W, PrsW W → TabW W → Old w W → Calls Tryd.prog 69 #[.agg #[.int .i64 Nn, v], .agg #[.bool a, .slice a1 xss.length cap1]] W fun e w' => Old W w' ∧ ((grB Nn ps xss = false ∧ e = .returned (.tuple #[.slice none 0 0, .bool false])) ∨ (grB Nn ps xss = true ∧ ∃ g, W.heap.size ≤ g ∧ e = .returned (.tuple #[.slice (some ⟨g, 0, none⟩) ps.length ps.length, .bool true]) ∧ RRs w' g Nn a ps Rf us1 ps.length))) (hx : grB Nn ps xss = true) (zss : List (List Int)) (hzl : zss.length = ps.length) (hps : ps.length ≤ 6)
    (cj : ∀ k, k < ps.length → (zss.getD k []).length = Nn ∧ ∀ W, Old w W → Calls Tryd.prog 87 #[.agg #[.int .i64 (ps.getD k 0), .int .i64 Nn, .int .i64 (Rf k), .bool a, .slice (us1 k) Nn Nn], .pointer (some ⟨kb, 0, none⟩)] W fun e w' => ∃ g, e = .returned (.slice (some ⟨g, 0, none⟩) Nn Nn) ∧ Old W w' ∧ Own w' W.heap.size (.slice (some ⟨g, 0, none⟩) Nn Nn) (zss.getD k [])) :
    Calls Tryd.prog 86 #[.agg #[.int .i64 Nn, v], .agg #[.bool a, .slice a1 xss.length cap1], .bool ah, .func (.func 87) #[] #[.pointer (some ⟨kb, 0, none⟩)]] w (Rs w ah zss true) := by
  obtain ⟨i0, hi, hz0, hz1, hz2⟩ := info_parts Tryd.infoInts
  have HZL : Hid (zss.length = ps.length) := hzl
  have HCJ : Hid (∀ k, k < ps.length → (zss.getD k []).length = Nn ∧ ∀ W, Old w W → Calls Tryd.prog 87 #[.agg #[.int .i64 (ps.getD k 0), .int .i64 Nn, .int .i64 (Rf k), .bool a, .slice (us1 k) Nn Nn], .pointer (some ⟨kb, 0, none⟩)] W fun e w' => ∃ g, e = .returned (.slice (some ⟨g, 0, none⟩) Nn Nn) ∧ Old W w' ∧ Own w' W.heap.size (.slice (some ⟨g, 0, none⟩) Nn Nn) (zss.getD k [])) := cj
  clear hzl cj
  have HP : Hid (PrsW w) := hP
  have HT : Hid (TabW w) := hT
  obtain ⟨a0, cap0, ev⟩ := hv.slice
  subst ev
  have HA : Hid (Old w (((w.alloc (.cells #[.int .i64 Nn, .slice a0 ps.length cap0] 42)).alloc (.cells #[.bool a, .slice a1 xss.length cap1] 51)).alloc (.cells #[.bool false, .slice none 0 0] 51))) := (((Old.refl w).alloc _).alloc _).alloc _
  have HS : Hid (StW (((w.alloc (.cells #[.int .i64 Nn, .slice a0 ps.length cap0] 42)).alloc (.cells #[.bool a, .slice a1 xss.length cap1] 51)).alloc (.cells #[.bool false, .slice none 0 0] 51)) (w.heap.size + 1 + 1) (.bool false) (.slice none 0 0) 51) := by
    have := StW.new ((w.alloc (.cells #[.int .i64 Nn, .slice a0 ps.length cap0] 42)).alloc (.cells #[.bool a, .slice a1 xss.length cap1] 51)) (.bool false) (.slice none 0 0) 51
    simp at this
    exact this
  clear hv hP hT
  go_enter Tryd.func86, Tryd.ntmps86
  go_wp2_with fail
  refine (c1 _ (HP.out.old HA.out) (HT.out.old HA.out) HA.out).mono ?_
  rintro e w2 ⟨g1, hl⟩
  have HG2 : Hid (Old w w2) := Old.trans HA.out g1
  have S2 : Hid (StW w2 (w.heap.size + 1 + 1) (.bool false) (.slice none 0 0) 51) := HS.out.old g1
  have hs2 : w.heap.size + 1 + 1 < w2.heap.size := S2.out.lt
  clear g1
  rcases hl with ⟨hB, rfl⟩ | ⟨hB, g, hg, rfl, hrr⟩
  · rw [hx] at hB
    cases hB
  · have HLB : Hid (RRs w2 g Nn a ps Rf us1 ps.length) := hrr
    clear hrr hg hB hx
    go_wp2_with (at_make; refine wpList_make_full _ rfl _ _ 46 rfl w2.heap.size 22 i0 (.slice none 0 0) 1 Tryd.underlying46 hi hz0 hz1 .i64 .i64 _ _ ps.length rfl rfl rfl rfl (by rw [hz2]; omega) (by unfold maxLen; omega) (Nat.le_refl _) ?_; intro w3 hown hgrow)
    have hmade : (madeCells (Value.slice none 0 0).cells (ps.length * 1)).toList = List.replicate ps.length (Value.slice none 0 0) := by
      rw [Nat.mul_one]
      exact toList_madeCells_one (.slice none 0 0) ps.length
    rw [hmade] at hown
    have HM0 : Hid (MkS zss w3 w2.heap.size w2.heap.size 0) := MkS.start (by rw [HZL.out]; exact hown)
    have HG3 : Hid (Old w2 w3) := Below.grown (Below.refl _ _) hgrow (Nat.le_refl _) (fun _ h => by cases h)
    have hs3 : w2.heap.size < w3.heap.size := (hown.lt w2.heap.size rfl).2
    clear hown hgrow hmade
    go_loopw [29] (fun i W => ∃ k : Nat, k ≤ ps.length ∧ i = .int .i64 k ∧ Hid (MkS zss W w2.heap.size w2.heap.size k) ∧ Hid (Old w2 W) ∧ w2.heap.size < W.heap.size) (fun i _ => ps.length - (intOf i).toNat)
    case atStart => exact ⟨0, by omega, rfl, HM0, HG3, hs3⟩
    case round =>
      obtain ⟨k, hk, rfl, HM, HG, hsr⟩ := hrel
      clear HM0 HG3 hs3
      by_cases hlt : k < ps.length
      · have d1 : decide ((k : Int) < (ps.length : Int)) = true := by simp; omega
        obtain ⟨jl, cj⟩ := HCJ.out k hlt
        obtain ⟨x0, x1, x2, x3, x4⟩ := (HLB.out.old HG.out).at k hlt hlt
        rw [Int.toNat_natCast] at x4
        have hkz : k < zss.length := by rw [HZL.out]; exact hlt
        have HGW : Hid (Old w wr) := Old.trans HG2.out HG.out
        have HJL : Hid ((zss.getD k []).length = Nn) := jl
        clear jl
        generalize ps.getD k 0 = p at *
        generalize Rf k = r at *
        generalize us1 k = ua at *
        have HGA : Hid (Old w (wr.alloc (.cells #[.int .i64 p, .int .i64 Nn, .int .i64 r, .bool a, .slice ua Nn Nn] 110))) := HGW.out.alloc _
        go_wp2_with fail
        refine (cj _ HGA.out).mono ?_
        rintro e w5 ⟨g5, rfl, q5, o5⟩
        have Q5 : Hid (Old (wr.alloc (.cells #[.int .i64 p, .int .i64 Nn, .int .i64 r, .bool a, .slice ua Nn Nn] 110)) w5) := q5
        have O5 : Hid (Own w5 (wr.heap.size + 1) (.slice (some ⟨g5, 0, none⟩) Nn Nn) (zss.getD k [])) := by
          simp at o5
          exact o5
        clear q5 o5
        obtain ⟨⟨ym, m1⟩, m2⟩ := (HM.out.own_old (Old.trans ((Old.refl wr).alloc _) Q5.out)).cell k hkz
        have hg5 : wr.heap.size + 1 ≤ g5 := (O5.out.lt g5 rfl).1
        have hs5 := Q5.out.size
        have N1 : Hid (MkS zss (w5.setCell ⟨w2.heap.size, k, none⟩ (.slice (some ⟨g5, 0, none⟩) Nn Nn)) w2.heap.size w2.heap.size (k + 1)) := MkS.step HM.out hkz (Old.trans ((Old.refl wr).alloc _) Q5.out) (by omega) hsr HJL.out (Nat.le_refl _) (O5.out.low (by omega)) (by omega)
        have N2 : Hid (Old w2 (w5.setCell ⟨w2.heap.size, k, none⟩ (.slice (some ⟨g5, 0, none⟩) Nn Nn))) := (Old.trans HG.out (Old.trans ((Old.refl wr).alloc _) Q5.out)).own (p := ⟨w2.heap.size, k, none⟩) (Nat.le_refl _) _
        have N3 : w2.heap.size < (w5.setCell ⟨w2.heap.size, k, none⟩ (.slice (some ⟨g5, 0, none⟩) Nn Nn)).heap.size := by simp at hs5 ⊢; omega
        go_wp2_with fail
        exact ⟨⟨k + 1, by omega, by go_num, N1, N2, N3⟩, by simp [intOf]; omega⟩
      · have d1 : decide ((k : Int) < (ps.length : Int)) = false := by simp; omega
        obtain rfl : k = ps.length := by omega
        have HFD : Hid (OwS zss wr w2.heap.size wr.heap.size (.slice (some ⟨w2.heap.size, 0, none⟩) ps.length ps.length)) := by
          have := HM.out
          rw [← HZL.out] at this ⊢
          exact this.done (Nat.le_refl _) hsr
        have SF : Hid (StW wr (w.heap.size + 1 + 1) (.bool false) (.slice none 0 0) 51) := S2.out.old HG.out
        have q0 := SF.out.c0
        have q1 := SF.out.c1
        have f0 := SF.out.f0
        have f1 := SF.out.f1
        go_wp2_with fail
        refine bodyPost_ret (ret_rb Tryd.results86 _ _ rfl rfl (st_put2 SF.out _ _)) rfl ⟨_, rfl, ?_, some ⟨w2.heap.size, 0, none⟩, ps.length, by rw [HZL.out], ?_⟩
        · exact ((Old.trans HG2.out HG.out).own (p := ⟨w.heap.size + 1 + 1, 0, none⟩) (by simp; omega) _).own (p := ⟨w.heap.size + 1 + 1, 1, none⟩) (by simp; omega) _
        · rw [HZL.out]
          have h2 := (HFD.out.put (k := w.heap.size + 1 + 1) (j := 0) (x := .bool ah) (by omega)).put (k := w.heap.size + 1 + 1) (j := 1) (x := .slice (some ⟨w2.heap.size, 0, none⟩) ps.length ps.length) (by omega)
          have h3 := h2.low (lo' := w.heap.size) (by omega)
          exact h3.high (by simp) (Nat.le_refl _)
end Go.Proofs.YtcbbljadjibfeaaDoor
