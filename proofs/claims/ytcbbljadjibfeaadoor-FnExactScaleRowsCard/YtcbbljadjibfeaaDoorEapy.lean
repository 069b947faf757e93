/- Proved: the program's eachPair where both rows are good. -/
import Derived.Test.YtcbbljadjibfeaaDoorEapn
namespace Go.Proofs.YtcbbljadjibfeaaDoor
open Go.ChangeShapes Go.WideShapes Go.ChangeAt Go.RowKit
open M1
set_option linter.unusedVariables false
set_option linter.unusedSimpArgs false
set_option maxRecDepth 100000 in
set_option maxHeartbeats 8000000 in
theorem eachPair_plus_yes (Nn : Nat) (ps : List Int) (a b : Bool) (xss yss : List (List Int)) (Rf : Nat → Int) (us1 us2 : Nat → Option Addr) (v : Value) (a1 a2 : Option Addr) (cap1 cap2 : Nat) (w : World) (hP : PrsW w) (hT : TabW w) (hv : Row w v ps)
    (c1 : ∀ W, PrsW W → TabW W → Old w W → Calls Tryd.prog 69 #[.agg #[.int .i64 Nn, v], .agg #[.bool a, .slice a1 xss.length cap1]] W fun e w' => Old W w' ∧ ((grB Nn ps xss = false ∧ e = .returned (.tuple #[.slice none 0 0, .bool false])) ∨ (grB Nn ps xss = true ∧ ∃ g, W.heap.size ≤ g ∧ e = .returned (.tuple #[.slice (some ⟨g, 0, none⟩) ps.length ps.length, .bool true]) ∧ RRs w' g Nn a ps Rf us1 ps.length)))
    (c2 : ∀ W, PrsW W → TabW W → Old w W → Calls Tryd.prog 69 #[.agg #[.int .i64 Nn, v], .agg #[.bool b, .slice a2 yss.length cap2]] W fun e w' => Old W w' ∧ ((grB Nn ps yss = false ∧ e = .returned (.tuple #[.slice none 0 0, .bool false])) ∨ (grB Nn ps yss = true ∧ ∃ g, W.heap.size ≤ g ∧ e = .returned (.tuple #[.slice (some ⟨g, 0, none⟩) ps.length ps.length, .bool true]) ∧ RRs w' g Nn b ps Rf us2 ps.length))) (hx : grB Nn ps xss = true) (hy : grB Nn ps yss = true) (hab : a = b) (zss : List (List Int)) (hzl : zss.length = ps.length) (hps : ps.length ≤ 6)
    (cj : ∀ k, k < ps.length → (zss.getD k []).length = Nn ∧ ∀ W, Old w W → Calls Tryd.prog 81 #[.agg #[.int .i64 (ps.getD k 0), .int .i64 Nn, .int .i64 (Rf k), .bool a, .slice (us1 k) Nn Nn], .agg #[.int .i64 (ps.getD k 0), .int .i64 Nn, .int .i64 (Rf k), .bool b, .slice (us2 k) Nn Nn]] W fun e w' => ∃ g, e = .returned (.slice (some ⟨g, 0, none⟩) Nn Nn) ∧ Old W w' ∧ Own w' W.heap.size (.slice (some ⟨g, 0, none⟩) Nn Nn) (zss.getD k [])) :
    Calls Tryd.prog 80 #[.agg #[.int .i64 Nn, v], .agg #[.bool a, .slice a1 xss.length cap1], .agg #[.bool b, .slice a2 yss.length cap2], .func (.func 81) #[] #[]] w (Rs w a zss true) := by
  obtain ⟨i0, hi, hz0, hz1, hz2⟩ := info_parts Tryd.infoInts
  have dab : (!(a == b)) = false := by simp [hab]
  have HZL : Hid (zss.length = ps.length) := hzl
  have HCJ : Hid (∀ k, k < ps.length → (zss.getD k []).length = Nn ∧ ∀ W, Old w W → Calls Tryd.prog 81 #[.agg #[.int .i64 (ps.getD k 0), .int .i64 Nn, .int .i64 (Rf k), .bool a, .slice (us1 k) Nn Nn], .agg #[.int .i64 (ps.getD k 0), .int .i64 Nn, .int .i64 (Rf k), .bool b, .slice (us2 k) Nn Nn]] W fun e w' => ∃ g, e = .returned (.slice (some ⟨g, 0, none⟩) Nn Nn) ∧ Old W w' ∧ Own w' W.heap.size (.slice (some ⟨g, 0, none⟩) Nn Nn) (zss.getD k [])) := cj
  clear hzl cj hab
  have HP : Hid (PrsW w) := hP
  have HT : Hid (TabW w) := hT
  obtain ⟨a0, cap0, ev⟩ := hv.slice
  subst ev
  have HA : Hid (Old w ((((w.alloc (.cells #[.int .i64 Nn, .slice a0 ps.length cap0] 42)).alloc (.cells #[.bool a, .slice a1 xss.length cap1] 51)).alloc (.cells #[.bool b, .slice a2 yss.length cap2] 51)).alloc (.cells #[.bool false, .slice none 0 0] 51))) := ((((Old.refl w).alloc _).alloc _).alloc _).alloc _
  have HS : Hid (StW ((((w.alloc (.cells #[.int .i64 Nn, .slice a0 ps.length cap0] 42)).alloc (.cells #[.bool a, .slice a1 xss.length cap1] 51)).alloc (.cells #[.bool b, .slice a2 yss.length cap2] 51)).alloc (.cells #[.bool false, .slice none 0 0] 51)) (w.heap.size + 1 + 1 + 1) (.bool false) (.slice none 0 0) 51) := by
    have := StW.new (((w.alloc (.cells #[.int .i64 Nn, .slice a0 ps.length cap0] 42)).alloc (.cells #[.bool a, .slice a1 xss.length cap1] 51)).alloc (.cells #[.bool b, .slice a2 yss.length cap2] 51)) (.bool false) (.slice none 0 0) 51
    simp at this
    exact this
  have HAS : Hid (∀ W', Old ((((w.alloc (.cells #[.int .i64 Nn, .slice a0 ps.length cap0] 42)).alloc (.cells #[.bool a, .slice a1 xss.length cap1] 51)).alloc (.cells #[.bool b, .slice a2 yss.length cap2] 51)).alloc (.cells #[.bool false, .slice none 0 0] 51)) W' → (W'.cell? ⟨w.heap.size, 0, none⟩ = some (.int .i64 Nn) ∧ W'.cell? ⟨w.heap.size, 1, none⟩ = some (.slice a0 ps.length cap0) ∧ W'.cell? ⟨w.heap.size + 1, 0, none⟩ = some (.bool a) ∧ W'.cell? ⟨w.heap.size + 1, 1, none⟩ = some (.slice a1 xss.length cap1) ∧ W'.cell? ⟨w.heap.size + 1 + 1, 0, none⟩ = some (.bool b) ∧ W'.cell? ⟨w.heap.size + 1 + 1, 1, none⟩ = some (.slice a2 yss.length cap2))) := fun W' g => by
    have g' := Old.trans ((Old.refl _).alloc _) g
    exact ⟨((StW.at31 w _ _ _ _ _ _ _ _ _).old g').c0, ((StW.at31 w _ _ _ _ _ _ _ _ _).old g').c1, ((StW.at32 w _ _ _ _ _ _ _ _ _).old g').c0, ((StW.at32 w _ _ _ _ _ _ _ _ _).old g').c1, ((StW.at33 w _ _ _ _ _ _ _ _ _).old g').c0, ((StW.at33 w _ _ _ _ _ _ _ _ _).old g').c1⟩
  clear hv hP hT
  go_enter Tryd.func80, Tryd.ntmps80
  go_wp2_with fail
  refine (c1 _ (HP.out.old HA.out) (HT.out.old HA.out) HA.out).mono ?_
  rintro e w1 ⟨g1, hl⟩
  have HG1 : Hid (Old w w1) := Old.trans HA.out g1
  have G1 : Hid (Old ((((w.alloc (.cells #[.int .i64 Nn, .slice a0 ps.length cap0] 42)).alloc (.cells #[.bool a, .slice a1 xss.length cap1] 51)).alloc (.cells #[.bool b, .slice a2 yss.length cap2] 51)).alloc (.cells #[.bool false, .slice none 0 0] 51)) w1) := g1
  clear g1
  rcases hl with ⟨hB, rfl⟩ | ⟨hB, g, hg, rfl, hrr⟩
  · rw [hx] at hB
    cases hB
  · have HLA : Hid (RRs w1 g Nn a ps Rf us1 ps.length) := hrr
    clear hrr hg hB
    obtain ⟨z1, z2, z3, z4, z5, z6⟩ := HAS.out w1 G1.out
    go_wp2_with fail
    refine (c2 _ (HP.out.old HG1.out) (HT.out.old HG1.out) HG1.out).mono ?_
    rintro e w2 ⟨g2, hr⟩
    have HG2 : Hid (Old w w2) := Old.trans HG1.out g2
    have G2 : Hid (Old ((((w.alloc (.cells #[.int .i64 Nn, .slice a0 ps.length cap0] 42)).alloc (.cells #[.bool a, .slice a1 xss.length cap1] 51)).alloc (.cells #[.bool b, .slice a2 yss.length cap2] 51)).alloc (.cells #[.bool false, .slice none 0 0] 51)) w2) := Old.trans G1.out g2
    have S2 : Hid (StW w2 (w.heap.size + 1 + 1 + 1) (.bool false) (.slice none 0 0) 51) := HS.out.old G2.out
    have HG2w := g2
    clear z1 z2 z3 z4 z5 z6
    obtain ⟨z1, z2, z3, z4, z5, z6⟩ := HAS.out w2 G2.out
    rcases hr with ⟨hB, rfl⟩ | ⟨hB, g', hg', rfl, hrr⟩
    · rw [hy] at hB
      cases hB
    have HRA : Hid (RRs w2 g' Nn b ps Rf us2 ps.length) := hrr
    have HLB : Hid (RRs w2 g Nn a ps Rf us1 ps.length) := HLA.out.old (by have := HG2w; exact this)
    clear hrr hg' hB hx hy HLA HG2w
    go_wp2_with (at_make; refine wpList_make_full _ rfl _ _ 46 rfl w2.heap.size 22 i0 (.slice none 0 0) 1 Tryd.underlying46 hi hz0 hz1 .i64 .i64 _ _ ps.length rfl rfl rfl rfl (by rw [hz2]; omega) (by unfold maxLen; omega) (Nat.le_refl _) ?_; intro w3 hown hgrow)
    have hmade : (madeCells (Value.slice none 0 0).cells (ps.length * 1)).toList = List.replicate ps.length (Value.slice none 0 0) := by
      rw [Nat.mul_one]
      exact toList_madeCells_one (.slice none 0 0) ps.length
    rw [hmade] at hown
    have HM0 : Hid (MkS zss w3 w2.heap.size w2.heap.size 0) := MkS.start (by rw [HZL.out]; exact hown)
    have HG3 : Hid (Old w2 w3) := Below.grown (Below.refl _ _) hgrow (Nat.le_refl _) (fun _ h => by cases h)
    have hs3 : w2.heap.size < w3.heap.size := (hown.lt w2.heap.size rfl).2
    have hs2 : w.heap.size + 1 + 1 + 1 < w2.heap.size := S2.out.lt
    have HLT : Hid (g < w2.heap.size ∧ g' < w2.heap.size) := ⟨HLB.out.lt, HRA.out.lt⟩
    clear hown hgrow hmade z1 z2 z3 z4 z5 z6
    go_loopw [48] (fun i W => ∃ k : Nat, k ≤ ps.length ∧ i = .int .i64 k ∧ Hid (MkS zss W w2.heap.size w2.heap.size k) ∧ Hid (Old w2 W) ∧ w2.heap.size < W.heap.size) (fun i _ => ps.length - (intOf i).toNat)
    case atStart => exact ⟨0, by omega, rfl, HM0, HG3, hs3⟩
    case round =>
      obtain ⟨k, hk, rfl, HM, HG, hsr⟩ := hrel
      clear HM0 HG3 hs3
      by_cases hlt : k < ps.length
      · have d1 : decide ((k : Int) < (ps.length : Int)) = true := by simp; omega
        obtain ⟨jl, cj⟩ := HCJ.out k hlt
        obtain ⟨x0, x1, x2, x3, x4⟩ := (HLB.out.old HG.out).at k hlt hlt
        obtain ⟨y0, y1, y2, y3, y4⟩ := (HRA.out.old HG.out).at k hlt hlt
        rw [Int.toNat_natCast] at x4 y4
        have hkz : k < zss.length := by rw [HZL.out]; exact hlt
        have HGW : Hid (Old w wr) := Old.trans HG2.out HG.out
        have HJL : Hid ((zss.getD k []).length = Nn) := jl
        clear jl
        generalize ps.getD k 0 = p at *
        generalize Rf k = r at *
        generalize us1 k = ua at *
        generalize us2 k = ub at *
        have hgw : g' < wr.heap.size := by have := HLT.out.2; omega
        have HAS5 : Hid (∀ W', Old (wr.alloc (.cells #[.int .i64 p, .int .i64 Nn, .int .i64 r, .bool a, .slice ua Nn Nn] 110)) W' → (W'.cell? ⟨wr.heap.size, 0, none⟩ = some (.int .i64 p) ∧ W'.cell? ⟨wr.heap.size, 1, none⟩ = some (.int .i64 Nn) ∧ W'.cell? ⟨wr.heap.size, 2, none⟩ = some (.int .i64 r) ∧ W'.cell? ⟨wr.heap.size, 3, none⟩ = some (.bool a) ∧ W'.cell? ⟨wr.heap.size, 4, none⟩ = some (.slice ua Nn Nn) ∧ W'.cell? ⟨g', k * 5, none⟩ = some (.int .i64 p) ∧ W'.cell? ⟨g', k * 5 + 1, none⟩ = some (.int .i64 Nn) ∧ W'.cell? ⟨g', k * 5 + 2, none⟩ = some (.int .i64 r) ∧ W'.cell? ⟨g', k * 5 + 3, none⟩ = some (.bool b) ∧ W'.cell? ⟨g', k * 5 + 4, none⟩ = some (.slice ub Nn Nn))) := fun W' q => by
          have q' := Old.trans ((Old.refl wr).alloc _) q
          exact ⟨(q.cell (p := ⟨wr.heap.size, 0, none⟩) (by simp)).trans (cell_at _ _ _ _ _ rfl), (q.cell (p := ⟨wr.heap.size, 1, none⟩) (by simp)).trans (cell_at _ _ _ _ _ rfl), (q.cell (p := ⟨wr.heap.size, 2, none⟩) (by simp)).trans (cell_at _ _ _ _ _ rfl), (q.cell (p := ⟨wr.heap.size, 3, none⟩) (by simp)).trans (cell_at _ _ _ _ _ rfl), (q.cell (p := ⟨wr.heap.size, 4, none⟩) (by simp)).trans (cell_at _ _ _ _ _ rfl), (q'.cell (p := ⟨g', k * 5, none⟩) hgw).trans y0, (q'.cell (p := ⟨g', k * 5 + 1, none⟩) hgw).trans y1, (q'.cell (p := ⟨g', k * 5 + 2, none⟩) hgw).trans y2, (q'.cell (p := ⟨g', k * 5 + 3, none⟩) hgw).trans y3, (q'.cell (p := ⟨g', k * 5 + 4, none⟩) hgw).trans y4⟩
        have hgm : g' ≠ w2.heap.size := by have := HLT.out.2; omega
        have HAS6 : Hid (∀ W' x, Old (wr.alloc (.cells #[.int .i64 p, .int .i64 Nn, .int .i64 r, .bool a, .slice ua Nn Nn] 110)) W' → ((fun W' => W'.cell? ⟨wr.heap.size, 0, none⟩ = some (.int .i64 p) ∧ W'.cell? ⟨wr.heap.size, 1, none⟩ = some (.int .i64 Nn) ∧ W'.cell? ⟨wr.heap.size, 2, none⟩ = some (.int .i64 r) ∧ W'.cell? ⟨wr.heap.size, 3, none⟩ = some (.bool a) ∧ W'.cell? ⟨wr.heap.size, 4, none⟩ = some (.slice ua Nn Nn) ∧ W'.cell? ⟨g', k * 5, none⟩ = some (.int .i64 p) ∧ W'.cell? ⟨g', k * 5 + 1, none⟩ = some (.int .i64 Nn) ∧ W'.cell? ⟨g', k * 5 + 2, none⟩ = some (.int .i64 r) ∧ W'.cell? ⟨g', k * 5 + 3, none⟩ = some (.bool b) ∧ W'.cell? ⟨g', k * 5 + 4, none⟩ = some (.slice ub Nn Nn)) (W'.setCell ⟨w2.heap.size, k, none⟩ x))) := fun W' x q => by
          obtain ⟨s0, s1, s2, s3, s4, s5, s6, s7, s8, s9⟩ := HAS5.out W' q
          have hne1 : wr.heap.size ≠ w2.heap.size := by omega
          have key : ∀ (bb j : Nat) (z : Value), bb ≠ w2.heap.size → W'.cell? ⟨bb, j, none⟩ = some z → (W'.setCell ⟨w2.heap.size, k, none⟩ x).cell? ⟨bb, j, none⟩ = some z := fun bb j z hb hz => (cellO _ _ _ _ hb).trans hz
          exact ⟨key _ _ _ hne1 s0, key _ _ _ hne1 s1, key _ _ _ hne1 s2, key _ _ _ hne1 s3, key _ _ _ hne1 s4, key _ _ _ hgm s5, key _ _ _ hgm s6, key _ _ _ hgm s7, key _ _ _ hgm s8, key _ _ _ hgm s9⟩
        have HGA : Hid (Old w (wr.alloc (.cells #[.int .i64 p, .int .i64 Nn, .int .i64 r, .bool a, .slice ua Nn Nn] 110))) := HGW.out.alloc _
        clear y0 y1 y2 y3 y4
        go_wp2_with fail
        go_region_held3 (fun W' => W'.cell? ⟨wr.heap.size, 0, none⟩ = some (.int .i64 p) ∧ W'.cell? ⟨wr.heap.size, 1, none⟩ = some (.int .i64 Nn) ∧ W'.cell? ⟨wr.heap.size, 2, none⟩ = some (.int .i64 r) ∧ W'.cell? ⟨wr.heap.size, 3, none⟩ = some (.bool a) ∧ W'.cell? ⟨wr.heap.size, 4, none⟩ = some (.slice ua Nn Nn) ∧ W'.cell? ⟨g', k * 5, none⟩ = some (.int .i64 p) ∧ W'.cell? ⟨g', k * 5 + 1, none⟩ = some (.int .i64 Nn) ∧ W'.cell? ⟨g', k * 5 + 2, none⟩ = some (.int .i64 r) ∧ W'.cell? ⟨g', k * 5 + 3, none⟩ = some (.bool b) ∧ W'.cell? ⟨g', k * 5 + 4, none⟩ = some (.slice ub Nn Nn)) (first | with_reducible exact HAS5.out _ Q5.out | with_reducible exact HAS5.out _ (Below.drew (Old.refl _)) | with_reducible exact HAS6.out _ _ Q5.out | with_reducible exact HAS5.out _ (Old.refl _)) (first
          | (go_at_call 81; refine (cj _ (Below.drew HGA.out)).mono ?_; rintro e w5 ⟨g5, rfl, q5, o5⟩; have Q5 : Hid (Old (wr.alloc (.cells #[.int .i64 p, .int .i64 Nn, .int .i64 r, .bool a, .slice ua Nn Nn] 110)) w5) := Old.trans (Below.drew (Old.refl _)) q5; have O5 : Hid (Own w5 (wr.heap.size + 1) (.slice (some ⟨g5, 0, none⟩) Nn Nn) (zss.getD k [])) := (by simp at o5; exact o5); clear q5 o5; obtain ⟨⟨ym, m1⟩, m2⟩ := (HM.out.own_old (Old.trans ((Old.refl wr).alloc _) Q5.out)).cell k hkz)
          | fail)
        all_goals
          have hg5 : wr.heap.size + 1 ≤ g5 := (O5.out.lt g5 rfl).1
          have hs5 := Q5.out.size
          have N1 : Hid (MkS zss (w5.setCell ⟨w2.heap.size, k, none⟩ (.slice (some ⟨g5, 0, none⟩) Nn Nn)) w2.heap.size w2.heap.size (k + 1)) := MkS.step HM.out hkz (Old.trans ((Old.refl wr).alloc _) Q5.out) (by omega) hsr HJL.out (Nat.le_refl _) (O5.out.low (by omega)) (by omega)
          have N2 : Hid (Old w2 (w5.setCell ⟨w2.heap.size, k, none⟩ (.slice (some ⟨g5, 0, none⟩) Nn Nn))) := (Old.trans HG.out (Old.trans ((Old.refl wr).alloc _) Q5.out)).own (p := ⟨w2.heap.size, k, none⟩) (Nat.le_refl _) _
          have N3 : w2.heap.size < (w5.setCell ⟨w2.heap.size, k, none⟩ (.slice (some ⟨g5, 0, none⟩) Nn Nn)).heap.size := by simp at hs5 ⊢; omega
          go_wp2_with fail
          exact ⟨⟨k + 1, by omega, by go_num, N1, N2, N3⟩, by simp [intOf]; omega⟩
      · have d1 : decide ((k : Int) < (ps.length : Int)) = false := by simp; omega
        obtain rfl : k = ps.length := by omega
        have HFD : Hid (OwS zss wr w2.heap.size wr.heap.size (.slice (some ⟨w2.heap.size, 0, none⟩) ps.length ps.length)) := by
          have := HM.out
          rw [← HZL.out] at this ⊢
          exact this.done (Nat.le_refl _) hsr
        have SF : Hid (StW wr (w.heap.size + 1 + 1 + 1) (.bool false) (.slice none 0 0) 51) := S2.out.old HG.out
        have z3 := (HAS.out wr (Old.trans G2.out HG.out)).2.2.1
        have q0 := SF.out.c0
        have q1 := SF.out.c1
        have f0 := SF.out.f0
        have f1 := SF.out.f1
        go_wp2_with fail
        refine bodyPost_ret (ret_rb Tryd.results80 _ _ rfl rfl (st_put2 SF.out _ _)) rfl ⟨_, rfl, ?_, some ⟨w2.heap.size, 0, none⟩, ps.length, by rw [HZL.out], ?_⟩
        · exact ((Old.trans HG2.out HG.out).own (p := ⟨w.heap.size + 1 + 1 + 1, 0, none⟩) (by simp; omega) _).own (p := ⟨w.heap.size + 1 + 1 + 1, 1, none⟩) (by simp; omega) _
        · rw [HZL.out]
          have h2 := (HFD.out.put (k := w.heap.size + 1 + 1 + 1) (j := 0) (x := .bool a) (by omega)).put (k := w.heap.size + 1 + 1 + 1) (j := 1) (x := .slice (some ⟨w2.heap.size, 0, none⟩) ps.length ps.length) (by omega)
          have h3 := h2.low (lo' := w.heap.size) (by omega)
          exact h3.high (by simp) (Nat.le_refl _)
end Go.Proofs.YtcbbljadjibfeaaDoor
