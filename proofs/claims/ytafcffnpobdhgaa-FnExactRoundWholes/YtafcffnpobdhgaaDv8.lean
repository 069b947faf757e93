/- Proved: the drawn region of DivWholes in which the quotient and what is left are told. -/
import Derived.Test.YtafcffnpobdhgaaDv6
namespace Go.Proofs.Ytafcffnpobdhgaa
open Go.ChangeShapes Go.WideShapes Go.ChangeAt Go.RowKit
open M2
set_option linter.unusedVariables false
set_option linter.unusedSimpArgs false
theorem set_two {W : World} {p q : Nat} {o : Option Obj} (v0 v1 : Value) (h : W.heap[q]? = o) (hne : q ≠ p) : ((W.setCell ⟨p, 0, none⟩ v0).setCell ⟨p, 1, none⟩ v1).heap[q]? = o := ((heap_setCell_other _ _ _ _ hne).trans (heap_setCell_other _ _ _ _ hne)).trans h
theorem set_twoC {W : World} {p : Nat} {q : Addr} {o : Option Value} (v0 v1 : Value) (h : W.cell? q = o) (hne : q.block ≠ p) : ((W.setCell ⟨p, 0, none⟩ v0).setCell ⟨p, 1, none⟩ v1).cell? q = o := ((cell_other _ _ _ _ hne).trans (cell_other _ _ _ _ hne)).trans h
set_option maxRecDepth 1000000 in
set_option maxHeartbeats 16000000 in
theorem reg_v8 (n bq : Bool) (lq lr : List Nat) (nq nr p2 p4 p5 p8 p9 : Nat) (zq zr : List Int) (x0 : Value) (w2 : World)
    (n24 : p2 ≠ p4) (n25 : p2 ≠ p5) (n45 : p4 ≠ p5) (n84 : p8 ≠ p4) (n85 : p8 ≠ p5) (n94 : p9 ≠ p4) (n95 : p9 ≠ p5)
    (SA : Hid (St w2 p2 (.bool n) x0 25)) (S4 : Hid (St w2 p4 (.bool false) (.slice none 0 0) 25)) (S5 : Hid (St w2 p5 (.bool false) (.slice none 0 0) 25)) (HQ : Hid (Sz w2 p8 lq nq)) (HR : Hid (Sz w2 p9 lr nr))
    (ca : ∀ W, Calls Try.prog 47 #[.bool n, .agg (szA lq nq)] W fun e w' => ∃ v', e = .returned (.agg #[.bool bq, v']) ∧ Old W w' ∧ Own w' W.heap.size v' zq)
    (cb : ∀ W, Calls Try.prog 47 #[.bool false, .agg (szA lr nr)] W fun e w' => ∃ v', e = .returned (.agg #[.bool false, v']) ∧ Old W w' ∧ Own w' W.heap.size v' zr)
    (Q : Exit → Act → World → Prop) (K : Act → World → Prop) (s0 s1 s3 s6 s7 s10 s11 s12 s13 s14 s15 s16 s17 s18 s19 s20 s21 s22 s23 s24 s25 s26 s27 s28 s29 s30 s31 s32 s33 s34 s35 s36 s37 s38 s39 s40 s41 s42 s43 s44 s45 s46 s47 s48 s49 s50 s51 s52 s53 s54 s55 s56 s57 : Value)
    (HK : Hid (∀ (W1 W : World) (x y : Value) (u52 u53 u54 u55 u56 u57 : Value), Old w2 W1 → Own W1 w2.heap.size x zq → Own W1 w2.heap.size y zr → W = ((((W1.setCell ⟨p4, 0, none⟩ (.bool bq)).setCell ⟨p4, 1, none⟩ x).setCell ⟨p5, 0, none⟩ (.bool false)).setCell ⟨p5, 1, none⟩ y) → K ⟨#[s0, s1, .pointer (some ⟨p2, 0, none⟩), s3, .pointer (some ⟨p4, 0, none⟩), .pointer (some ⟨p5, 0, none⟩), .bool true, s7, .pointer (some ⟨p8, 0, none⟩), .pointer (some ⟨p9, 0, none⟩), s10, s11, s12, s13, s14, s15, s16, s17, s18, s19, s20, s21, s22, s23, s24, s25, s26, s27, s28, s29, s30, s31, s32, s33, s34, s35, s36, s37, s38, s39, s40, s41, s42, s43, s44, s45, s46, s47, s48, s49, s50, s51, u52, u53, u54, u55, u56, u57], []⟩ W)) :
    Code.wp Try.prog ((Try.f17.body.bind (regionAtDiv 8)).getD .skip) (Exit.then K Q) ⟨#[s0, s1, .pointer (some ⟨p2, 0, none⟩), s3, .pointer (some ⟨p4, 0, none⟩), .pointer (some ⟨p5, 0, none⟩), s6, s7, .pointer (some ⟨p8, 0, none⟩), .pointer (some ⟨p9, 0, none⟩), s10, s11, s12, s13, s14, s15, s16, s17, s18, s19, s20, s21, s22, s23, s24, s25, s26, s27, s28, s29, s30, s31, s32, s33, s34, s35, s36, s37, s38, s39, s40, s41, s42, s43, s44, s45, s46, s47, s48, s49, s50, s51, s52, s53, s54, s55, s56, s57], []⟩ w2 := by
  conv => arg 2; whnf
  obtain ⟨N, hN, HN⟩ : ∃ N, (∀ W, Sem.run Try.prog (Go.sizeOf 49) W = .ok N W) ∧ Hid (N = 81) := ⟨81, Try.sizeOf49, rfl⟩
  have hR1 : ∀ W : World, W.heap[p8]? = some (.cells (szA lq nq) 49 (0, 0)) → Sem.run Try.prog (loadCellsFrom ⟨p8, 0, none⟩ 0 N #[]) W = .ok (szA lq nq) W := fun W h => by rw [HN.out]; exact run_loadCells_sz h (szA_size HQ.out.len _)
  have hR2 : ∀ W : World, W.heap[p9]? = some (.cells (szA lr nr) 49 (0, 0)) → Sem.run Try.prog (loadCellsFrom ⟨p9, 0, none⟩ 0 N #[]) W = .ok (szA lr nr) W := fun W h => by rw [HN.out]; exact run_loadCells_sz h (szA_size HR.out.len _)
  have HAS : Hid (∀ W' : World, Old w2 W' → (W'.cell? ⟨p2, 0, none⟩ = some (.bool n) ∧ W'.heap[p8]? = some (.cells (szA lq nq) 49 (0, 0)) ∧ W'.heap[p9]? = some (.cells (szA lr nr) 49 (0, 0)))) := fun W' g => ⟨(SA.out.old g).c0, (HQ.out.old g).blk, (HR.out.old g).blk⟩
  have HK4 : Hid (∀ (W' : World) (v0 v1 : Value), (W'.cell? ⟨p2, 0, none⟩ = some (.bool n) ∧ W'.heap[p8]? = some (.cells (szA lq nq) 49 (0, 0)) ∧ W'.heap[p9]? = some (.cells (szA lr nr) 49 (0, 0))) → ((fun W' : World => W'.cell? ⟨p2, 0, none⟩ = some (.bool n) ∧ W'.heap[p8]? = some (.cells (szA lq nq) 49 (0, 0)) ∧ W'.heap[p9]? = some (.cells (szA lr nr) 49 (0, 0))) ((W'.setCell ⟨p4, 0, none⟩ v0).setCell ⟨p4, 1, none⟩ v1))) := fun W' v0 v1 h => ⟨set_twoC _ _ h.1 n24, set_two _ _ h.2.1 n84, set_two _ _ h.2.2 n94⟩
  have HK5 : Hid (∀ (W' : World) (v0 v1 : Value), (W'.cell? ⟨p2, 0, none⟩ = some (.bool n) ∧ W'.heap[p8]? = some (.cells (szA lq nq) 49 (0, 0)) ∧ W'.heap[p9]? = some (.cells (szA lr nr) 49 (0, 0))) → ((fun W' : World => W'.cell? ⟨p2, 0, none⟩ = some (.bool n) ∧ W'.heap[p8]? = some (.cells (szA lq nq) 49 (0, 0)) ∧ W'.heap[p9]? = some (.cells (szA lr nr) 49 (0, 0))) ((W'.setCell ⟨p5, 0, none⟩ v0).setCell ⟨p5, 1, none⟩ v1))) := fun W' v0 v1 h => ⟨set_twoC _ _ h.1 n25, set_two _ _ h.2.1 n85, set_two _ _ h.2.2 n95⟩
  have tok : True := trivial
  refine wp_region_noPanic ?_
  go_region_held3 (fun W' => W'.cell? ⟨p2, 0, none⟩ = some (.bool n) ∧ W'.heap[p8]? = some (.cells (szA lq nq) 49 (0, 0)) ∧ W'.heap[p9]? = some (.cells (szA lr nr) 49 (0, 0))) (first | with_reducible exact HK5.out _ _ _ (HK4.out _ _ _ (HAS.out _ G2.out)) | with_reducible exact HK4.out _ _ _ (HAS.out _ G2.out) | with_reducible exact HAS.out _ G2.out | with_reducible exact HAS.out _ G1.out | with_reducible exact HAS.out _ (Below.drew (Old.refl w2)) | with_reducible exact HAS.out _ (Old.refl w2) | fail) (first
    | (go_at_call 47; have _t := tok; refine (ca _).mono ?_; rintro e w3 ⟨v3, rfl, g3, o3⟩; have G1 : Hid (Old w2 w3) := Old.trans (Below.drew (Old.refl w2)) g3; obtain ⟨a3, cap3, rfl⟩ := (Own.row o3).slice; have O1 : Hid (Own w3 w2.heap.size _ zq) := o3; clear tok g3 o3)
    | (go_at_call 47; refine (cb _).mono ?_; rintro e w4 ⟨v4, rfl, g4, o4⟩; have G2 : Hid (Old w2 w4) := Old.trans G1.out g4; have O3 : Hid (Own w4 w2.heap.size _ zq) := O1.out.old g4; obtain ⟨a4, cap4, rfl⟩ := (Own.row o4).slice; have O2 : Hid (Own w4 w2.heap.size _ zr) := Own.low o4 G1.out.size; have s40 := (S4.out.old G2.out).c0; have s41 := (S4.out.old G2.out).c1; have f40 := (S4.out.old G2.out).f0; have f41 := (S4.out.old G2.out).f1; have s50 := (S5.out.old G2.out).c0; have s51 := (S5.out.old G2.out).c1; have f50 := (S5.out.old G2.out).f0; have f51 := (S5.out.old G2.out).f1; clear g4 o4)
    | fail)
  all_goals
    refine NoPanic.normal ?_
    go_wp2_with fail
    exact HK.out _ _ _ _ _ _ _ _ _ _ G2.out O3.out O2.out rfl
end Go.Proofs.Ytafcffnpobdhgaa
