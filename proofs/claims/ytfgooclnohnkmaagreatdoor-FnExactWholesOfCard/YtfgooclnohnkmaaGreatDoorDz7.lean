/- Proved: the drawn region of divideSizes in which both are stretched and divided. -/
import Derived.Test.YtfgooclnohnkmaaGreatDoorDz2
namespace Go.Proofs.YtfgooclnohnkmaaGreatDoor
open Go.ChangeShapes Go.WideShapes Go.ChangeAt Go.RowKit
open M2
set_option linter.unusedVariables false
set_option linter.unusedSimpArgs false
/-- two sizes that were made -/
structure TwoL (w0 : World) (lq lr : List Nat) (nq nr : Nat) (W : World) (p9 p10 : Nat) : Prop where
  old : Old w0 W
  z9 : Sz W p9 lq nq
  z10 : Sz W p10 lr nr
  lo9 : w0.heap.size ≤ p9
  lo10 : w0.heap.size ≤ p10
set_option maxRecDepth 1000000 in
set_option maxHeartbeats 16000000 in
theorem reg_d7 (la lb lA lV lq lr : List Nat) (na nb nA nV nq nr s p0 : Nat) (w w2 : World) (h0 : w.heap.size + 1 < w2.heap.size)
    (HA : Hid (Sz w2 w.heap.size la na)) (HB : Hid (Sz w2 (w.heap.size + 1) lb nb)) (HLQ : Hid (lq.length = 80)) (HLR : Hid (lr.length = 80)) (hp0 : IntKind.i64.wrap ((na : Int) - (nb : Int)) = (p0 : Int))
    (ca : ∀ W, Calls Tryz.prog 133 #[.agg (szA la na), .int .i64 (s : Int), .int .i64 0] W fun e w' => e = .returned (.agg (szA lA nA)) ∧ Old W w')
    (cb : ∀ W, Calls Tryz.prog 133 #[.agg (szA lb nb), .int .i64 (s : Int), .int .i64 0] W fun e w' => e = .returned (.agg (szA lV nV)) ∧ Old W w')
    (cl : ∀ W, Calls Tryz.prog 144 #[.agg (szA lA nA), .agg (szA lV nV), .int .i64 (p0 : Int)] W fun e w' => e = .returned (.tuple #[.agg (szA lq nq), .agg (szA lr nr)]) ∧ Old W w')
    (R : Ending → World → Prop) (K : Act → World → Prop) (s0 s1 s6 s7 s9 s10 s11 s12 s13 s14 s15 s16 s17 s18 s19 s20 s21 s22 s23 s24 s25 s26 s27 s28 s29 s30 s31 s32 s33 s34 s35 s36 s37 s38 s39 s40 s41 s42 s43 s44 s45 s46 s47 s48 s49 s50 s51 s52 s53 s54 s55 s56 s57 s58 s59 s60 s61 s62 s63 s64 s65 s66 s67 : Value)
    (HK : Hid (∀ (p9 p10 : Nat) (W : World) (u45 u46 u47 u48 u49 u50 u51 u52 u53 u54 u55 u56 u57 u58 u59 : Value), TwoL w2 lq lr nq nr W p9 p10 → K ⟨#[s0, s1, .pointer (some ⟨w.heap.size, 0, none⟩), .pointer (some ⟨w.heap.size + 1, 0, none⟩), .pointer (some ⟨w.heap.size + 1 + 1, 0, none⟩), .pointer (some ⟨w.heap.size + 1 + 1 + 1, 0, none⟩), s6, s7, .int .i64 (s : Int), .pointer (some ⟨p9, 0, none⟩), .pointer (some ⟨p10, 0, none⟩), s11, s12, s13, s14, s15, s16, s17, s18, s19, s20, s21, s22, s23, s24, s25, s26, s27, s28, s29, s30, s31, s32, s33, s34, s35, s36, s37, s38, s39, s40, s41, s42, s43, s44, u45, u46, u47, u48, u49, u50, u51, u52, u53, u54, u55, u56, u57, u58, u59, s60, s61, s62, s63, s64, s65, s66, s67], []⟩ W)) :
    Code.wp Tryz.prog ((Tryz.f77.body.bind (regionAtLong 7)).getD .skip) (Exit.then K (bodyPost Tryz.prog Tryz.f77 R)) ⟨#[s0, s1, .pointer (some ⟨w.heap.size, 0, none⟩), .pointer (some ⟨w.heap.size + 1, 0, none⟩), .pointer (some ⟨w.heap.size + 1 + 1, 0, none⟩), .pointer (some ⟨w.heap.size + 1 + 1 + 1, 0, none⟩), s6, s7, .int .i64 (s : Int), s9, s10, s11, s12, s13, s14, s15, s16, s17, s18, s19, s20, s21, s22, s23, s24, s25, s26, s27, s28, s29, s30, s31, s32, s33, s34, s35, s36, s37, s38, s39, s40, s41, s42, s43, s44, s45, s46, s47, s48, s49, s50, s51, s52, s53, s54, s55, s56, s57, s58, s59, s60, s61, s62, s63, s64, s65, s66, s67], []⟩ w2 := by
  conv => arg 2; whnf
  obtain ⟨N, hN, HN⟩ : ∃ N, (∀ W, Sem.run Tryz.prog (Go.sizeOf 95) W = .ok N W) ∧ Hid (N = 81) := ⟨81, Tryz.sizeOf95, rfl⟩
  have HPA : Hid (la.length = 80) := HA.out.len
  have HPB : Hid (lb.length = 80) := HB.out.len
  have hlq : (szA lq nq).size = N := by rw [HN.out]; exact szA_size HLQ.out _
  have hlr : (szA lr nr).size = N := by rw [HN.out]; exact szA_size HLR.out _
  have hR1 : ∀ W : World, W.heap[w.heap.size]? = some (.cells (szA la na) 95 (0, 0)) → Sem.run Tryz.prog (loadCellsFrom ⟨w.heap.size, 0, none⟩ 0 N #[]) W = .ok (szA la na) W := fun W h => by rw [HN.out]; exact run_loadCells_sz h (szA_size HPA.out _)
  have hR2 : ∀ W : World, W.heap[w.heap.size + 1]? = some (.cells (szA lb nb) 95 (0, 0)) → Sem.run Tryz.prog (loadCellsFrom ⟨w.heap.size + 1, 0, none⟩ 0 N #[]) W = .ok (szA lb nb) W := fun W h => by rw [HN.out]; exact run_loadCells_sz h (szA_size HPB.out _)
  have HAS : Hid (∀ W', Old w2 W' → (W'.heap[w.heap.size]? = some (.cells (szA la na) 95 (0, 0)) ∧ W'.heap[w.heap.size + 1]? = some (.cells (szA lb nb) 95 (0, 0)) ∧ W'.cell? ⟨w.heap.size, 80, none⟩ = some (.int .i64 (na : Int)) ∧ W'.cell? ⟨w.heap.size + 1, 80, none⟩ = some (.int .i64 (nb : Int)))) := fun W' g => ⟨(HA.out.old g).blk, (HB.out.old g).blk, (HA.out.old g).cnt, (HB.out.old g).cnt⟩
  have tok : True := trivial
  have tok2 : True := trivial
  go_region_held3 (fun W' => W'.heap[w.heap.size]? = some (.cells (szA la na) 95 (0, 0)) ∧ W'.heap[w.heap.size + 1]? = some (.cells (szA lb nb) 95 (0, 0)) ∧ W'.cell? ⟨w.heap.size, 80, none⟩ = some (.int .i64 (na : Int)) ∧ W'.cell? ⟨w.heap.size + 1, 80, none⟩ = some (.int .i64 (nb : Int))) (first | exact HAS.out _ (by repeat' (first | exact Old.refl _ | refine Old.drw ?_ | refine Old.alloc ?_ _ | refine Old.trans ?_ H5.out | refine Old.trans ?_ H4.out | refine Old.trans ?_ H3.out | refine Old.row ?_ (by omega) _ | fail)) | fail) (first
    | (go_at_call 133; have _t := tok; refine (ca _).mono ?_; rintro e w3 ⟨rfl, g3⟩; have q3 := g3.size; (try simp at q3); have H3 : Hid (Old _ w3) := g3; clear tok g3)
    | (go_at_call 133; refine (cb _).mono ?_; rintro e w4 ⟨rfl, g4⟩; have q4 := g4.size; (try simp at q4); have H4 : Hid (Old _ w4) := g4; clear g4)
    | (go_at_call 144; refine (cl _).mono ?_; rintro e w5 ⟨rfl, g5⟩; have q5 := g5.size; (try simp at q5); have H5 : Hid (Old _ w5) := g5; clear g5)
    | (have _t := tok2; refine upon_sa (ls := ext []) (c := 0) (by repeat' (first | with_reducible exact Sz.zero0 _ | with_reducible exact Sz.zero1 _ _ | refine Sz.drw ?_ | refine Sz.alloc ?_ _ | refine Sz.old ?_ H5.out | refine Sz.old ?_ H4.out | refine Sz.old ?_ H3.out | refine Sz.otherRow ?_ (by omega) _ | fail)) lq nq HLQ.out ?_; clear tok2; go_simp)
    | (refine upon_sa (ls := ext []) (c := 0) (by repeat' (first | with_reducible exact Sz.zero0 _ | with_reducible exact Sz.zero1 _ _ | refine Sz.drw ?_ | refine Sz.alloc ?_ _ | refine Sz.old ?_ H5.out | refine Sz.old ?_ H4.out | refine Sz.old ?_ H3.out | refine Sz.otherRow ?_ (by omega) _ | fail)) lr nr HLR.out ?_; go_simp)
    | fail)
  all_goals
    go_wp2_with fail
    refine HK.out _ _ _ _ _ _ _ _ _ _ _ _ _ _ _ _ _ _ ⟨by repeat' (first | exact Old.refl _ | refine Old.drw ?_ | refine Old.alloc ?_ _ | refine Old.trans ?_ H5.out | refine Old.trans ?_ H4.out | refine Old.trans ?_ H3.out | refine Old.row ?_ (by omega) _ | fail), ?_, ?_, by omega, by omega⟩
    · exact Sz.otherRow (Sz.row (ls := ext []) (c := 0) (by repeat' (first | with_reducible exact Sz.zero0 _ | with_reducible exact Sz.zero1 _ _ | refine Sz.drw ?_ | refine Sz.alloc ?_ _ | refine Sz.old ?_ H5.out | refine Sz.old ?_ H4.out | refine Sz.old ?_ H3.out | refine Sz.otherRow ?_ (by omega) _ | fail)) _ _ HLQ.out) (by omega) _
    · exact Sz.row (ls := ext []) (c := 0) (by repeat' (first | with_reducible exact Sz.zero0 _ | with_reducible exact Sz.zero1 _ _ | refine Sz.drw ?_ | refine Sz.alloc ?_ _ | refine Sz.old ?_ H5.out | refine Sz.old ?_ H4.out | refine Sz.old ?_ H3.out | refine Sz.otherRow ?_ (by omega) _ | fail)) _ _ HLR.out
end Go.Proofs.YtfgooclnohnkmaaGreatDoor
