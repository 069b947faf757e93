/- Proved: the drawn region of divideSizes in which the long quotient and what is left are handed out. -/
import Derived.Test.YtfgooclnohnkmaaGreatDoorDz2
namespace Go.Proofs.YtfgooclnohnkmaaGreatDoor
open Go.ChangeShapes Go.WideShapes Go.ChangeAt Go.RowKit
open M2
set_option linter.unusedVariables false
set_option linter.unusedSimpArgs false
set_option maxRecDepth 1000000 in
set_option maxHeartbeats 16000000 in
theorem reg_d9 (lq lr : List Nat) (nq nr p9 p11 : Nat) (w w6 : World) (hp9 : w.heap.size + 1 + 1 + 1 < p9) (hp11 : w.heap.size + 1 + 1 + 1 < p11)
    (HQ6 : Hid (Sz w6 p9 lq nq)) (HR6 : Hid (Sz w6 p11 lr nr)) (HX6 : Hid (Sz w6 (w.heap.size + 1 + 1) (ext []) 0)) (HY6 : Hid (Sz w6 (w.heap.size + 1 + 1 + 1) (ext []) 0)) (HO6 : Hid (Old w w6))
    (R : Ending → World → Prop) (K : Act → World → Prop) (s0 s1 s6 s7 s8 s10 s12 s13 s14 s15 s16 s17 s18 s19 s20 s21 s22 s23 s24 s25 s26 s27 s28 s29 s30 s31 s32 s33 s34 s35 s36 s37 s38 s39 s40 s41 s42 s43 s44 s45 s46 s47 s48 s49 s50 s51 s52 s53 s54 s55 s56 s57 s58 s59 s60 s61 s62 s63 s64 s65 s66 s67 : Value)
    (HK : Hid (∀ (W : World) (u66 u67 : Value), Sz W (w.heap.size + 1 + 1) lq nq → Sz W (w.heap.size + 1 + 1 + 1) lr nr → Old w W → K ⟨#[s0, s1, .pointer (some ⟨w.heap.size, 0, none⟩), .pointer (some ⟨w.heap.size + 1, 0, none⟩), .pointer (some ⟨w.heap.size + 1 + 1, 0, none⟩), .pointer (some ⟨w.heap.size + 1 + 1 + 1, 0, none⟩), s6, s7, s8, .pointer (some ⟨p9, 0, none⟩), s10, .pointer (some ⟨p11, 0, none⟩), s12, s13, s14, s15, s16, s17, s18, s19, s20, s21, s22, s23, s24, s25, s26, s27, s28, s29, s30, s31, s32, s33, s34, s35, s36, s37, s38, s39, s40, s41, s42, s43, s44, s45, s46, s47, s48, s49, s50, s51, s52, s53, s54, s55, s56, s57, s58, s59, s60, s61, s62, s63, s64, s65, u66, u67], []⟩ W)) :
    Code.wp Tryz.prog ((Tryz.f77.body.bind (regionAtLong 9)).getD .skip) (Exit.then K (bodyPost Tryz.prog Tryz.f77 R)) ⟨#[s0, s1, .pointer (some ⟨w.heap.size, 0, none⟩), .pointer (some ⟨w.heap.size + 1, 0, none⟩), .pointer (some ⟨w.heap.size + 1 + 1, 0, none⟩), .pointer (some ⟨w.heap.size + 1 + 1 + 1, 0, none⟩), s6, s7, s8, .pointer (some ⟨p9, 0, none⟩), s10, .pointer (some ⟨p11, 0, none⟩), s12, s13, s14, s15, s16, s17, s18, s19, s20, s21, s22, s23, s24, s25, s26, s27, s28, s29, s30, s31, s32, s33, s34, s35, s36, s37, s38, s39, s40, s41, s42, s43, s44, s45, s46, s47, s48, s49, s50, s51, s52, s53, s54, s55, s56, s57, s58, s59, s60, s61, s62, s63, s64, s65, s66, s67], []⟩ w6 := by
  conv => arg 2; whnf
  obtain ⟨N, hN, HN9⟩ : ∃ N, (∀ W, Sem.run Tryz.prog (Go.sizeOf 95) W = .ok N W) ∧ Hid (N = 81) := ⟨81, Tryz.sizeOf95, rfl⟩
  have HPQ : Hid (lq.length = 80) := HQ6.out.len
  have HPR : Hid (lr.length = 80) := HR6.out.len
  have hzq : (szA lq nq).size = N := by rw [HN9.out]; exact szA_size HPQ.out _
  have hzr : (szA lr nr).size = N := by rw [HN9.out]; exact szA_size HPR.out _
  have hR1 : ∀ W : World, W.heap[p9]? = some (.cells (szA lq nq) 95 (0, 0)) → Sem.run Tryz.prog (loadCellsFrom ⟨p9, 0, none⟩ 0 N #[]) W = .ok (szA lq nq) W := fun W h => by rw [HN9.out]; exact run_loadCells_sz h (szA_size HPQ.out _)
  have hR2 : ∀ W : World, W.heap[p11]? = some (.cells (szA lr nr) 95 (0, 0)) → Sem.run Tryz.prog (loadCellsFrom ⟨p11, 0, none⟩ 0 N #[]) W = .ok (szA lr nr) W := fun W h => by rw [HN9.out]; exact run_loadCells_sz h (szA_size HPR.out _)
  have HAS : Hid (∀ W' : World, Old w6 W' → (W'.heap[p9]? = some (.cells (szA lq nq) 95 (0, 0)) ∧ W'.heap[p11]? = some (.cells (szA lr nr) 95 (0, 0)))) := fun W' g => ⟨(HQ6.out.old g).blk, (HR6.out.old g).blk⟩
  have HKS : Hid (∀ (W' : World) (k : Nat) (cs : Array Value), k = w.heap.size + 1 + 1 ∨ k = w.heap.size + 1 + 1 + 1 → (W'.heap[p9]? = some (.cells (szA lq nq) 95 (0, 0)) ∧ W'.heap[p11]? = some (.cells (szA lr nr) 95 (0, 0))) → ((fun W' : World => W'.heap[p9]? = some (.cells (szA lq nq) 95 (0, 0)) ∧ W'.heap[p11]? = some (.cells (szA lr nr) 95 (0, 0))) (W'.setRow k cs))) := fun W' k cs hk h => ⟨(setRow_other _ _ _ _ (by omega)).trans h.1, (setRow_other _ _ _ _ (by omega)).trans h.2⟩
  have HXD : Hid (Sz w6.drew (w.heap.size + 1 + 1) (ext []) 0) := HX6.out.drw
  have HYD : Hid (Sz w6.drew (w.heap.size + 1 + 1 + 1) (ext []) 0) := HY6.out.drw
  have tok3 : True := trivial
  go_region_held3 (fun W' => W'.heap[p9]? = some (.cells (szA lq nq) 95 (0, 0)) ∧ W'.heap[p11]? = some (.cells (szA lr nr) 95 (0, 0))) (first | exact HKS.out _ _ _ (Or.inr rfl) (HKS.out _ _ _ (Or.inl rfl) (HAS.out _ (Below.drew (Old.refl w6)))) | exact HKS.out _ _ _ (Or.inl rfl) (HAS.out _ (Below.drew (Old.refl w6))) | exact HAS.out _ (Below.drew (Old.refl w6)) | exact HAS.out _ (Old.refl w6) | fail) (first
    | (have _t := tok3; refine upon_sa HXD.out lq nq HPQ.out ?_; clear tok3; go_simp)
    | (refine upon_sa (HYD.out.otherRow (by omega) _) lr nr HPR.out ?_; go_simp)
    | fail)
  all_goals
    go_wp2_with fail
    exact HK.out _ _ _ ((HXD.out.row lq nq HPQ.out).otherRow (by omega) _) ((HYD.out.otherRow (by omega) _).row lr nr HPR.out) (((Old.drw HO6.out).row (by omega) _).row (by omega) _)
end Go.Proofs.YtfgooclnohnkmaaGreatDoor
