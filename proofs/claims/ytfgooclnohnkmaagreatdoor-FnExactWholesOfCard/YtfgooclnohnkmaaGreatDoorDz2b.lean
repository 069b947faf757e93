/- Proved: the drawn region of divideSizes in which nothing and the number itself are handed out. -/
import Derived.Test.YtfgooclnohnkmaaGreatDoorDz2
namespace Go.Proofs.YtfgooclnohnkmaaGreatDoor
open Go.ChangeShapes Go.WideShapes Go.ChangeAt Go.RowKit
open M2
set_option linter.unusedVariables false
set_option linter.unusedSimpArgs false
set_option maxRecDepth 1000000 in
set_option maxHeartbeats 16000000 in
theorem reg_d2n (a : Nat) (w w6 : World)
    (HA6 : Hid (Sz w6 w.heap.size (pad a) (cnt a))) (HX6 : Hid (Sz w6 (w.heap.size + 1 + 1) (ext []) 0)) (HY6 : Hid (Sz w6 (w.heap.size + 1 + 1 + 1) (ext []) 0)) (HO6 : Hid (Old w w6))
    (R : Ending → World → Prop) (J K : Act → World → Prop) (s0 s1 s6 s7 s8 s9 s10 s11 s12 s13 s14 s15 s16 s17 s18 s19 s20 s21 s22 s23 s24 s25 s26 s27 s28 s29 s30 s31 s32 s33 s34 s35 s36 s37 s38 s39 s40 s41 s42 s43 s44 s45 s46 s47 s48 s49 s50 s51 s52 s53 s54 s55 s56 s57 s58 s59 s60 s61 s62 s63 s64 s65 s66 s67 : Value)
    (HK : Hid (∀ (W : World) (u17 u18 : Value), Sz W (w.heap.size + 1 + 1) (ext []) 0 → Sz W (w.heap.size + 1 + 1 + 1) (pad a) (cnt a) → Old w W → K ⟨#[s0, s1, .pointer (some ⟨w.heap.size, 0, none⟩), .pointer (some ⟨w.heap.size + 1, 0, none⟩), .pointer (some ⟨w.heap.size + 1 + 1, 0, none⟩), .pointer (some ⟨w.heap.size + 1 + 1 + 1, 0, none⟩), s6, s7, s8, s9, s10, s11, s12, s13, s14, s15, s16, u17, u18, s19, s20, s21, s22, s23, s24, s25, s26, s27, s28, s29, s30, s31, s32, s33, s34, s35, s36, s37, s38, s39, s40, s41, s42, s43, s44, s45, s46, s47, s48, s49, s50, s51, s52, s53, s54, s55, s56, s57, s58, s59, s60, s61, s62, s63, s64, s65, s66, s67], []⟩ W)) :
    Code.wp Tryz.prog ((Tryz.f77.body.bind (regionAtLong 2)).getD .skip) (Exit.then K (Exit.then J (bodyPost Tryz.prog Tryz.f77 R))) ⟨#[s0, s1, .pointer (some ⟨w.heap.size, 0, none⟩), .pointer (some ⟨w.heap.size + 1, 0, none⟩), .pointer (some ⟨w.heap.size + 1 + 1, 0, none⟩), .pointer (some ⟨w.heap.size + 1 + 1 + 1, 0, none⟩), s6, s7, s8, s9, s10, s11, s12, s13, s14, s15, s16, s17, s18, s19, s20, s21, s22, s23, s24, s25, s26, s27, s28, s29, s30, s31, s32, s33, s34, s35, s36, s37, s38, s39, s40, s41, s42, s43, s44, s45, s46, s47, s48, s49, s50, s51, s52, s53, s54, s55, s56, s57, s58, s59, s60, s61, s62, s63, s64, s65, s66, s67], []⟩ w6 := by
  conv => arg 2; whnf
  obtain ⟨N, hN, HN9⟩ : ∃ N, (∀ W, Sem.run Tryz.prog (Go.sizeOf 95) W = .ok N W) ∧ Hid (N = 81) := ⟨81, Tryz.sizeOf95, rfl⟩
  have HPA : Hid ((pad a).length = 80) := HA6.out.len
  have hza : (szA (pad a) (cnt a)).size = N := by rw [HN9.out]; exact szA_size HPA.out _
  have h81 : (81 = N) = True := by simp [HN9.out]
  have hR2 : ∀ W : World, W.heap[w.heap.size]? = some (.cells (szA (pad a) (cnt a)) 95 (0, 0)) → Sem.run Tryz.prog (loadCellsFrom ⟨w.heap.size, 0, none⟩ 0 N #[]) W = .ok (szA (pad a) (cnt a)) W := fun W h => by rw [HN9.out]; exact run_loadCells_sz h (szA_size HPA.out _)
  have HAS : Hid (∀ W' : World, Old w6 W' → (W'.heap[w.heap.size]? = some (.cells (szA (pad a) (cnt a)) 95 (0, 0)))) := fun W' g => (HA6.out.old g).blk
  have HKS : Hid (∀ (W' : World) (k : Nat) (cs : Array Value), k = w.heap.size + 1 + 1 ∨ k = w.heap.size + 1 + 1 + 1 → (W'.heap[w.heap.size]? = some (.cells (szA (pad a) (cnt a)) 95 (0, 0))) → ((fun W' : World => W'.heap[w.heap.size]? = some (.cells (szA (pad a) (cnt a)) 95 (0, 0))) (W'.setRow k cs))) := fun W' k cs hk h => (setRow_other _ _ _ _ (by omega)).trans h
  have HXD : Hid (Sz w6.drew (w.heap.size + 1 + 1) (ext []) 0) := HX6.out.drw
  have HYD : Hid (Sz w6.drew (w.heap.size + 1 + 1 + 1) (ext []) 0) := HY6.out.drw
  have tok3 : True := trivial
  go_region_held3 (fun W' => W'.heap[w.heap.size]? = some (.cells (szA (pad a) (cnt a)) 95 (0, 0))) (first | exact HKS.out _ _ _ (Or.inr rfl) (HKS.out _ _ _ (Or.inl rfl) (HAS.out _ (Below.drew (Old.refl w6)))) | exact HKS.out _ _ _ (Or.inl rfl) (HAS.out _ (Below.drew (Old.refl w6))) | exact HAS.out _ (Below.drew (Old.refl w6)) | exact HAS.out _ (Old.refl w6) | fail) (first
    | (have _t := tok3; refine upon_zero HXD.out ?_; clear tok3; go_simp)
    | (refine upon_sa (HYD.out.otherRow (by omega) _) (pad a) (cnt a) HPA.out ?_; go_simp)
    | fail)
  all_goals
    go_wp2_with fail
    exact HK.out _ _ _ ((HXD.out.row (ext []) 0 (ext_len (by simp))).otherRow (by omega) _) ((HYD.out.otherRow (by omega) _).row (pad a) (cnt a) HPA.out) (((Old.drw HO6.out).row (by omega) _).row (by omega) _)
end Go.Proofs.YtfgooclnohnkmaaGreatDoor
