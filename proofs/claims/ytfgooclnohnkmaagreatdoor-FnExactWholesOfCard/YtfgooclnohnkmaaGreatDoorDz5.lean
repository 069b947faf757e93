/- Proved: the drawn region of divideSizes in which the quotient by a word and what is left are handed out. -/
import Derived.Test.YtfgooclnohnkmaaGreatDoorDz2
import Derived.Test.YtfgooclnohnkmaaGreatDoorNJ
namespace Go.Proofs.YtfgooclnohnkmaaGreatDoor
open Go.ChangeShapes Go.WideShapes Go.ChangeAt Go.RowKit
open M2
set_option linter.unusedVariables false
set_option linter.unusedSimpArgs false
set_option maxRecDepth 1000000 in
set_option maxHeartbeats 16000000 in
theorem reg_d5 (q r p6 : Nat) (w w6 : World) (hr : r < 268435456) (hp6 : w.heap.size + 1 + 1 + 1 < p6)
    (HQ6 : Hid (Sz w6 p6 (pad q) (cnt q))) (HX6 : Hid (Sz w6 (w.heap.size + 1 + 1) (ext []) 0)) (HY6 : Hid (Sz w6 (w.heap.size + 1 + 1 + 1) (ext []) 0)) (HO6 : Hid (Old w w6))
    (R : Ending → World → Prop) (J K : Act → World → Prop) (s0 s1 s8 s9 s10 s11 s12 s13 s14 s15 s16 s17 s18 s19 s20 s21 s22 s23 s24 s25 s26 s27 s28 s29 s30 s31 s32 s33 s34 s35 s36 s37 s38 s39 s40 s41 s42 s43 s44 s45 s46 s47 s48 s49 s50 s51 s52 s53 s54 s55 s56 s57 s58 s59 s60 s61 s62 s63 s64 s65 s66 s67 : Value)
    (HK : Hid (∀ (W : World) (u30 u31 u32 u33 : Value), Sz W (w.heap.size + 1 + 1) (pad q) (cnt q) → Sz W (w.heap.size + 1 + 1 + 1) (pad r) (cnt r) → Old w W → K ⟨#[s0, s1, .pointer (some ⟨w.heap.size, 0, none⟩), .pointer (some ⟨w.heap.size + 1, 0, none⟩), .pointer (some ⟨w.heap.size + 1 + 1, 0, none⟩), .pointer (some ⟨w.heap.size + 1 + 1 + 1, 0, none⟩), .pointer (some ⟨p6, 0, none⟩), .int .i64 (r : Int), s8, s9, s10, s11, s12, s13, s14, s15, s16, s17, s18, s19, s20, s21, s22, s23, s24, s25, s26, s27, s28, s29, u30, u31, u32, u33, s34, s35, s36, s37, s38, s39, s40, s41, s42, s43, s44, s45, s46, s47, s48, s49, s50, s51, s52, s53, s54, s55, s56, s57, s58, s59, s60, s61, s62, s63, s64, s65, s66, s67], []⟩ W)) :
    Code.wp Tryz.prog ((Tryz.f77.body.bind (regionAtLong 5)).getD .skip) (Exit.then K (Exit.then J (bodyPost Tryz.prog Tryz.f77 R))) ⟨#[s0, s1, .pointer (some ⟨w.heap.size, 0, none⟩), .pointer (some ⟨w.heap.size + 1, 0, none⟩), .pointer (some ⟨w.heap.size + 1 + 1, 0, none⟩), .pointer (some ⟨w.heap.size + 1 + 1 + 1, 0, none⟩), .pointer (some ⟨p6, 0, none⟩), .int .i64 (r : Int), s8, s9, s10, s11, s12, s13, s14, s15, s16, s17, s18, s19, s20, s21, s22, s23, s24, s25, s26, s27, s28, s29, s30, s31, s32, s33, s34, s35, s36, s37, s38, s39, s40, s41, s42, s43, s44, s45, s46, s47, s48, s49, s50, s51, s52, s53, s54, s55, s56, s57, s58, s59, s60, s61, s62, s63, s64, s65, s66, s67], []⟩ w6 := by
  conv => arg 2; whnf
  obtain ⟨N, hN, HN9⟩ : ∃ N, (∀ W, Sem.run Tryz.prog (Go.sizeOf 95) W = .ok N W) ∧ Hid (N = 81) := ⟨81, Tryz.sizeOf95, rfl⟩
  have HPQ : Hid ((pad q).length = 80) := HQ6.out.len
  have HPR : Hid ((pad r).length = 80) := pad_len' (n := r) (k := 3) (cnt_word (by omega)) (by omega)
  have hzq : (szA (pad q) (cnt q)).size = N := by rw [HN9.out]; exact szA_size HPQ.out _
  have hzr : (szA (pad r) (cnt r)).size = N := by rw [HN9.out]; exact szA_size HPR.out _
  have wr1 : IntKind.u64.wrap (r : Int) = (r : Int) := by rw [IntKind.wrap_u64]; omega
  have cw := fun W => ofWord_sz r W (by omega)
  unfold szV at cw
  have hR2 : ∀ W : World, W.heap[p6]? = some (.cells (szA (pad q) (cnt q)) 95 (0, 0)) → Sem.run Tryz.prog (loadCellsFrom ⟨p6, 0, none⟩ 0 N #[]) W = .ok (szA (pad q) (cnt q)) W := fun W h => by rw [HN9.out]; exact run_loadCells_sz h (szA_size HPQ.out _)
  have HAS : Hid (∀ W' : World, Old w6 W' → (W'.heap[p6]? = some (.cells (szA (pad q) (cnt q)) 95 (0, 0)))) := fun W' g => (HQ6.out.old g).blk
  have HKS : Hid (∀ (W' : World) (k : Nat) (cs : Array Value), k = w.heap.size + 1 + 1 ∨ k = w.heap.size + 1 + 1 + 1 → (W'.heap[p6]? = some (.cells (szA (pad q) (cnt q)) 95 (0, 0))) → ((fun W' : World => W'.heap[p6]? = some (.cells (szA (pad q) (cnt q)) 95 (0, 0))) (W'.setRow k cs))) := fun W' k cs hk h => (setRow_other _ _ _ _ (by omega)).trans h
  have tok3 : True := trivial
  go_region_held3 (fun W' => W'.heap[p6]? = some (.cells (szA (pad q) (cnt q)) 95 (0, 0))) (first | exact HKS.out _ _ _ (Or.inr rfl) (HKS.out _ _ _ (Or.inl rfl) (HAS.out _ G7.out)) | exact HKS.out _ _ _ (Or.inl rfl) (HAS.out _ G7.out) | exact HAS.out _ G7.out | exact HAS.out _ (Below.drew (Old.refl w6)) | exact HAS.out _ (Old.refl w6) | fail) (first
    | (go_at_call 143; refine (cw _).mono ?_; rintro e w7 ⟨rfl, g7⟩; have G7 : Hid (Old w6 w7) := Old.trans ((Old.refl _).drewN 1) g7; have HX7 : Hid (Sz w7 (w.heap.size + 1 + 1) (ext []) 0) := HX6.out.old G7.out; have HY7 : Hid (Sz w7 (w.heap.size + 1 + 1 + 1) (ext []) 0) := HY6.out.old G7.out; clear g7)
    | (have _t := tok3; refine upon_sa HX7.out (pad q) (cnt q) HPQ.out ?_; clear tok3; go_simp)
    | (refine upon_sa (HY7.out.otherRow (by omega) _) (pad r) (cnt r) HPR.out ?_; go_simp)
    | fail)
  all_goals
    go_wp2_with fail
    exact HK.out _ _ _ _ _ ((HX7.out.row (pad q) (cnt q) HPQ.out).otherRow (by omega) _) ((HY7.out.otherRow (by omega) _).row (pad r) (cnt r) HPR.out) (((Old.trans HO6.out G7.out).row (by omega) _).row (by omega) _)
end Go.Proofs.YtfgooclnohnkmaaGreatDoor
