/- Proved: several texts in one: what each proves is said ahead of it. -/
import Derived.Test.YtfcdfielbpdloaaGreatDoorC224
import Derived.ScopeJumps
import Derived.Test.YtfcdfielbpdloaaGreatDoorC208
/- Proved: the last drawn region of divideLong: quotient and what is left, trimmed and handed out. -/
namespace Go.Proofs.YtfcdfielbpdloaaGreatDoor
open Go.ChangeShapes Go.WideShapes Go.ChangeAt Go.RowKit
open M2
set_option linter.unusedVariables false
set_option linter.unusedSimpArgs false
def regionAtLong (n : Nat) : Code → Option Code
  | .region i ops b => if i = n then some (.region i ops b) else none
  | .seq a b => match regionAtLong n a with
    | some c => some c
    | none => regionAtLong n b
  | .block _ c => regionAtLong n c
  | .scope c => regionAtLong n c
  | .cond _ a b => match regionAtLong n a with
    | some c => some c
    | none => regionAtLong n b
  | _ => none
set_option maxRecDepth 1000000 in
set_option maxHeartbeats 16000000 in
theorem reg_last (A v p1 cc : Nat) (w w6 : World) (hcv : cnt v ≤ 79) (hp1b : p1 ≤ 78) (HCQ : Hid (cnt (A / v) ≤ p1)) (HVP : Hid (0 < v))
    (HL6 : Hid (Sz w6 (w.heap.size) (pad (A % v)) cc)) (HV6 : Hid (Sz w6 (w.heap.size + 1) (pad v) (cnt v))) (HA6 : Hid (Sz w6 (w.heap.size + 1 + 1) (ext []) 0)) (HB6 : Hid (Sz w6 (w.heap.size + 1 + 1 + 1) (ext []) 0)) (HQ6 : Hid (Sz w6 (w.heap.size + 1 + 1 + 1 + 1) (pad (A / v)) 0)) (HO6 : Hid (Old w w6))
    (R : Ending → World → Prop) (J K : Act → World → Prop) (s0 s1 s2 s5 s10 s11 s12 s13 s14 s15 s16 s17 s18 s19 s20 s21 s22 s23 s24 s25 s26 s27 s28 s29 s30 s31 s32 s33 s34 s35 s36 s37 s38 s39 s40 s41 : Value)
    (HK : Hid (∀ (W : World) (u35 u36 u37 u38 u39 u40 u41 : Value), Sz W (w.heap.size + 1 + 1) (pad (A / v)) (cnt (A / v)) → Sz W (w.heap.size + 1 + 1 + 1) (pad (A % v)) (cnt (A % v)) → Old w W → K ⟨#[s0, s1, s2, .pointer (some ⟨w.heap.size, 0, none⟩), .pointer (some ⟨w.heap.size + 1, 0, none⟩), s5, .pointer (some ⟨w.heap.size + 1 + 1, 0, none⟩), .pointer (some ⟨w.heap.size + 1 + 1 + 1, 0, none⟩), .pointer (some ⟨w.heap.size + 1 + 1 + 1 + 1, 0, none⟩), .int .i64 (p1 : Int), s10, s11, s12, s13, s14, s15, s16, s17, s18, s19, s20, s21, s22, s23, s24, s25, s26, s27, s28, s29, s30, s31, s32, s33, s34, u35, u36, u37, u38, u39, u40, u41], []⟩ W)) :
    Code.wp Tryz.prog ((Tryz.f81.body.bind (regionAtLong 10)).getD .skip) (Exit.then K (Exit.jump 0 J (bodyPost Tryz.prog Tryz.f81 R))) ⟨#[s0, s1, s2, .pointer (some ⟨w.heap.size, 0, none⟩), .pointer (some ⟨w.heap.size + 1, 0, none⟩), s5, .pointer (some ⟨w.heap.size + 1 + 1, 0, none⟩), .pointer (some ⟨w.heap.size + 1 + 1 + 1, 0, none⟩), .pointer (some ⟨w.heap.size + 1 + 1 + 1 + 1, 0, none⟩), .int .i64 (p1 : Int), s10, s11, s12, s13, s14, s15, s16, s17, s18, s19, s20, s21, s22, s23, s24, s25, s26, s27, s28, s29, s30, s31, s32, s33, s34, s35, s36, s37, s38, s39, s40, s41], []⟩ w6 := by
  conv => arg 2; whnf
  have HCL : Hid (cnt (A % v) ≤ cnt v) := cnt_mono (Nat.le_of_lt (Nat.mod_lt _ HVP.out))
  have HZQ : Hid ((szV (A / v)).size = 81) := szA_size (pad_len' HCQ.out (by omega)) _
  have HZL : Hid ((szV (A % v)).size = 81) := szA_size (pad_len' (Nat.le_trans HCL.out (show cnt v ≤ 80 by omega)) (by omega)) _
  obtain ⟨N, hN, HN9⟩ : ∃ N, (∀ W, Sem.run Tryz.prog (Go.sizeOf 56) W = .ok N W) ∧ Hid (N = 81) := ⟨81, Tryz.sizeOf56, rfl⟩
  have hzq := HZQ.out
  have hzl := HZL.out
  rw [← HN9.out] at hzq hzl
  have HPQ : Hid ((pad (A / v)).length = 80) := HQ6.out.len
  have HPL : Hid ((pad (A % v)).length = 80) := HL6.out.len
  have hR8 : ∀ W : World, W.heap[w.heap.size + 1 + 1 + 1 + 1]? = some (.cells (szA (pad (A / v)) 0) 56 (0, 0)) → Sem.run Tryz.prog (loadCellsFrom ⟨w.heap.size + 1 + 1 + 1 + 1, 0, none⟩ 0 N #[]) W = .ok (szA (pad (A / v)) 0) W := fun W h => by rw [HN9.out]; exact run_loadCells_sz h (szA_size HPQ.out _)
  have hR3 : ∀ W : World, W.heap[w.heap.size]? = some (.cells (szA (pad (A % v)) cc) 56 (0, 0)) → Sem.run Tryz.prog (loadCellsFrom ⟨w.heap.size, 0, none⟩ 0 N #[]) W = .ok (szA (pad (A % v)) cc) W := fun W h => by rw [HN9.out]; exact run_loadCells_sz h (szA_size HPL.out _)
  have HAS : Hid (∀ W' : World, Old w6 W' → (W'.heap[w.heap.size]? = some (.cells (szA (pad (A % v)) cc) 56 (0, 0)) ∧ W'.cell? ⟨w.heap.size + 1, 80, none⟩ = some (.int .i64 ((cnt v : Nat) : Int)) ∧ W'.heap[w.heap.size + 1 + 1 + 1 + 1]? = some (.cells (szA (pad (A / v)) 0) 56 (0, 0)))) := fun W' g => ⟨(HL6.out.old g).blk, (HV6.out.old g).cnt, (HQ6.out.old g).blk⟩
  have HKS : Hid (∀ (W' : World) (k : Nat) (cs : Array Value), k = w.heap.size + 1 + 1 ∨ k = w.heap.size + 1 + 1 + 1 → (W'.heap[w.heap.size]? = some (.cells (szA (pad (A % v)) cc) 56 (0, 0)) ∧ W'.cell? ⟨w.heap.size + 1, 80, none⟩ = some (.int .i64 ((cnt v : Nat) : Int)) ∧ W'.heap[w.heap.size + 1 + 1 + 1 + 1]? = some (.cells (szA (pad (A / v)) 0) 56 (0, 0))) → ((fun W' : World => W'.heap[w.heap.size]? = some (.cells (szA (pad (A % v)) cc) 56 (0, 0)) ∧ W'.cell? ⟨w.heap.size + 1, 80, none⟩ = some (.int .i64 ((cnt v : Nat) : Int)) ∧ W'.heap[w.heap.size + 1 + 1 + 1 + 1]? = some (.cells (szA (pad (A / v)) 0) 56 (0, 0))) (W'.setRow k cs))) := fun W' k cs hk h => by
    exact ⟨(setRow_other _ _ _ _ (by omega)).trans h.1, (cell_setRow_other _ _ _ _ (by show w.heap.size + 1 ≠ k; omega)).trans h.2.1, (setRow_other _ _ _ _ (by omega)).trans h.2.2⟩
  have tok1 : True := trivial
  have tok3 : True := trivial
  go_region_held3 (fun W' => W'.heap[w.heap.size]? = some (.cells (szA (pad (A % v)) cc) 56 (0, 0)) ∧ W'.cell? ⟨w.heap.size + 1, 80, none⟩ = some (.int .i64 ((cnt v : Nat) : Int)) ∧ W'.heap[w.heap.size + 1 + 1 + 1 + 1]? = some (.cells (szA (pad (A / v)) 0) 56 (0, 0))) (first | exact HKS.out _ _ _ (Or.inr rfl) (HKS.out _ _ _ (Or.inl rfl) (HAS.out _ G8.out)) | exact HKS.out _ _ _ (Or.inl rfl) (HAS.out _ G8.out) | exact HAS.out _ G8.out | exact HAS.out _ G7.out | exact HAS.out _ (Below.drew (Old.refl w6)) | exact HAS.out _ (Old.refl w6) | fail) (first
    | (go_at_call 94; have _t := tok1; refine (trimmed_pad (A / v) 0 p1 _ HCQ.out (by omega)).mono ?_; rintro e w7 ⟨rfl, g7⟩; have G7 : Hid (Old w6 w7) := Old.trans ((Old.refl _).drewN 1) g7; clear g7 tok1)
    | (go_at_call 94; refine (trimmed_pad (A % v) cc (cnt v) _ HCL.out (by omega)).mono ?_; rintro e w8 ⟨rfl, g8⟩; have G8 : Hid (Old w6 w8) := Old.trans G7.out g8; have HA8 : Hid (Sz w8 (w.heap.size + 1 + 1) (ext []) 0) := HA6.out.old G8.out; have HB8 : Hid (Sz w8 (w.heap.size + 1 + 1 + 1) (ext []) 0) := HB6.out.old G8.out; clear g8)
    | (have _t := tok3; refine upon_st HA8.out HZQ.out ?_; clear tok3; go_simp)
    | (refine upon_st (HB8.out.otherRow (by omega) _) HZL.out ?_; go_simp)
    | fail)
  all_goals
    go_wp2_with fail
    exact HK.out _ _ _ _ _ _ _ _ ((HA8.out.row (pad (A / v)) (cnt (A / v)) HPQ.out).otherRow (by omega) _) ((HB8.out.otherRow (by omega) _).row (pad (A % v)) (cnt (A % v)) HPL.out) (((Old.trans HO6.out G8.out).row (by omega) _).row (by omega) _)
end Go.Proofs.YtfcdfielbpdloaaGreatDoor
/- Proved: the drawn region of divideSizes in which nothing and the number itself are handed out. -/
namespace Go.Proofs.YtfcdfielbpdloaaGreatDoor
open Go.ChangeShapes Go.WideShapes Go.ChangeAt Go.RowKit
open M2
set_option linter.unusedVariables false
set_option linter.unusedSimpArgs false
theorem run_storeCells_sa {W : World} {g : Nat} {ls : List Nat} {c : Nat} (hs : Sz W g ls c) (ls' : List Nat) (c' : Nat) (hl : ls'.length = 80) : (storeCells ⟨g, 0, none⟩ (szA ls' c').toList 0).run Tryz.prog W = .ok () (W.setRow g (szA ls' c')) := by
  have := run_storeVar_row (P := Tryz.prog) W g 56 56 (szA ls c) (szA ls' c') hs.blk (by rw [szA_size hl]; exact infoSz) (by rw [szA_size hs.len, szA_size hl]) (szA_one _ _)
  cases hq : Tryz.prog.info? 56 with
  | none => have h2 := infoSz; rw [hq] at h2; cases h2
  | some i =>
    have h2 := infoSz
    rw [hq] at h2
    have h3 : i.size = 81 := by simpa using h2
    simpa [storeVar, Go.sizeOf, typeInfo, hq, Value.cells, szA_size hl, h3] using this
theorem upon_sa {o : Oper} {a : Act} {K : Act → World → Prop} {Q : Exit → Act → World → Prop} {f : Unit → World → Result Next} {W : World} {g : Nat} {ls : List Nat} {c : Nat} (hs : Sz W g ls c) (ls' : List Nat) (c' : Nat) (hl : ls'.length = 80)
    (h : Oper.upon Tryz.prog o a K Q (f () (W.setRow g (szA ls' c')))) : Oper.upon Tryz.prog o a K Q ((Sem.run Tryz.prog (storeCells ⟨g, 0, none⟩ (szA ls' c').toList 0) W).andThen f) := by
  rw [run_storeCells_sa hs ls' c' hl]
  exact h
theorem upon_zero {o : Oper} {a : Act} {K : Act → World → Prop} {Q : Exit → Act → World → Prop} {f : Unit → World → Result Next} {W : World} {g : Nat} {ls : List Nat} {c : Nat} (hs : Sz W g ls c)
    (h : Oper.upon Tryz.prog o a K Q (f () (W.setRow g (szA (ext []) 0)))) : Oper.upon Tryz.prog o a K Q ((Sem.run Tryz.prog (storeCells ⟨g, 0, none⟩ Tryz.zeroCells56.toList 0) W).andThen f) := by
  rw [szZero]
  exact upon_sa hs _ _ (ext_len (by simp)) h
end Go.Proofs.YtfcdfielbpdloaaGreatDoor
/- Proved: the drawn region of divideSizes in which the quotient by a word and what is left are handed out. -/
namespace Go.Proofs.YtfcdfielbpdloaaGreatDoor
open Go.ChangeShapes Go.WideShapes Go.ChangeAt Go.RowKit
open M2
set_option linter.unusedVariables false
set_option linter.unusedSimpArgs false
set_option maxRecDepth 1000000 in
set_option maxHeartbeats 16000000 in
theorem reg_d5 (q r p6 : Nat) (w w6 : World) (hr : r < 268435456) (hp6 : w.heap.size + 1 + 1 + 1 < p6)
    (HQ6 : Hid (Sz w6 p6 (pad q) (cnt q))) (HX6 : Hid (Sz w6 (w.heap.size + 1 + 1) (ext []) 0)) (HY6 : Hid (Sz w6 (w.heap.size + 1 + 1 + 1) (ext []) 0)) (HO6 : Hid (Old w w6))
    (R : Ending → World → Prop) (J K : Act → World → Prop) (s0 s1 s8 s9 s10 s11 s12 s13 s14 s15 s16 s17 s18 s19 s20 s21 s22 s23 s24 s25 s26 s27 s28 s29 s30 s31 s32 s33 s34 s35 s36 s37 s38 s39 s40 s41 s42 s43 s44 s45 s46 s47 s48 s49 s50 s51 s52 s53 s54 s55 s56 s57 s58 s59 s60 s61 s62 s63 s64 s65 s66 s67 : Value)
    (HK : Hid (∀ (W : World) (u30 u31 u32 u33 : Value), Sz W (w.heap.size + 1 + 1) (pad q) (cnt q) → Sz W (w.heap.size + 1 + 1 + 1) (pad r) (cnt r) → Old w W → K ⟨#[s0, s1, .pointer (some ⟨w.heap.size, 0, none⟩), .pointer (some ⟨w.heap.size + 1, 0, none⟩), .pointer (some ⟨w.heap.size + 1 + 1, 0, none⟩), .pointer (some ⟨w.heap.size + 1 + 1 + 1, 0, none⟩), .pointer (some ⟨p6, 0, none⟩), .int .i64 (r : Int), s8, s9, s10, s11, s12, s13, s14, s15, s16, s17, s18, s19, s20, s21, s22, s23, s24, s25, s26, s27, s28, s29, u30, u31, u32, u33, s34, s35, s36, s37, s38, s39, s40, s41, s42, s43, s44, s45, s46, s47, s48, s49, s50, s51, s52, s53, s54, s55, s56, s57, s58, s59, s60, s61, s62, s63, s64, s65, s66, s67], []⟩ W)) :
    Code.wp Tryz.prog ((Tryz.f46.body.bind (regionAtLong 5)).getD .skip) (Exit.then K (Exit.then J (bodyPost Tryz.prog Tryz.f46 R))) ⟨#[s0, s1, .pointer (some ⟨w.heap.size, 0, none⟩), .pointer (some ⟨w.heap.size + 1, 0, none⟩), .pointer (some ⟨w.heap.size + 1 + 1, 0, none⟩), .pointer (some ⟨w.heap.size + 1 + 1 + 1, 0, none⟩), .pointer (some ⟨p6, 0, none⟩), .int .i64 (r : Int), s8, s9, s10, s11, s12, s13, s14, s15, s16, s17, s18, s19, s20, s21, s22, s23, s24, s25, s26, s27, s28, s29, s30, s31, s32, s33, s34, s35, s36, s37, s38, s39, s40, s41, s42, s43, s44, s45, s46, s47, s48, s49, s50, s51, s52, s53, s54, s55, s56, s57, s58, s59, s60, s61, s62, s63, s64, s65, s66, s67], []⟩ w6 := by
  conv => arg 2; whnf
  obtain ⟨N, hN, HN9⟩ : ∃ N, (∀ W, Sem.run Tryz.prog (Go.sizeOf 56) W = .ok N W) ∧ Hid (N = 81) := ⟨81, Tryz.sizeOf56, rfl⟩
  have HPQ : Hid ((pad q).length = 80) := HQ6.out.len
  have HPR : Hid ((pad r).length = 80) := pad_len' (n := r) (k := 3) (cnt_word (by omega)) (by omega)
  have hzq : (szA (pad q) (cnt q)).size = N := by rw [HN9.out]; exact szA_size HPQ.out _
  have hzr : (szA (pad r) (cnt r)).size = N := by rw [HN9.out]; exact szA_size HPR.out _
  have wr1 : IntKind.u64.wrap (r : Int) = (r : Int) := by rw [IntKind.wrap_u64]; omega
  have cw := fun W => ofWord_sz r W (by omega)
  unfold szV at cw
  have hR2 : ∀ W : World, W.heap[p6]? = some (.cells (szA (pad q) (cnt q)) 56 (0, 0)) → Sem.run Tryz.prog (loadCellsFrom ⟨p6, 0, none⟩ 0 N #[]) W = .ok (szA (pad q) (cnt q)) W := fun W h => by rw [HN9.out]; exact run_loadCells_sz h (szA_size HPQ.out _)
  have HAS : Hid (∀ W' : World, Old w6 W' → (W'.heap[p6]? = some (.cells (szA (pad q) (cnt q)) 56 (0, 0)))) := fun W' g => (HQ6.out.old g).blk
  have HKS : Hid (∀ (W' : World) (k : Nat) (cs : Array Value), k = w.heap.size + 1 + 1 ∨ k = w.heap.size + 1 + 1 + 1 → (W'.heap[p6]? = some (.cells (szA (pad q) (cnt q)) 56 (0, 0))) → ((fun W' : World => W'.heap[p6]? = some (.cells (szA (pad q) (cnt q)) 56 (0, 0))) (W'.setRow k cs))) := fun W' k cs hk h => (setRow_other _ _ _ _ (by omega)).trans h
  have tok3 : True := trivial
  go_region_held3 (fun W' => W'.heap[p6]? = some (.cells (szA (pad q) (cnt q)) 56 (0, 0))) (first | exact HKS.out _ _ _ (Or.inr rfl) (HKS.out _ _ _ (Or.inl rfl) (HAS.out _ G7.out)) | exact HKS.out _ _ _ (Or.inl rfl) (HAS.out _ G7.out) | exact HAS.out _ G7.out | exact HAS.out _ (Below.drew (Old.refl w6)) | exact HAS.out _ (Old.refl w6) | fail) (first
    | (go_at_call 80; refine (cw _).mono ?_; rintro e w7 ⟨rfl, g7⟩; have G7 : Hid (Old w6 w7) := Old.trans ((Old.refl _).drewN 1) g7; have HX7 : Hid (Sz w7 (w.heap.size + 1 + 1) (ext []) 0) := HX6.out.old G7.out; have HY7 : Hid (Sz w7 (w.heap.size + 1 + 1 + 1) (ext []) 0) := HY6.out.old G7.out; clear g7)
    | (have _t := tok3; refine upon_sa HX7.out (pad q) (cnt q) HPQ.out ?_; clear tok3; go_simp)
    | (refine upon_sa (HY7.out.otherRow (by omega) _) (pad r) (cnt r) HPR.out ?_; go_simp)
    | fail)
  all_goals
    go_wp2_with fail
    exact HK.out _ _ _ _ _ ((HX7.out.row (pad q) (cnt q) HPQ.out).otherRow (by omega) _) ((HY7.out.otherRow (by omega) _).row (pad r) (cnt r) HPR.out) (((Old.trans HO6.out G7.out).row (by omega) _).row (by omega) _)
end Go.Proofs.YtfcdfielbpdloaaGreatDoor
/- Proved: the drawn region of divideSizes in which nothing and the number itself are handed out. -/
namespace Go.Proofs.YtfcdfielbpdloaaGreatDoor
open Go.ChangeShapes Go.WideShapes Go.ChangeAt Go.RowKit
open M2
set_option linter.unusedVariables false
set_option linter.unusedSimpArgs false
set_option maxRecDepth 1000000 in
set_option maxHeartbeats 16000000 in
theorem reg_d2n (a : Nat) (w w6 : World)
    (HA6 : Hid (Sz w6 w.heap.size (pad a) (cnt a))) (HX6 : Hid (Sz w6 (w.heap.size + 1 + 1) (ext []) 0)) (HY6 : Hid (Sz w6 (w.heap.size + 1 + 1 + 1) (ext []) 0)) (HO6 : Hid (Old w w6))
    (R : Ending → World → Prop) (J K : Act → World → Prop) (s0 s1 s6 s7 s8 s9 s10 s11 s12 s13 s14 s15 s16 s17 s18 s19 s20 s21 s22 s23 s24 s25 s26 s27 s28 s29 s30 s31 s32 s33 s34 s35 s36 s37 s38 s39 s40 s41 s42 s43 s44 s45 s46 s47 s48 s49 s50 s51 s52 s53 s54 s55 s56 s57 s58 s59 s60 s61 s62 s63 s64 s65 s66 s67 : Value)
    (HK : Hid (∀ (W : World) (u17 u18 : Value), Sz W (w.heap.size + 1 + 1) (ext []) 0 → Sz W (w.heap.size + 1 + 1 + 1) (pad a) (cnt a) → Old w W → K ⟨#[s0, s1, .pointer (some ⟨w.heap.size, 0, none⟩), .pointer (some ⟨w.heap.size + 1, 0, none⟩), .pointer (some ⟨w.heap.size + 1 + 1, 0, none⟩), .pointer (some ⟨w.heap.size + 1 + 1 + 1, 0, none⟩), s6, s7, s8, s9, s10, s11, s12, s13, s14, s15, s16, u17, u18, s19, s20, s21, s22, s23, s24, s25, s26, s27, s28, s29, s30, s31, s32, s33, s34, s35, s36, s37, s38, s39, s40, s41, s42, s43, s44, s45, s46, s47, s48, s49, s50, s51, s52, s53, s54, s55, s56, s57, s58, s59, s60, s61, s62, s63, s64, s65, s66, s67], []⟩ W)) :
    Code.wp Tryz.prog ((Tryz.f46.body.bind (regionAtLong 2)).getD .skip) (Exit.then K (Exit.then J (bodyPost Tryz.prog Tryz.f46 R))) ⟨#[s0, s1, .pointer (some ⟨w.heap.size, 0, none⟩), .pointer (some ⟨w.heap.size + 1, 0, none⟩), .pointer (some ⟨w.heap.size + 1 + 1, 0, none⟩), .pointer (some ⟨w.heap.size + 1 + 1 + 1, 0, none⟩), s6, s7, s8, s9, s10, s11, s12, s13, s14, s15, s16, s17, s18, s19, s20, s21, s22, s23, s24, s25, s26, s27, s28, s29, s30, s31, s32, s33, s34, s35, s36, s37, s38, s39, s40, s41, s42, s43, s44, s45, s46, s47, s48, s49, s50, s51, s52, s53, s54, s55, s56, s57, s58, s59, s60, s61, s62, s63, s64, s65, s66, s67], []⟩ w6 := by
  conv => arg 2; whnf
  obtain ⟨N, hN, HN9⟩ : ∃ N, (∀ W, Sem.run Tryz.prog (Go.sizeOf 56) W = .ok N W) ∧ Hid (N = 81) := ⟨81, Tryz.sizeOf56, rfl⟩
  have HPA : Hid ((pad a).length = 80) := HA6.out.len
  have hza : (szA (pad a) (cnt a)).size = N := by rw [HN9.out]; exact szA_size HPA.out _
  have h81 : (81 = N) = True := by simp [HN9.out]
  have hR2 : ∀ W : World, W.heap[w.heap.size]? = some (.cells (szA (pad a) (cnt a)) 56 (0, 0)) → Sem.run Tryz.prog (loadCellsFrom ⟨w.heap.size, 0, none⟩ 0 N #[]) W = .ok (szA (pad a) (cnt a)) W := fun W h => by rw [HN9.out]; exact run_loadCells_sz h (szA_size HPA.out _)
  have HAS : Hid (∀ W' : World, Old w6 W' → (W'.heap[w.heap.size]? = some (.cells (szA (pad a) (cnt a)) 56 (0, 0)))) := fun W' g => (HA6.out.old g).blk
  have HKS : Hid (∀ (W' : World) (k : Nat) (cs : Array Value), k = w.heap.size + 1 + 1 ∨ k = w.heap.size + 1 + 1 + 1 → (W'.heap[w.heap.size]? = some (.cells (szA (pad a) (cnt a)) 56 (0, 0))) → ((fun W' : World => W'.heap[w.heap.size]? = some (.cells (szA (pad a) (cnt a)) 56 (0, 0))) (W'.setRow k cs))) := fun W' k cs hk h => (setRow_other _ _ _ _ (by omega)).trans h
  have HXD : Hid (Sz w6.drew (w.heap.size + 1 + 1) (ext []) 0) := HX6.out.drw
  have HYD : Hid (Sz w6.drew (w.heap.size + 1 + 1 + 1) (ext []) 0) := HY6.out.drw
  have tok3 : True := trivial
  go_region_held3 (fun W' => W'.heap[w.heap.size]? = some (.cells (szA (pad a) (cnt a)) 56 (0, 0))) (first | exact HKS.out _ _ _ (Or.inr rfl) (HKS.out _ _ _ (Or.inl rfl) (HAS.out _ (Below.drew (Old.refl w6)))) | exact HKS.out _ _ _ (Or.inl rfl) (HAS.out _ (Below.drew (Old.refl w6))) | exact HAS.out _ (Below.drew (Old.refl w6)) | exact HAS.out _ (Old.refl w6) | fail) (first
    | (have _t := tok3; refine upon_zero HXD.out ?_; clear tok3; go_simp)
    | (refine upon_sa (HYD.out.otherRow (by omega) _) (pad a) (cnt a) HPA.out ?_; go_simp)
    | fail)
  all_goals
    go_wp2_with fail
    exact HK.out _ _ _ ((HXD.out.row (ext []) 0 (ext_len (by simp))).otherRow (by omega) _) ((HYD.out.otherRow (by omega) _).row (pad a) (cnt a) HPA.out) (((Old.drw HO6.out).row (by omega) _).row (by omega) _)
end Go.Proofs.YtfcdfielbpdloaaGreatDoor
/- Proved: the contract of the program's divideSizes where the number is below its divisor, and where the divisor is a word. -/
namespace Go.Proofs.YtfcdfielbpdloaaGreatDoor
open Go.ChangeShapes Go.WideShapes Go.ChangeAt Go.RowKit
open M2
set_option linter.unusedVariables false
set_option linter.unusedSimpArgs false
set_option maxRecDepth 100000 in
set_option maxHeartbeats 8000000 in
theorem div_lt (a b : Nat) (w : World) (ha : cnt a ≤ 40) (hb : cnt b ≤ 40) (hlt : a < b) :
    Calls Tryz.prog 46 #[.agg (szV a), .agg (szV b)] w fun e w' => e = .returned (.tuple #[.agg (szV (a / b)), .agg (szV (a % b))]) ∧ Old w w' := by
  rw [Nat.div_eq_of_lt hlt, Nat.mod_eq_of_lt hlt]
  have HPA : Hid ((pad a).length = 80) := pad_len' ha (by omega)
  have HPB : Hid ((pad b).length = 80) := pad_len' hb (by omega)
  have HA0 : Hid (Sz ((((w.alloc (.cells (szA (pad a) (cnt a)) 56)).alloc (.cells (szA (pad b) (cnt b)) 56)).alloc (.cells Tryz.zeroCells56 56)).alloc (.cells Tryz.zeroCells56 56)) w.heap.size (pad a) (cnt a)) := (((Sz.new w _ _ HPA.out).alloc _).alloc _).alloc _
  have HB0 : Hid (Sz ((((w.alloc (.cells (szA (pad a) (cnt a)) 56)).alloc (.cells (szA (pad b) (cnt b)) 56)).alloc (.cells Tryz.zeroCells56 56)).alloc (.cells Tryz.zeroCells56 56)) (w.heap.size + 1) (pad b) (cnt b)) := ((Sz.new' _ _ _ _ HPB.out (by simp)).alloc _).alloc _
  have HX0 : Hid (Sz ((((w.alloc (.cells (szA (pad a) (cnt a)) 56)).alloc (.cells (szA (pad b) (cnt b)) 56)).alloc (.cells Tryz.zeroCells56 56)).alloc (.cells Tryz.zeroCells56 56)) (w.heap.size + 1 + 1) (ext []) 0) := (Sz.zero _ _ (by simp)).alloc _
  have HY0 : Hid (Sz ((((w.alloc (.cells (szA (pad a) (cnt a)) 56)).alloc (.cells (szA (pad b) (cnt b)) 56)).alloc (.cells Tryz.zeroCells56 56)).alloc (.cells Tryz.zeroCells56 56)) (w.heap.size + 1 + 1 + 1) (ext []) 0) := Sz.zero _ _ (by simp)
  have HO0 : Hid (Old w ((((w.alloc (.cells (szA (pad a) (cnt a)) 56)).alloc (.cells (szA (pad b) (cnt b)) 56)).alloc (.cells Tryz.zeroCells56 56)).alloc (.cells Tryz.zeroCells56 56))) := ((((Old.refl w).alloc _).alloc _).alloc _).alloc _
  have cc := fun W => cmp_sz a b W (by omega) (by omega)
  have hz : cmpN a b = -1 := by unfold cmpN; rw [if_pos hlt]
  rw [hz] at cc
  have HE0 : Hid (szV 0 = szA (ext []) 0) := by
    show _ = _
    unfold szV pad
    rw [dig_zero, cnt_zero]
  rw [HE0.out]
  clear hz hlt
  unfold szV at *
  go_enter Tryz.func46, Tryz.ntmps46
  go_wp2_with (first | ((with_reducible refine load_sz HA0.out ?_ ?_); exact rfl; simp only [Act.put, List.setIfInBounds_toArray, List.set_cons_succ, List.set_cons_zero]) | ((with_reducible refine load_sz HB0.out ?_ ?_); exact rfl; simp only [Act.put, List.setIfInBounds_toArray, List.set_cons_succ, List.set_cons_zero]))
  refine (cc _).mono ?_
  rintro e w2 ⟨rfl, g2⟩
  have HA2 : Hid (Sz w2 w.heap.size (pad a) (cnt a)) := HA0.out.old g2
  have HB2 : Hid (Sz w2 (w.heap.size + 1) (pad b) (cnt b)) := HB0.out.old g2
  have HX2 : Hid (Sz w2 (w.heap.size + 1 + 1) (ext []) 0) := HX0.out.old g2
  have HY2 : Hid (Sz w2 (w.heap.size + 1 + 1 + 1) (ext []) 0) := HY0.out.old g2
  have HO2 : Hid (Old w w2) := Old.trans HO0.out g2
  have hs2 : w.heap.size + 1 + 1 + 1 < w2.heap.size := HY2.out.lt
  clear g2 HA0 HB0 HX0 HY0 HO0 cc
  go_wp2_with fail
  refine reg_d2n a w w2 HA2 HX2 HY2 HO2 _ _ _ _ _ _ _ _ _ _ _ _ _ _ _ _ _ _ _ _ _ _ _ _ _ _ _ _ _ _ _ _ _ _ _ _ _ _ _ _ _ _ _ _ _ _ _ _ _ _ _ _ _ _ _ _ _ _ _ _ _ _ _ _ _ _ _ ?_
  intro W u17 u18 hz1 hz2 ho
  go_wp2_with fail
  exact bodyPost_ret (ret_sz2 Tryz.results46 _ _ rfl rfl hz1 hz2) rfl ⟨rfl, ho⟩
theorem pad_low {b : Nat} (h : cnt b = 1) : (pad b).getD 0 0 = b ∧ 0 < b ∧ b < 268435456 := by
  have h1 := cnt_lt b
  rw [h, Nat.pow_one] at h1
  have h2 : b ≠ 0 := fun e => by rw [e, cnt_zero] at h; omega
  refine ⟨?_, by omega, h1⟩
  rw [pad_at, Nat.pow_zero, Nat.div_one, Nat.mod_eq_of_lt h1]
set_option maxRecDepth 100000 in
set_option maxHeartbeats 8000000 in
theorem div_one (a b : Nat) (w : World) (ha : cnt a ≤ 40) (hb1 : cnt b = 1) (hge : b ≤ a) :
    Calls Tryz.prog 46 #[.agg (szV a), .agg (szV b)] w fun e w' => e = .returned (.tuple #[.agg (szV (a / b)), .agg (szV (a % b))]) ∧ Old w w' := by
  have hb : cnt b ≤ 40 := by omega
  have HPA : Hid ((pad a).length = 80) := pad_len' ha (by omega)
  have HPB : Hid ((pad b).length = 80) := pad_len' hb (by omega)
  have HA0 : Hid (Sz ((((w.alloc (.cells (szA (pad a) (cnt a)) 56)).alloc (.cells (szA (pad b) (cnt b)) 56)).alloc (.cells Tryz.zeroCells56 56)).alloc (.cells Tryz.zeroCells56 56)) w.heap.size (pad a) (cnt a)) := (((Sz.new w _ _ HPA.out).alloc _).alloc _).alloc _
  have HB0 : Hid (Sz ((((w.alloc (.cells (szA (pad a) (cnt a)) 56)).alloc (.cells (szA (pad b) (cnt b)) 56)).alloc (.cells Tryz.zeroCells56 56)).alloc (.cells Tryz.zeroCells56 56)) (w.heap.size + 1) (pad b) (cnt b)) := ((Sz.new' _ _ _ _ HPB.out (by simp)).alloc _).alloc _
  have HX0 : Hid (Sz ((((w.alloc (.cells (szA (pad a) (cnt a)) 56)).alloc (.cells (szA (pad b) (cnt b)) 56)).alloc (.cells Tryz.zeroCells56 56)).alloc (.cells Tryz.zeroCells56 56)) (w.heap.size + 1 + 1) (ext []) 0) := (Sz.zero _ _ (by simp)).alloc _
  have HY0 : Hid (Sz ((((w.alloc (.cells (szA (pad a) (cnt a)) 56)).alloc (.cells (szA (pad b) (cnt b)) 56)).alloc (.cells Tryz.zeroCells56 56)).alloc (.cells Tryz.zeroCells56 56)) (w.heap.size + 1 + 1 + 1) (ext []) 0) := Sz.zero _ _ (by simp)
  have HO0 : Hid (Old w ((((w.alloc (.cells (szA (pad a) (cnt a)) 56)).alloc (.cells (szA (pad b) (cnt b)) 56)).alloc (.cells Tryz.zeroCells56 56)).alloc (.cells Tryz.zeroCells56 56))) := ((((Old.refl w).alloc _).alloc _).alloc _).alloc _
  have cc := fun W => cmp_sz a b W (by omega) (by omega)
  have hz : ¬ cmpN a b < 0 := by unfold cmpN; rw [if_neg (by omega)]; split <;> omega
  obtain ⟨b1, b2, b3⟩ := pad_low hb1
  obtain ⟨z, hze⟩ : ∃ z, cmpN a b = z := ⟨_, rfl⟩
  rw [hze] at cc hz
  have dz : decide (z < 0) = false := decide_eq_false hz
  have cw := fun W => word_sz a b W (by omega) b2 (by omega)
  have hrl : a % b < 268435456 := Nat.lt_trans (Nat.mod_lt _ b2) b3
  have HPQ : Hid ((pad (a / b)).length = 80) := pad_len' (Nat.le_trans (cnt_mono (Nat.div_le_self _ _)) ha) (by omega)
  have HB1 : Hid ((pad b).getD 0 0 = b) := b1
  have HCB : Hid (cnt b = 1) := hb1
  generalize a % b = r at *
  generalize a / b = q at *
  clear hz hze b1 hge hb1
  unfold szV at *
  go_enter Tryz.func46, Tryz.ntmps46
  go_wp2_with (first | ((with_reducible refine load_sz HA0.out ?_ ?_); exact rfl; simp only [Act.put, List.setIfInBounds_toArray, List.set_cons_succ, List.set_cons_zero]) | ((with_reducible refine load_sz HB0.out ?_ ?_); exact rfl; simp only [Act.put, List.setIfInBounds_toArray, List.set_cons_succ, List.set_cons_zero]))
  refine (cc _).mono ?_
  rintro e w2 ⟨rfl, g2⟩
  have HA2 : Hid (Sz w2 w.heap.size (pad a) (cnt a)) := HA0.out.old g2
  have HB2 : Hid (Sz w2 (w.heap.size + 1) (pad b) (cnt b)) := HB0.out.old g2
  have HX2 : Hid (Sz w2 (w.heap.size + 1 + 1) (ext []) 0) := HX0.out.old g2
  have HY2 : Hid (Sz w2 (w.heap.size + 1 + 1 + 1) (ext []) 0) := HY0.out.old g2
  have HO2 : Hid (Old w w2) := Old.trans HO0.out g2
  have hs2 : w.heap.size + 1 + 1 + 1 < w2.heap.size := HY2.out.lt
  clear g2 HA0 HB0 HX0 HY0 HO0 cc
  have c1 : w2.cell? ⟨w.heap.size + 1, 80, none⟩ = some (.int .i64 1) := by rw [HB2.out.cnt, HCB.out]; rfl
  have c2 : w2.cell? ⟨w.heap.size + 1, 0, none⟩ = some (.int .i64 (b : Int)) := by rw [HB2.out.at (j := 0) (by omega), HB1.out]
  go_wp2_with (first | ((with_reducible refine load_sz HA2.out ?_ ?_); exact rfl; simp only [Act.put, List.setIfInBounds_toArray, List.set_cons_succ, List.set_cons_zero]) | (go_at_call 66; refine (cw _).mono ?_; rintro e w3 ⟨rfl, g3⟩; have HX3 : Hid (Sz (w3.alloc (.cells Tryz.zeroCells56 56)) (w.heap.size + 1 + 1) (ext []) 0) := (HX2.out.old g3).alloc _; have HY3 : Hid (Sz (w3.alloc (.cells Tryz.zeroCells56 56)) (w.heap.size + 1 + 1 + 1) (ext []) 0) := (HY2.out.old g3).alloc _; have HO3 : Hid (Old w (w3.alloc (.cells Tryz.zeroCells56 56))) := (Old.trans HO2.out g3).alloc _; have HZ3 : Hid (Sz (w3.alloc (.cells Tryz.zeroCells56 56)) w3.heap.size (ext []) 0) := Sz.zero w3 _ rfl; have hs3 : w.heap.size + 1 + 1 + 1 < w3.heap.size := (by have := g3.size; omega); clear g3) | ((with_reducible refine store_sz HZ3.out (pad q) (cnt q) HPQ.out ?_ ?_ ?_); exact rfl; exact rfl; simp only [Act.put]))
  have HQ4 : Hid (Sz ((w3.alloc (.cells Tryz.zeroCells56 56)).setRow w3.heap.size (szA (pad q) (cnt q))) w3.heap.size (pad q) (cnt q)) := HZ3.out.row (pad q) (cnt q) HPQ.out
  refine reg_d5 q r w3.heap.size w _ hrl hs3 HQ4 (HX3.out.otherRow (by omega) _) (HY3.out.otherRow (by omega) _) (HO3.out.row (by omega) _) _ _ _ _ _ _ _ _ _ _ _ _ _ _ _ _ _ _ _ _ _ _ _ _ _ _ _ _ _ _ _ _ _ _ _ _ _ _ _ _ _ _ _ _ _ _ _ _ _ _ _ _ _ _ _ _ _ _ _ _ _ _ _ _ _ ?_
  intro W u30 u31 u32 u33 hz1 hz2 ho
  go_wp2_with fail
  exact bodyPost_ret (ret_sz2 Tryz.results46 _ _ rfl rfl hz1 hz2) rfl ⟨rfl, ho⟩
end Go.Proofs.YtfcdfielbpdloaaGreatDoor
/- Proved: the drawn region of divideSizes in which the long quotient and what is left are handed out. -/
namespace Go.Proofs.YtfcdfielbpdloaaGreatDoor
open Go.ChangeShapes Go.WideShapes Go.ChangeAt Go.RowKit
open M2
set_option linter.unusedVariables false
set_option linter.unusedSimpArgs false
set_option maxRecDepth 1000000 in
set_option maxHeartbeats 16000000 in
theorem reg_d9 (lq lr : List Nat) (nq nr p9 p11 : Nat) (w w6 : World) (hp9 : w.heap.size + 1 + 1 + 1 < p9) (hp11 : w.heap.size + 1 + 1 + 1 < p11)
    (HQ6 : Hid (Sz w6 p9 lq nq)) (HR6 : Hid (Sz w6 p11 lr nr)) (HX6 : Hid (Sz w6 (w.heap.size + 1 + 1) (ext []) 0)) (HY6 : Hid (Sz w6 (w.heap.size + 1 + 1 + 1) (ext []) 0)) (HO6 : Hid (Old w w6))
    (R : Ending → World → Prop) (K : Act → World → Prop) (s0 s1 s6 s7 s8 s10 s12 s13 s14 s15 s16 s17 s18 s19 s20 s21 s22 s23 s24 s25 s26 s27 s28 s29 s30 s31 s32 s33 s34 s35 s36 s37 s38 s39 s40 s41 s42 s43 s44 s45 s46 s47 s48 s49 s50 s51 s52 s53 s54 s55 s56 s57 s58 s59 s60 s61 s62 s63 s64 s65 s66 s67 : Value)
    (HK : Hid (∀ (W : World) (u66 u67 : Value), Sz W (w.heap.size + 1 + 1) lq nq → Sz W (w.heap.size + 1 + 1 + 1) lr nr → Old w W → K ⟨#[s0, s1, .pointer (some ⟨w.heap.size, 0, none⟩), .pointer (some ⟨w.heap.size + 1, 0, none⟩), .pointer (some ⟨w.heap.size + 1 + 1, 0, none⟩), .pointer (some ⟨w.heap.size + 1 + 1 + 1, 0, none⟩), s6, s7, s8, .pointer (some ⟨p9, 0, none⟩), s10, .pointer (some ⟨p11, 0, none⟩), s12, s13, s14, s15, s16, s17, s18, s19, s20, s21, s22, s23, s24, s25, s26, s27, s28, s29, s30, s31, s32, s33, s34, s35, s36, s37, s38, s39, s40, s41, s42, s43, s44, s45, s46, s47, s48, s49, s50, s51, s52, s53, s54, s55, s56, s57, s58, s59, s60, s61, s62, s63, s64, s65, u66, u67], []⟩ W)) :
    Code.wp Tryz.prog ((Tryz.f46.body.bind (regionAtLong 9)).getD .skip) (Exit.then K (bodyPost Tryz.prog Tryz.f46 R)) ⟨#[s0, s1, .pointer (some ⟨w.heap.size, 0, none⟩), .pointer (some ⟨w.heap.size + 1, 0, none⟩), .pointer (some ⟨w.heap.size + 1 + 1, 0, none⟩), .pointer (some ⟨w.heap.size + 1 + 1 + 1, 0, none⟩), s6, s7, s8, .pointer (some ⟨p9, 0, none⟩), s10, .pointer (some ⟨p11, 0, none⟩), s12, s13, s14, s15, s16, s17, s18, s19, s20, s21, s22, s23, s24, s25, s26, s27, s28, s29, s30, s31, s32, s33, s34, s35, s36, s37, s38, s39, s40, s41, s42, s43, s44, s45, s46, s47, s48, s49, s50, s51, s52, s53, s54, s55, s56, s57, s58, s59, s60, s61, s62, s63, s64, s65, s66, s67], []⟩ w6 := by
  conv => arg 2; whnf
  obtain ⟨N, hN, HN9⟩ : ∃ N, (∀ W, Sem.run Tryz.prog (Go.sizeOf 56) W = .ok N W) ∧ Hid (N = 81) := ⟨81, Tryz.sizeOf56, rfl⟩
  have HPQ : Hid (lq.length = 80) := HQ6.out.len
  have HPR : Hid (lr.length = 80) := HR6.out.len
  have hzq : (szA lq nq).size = N := by rw [HN9.out]; exact szA_size HPQ.out _
  have hzr : (szA lr nr).size = N := by rw [HN9.out]; exact szA_size HPR.out _
  have hR1 : ∀ W : World, W.heap[p9]? = some (.cells (szA lq nq) 56 (0, 0)) → Sem.run Tryz.prog (loadCellsFrom ⟨p9, 0, none⟩ 0 N #[]) W = .ok (szA lq nq) W := fun W h => by rw [HN9.out]; exact run_loadCells_sz h (szA_size HPQ.out _)
  have hR2 : ∀ W : World, W.heap[p11]? = some (.cells (szA lr nr) 56 (0, 0)) → Sem.run Tryz.prog (loadCellsFrom ⟨p11, 0, none⟩ 0 N #[]) W = .ok (szA lr nr) W := fun W h => by rw [HN9.out]; exact run_loadCells_sz h (szA_size HPR.out _)
  have HAS : Hid (∀ W' : World, Old w6 W' → (W'.heap[p9]? = some (.cells (szA lq nq) 56 (0, 0)) ∧ W'.heap[p11]? = some (.cells (szA lr nr) 56 (0, 0)))) := fun W' g => ⟨(HQ6.out.old g).blk, (HR6.out.old g).blk⟩
  have HKS : Hid (∀ (W' : World) (k : Nat) (cs : Array Value), k = w.heap.size + 1 + 1 ∨ k = w.heap.size + 1 + 1 + 1 → (W'.heap[p9]? = some (.cells (szA lq nq) 56 (0, 0)) ∧ W'.heap[p11]? = some (.cells (szA lr nr) 56 (0, 0))) → ((fun W' : World => W'.heap[p9]? = some (.cells (szA lq nq) 56 (0, 0)) ∧ W'.heap[p11]? = some (.cells (szA lr nr) 56 (0, 0))) (W'.setRow k cs))) := fun W' k cs hk h => ⟨(setRow_other _ _ _ _ (by omega)).trans h.1, (setRow_other _ _ _ _ (by omega)).trans h.2⟩
  have HXD : Hid (Sz w6.drew (w.heap.size + 1 + 1) (ext []) 0) := HX6.out.drw
  have HYD : Hid (Sz w6.drew (w.heap.size + 1 + 1 + 1) (ext []) 0) := HY6.out.drw
  have tok3 : True := trivial
  go_region_held3 (fun W' => W'.heap[p9]? = some (.cells (szA lq nq) 56 (0, 0)) ∧ W'.heap[p11]? = some (.cells (szA lr nr) 56 (0, 0))) (first | exact HKS.out _ _ _ (Or.inr rfl) (HKS.out _ _ _ (Or.inl rfl) (HAS.out _ (Below.drew (Old.refl w6)))) | exact HKS.out _ _ _ (Or.inl rfl) (HAS.out _ (Below.drew (Old.refl w6))) | exact HAS.out _ (Below.drew (Old.refl w6)) | exact HAS.out _ (Old.refl w6) | fail) (first
    | (have _t := tok3; refine upon_sa HXD.out lq nq HPQ.out ?_; clear tok3; go_simp)
    | (refine upon_sa (HYD.out.otherRow (by omega) _) lr nr HPR.out ?_; go_simp)
    | fail)
  all_goals
    go_wp2_with fail
    exact HK.out _ _ _ ((HXD.out.row lq nq HPQ.out).otherRow (by omega) _) ((HYD.out.otherRow (by omega) _).row lr nr HPR.out) (((Old.drw HO6.out).row (by omega) _).row (by omega) _)
end Go.Proofs.YtfcdfielbpdloaaGreatDoor
/- Proved: the drawn region of divideSizes in which both are stretched and divided. -/
namespace Go.Proofs.YtfcdfielbpdloaaGreatDoor
open Go.ChangeShapes Go.WideShapes Go.ChangeAt Go.RowKit
open M2
set_option linter.unusedVariables false
set_option linter.unusedSimpArgs false
structure TwoL (w0 : World) (lq lr : List Nat) (nq nr : Nat) (W : World) (p9 p10 : Nat) : Prop where
  old : Old w0 W
  z9 : Sz W p9 lq nq
  z10 : Sz W p10 lr nr
  lo9 : w0.heap.size ≤ p9
  lo10 : w0.heap.size ≤ p10
set_option maxRecDepth 1000000 in
set_option maxHeartbeats 16000000 in
theorem reg_d7 (la lb lA lV lq lr : List Nat) (na nb nA nV nq nr s p0 : Nat) (w w2 : World) (h0 : w.heap.size + 1 < w2.heap.size)
    (HA : Hid (Sz w2 w.heap.size la na)) (HB : Hid (Sz w2 (w.heap.size + 1) lb nb)) (HLQ : Hid (lq.length = 80)) (HLR : Hid (lr.length = 80)) (hp0 : IntKind.i64.wrap ((na : Int) - (nb : Int)) = (p0 : Int))
    (ca : ∀ W, Calls Tryz.prog 70 #[.agg (szA la na), .int .i64 (s : Int), .int .i64 0] W fun e w' => e = .returned (.agg (szA lA nA)) ∧ Old W w')
    (cb : ∀ W, Calls Tryz.prog 70 #[.agg (szA lb nb), .int .i64 (s : Int), .int .i64 0] W fun e w' => e = .returned (.agg (szA lV nV)) ∧ Old W w')
    (cl : ∀ W, Calls Tryz.prog 81 #[.agg (szA lA nA), .agg (szA lV nV), .int .i64 (p0 : Int)] W fun e w' => e = .returned (.tuple #[.agg (szA lq nq), .agg (szA lr nr)]) ∧ Old W w')
    (R : Ending → World → Prop) (K : Act → World → Prop) (s0 s1 s6 s7 s9 s10 s11 s12 s13 s14 s15 s16 s17 s18 s19 s20 s21 s22 s23 s24 s25 s26 s27 s28 s29 s30 s31 s32 s33 s34 s35 s36 s37 s38 s39 s40 s41 s42 s43 s44 s45 s46 s47 s48 s49 s50 s51 s52 s53 s54 s55 s56 s57 s58 s59 s60 s61 s62 s63 s64 s65 s66 s67 : Value)
    (HK : Hid (∀ (p9 p10 : Nat) (W : World) (u45 u46 u47 u48 u49 u50 u51 u52 u53 u54 u55 u56 u57 u58 u59 : Value), TwoL w2 lq lr nq nr W p9 p10 → K ⟨#[s0, s1, .pointer (some ⟨w.heap.size, 0, none⟩), .pointer (some ⟨w.heap.size + 1, 0, none⟩), .pointer (some ⟨w.heap.size + 1 + 1, 0, none⟩), .pointer (some ⟨w.heap.size + 1 + 1 + 1, 0, none⟩), s6, s7, .int .i64 (s : Int), .pointer (some ⟨p9, 0, none⟩), .pointer (some ⟨p10, 0, none⟩), s11, s12, s13, s14, s15, s16, s17, s18, s19, s20, s21, s22, s23, s24, s25, s26, s27, s28, s29, s30, s31, s32, s33, s34, s35, s36, s37, s38, s39, s40, s41, s42, s43, s44, u45, u46, u47, u48, u49, u50, u51, u52, u53, u54, u55, u56, u57, u58, u59, s60, s61, s62, s63, s64, s65, s66, s67], []⟩ W)) :
    Code.wp Tryz.prog ((Tryz.f46.body.bind (regionAtLong 7)).getD .skip) (Exit.then K (bodyPost Tryz.prog Tryz.f46 R)) ⟨#[s0, s1, .pointer (some ⟨w.heap.size, 0, none⟩), .pointer (some ⟨w.heap.size + 1, 0, none⟩), .pointer (some ⟨w.heap.size + 1 + 1, 0, none⟩), .pointer (some ⟨w.heap.size + 1 + 1 + 1, 0, none⟩), s6, s7, .int .i64 (s : Int), s9, s10, s11, s12, s13, s14, s15, s16, s17, s18, s19, s20, s21, s22, s23, s24, s25, s26, s27, s28, s29, s30, s31, s32, s33, s34, s35, s36, s37, s38, s39, s40, s41, s42, s43, s44, s45, s46, s47, s48, s49, s50, s51, s52, s53, s54, s55, s56, s57, s58, s59, s60, s61, s62, s63, s64, s65, s66, s67], []⟩ w2 := by
  conv => arg 2; whnf
  obtain ⟨N, hN, HN⟩ : ∃ N, (∀ W, Sem.run Tryz.prog (Go.sizeOf 56) W = .ok N W) ∧ Hid (N = 81) := ⟨81, Tryz.sizeOf56, rfl⟩
  have HPA : Hid (la.length = 80) := HA.out.len
  have HPB : Hid (lb.length = 80) := HB.out.len
  have hlq : (szA lq nq).size = N := by rw [HN.out]; exact szA_size HLQ.out _
  have hlr : (szA lr nr).size = N := by rw [HN.out]; exact szA_size HLR.out _
  have hR1 : ∀ W : World, W.heap[w.heap.size]? = some (.cells (szA la na) 56 (0, 0)) → Sem.run Tryz.prog (loadCellsFrom ⟨w.heap.size, 0, none⟩ 0 N #[]) W = .ok (szA la na) W := fun W h => by rw [HN.out]; exact run_loadCells_sz h (szA_size HPA.out _)
  have hR2 : ∀ W : World, W.heap[w.heap.size + 1]? = some (.cells (szA lb nb) 56 (0, 0)) → Sem.run Tryz.prog (loadCellsFrom ⟨w.heap.size + 1, 0, none⟩ 0 N #[]) W = .ok (szA lb nb) W := fun W h => by rw [HN.out]; exact run_loadCells_sz h (szA_size HPB.out _)
  have HAS : Hid (∀ W', Old w2 W' → (W'.heap[w.heap.size]? = some (.cells (szA la na) 56 (0, 0)) ∧ W'.heap[w.heap.size + 1]? = some (.cells (szA lb nb) 56 (0, 0)) ∧ W'.cell? ⟨w.heap.size, 80, none⟩ = some (.int .i64 (na : Int)) ∧ W'.cell? ⟨w.heap.size + 1, 80, none⟩ = some (.int .i64 (nb : Int)))) := fun W' g => ⟨(HA.out.old g).blk, (HB.out.old g).blk, (HA.out.old g).cnt, (HB.out.old g).cnt⟩
  have tok : True := trivial
  have tok2 : True := trivial
  go_region_held3 (fun W' => W'.heap[w.heap.size]? = some (.cells (szA la na) 56 (0, 0)) ∧ W'.heap[w.heap.size + 1]? = some (.cells (szA lb nb) 56 (0, 0)) ∧ W'.cell? ⟨w.heap.size, 80, none⟩ = some (.int .i64 (na : Int)) ∧ W'.cell? ⟨w.heap.size + 1, 80, none⟩ = some (.int .i64 (nb : Int))) (first | exact HAS.out _ (by repeat' (first | exact Old.refl _ | refine Old.drw ?_ | refine Old.alloc ?_ _ | refine Old.trans ?_ H5.out | refine Old.trans ?_ H4.out | refine Old.trans ?_ H3.out | refine Old.row ?_ (by omega) _ | fail)) | fail) (first
    | (go_at_call 70; have _t := tok; refine (ca _).mono ?_; rintro e w3 ⟨rfl, g3⟩; have q3 := g3.size; (try simp at q3); have H3 : Hid (Old _ w3) := g3; clear tok g3)
    | (go_at_call 70; refine (cb _).mono ?_; rintro e w4 ⟨rfl, g4⟩; have q4 := g4.size; (try simp at q4); have H4 : Hid (Old _ w4) := g4; clear g4)
    | (go_at_call 81; refine (cl _).mono ?_; rintro e w5 ⟨rfl, g5⟩; have q5 := g5.size; (try simp at q5); have H5 : Hid (Old _ w5) := g5; clear g5)
    | (have _t := tok2; refine upon_sa (ls := ext []) (c := 0) (by repeat' (first | with_reducible exact Sz.zero0 _ | with_reducible exact Sz.zero1 _ _ | refine Sz.drw ?_ | refine Sz.alloc ?_ _ | refine Sz.old ?_ H5.out | refine Sz.old ?_ H4.out | refine Sz.old ?_ H3.out | refine Sz.otherRow ?_ (by omega) _ | fail)) lq nq HLQ.out ?_; clear tok2; go_simp)
    | (refine upon_sa (ls := ext []) (c := 0) (by repeat' (first | with_reducible exact Sz.zero0 _ | with_reducible exact Sz.zero1 _ _ | refine Sz.drw ?_ | refine Sz.alloc ?_ _ | refine Sz.old ?_ H5.out | refine Sz.old ?_ H4.out | refine Sz.old ?_ H3.out | refine Sz.otherRow ?_ (by omega) _ | fail)) lr nr HLR.out ?_; go_simp)
    | fail)
  all_goals
    go_wp2_with fail
    refine HK.out _ _ _ _ _ _ _ _ _ _ _ _ _ _ _ _ _ _ ⟨by repeat' (first | exact Old.refl _ | refine Old.drw ?_ | refine Old.alloc ?_ _ | refine Old.trans ?_ H5.out | refine Old.trans ?_ H4.out | refine Old.trans ?_ H3.out | refine Old.row ?_ (by omega) _ | fail), ?_, ?_, by omega, by omega⟩
    · exact Sz.otherRow (Sz.row (ls := ext []) (c := 0) (by repeat' (first | with_reducible exact Sz.zero0 _ | with_reducible exact Sz.zero1 _ _ | refine Sz.drw ?_ | refine Sz.alloc ?_ _ | refine Sz.old ?_ H5.out | refine Sz.old ?_ H4.out | refine Sz.old ?_ H3.out | refine Sz.otherRow ?_ (by omega) _ | fail)) _ _ HLQ.out) (by omega) _
    · exact Sz.row (ls := ext []) (c := 0) (by repeat' (first | with_reducible exact Sz.zero0 _ | with_reducible exact Sz.zero1 _ _ | refine Sz.drw ?_ | refine Sz.alloc ?_ _ | refine Sz.old ?_ H5.out | refine Sz.old ?_ H4.out | refine Sz.old ?_ H3.out | refine Sz.otherRow ?_ (by omega) _ | fail)) _ _ HLR.out
end Go.Proofs.YtfcdfielbpdloaaGreatDoor
