/- Proved: the last drawn region of divideLong: quotient and what is left, trimmed and handed out. -/
import Derived.Test.YtfgooclnohnkmaaGreatDoorRegTwo
import Derived.ScopeJumps
namespace Go.Proofs.YtfgooclnohnkmaaGreatDoor
open Go.ChangeShapes Go.WideShapes Go.ChangeAt Go.RowKit
open M2
set_option linter.unusedVariables false
set_option linter.unusedSimpArgs false
def regionAtLong (n : Nat) : Code → Option Code
  | .region i ops b => if i = n then some (.region i ops b) else none
  | .seq a b => match regionAtLong n a with
    | some c => some c
    | none => regionAtLong n b
  | .block _ c => regionAtLong n c
  | .scope c => regionAtLong n c
  | .cond _ a b => match regionAtLong n a with
    | some c => some c
    | none => regionAtLong n b
  | _ => none
set_option maxRecDepth 1000000 in
set_option maxHeartbeats 16000000 in
theorem reg_last (A v p1 cc : Nat) (w w6 : World) (hcv : cnt v ≤ 79) (hp1b : p1 ≤ 78) (HCQ : Hid (cnt (A / v) ≤ p1)) (HVP : Hid (0 < v))
    (HL6 : Hid (Sz w6 (w.heap.size) (pad (A % v)) cc)) (HV6 : Hid (Sz w6 (w.heap.size + 1) (pad v) (cnt v))) (HA6 : Hid (Sz w6 (w.heap.size + 1 + 1) (ext []) 0)) (HB6 : Hid (Sz w6 (w.heap.size + 1 + 1 + 1) (ext []) 0)) (HQ6 : Hid (Sz w6 (w.heap.size + 1 + 1 + 1 + 1) (pad (A / v)) 0)) (HO6 : Hid (Old w w6))
    (R : Ending → World → Prop) (J K : Act → World → Prop) (s0 s1 s2 s5 s10 s11 s12 s13 s14 s15 s16 s17 s18 s19 s20 s21 s22 s23 s24 s25 s26 s27 s28 s29 s30 s31 s32 s33 s34 s35 s36 s37 s38 s39 s40 s41 : Value)
    (HK : Hid (∀ (W : World) (u35 u36 u37 u38 u39 u40 u41 : Value), Sz W (w.heap.size + 1 + 1) (pad (A / v)) (cnt (A / v)) → Sz W (w.heap.size + 1 + 1 + 1) (pad (A % v)) (cnt (A % v)) → Old w W → K ⟨#[s0, s1, s2, .pointer (some ⟨w.heap.size, 0, none⟩), .pointer (some ⟨w.heap.size + 1, 0, none⟩), s5, .pointer (some ⟨w.heap.size + 1 + 1, 0, none⟩), .pointer (some ⟨w.heap.size + 1 + 1 + 1, 0, none⟩), .pointer (some ⟨w.heap.size + 1 + 1 + 1 + 1, 0, none⟩), .int .i64 (p1 : Int), s10, s11, s12, s13, s14, s15, s16, s17, s18, s19, s20, s21, s22, s23, s24, s25, s26, s27, s28, s29, s30, s31, s32, s33, s34, u35, u36, u37, u38, u39, u40, u41], []⟩ W)) :
    Code.wp Tryz.prog ((Tryz.f144.body.bind (regionAtLong 10)).getD .skip) (Exit.then K (Exit.jump 0 J (bodyPost Tryz.prog Tryz.f144 R))) ⟨#[s0, s1, s2, .pointer (some ⟨w.heap.size, 0, none⟩), .pointer (some ⟨w.heap.size + 1, 0, none⟩), s5, .pointer (some ⟨w.heap.size + 1 + 1, 0, none⟩), .pointer (some ⟨w.heap.size + 1 + 1 + 1, 0, none⟩), .pointer (some ⟨w.heap.size + 1 + 1 + 1 + 1, 0, none⟩), .int .i64 (p1 : Int), s10, s11, s12, s13, s14, s15, s16, s17, s18, s19, s20, s21, s22, s23, s24, s25, s26, s27, s28, s29, s30, s31, s32, s33, s34, s35, s36, s37, s38, s39, s40, s41], []⟩ w6 := by
  conv => arg 2; whnf
  have HCL : Hid (cnt (A % v) ≤ cnt v) := cnt_mono (Nat.le_of_lt (Nat.mod_lt _ HVP.out))
  have HZQ : Hid ((szV (A / v)).size = 81) := szA_size (pad_len' HCQ.out (by omega)) _
  have HZL : Hid ((szV (A % v)).size = 81) := szA_size (pad_len' (Nat.le_trans HCL.out (show cnt v ≤ 80 by omega)) (by omega)) _
  obtain ⟨N, hN, HN9⟩ : ∃ N, (∀ W, Sem.run Tryz.prog (Go.sizeOf 95) W = .ok N W) ∧ Hid (N = 81) := ⟨81, Tryz.sizeOf95, rfl⟩
  have hzq := HZQ.out
  have hzl := HZL.out
  rw [← HN9.out] at hzq hzl
  have HPQ : Hid ((pad (A / v)).length = 80) := HQ6.out.len
  have HPL : Hid ((pad (A % v)).length = 80) := HL6.out.len
  have hR8 : ∀ W : World, W.heap[w.heap.size + 1 + 1 + 1 + 1]? = some (.cells (szA (pad (A / v)) 0) 95 (0, 0)) → Sem.run Tryz.prog (loadCellsFrom ⟨w.heap.size + 1 + 1 + 1 + 1, 0, none⟩ 0 N #[]) W = .ok (szA (pad (A / v)) 0) W := fun W h => by rw [HN9.out]; exact run_loadCells_sz h (szA_size HPQ.out _)
  have hR3 : ∀ W : World, W.heap[w.heap.size]? = some (.cells (szA (pad (A % v)) cc) 95 (0, 0)) → Sem.run Tryz.prog (loadCellsFrom ⟨w.heap.size, 0, none⟩ 0 N #[]) W = .ok (szA (pad (A % v)) cc) W := fun W h => by rw [HN9.out]; exact run_loadCells_sz h (szA_size HPL.out _)
  have HAS : Hid (∀ W' : World, Old w6 W' → (W'.heap[w.heap.size]? = some (.cells (szA (pad (A % v)) cc) 95 (0, 0)) ∧ W'.cell? ⟨w.heap.size + 1, 80, none⟩ = some (.int .i64 ((cnt v : Nat) : Int)) ∧ W'.heap[w.heap.size + 1 + 1 + 1 + 1]? = some (.cells (szA (pad (A / v)) 0) 95 (0, 0)))) := fun W' g => ⟨(HL6.out.old g).blk, (HV6.out.old g).cnt, (HQ6.out.old g).blk⟩
  have HKS : Hid (∀ (W' : World) (k : Nat) (cs : Array Value), k = w.heap.size + 1 + 1 ∨ k = w.heap.size + 1 + 1 + 1 → (W'.heap[w.heap.size]? = some (.cells (szA (pad (A % v)) cc) 95 (0, 0)) ∧ W'.cell? ⟨w.heap.size + 1, 80, none⟩ = some (.int .i64 ((cnt v : Nat) : Int)) ∧ W'.heap[w.heap.size + 1 + 1 + 1 + 1]? = some (.cells (szA (pad (A / v)) 0) 95 (0, 0))) → ((fun W' : World => W'.heap[w.heap.size]? = some (.cells (szA (pad (A % v)) cc) 95 (0, 0)) ∧ W'.cell? ⟨w.heap.size + 1, 80, none⟩ = some (.int .i64 ((cnt v : Nat) : Int)) ∧ W'.heap[w.heap.size + 1 + 1 + 1 + 1]? = some (.cells (szA (pad (A / v)) 0) 95 (0, 0))) (W'.setRow k cs))) := fun W' k cs hk h => by
    exact ⟨(setRow_other _ _ _ _ (by omega)).trans h.1, (cell_setRow_other _ _ _ _ (by show w.heap.size + 1 ≠ k; omega)).trans h.2.1, (setRow_other _ _ _ _ (by omega)).trans h.2.2⟩
  have tok1 : True := trivial
  have tok3 : True := trivial
  go_region_held3 (fun W' => W'.heap[w.heap.size]? = some (.cells (szA (pad (A % v)) cc) 95 (0, 0)) ∧ W'.cell? ⟨w.heap.size + 1, 80, none⟩ = some (.int .i64 ((cnt v : Nat) : Int)) ∧ W'.heap[w.heap.size + 1 + 1 + 1 + 1]? = some (.cells (szA (pad (A / v)) 0) 95 (0, 0))) (first | exact HKS.out _ _ _ (Or.inr rfl) (HKS.out _ _ _ (Or.inl rfl) (HAS.out _ G8.out)) | exact HKS.out _ _ _ (Or.inl rfl) (HAS.out _ G8.out) | exact HAS.out _ G8.out | exact HAS.out _ G7.out | exact HAS.out _ (Below.drew (Old.refl w6)) | exact HAS.out _ (Old.refl w6) | fail) (first
    | (go_at_call 173; have _t := tok1; refine (trimmed_pad (A / v) 0 p1 _ HCQ.out (by omega)).mono ?_; rintro e w7 ⟨rfl, g7⟩; have G7 : Hid (Old w6 w7) := Old.trans ((Old.refl _).drewN 1) g7; clear g7 tok1)
    | (go_at_call 173; refine (trimmed_pad (A % v) cc (cnt v) _ HCL.out (by omega)).mono ?_; rintro e w8 ⟨rfl, g8⟩; have G8 : Hid (Old w6 w8) := Old.trans G7.out g8; have HA8 : Hid (Sz w8 (w.heap.size + 1 + 1) (ext []) 0) := HA6.out.old G8.out; have HB8 : Hid (Sz w8 (w.heap.size + 1 + 1 + 1) (ext []) 0) := HB6.out.old G8.out; clear g8)
    | (have _t := tok3; refine upon_st HA8.out HZQ.out ?_; clear tok3; go_simp)
    | (refine upon_st (HB8.out.otherRow (by omega) _) HZL.out ?_; go_simp)
    | fail)
  all_goals
    go_wp2_with fail
    exact HK.out _ _ _ _ _ _ _ _ ((HA8.out.row (pad (A / v)) (cnt (A / v)) HPQ.out).otherRow (by omega) _) ((HB8.out.otherRow (by omega) _).row (pad (A % v)) (cnt (A % v)) HPL.out) (((Old.trans HO6.out G8.out).row (by omega) _).row (by omega) _)
end Go.Proofs.YtfgooclnohnkmaaGreatDoor
