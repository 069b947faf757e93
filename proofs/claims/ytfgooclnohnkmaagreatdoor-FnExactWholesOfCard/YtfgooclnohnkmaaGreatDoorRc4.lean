/- Proved: the drawn region of centredWhole in which twice the number is held against the product. -/
import Derived.Test.YtfgooclnohnkmaaGreatDoorRs6
namespace Go.Proofs.YtfgooclnohnkmaaGreatDoor
open Go.ChangeShapes Go.WideShapes Go.ChangeAt Go.RowKit
open M2
set_option linter.unusedVariables false
set_option linter.unusedSimpArgs false
set_option maxRecDepth 1000000 in
set_option maxHeartbeats 16000000 in
theorem reg_c4 (la lq lA : List Nat) (na nq nA p6 p7 : Nat) (z : Int) (B : Bool) (dz : decide (z < 0) = B) (w2 : World) (HA : Hid (Sz w2 p6 la na)) (HQ : Hid (Sz w2 p7 lq nq))
    (cs : ∀ W, Calls Tryz.prog 133 #[.agg (szA la na), .int .i64 2, .int .i64 0] W fun e w' => e = .returned (.agg (szA lA nA)) ∧ Old W w')
    (cc : ∀ W, Calls Tryz.prog 132 #[.agg (szA lA nA), .agg (szA lq nq)] W fun e w' => e = .returned (.int .i64 z) ∧ Old W w')
    (Q : Exit → Act → World → Prop) (K : Act → World → Prop) (s0 s1 s2 s3 s4 s7 s8 s9 s10 s11 s12 s13 s14 s15 s16 s17 s18 s19 s20 s21 s22 : Value)
    (HK : Hid (∀ (W : World) (u12 u13 u14 u15 : Value), Old w2 W → K ⟨#[s0, s1, s2, s3, s4, .pointer (some ⟨p6, 0, none⟩), .pointer (some ⟨p7, 0, none⟩), s7, s8, s9, s10, s11, u12, u13, u14, u15, .bool B, s17, s18, s19, s20, s21, s22], []⟩ W)) :
    Code.wp Tryz.prog ((Tryz.f63.body.bind (regionAtSum 2)).getD .skip) (Exit.then K Q) ⟨#[s0, s1, s2, s3, s4, .pointer (some ⟨p6, 0, none⟩), .pointer (some ⟨p7, 0, none⟩), s7, s8, s9, s10, s11, s12, s13, s14, s15, s16, s17, s18, s19, s20, s21, s22], []⟩ w2 := by
  conv => arg 2; whnf
  obtain ⟨N, hN, HN9⟩ : ∃ N, (∀ W, Sem.run Tryz.prog (Go.sizeOf 95) W = .ok N W) ∧ Hid (N = 81) := ⟨81, Tryz.sizeOf95, rfl⟩
  have HPA : Hid (la.length = 80) := HA.out.len
  have HPQ : Hid (lq.length = 80) := HQ.out.len
  have hR1 : ∀ W : World, W.heap[p6]? = some (.cells (szA la na) 95 (0, 0)) → Sem.run Tryz.prog (loadCellsFrom ⟨p6, 0, none⟩ 0 N #[]) W = .ok (szA la na) W := fun W h => by rw [HN9.out]; exact run_loadCells_sz h (szA_size HPA.out _)
  have hR2 : ∀ W : World, W.heap[p7]? = some (.cells (szA lq nq) 95 (0, 0)) → Sem.run Tryz.prog (loadCellsFrom ⟨p7, 0, none⟩ 0 N #[]) W = .ok (szA lq nq) W := fun W h => by rw [HN9.out]; exact run_loadCells_sz h (szA_size HPQ.out _)
  have HAS : Hid (∀ W' : World, Old w2 W' → (W'.heap[p6]? = some (.cells (szA la na) 95 (0, 0)) ∧ W'.heap[p7]? = some (.cells (szA lq nq) 95 (0, 0)))) := fun W' g => ⟨(HA.out.old g).blk, (HQ.out.old g).blk⟩
  go_region_held3 (fun W' => W'.heap[p6]? = some (.cells (szA la na) 95 (0, 0)) ∧ W'.heap[p7]? = some (.cells (szA lq nq) 95 (0, 0))) (first | exact HAS.out _ G2.out | exact HAS.out _ G1.out | exact HAS.out _ (Below.drew (Old.refl w2)) | exact HAS.out _ (Old.refl w2) | fail) (first
    | (go_at_call 133; refine (cs _).mono ?_; rintro e w3 ⟨rfl, g3⟩; have G1 : Hid (Old w2 w3) := Old.trans (Below.drew (Old.refl w2)) g3; clear g3)
    | (go_at_call 132; refine (cc _).mono ?_; rintro e w4 ⟨rfl, g4⟩; have G2 : Hid (Old w2 w4) := Old.trans G1.out g4; clear g4)
    | fail)
  all_goals
    go_wp2_with fail
    exact HK.out _ _ _ _ _ G2.out
end Go.Proofs.YtfgooclnohnkmaaGreatDoor
