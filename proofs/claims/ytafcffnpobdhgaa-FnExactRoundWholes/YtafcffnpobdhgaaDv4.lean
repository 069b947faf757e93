/- Proved: the drawn region of DivWholes in which the sizes are divided. -/
import Derived.Test.YtafcffnpobdhgaaDz7
namespace Go.Proofs.Ytafcffnpobdhgaa
open Go.ChangeShapes Go.WideShapes Go.ChangeAt Go.RowKit
open M2
set_option linter.unusedVariables false
set_option linter.unusedSimpArgs false
def regionAtDiv (n : Nat) : Code → Option Code
  | .region i ops b => if i = n then some (.region i ops b) else none
  | .seq a b => match regionAtDiv n a with
    | some c => some c
    | none => regionAtDiv n b
  | .block _ c => regionAtDiv n c
  | .cond _ a b => match regionAtDiv n a with
    | some c => some c
    | none => regionAtDiv n b
  | _ => none
set_option maxRecDepth 1000000 in
set_option maxHeartbeats 16000000 in
theorem reg_v4 (n : Bool) (c0 : Option Addr) (xl cap0 : Nat) (la lb lq lr : List Nat) (na nb nq nr p2 p7 : Nat) (w2 : World)
    (SA : Hid (St w2 p2 (.bool n) (.slice c0 xl cap0) 25)) (HB : Hid (Sz w2 p7 lb nb)) (HLQ : Hid (lq.length = 80)) (HLR : Hid (lr.length = 80))
    (ca : ∀ W, Old w2 W → Calls Try.prog 26 #[.agg #[.bool n, .slice c0 xl cap0]] W fun e w' => e = .returned (.agg (szA la na)) ∧ Old W w')
    (cl : ∀ W, Calls Try.prog 43 #[.agg (szA la na), .agg (szA lb nb)] W fun e w' => e = .returned (.tuple #[.agg (szA lq nq), .agg (szA lr nr)]) ∧ Old W w')
    (Q : Exit → Act → World → Prop) (K : Act → World → Prop) (s0 s1 s3 s4 s5 s6 s8 s9 s10 s11 s12 s13 s14 s15 s16 s17 s18 s19 s20 s21 s22 s23 s24 s25 s26 s27 s28 s29 s30 s31 s32 s33 s34 s35 s36 s37 s38 s39 s40 s41 s42 s43 s44 s45 s46 s47 s48 s49 s50 s51 s52 s53 s54 s55 s56 s57 : Value)
    (HK : Hid (∀ (p8 p9 : Nat) (W : World) (u32 u33 u34 u35 u36 u37 u38 : Value), TwoL w2 lq lr nq nr W p8 p9 → p8 ≠ p9 → K ⟨#[s0, s1, .pointer (some ⟨p2, 0, none⟩), s3, s4, s5, s6, .pointer (some ⟨p7, 0, none⟩), .pointer (some ⟨p8, 0, none⟩), .pointer (some ⟨p9, 0, none⟩), s10, s11, s12, s13, s14, s15, s16, s17, s18, s19, s20, s21, s22, s23, s24, s25, s26, s27, s28, s29, s30, s31, u32, u33, u34, u35, u36, u37, u38, s39, s40, s41, s42, s43, s44, s45, s46, s47, s48, s49, s50, s51, s52, s53, s54, s55, s56, s57], []⟩ W)) :
    Code.wp Try.prog ((Try.f17.body.bind (regionAtDiv 4)).getD .skip) (Exit.then K Q) ⟨#[s0, s1, .pointer (some ⟨p2, 0, none⟩), s3, s4, s5, s6, .pointer (some ⟨p7, 0, none⟩), s8, s9, s10, s11, s12, s13, s14, s15, s16, s17, s18, s19, s20, s21, s22, s23, s24, s25, s26, s27, s28, s29, s30, s31, s32, s33, s34, s35, s36, s37, s38, s39, s40, s41, s42, s43, s44, s45, s46, s47, s48, s49, s50, s51, s52, s53, s54, s55, s56, s57], []⟩ w2 := by
  conv => arg 2; whnf
  obtain ⟨N, hN, HN⟩ : ∃ N, (∀ W, Sem.run Try.prog (Go.sizeOf 49) W = .ok N W) ∧ Hid (N = 81) := ⟨81, Try.sizeOf49, rfl⟩
  have hlq : (szA lq nq).size = N := by rw [HN.out]; exact szA_size HLQ.out _
  have hlr : (szA lr nr).size = N := by rw [HN.out]; exact szA_size HLR.out _
  have hR1 : ∀ W : World, W.heap[p7]? = some (.cells (szA lb nb) 49 (0, 0)) → Sem.run Try.prog (loadCellsFrom ⟨p7, 0, none⟩ 0 N #[]) W = .ok (szA lb nb) W := fun W h => by rw [HN.out]; exact run_loadCells_sz h (szA_size HB.out.len _)
  have HAS : Hid (∀ W' : World, Old w2 W' → (W'.cell? ⟨p2, 0, none⟩ = some (.bool n) ∧ W'.cell? ⟨p2, 1, none⟩ = some (.slice c0 xl cap0) ∧ W'.heap[p7]? = some (.cells (szA lb nb) 49 (0, 0)))) := fun W' g => ⟨(SA.out.old g).c0, (SA.out.old g).c1, (HB.out.old g).blk⟩
  have tok2 : True := trivial
  refine wp_region_noPanic ?_
  go_region_held3 (fun W' => W'.cell? ⟨p2, 0, none⟩ = some (.bool n) ∧ W'.cell? ⟨p2, 1, none⟩ = some (.slice c0 xl cap0) ∧ W'.heap[p7]? = some (.cells (szA lb nb) 49 (0, 0))) (first | exact HAS.out _ (by repeat' (first | exact Old.refl _ | refine Old.drw ?_ | refine Old.alloc ?_ _ | refine Old.trans ?_ H4.out | refine Old.trans ?_ H3.out | refine Old.row ?_ (by omega) _ | fail)) | fail) (first
    | (go_at_call 26; refine (ca _ (by repeat' (first | exact Old.refl _ | refine Old.drw ?_ | refine Old.alloc ?_ _ | refine Old.trans ?_ H4.out | refine Old.trans ?_ H3.out | refine Old.row ?_ (by omega) _ | fail))).mono ?_; rintro e w3 ⟨rfl, g3⟩; have q3 := g3.size; (try simp at q3); have H3 : Hid (Old _ w3) := g3; clear g3)
    | (go_at_call 43; refine (cl _).mono ?_; rintro e w4 ⟨rfl, g4⟩; have q4 := g4.size; (try simp at q4); have H4 : Hid (Old _ w4) := g4; clear g4)
    | (have _t := tok2; refine upon_sa (ls := ext []) (c := 0) (by repeat' (first | with_reducible exact Sz.zero0 _ | with_reducible exact Sz.zero1 _ _ | refine Sz.drw ?_ | refine Sz.alloc ?_ _ | refine Sz.old ?_ H4.out | refine Sz.old ?_ H3.out | refine Sz.otherRow ?_ (by omega) _ | fail)) lq nq HLQ.out ?_; clear tok2; go_simp)
    | (refine upon_sa (ls := ext []) (c := 0) (by repeat' (first | with_reducible exact Sz.zero0 _ | with_reducible exact Sz.zero1 _ _ | refine Sz.drw ?_ | refine Sz.alloc ?_ _ | refine Sz.old ?_ H4.out | refine Sz.old ?_ H3.out | refine Sz.otherRow ?_ (by omega) _ | fail)) lr nr HLR.out ?_; go_simp)
    | fail)
  all_goals
    refine NoPanic.normal ?_
    go_wp2_with fail
    refine HK.out _ _ _ _ _ _ _ _ _ _ ⟨by repeat' (first | exact Old.refl _ | refine Old.drw ?_ | refine Old.alloc ?_ _ | refine Old.trans ?_ H4.out | refine Old.trans ?_ H3.out | refine Old.row ?_ (by omega) _ | fail), ?_, ?_, by omega, by omega⟩ (by omega)
    · exact Sz.otherRow (Sz.row (ls := ext []) (c := 0) (by repeat' (first | with_reducible exact Sz.zero0 _ | with_reducible exact Sz.zero1 _ _ | refine Sz.drw ?_ | refine Sz.alloc ?_ _ | refine Sz.old ?_ H4.out | refine Sz.old ?_ H3.out | refine Sz.otherRow ?_ (by omega) _ | fail)) _ _ HLQ.out) (by omega) _
    · exact Sz.row (ls := ext []) (c := 0) (by repeat' (first | with_reducible exact Sz.zero0 _ | with_reducible exact Sz.zero1 _ _ | refine Sz.drw ?_ | refine Sz.alloc ?_ _ | refine Sz.old ?_ H4.out | refine Sz.old ?_ H3.out | refine Sz.otherRow ?_ (by omega) _ | fail)) _ _ HLR.out
end Go.Proofs.Ytafcffnpobdhgaa
