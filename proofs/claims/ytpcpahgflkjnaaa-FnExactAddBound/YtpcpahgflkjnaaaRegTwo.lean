/- Proved: the drawn region of AddWholes in which the sizes of both numbers are made, in whatever order. -/
import Derived.Test.YtpcpahgflkjnaaaImpMul
import Derived.Test.YtpcpahgflkjnaaaSzLess
import Derived.Test.YtpcpahgflkjnaaaSzCmp
import Derived.Deep.DeepCutAuto
namespace Go.Proofs.Ytpcpahgflkjnaaa
open Go.ChangeShapes Go.WideShapes Go.ChangeAt Go.RowKit
open M2
set_option linter.unusedVariables false
set_option linter.unusedSimpArgs false

/-- two sizes that were made -/
structure Two (w0 : World) (a b : Nat) (W : World) (p6 p7 : Nat) : Prop where
  old : Old w0 W
  z6 : Sz W p6 (pad a) (cnt a)
  z7 : Sz W p7 (pad b) (cnt b)
  lo6 : w0.heap.size ≤ p6
  lo7 : w0.heap.size ≤ p7
theorem Old.drw {a b : World} (h : Old a b) : Old a b.drew := Below.drew h
theorem Sz.drw {w : World} {g : Nat} {ls : List Nat} {c : Nat} (h : Sz w g ls c) : Sz w.drew g ls c := ⟨h.blk, h.len⟩
theorem Sz.zero0 (w : World) : Sz (w.alloc (.cells Try.zeroCells46 46)) w.heap.size (ext []) 0 := Sz.zero w _ rfl
theorem Sz.zero1 (w : World) (o : Obj) : Sz ((w.alloc o).alloc (.cells Try.zeroCells46 46)) (w.heap.size + 1) (ext []) 0 := Sz.zero _ _ (by simp)
theorem run_loadCells_sz {W : World} {g : Nat} {A : Array Value} (h : W.heap[g]? = some (.cells A 46 (0, 0))) (hs : A.size = 81) : (loadCellsFrom ⟨g, 0, none⟩ 0 81 #[]).run Try.prog W = .ok A W := by
  have := run_loadCells_list (P := Try.prog) W ⟨g, 0, none⟩ A.toList (fun j v hv => by
    have hadd : (⟨g, 0, none⟩ : Addr).add j = ⟨g, j, none⟩ := by unfold Addr.add; split <;> simp_all
    rw [hadd, cell_of_row W g j A _ _ h]
    simpa using hv)
  simpa [loadCells, hs] using this
theorem told_plus (n : Bool) (xs ys : List Nat) : toldN n (val xs + val ys) = told (sv n xs + sv n ys) := by
  refine told_of _ _ _ ?_ (fun h0 => ?_)
  · cases n <;> simp [sv] <;> omega
  · cases n <;> simp [sv] <;> omega
theorem cnt_add (a b : Nat) (ha : cnt a ≤ 40) (hb : cnt b ≤ 40) : cnt (a + b) ≤ 41 := by
  refine cnt_le ?_
  have h1 := cnt_lt a
  have h2 := cnt_lt b
  have h3 : LB ^ cnt a ≤ LB ^ 40 := Nat.pow_le_pow_right LB_pos ha
  have h4 : LB ^ cnt b ≤ LB ^ 40 := Nat.pow_le_pow_right LB_pos hb
  have h5 : LB ^ 41 = LB ^ 40 * LB := Nat.pow_succ ..
  have h6 : LB ^ 40 * 2 ≤ LB ^ 40 * LB := Nat.mul_le_mul_left _ (by decide)
  omega
theorem told_less (n m : Bool) (xs ys : List Nat) (h : ¬ n = m) (hlt : val xs < val ys) : toldN m (val ys - val xs) = told (sv n xs + sv m ys) := by
  refine told_of _ _ _ ?_ (fun h0 => ?_)
  · cases n <;> cases m <;> simp [sv] at h ⊢ <;> omega
  · cases n <;> cases m <;> simp [sv] at h ⊢ <;> omega
theorem told_more (n m : Bool) (xs ys : List Nat) (h : ¬ n = m) (hle : val ys ≤ val xs) : toldN n (val xs - val ys) = told (sv n xs + sv m ys) := by
  refine told_of _ _ _ ?_ (fun h0 => ?_)
  · cases n <;> cases m <;> simp [sv] at h ⊢ <;> omega
  · cases n <;> cases m <;> simp [sv] at h ⊢ <;> omega
theorem len_add (n m : Bool) (xs ys : List Int) : (addW n m xs ys).2.1.length ≤ 1000 := by
  unfold addW
  split
  · exact len_told _
  · simp [nought]
theorem run_storeCells_sz {W : World} {g n : Nat} {ls : List Nat} {c : Nat} (hs : Sz W g ls c) (hl : (szV n).size = 81) : (storeCells ⟨g, 0, none⟩ (szV n).toList 0).run Try.prog W = .ok () (W.setRow g (szV n)) := by
  have := run_storeVar_row (P := Try.prog) W g 46 46 (szA ls c) (szV n) hs.blk (by rw [hl]; exact infoSz) (by rw [szA_size hs.len, hl]) (szA_one _ _)
  cases hq : Try.prog.info? 46 with
  | none => have h2 := infoSz; rw [hq] at h2; cases h2
  | some i =>
    have h2 := infoSz
    rw [hq] at h2
    have h3 : i.size = 81 := by simpa using h2
    simpa [storeVar, Go.sizeOf, typeInfo, hq, Value.cells, hl, h3] using this
theorem upon_st {o : Oper} {a : Act} {K : Act → World → Prop} {Q : Exit → Act → World → Prop} {f : Unit → World → Result Next} {W : World} {g n : Nat} {ls : List Nat} {c : Nat} (hs : Sz W g ls c) (hl : (szV n).size = 81)
    (h : Oper.upon Try.prog o a K Q (f () (W.setRow g (szV n)))) : Oper.upon Try.prog o a K Q ((Sem.run Try.prog (storeCells ⟨g, 0, none⟩ (szV n).toList 0) W).andThen f) := by
  rw [run_storeCells_sz hs hl]
  exact h
def regionAtAdd (n : Nat) : Code → Option Code
  | .region i ops b => if i = n then some (.region i ops b) else none
  | .seq a b => match regionAtAdd n a with
    | some c => some c
    | none => regionAtAdd n b
  | .block _ c => regionAtAdd n c
  | _ => none
set_option maxRecDepth 1000000 in
set_option maxHeartbeats 16000000 in
theorem reg_two (n m : Bool) (xs ys : List Int) (c0 c1 : Option Addr) (cap0 cap1 : Nat) (w w2 : World) (HV2 : Hid (Row w (.slice c0 xs.length cap0) (toI (nat xs)))) (HU2 : Hid (Row w (.slice c1 ys.length cap1) (toI (nat ys)))) (HGX : Hid (Gw n (nat xs) ∧ (nat xs).length ≤ 40)) (HGY : Hid (Gw m (nat ys) ∧ (nat ys).length ≤ 40))
    (HCX : Hid (cnt (val (nat xs)) ≤ 40 ∧ cnt (val (nat ys)) ≤ 40)) (HLX : Hid ((szV (val (nat xs))).size = 81)) (HLY : Hid ((szV (val (nat ys))).size = 81))
    (SA2 : Hid (StW w2 w.heap.size (.bool n) (.slice c0 xs.length cap0) 26)) (SB2 : Hid (StW w2 (w.heap.size + 1) (.bool m) (.slice c1 ys.length cap1) 26)) (HG2 : Hid (Old w w2)) (R : Ending → World → Prop) (K : Act → World → Prop) (s0 s1 s4 s5 s6 s7 s8 s9 s10 s11 s12 s13 s14 s15 s16 s17 s18 s19 s20 s21 s22 s23 s24 s25 s26 s27 s28 s29 s30 s31 s32 s33 s34 s35 s36 s37 s38 s39 s40 s41 s42 s43 s44 s45 s46 s47 s48 s49 s50 s51 s52 s53 : Value)
    (HK : Hid (∀ (p6 p7 : Nat) (W : World) (u17 u18 u19 u20 : Value), Two w2 (val (nat xs)) (val (nat ys)) W p6 p7 → K ⟨#[s0, s1, .pointer (some ⟨w.heap.size, 0, none⟩), .pointer (some ⟨w.heap.size + 1, 0, none⟩), s4, s5, .pointer (some ⟨p6, 0, none⟩), .pointer (some ⟨p7, 0, none⟩), s8, s9, s10, s11, s12, s13, s14, s15, s16, u17, u18, u19, u20, s21, s22, s23, s24, s25, s26, s27, s28, s29, s30, s31, s32, s33, s34, s35, s36, s37, s38, s39, s40, s41, s42, s43, s44, s45, s46, s47, s48, s49, s50, s51, s52, s53], []⟩ W)) :
    Code.wp Try.prog ((Try.f17.body.bind (regionAtAdd 3)).getD .skip) (Exit.then K (bodyPost Try.prog Try.f17 R)) ⟨#[s0, s1, .pointer (some ⟨w.heap.size, 0, none⟩), .pointer (some ⟨w.heap.size + 1, 0, none⟩), s4, s5, s6, s7, s8, s9, s10, s11, s12, s13, s14, s15, s16, s17, s18, s19, s20, s21, s22, s23, s24, s25, s26, s27, s28, s29, s30, s31, s32, s33, s34, s35, s36, s37, s38, s39, s40, s41, s42, s43, s44, s45, s46, s47, s48, s49, s50, s51, s52, s53], []⟩ w2 := by
  obtain ⟨N, hN, HN⟩ : ∃ N, (∀ W, Sem.run Try.prog (Go.sizeOf 46) W = .ok N W) ∧ Hid (N = 81) := ⟨81, Try.sizeOf46, rfl⟩
  conv => arg 2; whnf
  have hlx := HLX.out
  have hly := HLY.out
  rw [← HN.out] at hlx hly
  have HAS : Hid (∀ W', Old w2 W' → (W'.cell? ⟨w.heap.size, 0, none⟩ = some (.bool n) ∧ W'.cell? ⟨w.heap.size, 1, none⟩ = some (.slice c0 xs.length cap0) ∧ W'.cell? ⟨w.heap.size + 1, 0, none⟩ = some (.bool m) ∧ W'.cell? ⟨w.heap.size + 1, 1, none⟩ = some (.slice c1 ys.length cap1))) := fun W' g => ⟨(SA2.out.old g).c0, (SA2.out.old g).c1, (SB2.out.old g).c0, (SB2.out.old g).c1⟩
  have HLP : Hid ((pad (val (nat xs))).length = 80 ∧ (pad (val (nat ys))).length = 80) := ⟨pad_len' (k := 40) HCX.out.1 (by omega), pad_len' (k := 40) HCX.out.2 (by omega)⟩
  have tok : True := trivial
  go_region_held3 (fun W' => W'.cell? ⟨w.heap.size, 0, none⟩ = some (.bool n) ∧ W'.cell? ⟨w.heap.size, 1, none⟩ = some (.slice c0 xs.length cap0) ∧ W'.cell? ⟨w.heap.size + 1, 0, none⟩ = some (.bool m) ∧ W'.cell? ⟨w.heap.size + 1, 1, none⟩ = some (.slice c1 ys.length cap1)) (first | exact HAS.out _ (by repeat' (first | exact Old.refl _ | refine Old.drw ?_ | refine Old.alloc ?_ _ | refine Old.trans ?_ H4.out | refine Old.trans ?_ H3.out | refine Old.row ?_ (by omega) _ | fail)) | fail) (first
    | (go_at_call 24; have _t := tok; refine (sizeOf_sz n (nat xs) _ _ (HV2.out.old (Old.trans HG2.out (by repeat' (first | exact Old.refl _ | refine Old.drw ?_ | refine Old.alloc ?_ _ | refine Old.trans ?_ H4.out | refine Old.trans ?_ H3.out | refine Old.row ?_ (by omega) _ | fail)))) HGX.out.1.1 (by have := HGX.out.2; omega)).mono ?_; rintro e w3 ⟨rfl, g3⟩; have q3 := g3.size; (try simp at q3); have H3 : Hid (Old _ w3) := g3; clear tok g3)
    | (go_at_call 24; refine (sizeOf_sz m (nat ys) _ _ (HU2.out.old (Old.trans HG2.out (by repeat' (first | exact Old.refl _ | refine Old.drw ?_ | refine Old.alloc ?_ _ | refine Old.trans ?_ H4.out | refine Old.trans ?_ H3.out | refine Old.row ?_ (by omega) _ | fail)))) HGY.out.1.1 (by have := HGY.out.2; omega)).mono ?_; rintro e w4 ⟨rfl, g4⟩; have q4 := g4.size; (try simp at q4); have H4 : Hid (Old _ w4) := g4; clear g4)
    | (refine upon_st (ls := ext []) (c := 0) (by repeat' (first | with_reducible exact Sz.zero0 _ | with_reducible exact Sz.zero1 _ _ | refine Sz.drw ?_ | refine Sz.alloc ?_ _ | refine Sz.old ?_ H4.out | refine Sz.old ?_ H3.out | refine Sz.otherRow ?_ (by omega) _ | fail)) HLX.out ?_; go_simp)
    | (refine upon_st (ls := ext []) (c := 0) (by repeat' (first | with_reducible exact Sz.zero0 _ | with_reducible exact Sz.zero1 _ _ | refine Sz.drw ?_ | refine Sz.alloc ?_ _ | refine Sz.old ?_ H4.out | refine Sz.old ?_ H3.out | refine Sz.otherRow ?_ (by omega) _ | fail)) HLY.out ?_; go_simp) | fail)
  all_goals
    go_wp2_with fail
    refine HK.out _ _ _ _ _ _ _ ⟨by repeat' (first | exact Old.refl _ | refine Old.drw ?_ | refine Old.alloc ?_ _ | refine Old.trans ?_ H4.out | refine Old.trans ?_ H3.out | refine Old.row ?_ (by omega) _ | fail), ?_, ?_, by omega, by omega⟩
    · exact Sz.otherRow (Sz.row (ls := ext []) (c := 0) (by repeat' (first | with_reducible exact Sz.zero0 _ | with_reducible exact Sz.zero1 _ _ | refine Sz.drw ?_ | refine Sz.alloc ?_ _ | refine Sz.old ?_ H4.out | refine Sz.old ?_ H3.out | refine Sz.otherRow ?_ (by omega) _ | fail)) _ _ HLP.out.1) (by omega) _
    · exact Sz.row (ls := ext []) (c := 0) (by repeat' (first | with_reducible exact Sz.zero0 _ | with_reducible exact Sz.zero1 _ _ | refine Sz.drw ?_ | refine Sz.alloc ?_ _ | refine Sz.old ?_ H4.out | refine Sz.old ?_ H3.out | refine Sz.otherRow ?_ (by omega) _ | fail)) _ _ HLP.out.2
end Go.Proofs.Ytpcpahgflkjnaaa
