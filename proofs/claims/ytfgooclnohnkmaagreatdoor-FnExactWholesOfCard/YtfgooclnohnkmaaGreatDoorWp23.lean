/- Proved: several texts in one: what each proves is said ahead of it. -/
import Derived.Test.YtfgooclnohnkmaaGreatDoorWp22
import Derived.Test.YtfgooclnohnkmaaGreatDoorWp10
import Derived.Test.YtfgooclnohnkmaaGreatDoorSzAdd
import Derived.ScopeJumps
/- Proved: the drawn region of divideSizes in which the quotient by a word and what is left are handed out. -/
namespace Go.Proofs.YtfgooclnohnkmaaGreatDoor
open Go.ChangeShapes Go.WideShapes Go.ChangeAt Go.RowKit
open M2
set_option linter.unusedVariables false
set_option linter.unusedSimpArgs false
set_option maxRecDepth 1000000 in
set_option maxHeartbeats 16000000 in
theorem reg_d5 (q r p6 : Nat) (w w6 : World) (hr : r < 268435456) (hp6 : w.heap.size + 1 + 1 + 1 < p6)
    (HQ6 : Hid (Sz w6 p6 (pad q) (cnt q))) (HX6 : Hid (Sz w6 (w.heap.size + 1 + 1) (ext []) 0)) (HY6 : Hid (Sz w6 (w.heap.size + 1 + 1 + 1) (ext []) 0)) (HO6 : Hid (Old w w6))
    (R : Ending → World → Prop) (J K : Act → World → Prop) (s0 s1 s8 s9 s10 s11 s12 s13 s14 s15 s16 s17 s18 s19 s20 s21 s22 s23 s24 s25 s26 s27 s28 s29 s30 s31 s32 s33 s34 s35 s36 s37 s38 s39 s40 s41 s42 s43 s44 s45 s46 s47 s48 s49 s50 s51 s52 s53 s54 s55 s56 s57 s58 s59 s60 s61 s62 s63 s64 s65 s66 s67 : Value)
    (HK : Hid (∀ (W : World) (u30 u31 u32 u33 : Value), Sz W (w.heap.size + 1 + 1) (pad q) (cnt q) → Sz W (w.heap.size + 1 + 1 + 1) (pad r) (cnt r) → Old w W → K ⟨#[s0, s1, .pointer (some ⟨w.heap.size, 0, none⟩), .pointer (some ⟨w.heap.size + 1, 0, none⟩), .pointer (some ⟨w.heap.size + 1 + 1, 0, none⟩), .pointer (some ⟨w.heap.size + 1 + 1 + 1, 0, none⟩), .pointer (some ⟨p6, 0, none⟩), .int .i64 (r : Int), s8, s9, s10, s11, s12, s13, s14, s15, s16, s17, s18, s19, s20, s21, s22, s23, s24, s25, s26, s27, s28, s29, u30, u31, u32, u33, s34, s35, s36, s37, s38, s39, s40, s41, s42, s43, s44, s45, s46, s47, s48, s49, s50, s51, s52, s53, s54, s55, s56, s57, s58, s59, s60, s61, s62, s63, s64, s65, s66, s67], []⟩ W)) :
    Code.wp Tryz.prog ((Tryz.f77.body.bind (regionAtLong 5)).getD .skip) (Exit.then K (Exit.then J (bodyPost Tryz.prog Tryz.f77 R))) ⟨#[s0, s1, .pointer (some ⟨w.heap.size, 0, none⟩), .pointer (some ⟨w.heap.size + 1, 0, none⟩), .pointer (some ⟨w.heap.size + 1 + 1, 0, none⟩), .pointer (some ⟨w.heap.size + 1 + 1 + 1, 0, none⟩), .pointer (some ⟨p6, 0, none⟩), .int .i64 (r : Int), s8, s9, s10, s11, s12, s13, s14, s15, s16, s17, s18, s19, s20, s21, s22, s23, s24, s25, s26, s27, s28, s29, s30, s31, s32, s33, s34, s35, s36, s37, s38, s39, s40, s41, s42, s43, s44, s45, s46, s47, s48, s49, s50, s51, s52, s53, s54, s55, s56, s57, s58, s59, s60, s61, s62, s63, s64, s65, s66, s67], []⟩ w6 := by
  conv => arg 2; whnf
  obtain ⟨N, hN, HN9⟩ : ∃ N, (∀ W, Sem.run Tryz.prog (Go.sizeOf 95) W = .ok N W) ∧ Hid (N = 81) := ⟨81, Tryz.sizeOf95, rfl⟩
  have HPQ : Hid ((pad q).length = 80) := HQ6.out.len
  have HPR : Hid ((pad r).length = 80) := pad_len' (n := r) (k := 3) (cnt_word (by omega)) (by omega)
  have hzq : (szA (pad q) (cnt q)).size = N := by rw [HN9.out]; exact szA_size HPQ.out _
  have hzr : (szA (pad r) (cnt r)).size = N := by rw [HN9.out]; exact szA_size HPR.out _
  have wr1 : IntKind.u64.wrap (r : Int) = (r : Int) := by rw [IntKind.wrap_u64]; omega
  have cw := fun W => ofWord_sz r W (by omega)
  unfold szV at cw
  have hR2 : ∀ W : World, W.heap[p6]? = some (.cells (szA (pad q) (cnt q)) 95 (0, 0)) → Sem.run Tryz.prog (loadCellsFrom ⟨p6, 0, none⟩ 0 N #[]) W = .ok (szA (pad q) (cnt q)) W := fun W h => by rw [HN9.out]; exact run_loadCells_sz h (szA_size HPQ.out _)
  have HAS : Hid (∀ W' : World, Old w6 W' → (W'.heap[p6]? = some (.cells (szA (pad q) (cnt q)) 95 (0, 0)))) := fun W' g => (HQ6.out.old g).blk
  have HKS : Hid (∀ (W' : World) (k : Nat) (cs : Array Value), k = w.heap.size + 1 + 1 ∨ k = w.heap.size + 1 + 1 + 1 → (W'.heap[p6]? = some (.cells (szA (pad q) (cnt q)) 95 (0, 0))) → ((fun W' : World => W'.heap[p6]? = some (.cells (szA (pad q) (cnt q)) 95 (0, 0))) (W'.setRow k cs))) := fun W' k cs hk h => (setRow_other _ _ _ _ (by omega)).trans h
  have tok3 : True := trivial
  go_region_held3 (fun W' => W'.heap[p6]? = some (.cells (szA (pad q) (cnt q)) 95 (0, 0))) (first | exact HKS.out _ _ _ (Or.inr rfl) (HKS.out _ _ _ (Or.inl rfl) (HAS.out _ G7.out)) | exact HKS.out _ _ _ (Or.inl rfl) (HAS.out _ G7.out) | exact HAS.out _ G7.out | exact HAS.out _ (Below.drew (Old.refl w6)) | exact HAS.out _ (Old.refl w6) | fail) (first
    | (go_at_call 143; refine (cw _).mono ?_; rintro e w7 ⟨rfl, g7⟩; have G7 : Hid (Old w6 w7) := Old.trans ((Old.refl _).drewN 1) g7; have HX7 : Hid (Sz w7 (w.heap.size + 1 + 1) (ext []) 0) := HX6.out.old G7.out; have HY7 : Hid (Sz w7 (w.heap.size + 1 + 1 + 1) (ext []) 0) := HY6.out.old G7.out; clear g7)
    | (have _t := tok3; refine upon_sa HX7.out (pad q) (cnt q) HPQ.out ?_; clear tok3; go_simp)
    | (refine upon_sa (HY7.out.otherRow (by omega) _) (pad r) (cnt r) HPR.out ?_; go_simp)
    | fail)
  all_goals
    go_wp2_with fail
    exact HK.out _ _ _ _ _ ((HX7.out.row (pad q) (cnt q) HPQ.out).otherRow (by omega) _) ((HY7.out.otherRow (by omega) _).row (pad r) (cnt r) HPR.out) (((Old.trans HO6.out G7.out).row (by omega) _).row (by omega) _)
end Go.Proofs.YtfgooclnohnkmaaGreatDoor
/- Proved: the drawn region of divideSizes in which nothing and the number itself are handed out. -/
namespace Go.Proofs.YtfgooclnohnkmaaGreatDoor
open Go.ChangeShapes Go.WideShapes Go.ChangeAt Go.RowKit
open M2
set_option linter.unusedVariables false
set_option linter.unusedSimpArgs false
set_option maxRecDepth 1000000 in
set_option maxHeartbeats 16000000 in
theorem reg_d2n (a : Nat) (w w6 : World)
    (HA6 : Hid (Sz w6 w.heap.size (pad a) (cnt a))) (HX6 : Hid (Sz w6 (w.heap.size + 1 + 1) (ext []) 0)) (HY6 : Hid (Sz w6 (w.heap.size + 1 + 1 + 1) (ext []) 0)) (HO6 : Hid (Old w w6))
    (R : Ending → World → Prop) (J K : Act → World → Prop) (s0 s1 s6 s7 s8 s9 s10 s11 s12 s13 s14 s15 s16 s17 s18 s19 s20 s21 s22 s23 s24 s25 s26 s27 s28 s29 s30 s31 s32 s33 s34 s35 s36 s37 s38 s39 s40 s41 s42 s43 s44 s45 s46 s47 s48 s49 s50 s51 s52 s53 s54 s55 s56 s57 s58 s59 s60 s61 s62 s63 s64 s65 s66 s67 : Value)
    (HK : Hid (∀ (W : World) (u17 u18 : Value), Sz W (w.heap.size + 1 + 1) (ext []) 0 → Sz W (w.heap.size + 1 + 1 + 1) (pad a) (cnt a) → Old w W → K ⟨#[s0, s1, .pointer (some ⟨w.heap.size, 0, none⟩), .pointer (some ⟨w.heap.size + 1, 0, none⟩), .pointer (some ⟨w.heap.size + 1 + 1, 0, none⟩), .pointer (some ⟨w.heap.size + 1 + 1 + 1, 0, none⟩), s6, s7, s8, s9, s10, s11, s12, s13, s14, s15, s16, u17, u18, s19, s20, s21, s22, s23, s24, s25, s26, s27, s28, s29, s30, s31, s32, s33, s34, s35, s36, s37, s38, s39, s40, s41, s42, s43, s44, s45, s46, s47, s48, s49, s50, s51, s52, s53, s54, s55, s56, s57, s58, s59, s60, s61, s62, s63, s64, s65, s66, s67], []⟩ W)) :
    Code.wp Tryz.prog ((Tryz.f77.body.bind (regionAtLong 2)).getD .skip) (Exit.then K (Exit.then J (bodyPost Tryz.prog Tryz.f77 R))) ⟨#[s0, s1, .pointer (some ⟨w.heap.size, 0, none⟩), .pointer (some ⟨w.heap.size + 1, 0, none⟩), .pointer (some ⟨w.heap.size + 1 + 1, 0, none⟩), .pointer (some ⟨w.heap.size + 1 + 1 + 1, 0, none⟩), s6, s7, s8, s9, s10, s11, s12, s13, s14, s15, s16, s17, s18, s19, s20, s21, s22, s23, s24, s25, s26, s27, s28, s29, s30, s31, s32, s33, s34, s35, s36, s37, s38, s39, s40, s41, s42, s43, s44, s45, s46, s47, s48, s49, s50, s51, s52, s53, s54, s55, s56, s57, s58, s59, s60, s61, s62, s63, s64, s65, s66, s67], []⟩ w6 := by
  conv => arg 2; whnf
  obtain ⟨N, hN, HN9⟩ : ∃ N, (∀ W, Sem.run Tryz.prog (Go.sizeOf 95) W = .ok N W) ∧ Hid (N = 81) := ⟨81, Tryz.sizeOf95, rfl⟩
  have HPA : Hid ((pad a).length = 80) := HA6.out.len
  have hza : (szA (pad a) (cnt a)).size = N := by rw [HN9.out]; exact szA_size HPA.out _
  have h81 : (81 = N) = True := by simp [HN9.out]
  have hR2 : ∀ W : World, W.heap[w.heap.size]? = some (.cells (szA (pad a) (cnt a)) 95 (0, 0)) → Sem.run Tryz.prog (loadCellsFrom ⟨w.heap.size, 0, none⟩ 0 N #[]) W = .ok (szA (pad a) (cnt a)) W := fun W h => by rw [HN9.out]; exact run_loadCells_sz h (szA_size HPA.out _)
  have HAS : Hid (∀ W' : World, Old w6 W' → (W'.heap[w.heap.size]? = some (.cells (szA (pad a) (cnt a)) 95 (0, 0)))) := fun W' g => (HA6.out.old g).blk
  have HKS : Hid (∀ (W' : World) (k : Nat) (cs : Array Value), k = w.heap.size + 1 + 1 ∨ k = w.heap.size + 1 + 1 + 1 → (W'.heap[w.heap.size]? = some (.cells (szA (pad a) (cnt a)) 95 (0, 0))) → ((fun W' : World => W'.heap[w.heap.size]? = some (.cells (szA (pad a) (cnt a)) 95 (0, 0))) (W'.setRow k cs))) := fun W' k cs hk h => (setRow_other _ _ _ _ (by omega)).trans h
  have HXD : Hid (Sz w6.drew (w.heap.size + 1 + 1) (ext []) 0) := HX6.out.drw
  have HYD : Hid (Sz w6.drew (w.heap.size + 1 + 1 + 1) (ext []) 0) := HY6.out.drw
  have tok3 : True := trivial
  go_region_held3 (fun W' => W'.heap[w.heap.size]? = some (.cells (szA (pad a) (cnt a)) 95 (0, 0))) (first | exact HKS.out _ _ _ (Or.inr rfl) (HKS.out _ _ _ (Or.inl rfl) (HAS.out _ (Below.drew (Old.refl w6)))) | exact HKS.out _ _ _ (Or.inl rfl) (HAS.out _ (Below.drew (Old.refl w6))) | exact HAS.out _ (Below.drew (Old.refl w6)) | exact HAS.out _ (Old.refl w6) | fail) (first
    | (have _t := tok3; refine upon_zero HXD.out ?_; clear tok3; go_simp)
    | (refine upon_sa (HYD.out.otherRow (by omega) _) (pad a) (cnt a) HPA.out ?_; go_simp)
    | fail)
  all_goals
    go_wp2_with fail
    exact HK.out _ _ _ ((HXD.out.row (ext []) 0 (ext_len (by simp))).otherRow (by omega) _) ((HYD.out.otherRow (by omega) _).row (pad a) (cnt a) HPA.out) (((Old.drw HO6.out).row (by omega) _).row (by omega) _)
end Go.Proofs.YtfgooclnohnkmaaGreatDoor
/- Proved: the contract of the program's divideByWord. -/
namespace Go.Proofs.YtfgooclnohnkmaaGreatDoor
open Go.ChangeShapes Go.WideShapes Go.ChangeAt Go.RowKit
open M2
set_option linter.unusedVariables false
set_option linter.unusedSimpArgs false

/-- dividing by a word in place, down to the place k -/
structure DwI (a d k : Nat) (cur : List Nat) (r : Nat) : Prop where
  lim : Lim cur
  len : cur.length = 80
  eq : val cur = val ((dig a).take k) + LB ^ k * (val ((dig a).drop k) / d)
  lo : ∀ j, j < k → cur.getD j 0 = (dig a).getD j 0
  r_eq : r = val ((dig a).drop k) % d
theorem DwI.start (a d : Nat) (ha : cnt a ≤ 80) : DwI a d (cnt a) (pad a) 0 :=
  ⟨pad_lim a, pad_len ha, by rw [pad_val, take_cnt a _ (Nat.le_refl _), val_dig]; unfold cnt; simp [val], fun j _ => pad_getD a j, by unfold cnt; simp [val]⟩
theorem DwI.step {a d j : Nat} {cur : List Nat} {r : Nat} (h : DwI a d (j + 1) cur r) (hd : 0 < d) (hj : j < cnt a) (ha : cnt a ≤ 80) :
    DwI a d j (cur.set j ((r * LB + (dig a).getD j 0) / d)) ((r * LB + (dig a).getD j 0) % d) ∧ (r * LB + (dig a).getD j 0) / d < LB := by
  have hr := h.r_eq
  have h2 := (dig_lim a).getD j
  have h1 : r < d := by rw [hr]; exact Nat.mod_lt _ hd
  have hlt : (r * LB + (dig a).getD j 0) / d < LB := by
    refine Nat.div_lt_of_lt_mul ?_
    have h3 : (r + 1) * LB ≤ d * LB := Nat.mul_le_mul h1 (Nat.le_refl _)
    rw [Nat.add_mul] at h3
    omega
  have f := div_facts (val ((dig a).drop (j + 1))) d ((dig a).getD j 0) hd
  rw [← val_drop_getD (dig a) j hj, ← hr] at f
  have hs := val_set cur j ((r * LB + (dig a).getD j 0) / d) (by rw [h.len]; omega)
  have e := h.eq
  refine ⟨⟨h.lim.set _ _ hlt, by rw [List.length_set, h.len], ?_, ?_, f.2.symm⟩, hlt⟩
  · rw [h.lo j (by omega)] at hs
    rw [val_take_succ, Nat.pow_succ] at e
    rw [f.1, Nat.mul_add, ← Nat.mul_assoc]
    omega
  · intro i hi
    rw [← h.lo i (by omega)]
    simp [List.getD, show ¬ j = i by omega]
theorem DwI.done {a d : Nat} {cur : List Nat} {r : Nat} (h : DwI a d 0 cur r) : cur = pad (a / d) ∧ r = a % d := by
  have e := h.eq
  have hr := h.r_eq
  simp [val, val_dig] at e hr
  exact ⟨by rw [← e]; exact pad_of h.lim h.len, hr⟩
set_option maxHeartbeats 2000000 in
theorem word_sz (a d : Nat) (w : World) (ha : cnt a ≤ 80) (hd : 0 < d) (hd2 : d ≤ 268435456) :
    Calls Tryz.prog 129 #[.agg (szV a), .int .i64 (d : Int)] w fun e w' => e = .returned (.tuple #[.agg (szV (a / d)), .int .i64 ((a % d : Nat) : Int)]) ∧ Old w w' := by
  have HLA := pad_len' ha (by omega)
  have a80 := szA_cnt HLA (cnt a)
  have HPA : Hid ((pad a).length = 80) := HLA
  clear HLA
  unfold szV
  go_enter Tryz.func129, Tryz.ntmps129
  go_wp2_with fail
  clear a80
  go_loopw [6, 7] (fun rs i W => ∃ (k : Nat) (cur : List Nat) (r : Nat), k ≤ cnt a ∧ i = .int .i64 ((k : Int) - 1) ∧ rs = .int .i64 (r : Int) ∧ r < d ∧ Hid (DwI a d k cur r) ∧ Hid (Sz W w.heap.size cur (cnt a)) ∧ Hid (Sz W (w.heap.size + 1) (ext []) 0) ∧ Hid (Old w W)) (fun _ i _ => (intOf i + 1).toNat)
  case atStart => exact ⟨cnt a, pad a, 0, Nat.le_refl _, rfl, rfl, hd, DwI.start _ _ ha, (Sz.new w _ _ HPA.out).alloc _, Sz.zero _ _ (by simp), ((Old.refl w).alloc _).alloc _⟩
  case round =>
      obtain ⟨k, cur, r, hk, rfl, rfl, hr, HI, HS, HR, HG⟩ := hrel
      rcases Nat.eq_zero_or_pos k with hk0 | hk0
      · subst hk0
        have c1 := HS.out.cnt
        obtain ⟨HE1, HE3⟩ := HI.out.done
        have HE : Hid (cnt (a / d) ≤ cnt a) := cnt_mono (Nat.div_le_self _ _)
        have HPS : Hid ((pad (a / d)).length = 80) := pad_len' HE.out (by omega)
        have HD : Hid (Sz wr w.heap.size (pad (a / d)) (cnt a)) := by
          have := HS.out
          rw [HE1] at this
          exact this
        subst HE3
        clear HE1 HI HS
        go_wp2_with (first | ((with_reducible refine load_sz HD.out ?_ ?_); exact rfl; simp only [Act.put, List.setIfInBounds_toArray, List.set_cons_succ, List.set_cons_zero]) | (go_at_call 173; refine (trimmed_pad (a / d) (cnt a) (cnt a) _ HE.out (by omega)).mono ?_; rintro e w5 ⟨rfl, g5⟩; have HR5 : Hid (Sz w5 (w.heap.size + 1) (ext []) 0) := HR.out.old g5; have HG5 : Hid (Old w w5) := Old.trans HG.out g5) | ((with_reducible refine store_sz HR5.out (pad (a / d)) (cnt (a / d)) HPS.out ?_ ?_ ?_); exact rfl; exact rfl; simp only [Act.put]) | ((with_reducible refine bodyPost_ret (ret_szi (y := .int .i64 ((a % d : Nat) : Int)) Tryz.results129 _ _ ?_ ?_ (HR5.out.row (pad (a / d)) (cnt (a / d)) HPS.out)) ?_ ?_); exact rfl; exact rfl; exact rfl; exact ⟨rfl, HG5.out.row (by omega) _⟩))
      · obtain ⟨j, rfl⟩ : ∃ j, k = j + 1 := ⟨k - 1, by omega⟩
        have i0 : ((j + 1 : Nat) : Int) - 1 = (j : Int) := by omega
        rw [i0]
        have d0 : decide ((0 : Int) ≤ (j : Int)) = true := by simp
        have i1 : (j : Int) < 80 := by omega
        have c1 := HS.out.at (j := j) (by omega)
        rw [HI.out.lo j (by omega)] at c1
        have f1 := HS.out.fro j
        have l1 := (dig_lim a).getD j
        obtain ⟨HN, HQ⟩ := HI.out.step hd (by omega) ha
        have HN' : Hid (DwI a d j (cur.set j ((r * LB + (dig a).getD j 0) / d)) ((r * LB + (dig a).getD j 0) % d)) := HN
        have hr1 : (r * LB + (dig a).getD j 0) % d < d := Nat.mod_lt _ hd
        clear HN HQ i0
        generalize (dig a).getD j 0 = x at *
        have hx : x < 268435456 := l1
        clear l1
        have hd0 : ((d : Int) == 0) = false := by simp; omega
        have hdn : ¬ d = 0 := by omega
        have hnn : (0 : Int) ≤ (r : Int) * 268435456 + (x : Int) := by omega
        have hdp : (0 : Int) < (d : Int) := by omega
        have e1 : ((r : Int) * 268435456 + (x : Int)) / (d : Int) = (((r * LB + x) / d : Nat) : Int) := by
          rw [Int.natCast_ediv, Int.natCast_add, Int.natCast_mul]; rfl
        have e2 : ((r : Int) * 268435456 + (x : Int)) % (d : Int) = (((r * LB + x) % d : Nat) : Int) := by
          rw [Int.natCast_emod, Int.natCast_add, Int.natCast_mul]; rfl
        generalize (r * LB + x) / d = u at *
        generalize (r * LB + x) % d = r' at *
        go_wp2_with fail
        exact ⟨⟨j, cur.set j u, r', by omega, rfl, by first | rfl | rw [e2], hr1, HN', HS.out.set (by omega) u, HR.out.other _ (by simp) _, HG.out.own (by simp) _⟩, by first | (simp [intOf]; done) | (simp [intOf]; omega)⟩
end Go.Proofs.YtfgooclnohnkmaaGreatDoor
/- Proved: the contract of the program's divideSizes where the number is below its divisor, and where the divisor is a word. -/
namespace Go.Proofs.YtfgooclnohnkmaaGreatDoor
open Go.ChangeShapes Go.WideShapes Go.ChangeAt Go.RowKit
open M2
set_option linter.unusedVariables false
set_option linter.unusedSimpArgs false
set_option maxRecDepth 100000 in
set_option maxHeartbeats 8000000 in
theorem div_lt (a b : Nat) (w : World) (ha : cnt a ≤ 40) (hb : cnt b ≤ 40) (hlt : a < b) :
    Calls Tryz.prog 77 #[.agg (szV a), .agg (szV b)] w fun e w' => e = .returned (.tuple #[.agg (szV (a / b)), .agg (szV (a % b))]) ∧ Old w w' := by
  rw [Nat.div_eq_of_lt hlt, Nat.mod_eq_of_lt hlt]
  have HPA : Hid ((pad a).length = 80) := pad_len' ha (by omega)
  have HPB : Hid ((pad b).length = 80) := pad_len' hb (by omega)
  have HA0 : Hid (Sz ((((w.alloc (.cells (szA (pad a) (cnt a)) 95)).alloc (.cells (szA (pad b) (cnt b)) 95)).alloc (.cells Tryz.zeroCells95 95)).alloc (.cells Tryz.zeroCells95 95)) w.heap.size (pad a) (cnt a)) := (((Sz.new w _ _ HPA.out).alloc _).alloc _).alloc _
  have HB0 : Hid (Sz ((((w.alloc (.cells (szA (pad a) (cnt a)) 95)).alloc (.cells (szA (pad b) (cnt b)) 95)).alloc (.cells Tryz.zeroCells95 95)).alloc (.cells Tryz.zeroCells95 95)) (w.heap.size + 1) (pad b) (cnt b)) := ((Sz.new' _ _ _ _ HPB.out (by simp)).alloc _).alloc _
  have HX0 : Hid (Sz ((((w.alloc (.cells (szA (pad a) (cnt a)) 95)).alloc (.cells (szA (pad b) (cnt b)) 95)).alloc (.cells Tryz.zeroCells95 95)).alloc (.cells Tryz.zeroCells95 95)) (w.heap.size + 1 + 1) (ext []) 0) := (Sz.zero _ _ (by simp)).alloc _
  have HY0 : Hid (Sz ((((w.alloc (.cells (szA (pad a) (cnt a)) 95)).alloc (.cells (szA (pad b) (cnt b)) 95)).alloc (.cells Tryz.zeroCells95 95)).alloc (.cells Tryz.zeroCells95 95)) (w.heap.size + 1 + 1 + 1) (ext []) 0) := Sz.zero _ _ (by simp)
  have HO0 : Hid (Old w ((((w.alloc (.cells (szA (pad a) (cnt a)) 95)).alloc (.cells (szA (pad b) (cnt b)) 95)).alloc (.cells Tryz.zeroCells95 95)).alloc (.cells Tryz.zeroCells95 95))) := ((((Old.refl w).alloc _).alloc _).alloc _).alloc _
  have cc := fun W => cmp_sz a b W (by omega) (by omega)
  have hz : cmpN a b = -1 := by unfold cmpN; rw [if_pos hlt]
  rw [hz] at cc
  have HE0 : Hid (szV 0 = szA (ext []) 0) := by
    show _ = _
    unfold szV pad
    rw [dig_zero, cnt_zero]
  rw [HE0.out]
  clear hz hlt
  unfold szV at *
  go_enter Tryz.func77, Tryz.ntmps77
  go_wp2_with (first | ((with_reducible refine load_sz HA0.out ?_ ?_); exact rfl; simp only [Act.put, List.setIfInBounds_toArray, List.set_cons_succ, List.set_cons_zero]) | ((with_reducible refine load_sz HB0.out ?_ ?_); exact rfl; simp only [Act.put, List.setIfInBounds_toArray, List.set_cons_succ, List.set_cons_zero]))
  refine (cc _).mono ?_
  rintro e w2 ⟨rfl, g2⟩
  have HA2 : Hid (Sz w2 w.heap.size (pad a) (cnt a)) := HA0.out.old g2
  have HB2 : Hid (Sz w2 (w.heap.size + 1) (pad b) (cnt b)) := HB0.out.old g2
  have HX2 : Hid (Sz w2 (w.heap.size + 1 + 1) (ext []) 0) := HX0.out.old g2
  have HY2 : Hid (Sz w2 (w.heap.size + 1 + 1 + 1) (ext []) 0) := HY0.out.old g2
  have HO2 : Hid (Old w w2) := Old.trans HO0.out g2
  have hs2 : w.heap.size + 1 + 1 + 1 < w2.heap.size := HY2.out.lt
  clear g2 HA0 HB0 HX0 HY0 HO0 cc
  go_wp2_with fail
  refine reg_d2n a w w2 HA2 HX2 HY2 HO2 _ _ _ _ _ _ _ _ _ _ _ _ _ _ _ _ _ _ _ _ _ _ _ _ _ _ _ _ _ _ _ _ _ _ _ _ _ _ _ _ _ _ _ _ _ _ _ _ _ _ _ _ _ _ _ _ _ _ _ _ _ _ _ _ _ _ _ ?_
  intro W u17 u18 hz1 hz2 ho
  go_wp2_with fail
  exact bodyPost_ret (ret_sz2 Tryz.results77 _ _ rfl rfl hz1 hz2) rfl ⟨rfl, ho⟩
theorem pad_low {b : Nat} (h : cnt b = 1) : (pad b).getD 0 0 = b ∧ 0 < b ∧ b < 268435456 := by
  have h1 := cnt_lt b
  rw [h, Nat.pow_one] at h1
  have h2 : b ≠ 0 := fun e => by rw [e, cnt_zero] at h; omega
  refine ⟨?_, by omega, h1⟩
  rw [pad_at, Nat.pow_zero, Nat.div_one, Nat.mod_eq_of_lt h1]
set_option maxRecDepth 100000 in
set_option maxHeartbeats 8000000 in
theorem div_one (a b : Nat) (w : World) (ha : cnt a ≤ 40) (hb1 : cnt b = 1) (hge : b ≤ a) :
    Calls Tryz.prog 77 #[.agg (szV a), .agg (szV b)] w fun e w' => e = .returned (.tuple #[.agg (szV (a / b)), .agg (szV (a % b))]) ∧ Old w w' := by
  have hb : cnt b ≤ 40 := by omega
  have HPA : Hid ((pad a).length = 80) := pad_len' ha (by omega)
  have HPB : Hid ((pad b).length = 80) := pad_len' hb (by omega)
  have HA0 : Hid (Sz ((((w.alloc (.cells (szA (pad a) (cnt a)) 95)).alloc (.cells (szA (pad b) (cnt b)) 95)).alloc (.cells Tryz.zeroCells95 95)).alloc (.cells Tryz.zeroCells95 95)) w.heap.size (pad a) (cnt a)) := (((Sz.new w _ _ HPA.out).alloc _).alloc _).alloc _
  have HB0 : Hid (Sz ((((w.alloc (.cells (szA (pad a) (cnt a)) 95)).alloc (.cells (szA (pad b) (cnt b)) 95)).alloc (.cells Tryz.zeroCells95 95)).alloc (.cells Tryz.zeroCells95 95)) (w.heap.size + 1) (pad b) (cnt b)) := ((Sz.new' _ _ _ _ HPB.out (by simp)).alloc _).alloc _
  have HX0 : Hid (Sz ((((w.alloc (.cells (szA (pad a) (cnt a)) 95)).alloc (.cells (szA (pad b) (cnt b)) 95)).alloc (.cells Tryz.zeroCells95 95)).alloc (.cells Tryz.zeroCells95 95)) (w.heap.size + 1 + 1) (ext []) 0) := (Sz.zero _ _ (by simp)).alloc _
  have HY0 : Hid (Sz ((((w.alloc (.cells (szA (pad a) (cnt a)) 95)).alloc (.cells (szA (pad b) (cnt b)) 95)).alloc (.cells Tryz.zeroCells95 95)).alloc (.cells Tryz.zeroCells95 95)) (w.heap.size + 1 + 1 + 1) (ext []) 0) := Sz.zero _ _ (by simp)
  have HO0 : Hid (Old w ((((w.alloc (.cells (szA (pad a) (cnt a)) 95)).alloc (.cells (szA (pad b) (cnt b)) 95)).alloc (.cells Tryz.zeroCells95 95)).alloc (.cells Tryz.zeroCells95 95))) := ((((Old.refl w).alloc _).alloc _).alloc _).alloc _
  have cc := fun W => cmp_sz a b W (by omega) (by omega)
  have hz : ¬ cmpN a b < 0 := by unfold cmpN; rw [if_neg (by omega)]; split <;> omega
  obtain ⟨b1, b2, b3⟩ := pad_low hb1
  obtain ⟨z, hze⟩ : ∃ z, cmpN a b = z := ⟨_, rfl⟩
  rw [hze] at cc hz
  have dz : decide (z < 0) = false := decide_eq_false hz
  have cw := fun W => word_sz a b W (by omega) b2 (by omega)
  have hrl : a % b < 268435456 := Nat.lt_trans (Nat.mod_lt _ b2) b3
  have HPQ : Hid ((pad (a / b)).length = 80) := pad_len' (Nat.le_trans (cnt_mono (Nat.div_le_self _ _)) ha) (by omega)
  have HB1 : Hid ((pad b).getD 0 0 = b) := b1
  have HCB : Hid (cnt b = 1) := hb1
  generalize a % b = r at *
  generalize a / b = q at *
  clear hz hze b1 hge hb1
  unfold szV at *
  go_enter Tryz.func77, Tryz.ntmps77
  go_wp2_with (first | ((with_reducible refine load_sz HA0.out ?_ ?_); exact rfl; simp only [Act.put, List.setIfInBounds_toArray, List.set_cons_succ, List.set_cons_zero]) | ((with_reducible refine load_sz HB0.out ?_ ?_); exact rfl; simp only [Act.put, List.setIfInBounds_toArray, List.set_cons_succ, List.set_cons_zero]))
  refine (cc _).mono ?_
  rintro e w2 ⟨rfl, g2⟩
  have HA2 : Hid (Sz w2 w.heap.size (pad a) (cnt a)) := HA0.out.old g2
  have HB2 : Hid (Sz w2 (w.heap.size + 1) (pad b) (cnt b)) := HB0.out.old g2
  have HX2 : Hid (Sz w2 (w.heap.size + 1 + 1) (ext []) 0) := HX0.out.old g2
  have HY2 : Hid (Sz w2 (w.heap.size + 1 + 1 + 1) (ext []) 0) := HY0.out.old g2
  have HO2 : Hid (Old w w2) := Old.trans HO0.out g2
  have hs2 : w.heap.size + 1 + 1 + 1 < w2.heap.size := HY2.out.lt
  clear g2 HA0 HB0 HX0 HY0 HO0 cc
  have c1 : w2.cell? ⟨w.heap.size + 1, 80, none⟩ = some (.int .i64 1) := by rw [HB2.out.cnt, HCB.out]; rfl
  have c2 : w2.cell? ⟨w.heap.size + 1, 0, none⟩ = some (.int .i64 (b : Int)) := by rw [HB2.out.at (j := 0) (by omega), HB1.out]
  go_wp2_with (first | ((with_reducible refine load_sz HA2.out ?_ ?_); exact rfl; simp only [Act.put, List.setIfInBounds_toArray, List.set_cons_succ, List.set_cons_zero]) | (go_at_call 129; refine (cw _).mono ?_; rintro e w3 ⟨rfl, g3⟩; have HX3 : Hid (Sz (w3.alloc (.cells Tryz.zeroCells95 95)) (w.heap.size + 1 + 1) (ext []) 0) := (HX2.out.old g3).alloc _; have HY3 : Hid (Sz (w3.alloc (.cells Tryz.zeroCells95 95)) (w.heap.size + 1 + 1 + 1) (ext []) 0) := (HY2.out.old g3).alloc _; have HO3 : Hid (Old w (w3.alloc (.cells Tryz.zeroCells95 95))) := (Old.trans HO2.out g3).alloc _; have HZ3 : Hid (Sz (w3.alloc (.cells Tryz.zeroCells95 95)) w3.heap.size (ext []) 0) := Sz.zero w3 _ rfl; have hs3 : w.heap.size + 1 + 1 + 1 < w3.heap.size := (by have := g3.size; omega); clear g3) | ((with_reducible refine store_sz HZ3.out (pad q) (cnt q) HPQ.out ?_ ?_ ?_); exact rfl; exact rfl; simp only [Act.put]))
  have HQ4 : Hid (Sz ((w3.alloc (.cells Tryz.zeroCells95 95)).setRow w3.heap.size (szA (pad q) (cnt q))) w3.heap.size (pad q) (cnt q)) := HZ3.out.row (pad q) (cnt q) HPQ.out
  refine reg_d5 q r w3.heap.size w _ hrl hs3 HQ4 (HX3.out.otherRow (by omega) _) (HY3.out.otherRow (by omega) _) (HO3.out.row (by omega) _) _ _ _ _ _ _ _ _ _ _ _ _ _ _ _ _ _ _ _ _ _ _ _ _ _ _ _ _ _ _ _ _ _ _ _ _ _ _ _ _ _ _ _ _ _ _ _ _ _ _ _ _ _ _ _ _ _ _ _ _ _ _ _ _ _ ?_
  intro W u30 u31 u32 u33 hz1 hz2 ho
  go_wp2_with fail
  exact bodyPost_ret (ret_sz2 Tryz.results77 _ _ rfl rfl hz1 hz2) rfl ⟨rfl, ho⟩
end Go.Proofs.YtfgooclnohnkmaaGreatDoor
/- Proved: the drawn region of divideSizes in which the long quotient and what is left are handed out. -/
namespace Go.Proofs.YtfgooclnohnkmaaGreatDoor
open Go.ChangeShapes Go.WideShapes Go.ChangeAt Go.RowKit
open M2
set_option linter.unusedVariables false
set_option linter.unusedSimpArgs false
set_option maxRecDepth 1000000 in
set_option maxHeartbeats 16000000 in
theorem reg_d9 (lq lr : List Nat) (nq nr p9 p11 : Nat) (w w6 : World) (hp9 : w.heap.size + 1 + 1 + 1 < p9) (hp11 : w.heap.size + 1 + 1 + 1 < p11)
    (HQ6 : Hid (Sz w6 p9 lq nq)) (HR6 : Hid (Sz w6 p11 lr nr)) (HX6 : Hid (Sz w6 (w.heap.size + 1 + 1) (ext []) 0)) (HY6 : Hid (Sz w6 (w.heap.size + 1 + 1 + 1) (ext []) 0)) (HO6 : Hid (Old w w6))
    (R : Ending → World → Prop) (K : Act → World → Prop) (s0 s1 s6 s7 s8 s10 s12 s13 s14 s15 s16 s17 s18 s19 s20 s21 s22 s23 s24 s25 s26 s27 s28 s29 s30 s31 s32 s33 s34 s35 s36 s37 s38 s39 s40 s41 s42 s43 s44 s45 s46 s47 s48 s49 s50 s51 s52 s53 s54 s55 s56 s57 s58 s59 s60 s61 s62 s63 s64 s65 s66 s67 : Value)
    (HK : Hid (∀ (W : World) (u66 u67 : Value), Sz W (w.heap.size + 1 + 1) lq nq → Sz W (w.heap.size + 1 + 1 + 1) lr nr → Old w W → K ⟨#[s0, s1, .pointer (some ⟨w.heap.size, 0, none⟩), .pointer (some ⟨w.heap.size + 1, 0, none⟩), .pointer (some ⟨w.heap.size + 1 + 1, 0, none⟩), .pointer (some ⟨w.heap.size + 1 + 1 + 1, 0, none⟩), s6, s7, s8, .pointer (some ⟨p9, 0, none⟩), s10, .pointer (some ⟨p11, 0, none⟩), s12, s13, s14, s15, s16, s17, s18, s19, s20, s21, s22, s23, s24, s25, s26, s27, s28, s29, s30, s31, s32, s33, s34, s35, s36, s37, s38, s39, s40, s41, s42, s43, s44, s45, s46, s47, s48, s49, s50, s51, s52, s53, s54, s55, s56, s57, s58, s59, s60, s61, s62, s63, s64, s65, u66, u67], []⟩ W)) :
    Code.wp Tryz.prog ((Tryz.f77.body.bind (regionAtLong 9)).getD .skip) (Exit.then K (bodyPost Tryz.prog Tryz.f77 R)) ⟨#[s0, s1, .pointer (some ⟨w.heap.size, 0, none⟩), .pointer (some ⟨w.heap.size + 1, 0, none⟩), .pointer (some ⟨w.heap.size + 1 + 1, 0, none⟩), .pointer (some ⟨w.heap.size + 1 + 1 + 1, 0, none⟩), s6, s7, s8, .pointer (some ⟨p9, 0, none⟩), s10, .pointer (some ⟨p11, 0, none⟩), s12, s13, s14, s15, s16, s17, s18, s19, s20, s21, s22, s23, s24, s25, s26, s27, s28, s29, s30, s31, s32, s33, s34, s35, s36, s37, s38, s39, s40, s41, s42, s43, s44, s45, s46, s47, s48, s49, s50, s51, s52, s53, s54, s55, s56, s57, s58, s59, s60, s61, s62, s63, s64, s65, s66, s67], []⟩ w6 := by
  conv => arg 2; whnf
  obtain ⟨N, hN, HN9⟩ : ∃ N, (∀ W, Sem.run Tryz.prog (Go.sizeOf 95) W = .ok N W) ∧ Hid (N = 81) := ⟨81, Tryz.sizeOf95, rfl⟩
  have HPQ : Hid (lq.length = 80) := HQ6.out.len
  have HPR : Hid (lr.length = 80) := HR6.out.len
  have hzq : (szA lq nq).size = N := by rw [HN9.out]; exact szA_size HPQ.out _
  have hzr : (szA lr nr).size = N := by rw [HN9.out]; exact szA_size HPR.out _
  have hR1 : ∀ W : World, W.heap[p9]? = some (.cells (szA lq nq) 95 (0, 0)) → Sem.run Tryz.prog (loadCellsFrom ⟨p9, 0, none⟩ 0 N #[]) W = .ok (szA lq nq) W := fun W h => by rw [HN9.out]; exact run_loadCells_sz h (szA_size HPQ.out _)
  have hR2 : ∀ W : World, W.heap[p11]? = some (.cells (szA lr nr) 95 (0, 0)) → Sem.run Tryz.prog (loadCellsFrom ⟨p11, 0, none⟩ 0 N #[]) W = .ok (szA lr nr) W := fun W h => by rw [HN9.out]; exact run_loadCells_sz h (szA_size HPR.out _)
  have HAS : Hid (∀ W' : World, Old w6 W' → (W'.heap[p9]? = some (.cells (szA lq nq) 95 (0, 0)) ∧ W'.heap[p11]? = some (.cells (szA lr nr) 95 (0, 0)))) := fun W' g => ⟨(HQ6.out.old g).blk, (HR6.out.old g).blk⟩
  have HKS : Hid (∀ (W' : World) (k : Nat) (cs : Array Value), k = w.heap.size + 1 + 1 ∨ k = w.heap.size + 1 + 1 + 1 → (W'.heap[p9]? = some (.cells (szA lq nq) 95 (0, 0)) ∧ W'.heap[p11]? = some (.cells (szA lr nr) 95 (0, 0))) → ((fun W' : World => W'.heap[p9]? = some (.cells (szA lq nq) 95 (0, 0)) ∧ W'.heap[p11]? = some (.cells (szA lr nr) 95 (0, 0))) (W'.setRow k cs))) := fun W' k cs hk h => ⟨(setRow_other _ _ _ _ (by omega)).trans h.1, (setRow_other _ _ _ _ (by omega)).trans h.2⟩
  have HXD : Hid (Sz w6.drew (w.heap.size + 1 + 1) (ext []) 0) := HX6.out.drw
  have HYD : Hid (Sz w6.drew (w.heap.size + 1 + 1 + 1) (ext []) 0) := HY6.out.drw
  have tok3 : True := trivial
  go_region_held3 (fun W' => W'.heap[p9]? = some (.cells (szA lq nq) 95 (0, 0)) ∧ W'.heap[p11]? = some (.cells (szA lr nr) 95 (0, 0))) (first | exact HKS.out _ _ _ (Or.inr rfl) (HKS.out _ _ _ (Or.inl rfl) (HAS.out _ (Below.drew (Old.refl w6)))) | exact HKS.out _ _ _ (Or.inl rfl) (HAS.out _ (Below.drew (Old.refl w6))) | exact HAS.out _ (Below.drew (Old.refl w6)) | exact HAS.out _ (Old.refl w6) | fail) (first
    | (have _t := tok3; refine upon_sa HXD.out lq nq HPQ.out ?_; clear tok3; go_simp)
    | (refine upon_sa (HYD.out.otherRow (by omega) _) lr nr HPR.out ?_; go_simp)
    | fail)
  all_goals
    go_wp2_with fail
    exact HK.out _ _ _ ((HXD.out.row lq nq HPQ.out).otherRow (by omega) _) ((HYD.out.otherRow (by omega) _).row lr nr HPR.out) (((Old.drw HO6.out).row (by omega) _).row (by omega) _)
end Go.Proofs.YtfgooclnohnkmaaGreatDoor
/- Proved: the drawn region of divideSizes in which both are stretched and divided. -/
namespace Go.Proofs.YtfgooclnohnkmaaGreatDoor
open Go.ChangeShapes Go.WideShapes Go.ChangeAt Go.RowKit
open M2
set_option linter.unusedVariables false
set_option linter.unusedSimpArgs false
/-- two sizes that were made -/
structure TwoL (w0 : World) (lq lr : List Nat) (nq nr : Nat) (W : World) (p9 p10 : Nat) : Prop where
  old : Old w0 W
  z9 : Sz W p9 lq nq
  z10 : Sz W p10 lr nr
  lo9 : w0.heap.size ≤ p9
  lo10 : w0.heap.size ≤ p10
set_option maxRecDepth 1000000 in
set_option maxHeartbeats 16000000 in
theorem reg_d7 (la lb lA lV lq lr : List Nat) (na nb nA nV nq nr s p0 : Nat) (w w2 : World) (h0 : w.heap.size + 1 < w2.heap.size)
    (HA : Hid (Sz w2 w.heap.size la na)) (HB : Hid (Sz w2 (w.heap.size + 1) lb nb)) (HLQ : Hid (lq.length = 80)) (HLR : Hid (lr.length = 80)) (hp0 : IntKind.i64.wrap ((na : Int) - (nb : Int)) = (p0 : Int))
    (ca : ∀ W, Calls Tryz.prog 133 #[.agg (szA la na), .int .i64 (s : Int), .int .i64 0] W fun e w' => e = .returned (.agg (szA lA nA)) ∧ Old W w')
    (cb : ∀ W, Calls Tryz.prog 133 #[.agg (szA lb nb), .int .i64 (s : Int), .int .i64 0] W fun e w' => e = .returned (.agg (szA lV nV)) ∧ Old W w')
    (cl : ∀ W, Calls Tryz.prog 144 #[.agg (szA lA nA), .agg (szA lV nV), .int .i64 (p0 : Int)] W fun e w' => e = .returned (.tuple #[.agg (szA lq nq), .agg (szA lr nr)]) ∧ Old W w')
    (R : Ending → World → Prop) (K : Act → World → Prop) (s0 s1 s6 s7 s9 s10 s11 s12 s13 s14 s15 s16 s17 s18 s19 s20 s21 s22 s23 s24 s25 s26 s27 s28 s29 s30 s31 s32 s33 s34 s35 s36 s37 s38 s39 s40 s41 s42 s43 s44 s45 s46 s47 s48 s49 s50 s51 s52 s53 s54 s55 s56 s57 s58 s59 s60 s61 s62 s63 s64 s65 s66 s67 : Value)
    (HK : Hid (∀ (p9 p10 : Nat) (W : World) (u45 u46 u47 u48 u49 u50 u51 u52 u53 u54 u55 u56 u57 u58 u59 : Value), TwoL w2 lq lr nq nr W p9 p10 → K ⟨#[s0, s1, .pointer (some ⟨w.heap.size, 0, none⟩), .pointer (some ⟨w.heap.size + 1, 0, none⟩), .pointer (some ⟨w.heap.size + 1 + 1, 0, none⟩), .pointer (some ⟨w.heap.size + 1 + 1 + 1, 0, none⟩), s6, s7, .int .i64 (s : Int), .pointer (some ⟨p9, 0, none⟩), .pointer (some ⟨p10, 0, none⟩), s11, s12, s13, s14, s15, s16, s17, s18, s19, s20, s21, s22, s23, s24, s25, s26, s27, s28, s29, s30, s31, s32, s33, s34, s35, s36, s37, s38, s39, s40, s41, s42, s43, s44, u45, u46, u47, u48, u49, u50, u51, u52, u53, u54, u55, u56, u57, u58, u59, s60, s61, s62, s63, s64, s65, s66, s67], []⟩ W)) :
    Code.wp Tryz.prog ((Tryz.f77.body.bind (regionAtLong 7)).getD .skip) (Exit.then K (bodyPost Tryz.prog Tryz.f77 R)) ⟨#[s0, s1, .pointer (some ⟨w.heap.size, 0, none⟩), .pointer (some ⟨w.heap.size + 1, 0, none⟩), .pointer (some ⟨w.heap.size + 1 + 1, 0, none⟩), .pointer (some ⟨w.heap.size + 1 + 1 + 1, 0, none⟩), s6, s7, .int .i64 (s : Int), s9, s10, s11, s12, s13, s14, s15, s16, s17, s18, s19, s20, s21, s22, s23, s24, s25, s26, s27, s28, s29, s30, s31, s32, s33, s34, s35, s36, s37, s38, s39, s40, s41, s42, s43, s44, s45, s46, s47, s48, s49, s50, s51, s52, s53, s54, s55, s56, s57, s58, s59, s60, s61, s62, s63, s64, s65, s66, s67], []⟩ w2 := by
  conv => arg 2; whnf
  obtain ⟨N, hN, HN⟩ : ∃ N, (∀ W, Sem.run Tryz.prog (Go.sizeOf 95) W = .ok N W) ∧ Hid (N = 81) := ⟨81, Tryz.sizeOf95, rfl⟩
  have HPA : Hid (la.length = 80) := HA.out.len
  have HPB : Hid (lb.length = 80) := HB.out.len
  have hlq : (szA lq nq).size = N := by rw [HN.out]; exact szA_size HLQ.out _
  have hlr : (szA lr nr).size = N := by rw [HN.out]; exact szA_size HLR.out _
  have hR1 : ∀ W : World, W.heap[w.heap.size]? = some (.cells (szA la na) 95 (0, 0)) → Sem.run Tryz.prog (loadCellsFrom ⟨w.heap.size, 0, none⟩ 0 N #[]) W = .ok (szA la na) W := fun W h => by rw [HN.out]; exact run_loadCells_sz h (szA_size HPA.out _)
  have hR2 : ∀ W : World, W.heap[w.heap.size + 1]? = some (.cells (szA lb nb) 95 (0, 0)) → Sem.run Tryz.prog (loadCellsFrom ⟨w.heap.size + 1, 0, none⟩ 0 N #[]) W = .ok (szA lb nb) W := fun W h => by rw [HN.out]; exact run_loadCells_sz h (szA_size HPB.out _)
  have HAS : Hid (∀ W', Old w2 W' → (W'.heap[w.heap.size]? = some (.cells (szA la na) 95 (0, 0)) ∧ W'.heap[w.heap.size + 1]? = some (.cells (szA lb nb) 95 (0, 0)) ∧ W'.cell? ⟨w.heap.size, 80, none⟩ = some (.int .i64 (na : Int)) ∧ W'.cell? ⟨w.heap.size + 1, 80, none⟩ = some (.int .i64 (nb : Int)))) := fun W' g => ⟨(HA.out.old g).blk, (HB.out.old g).blk, (HA.out.old g).cnt, (HB.out.old g).cnt⟩
  have tok : True := trivial
  have tok2 : True := trivial
  go_region_held3 (fun W' => W'.heap[w.heap.size]? = some (.cells (szA la na) 95 (0, 0)) ∧ W'.heap[w.heap.size + 1]? = some (.cells (szA lb nb) 95 (0, 0)) ∧ W'.cell? ⟨w.heap.size, 80, none⟩ = some (.int .i64 (na : Int)) ∧ W'.cell? ⟨w.heap.size + 1, 80, none⟩ = some (.int .i64 (nb : Int))) (first | exact HAS.out _ (by repeat' (first | exact Old.refl _ | refine Old.drw ?_ | refine Old.alloc ?_ _ | refine Old.trans ?_ H5.out | refine Old.trans ?_ H4.out | refine Old.trans ?_ H3.out | refine Old.row ?_ (by omega) _ | fail)) | fail) (first
    | (go_at_call 133; have _t := tok; refine (ca _).mono ?_; rintro e w3 ⟨rfl, g3⟩; have q3 := g3.size; (try simp at q3); have H3 : Hid (Old _ w3) := g3; clear tok g3)
    | (go_at_call 133; refine (cb _).mono ?_; rintro e w4 ⟨rfl, g4⟩; have q4 := g4.size; (try simp at q4); have H4 : Hid (Old _ w4) := g4; clear g4)
    | (go_at_call 144; refine (cl _).mono ?_; rintro e w5 ⟨rfl, g5⟩; have q5 := g5.size; (try simp at q5); have H5 : Hid (Old _ w5) := g5; clear g5)
    | (have _t := tok2; refine upon_sa (ls := ext []) (c := 0) (by repeat' (first | with_reducible exact Sz.zero0 _ | with_reducible exact Sz.zero1 _ _ | refine Sz.drw ?_ | refine Sz.alloc ?_ _ | refine Sz.old ?_ H5.out | refine Sz.old ?_ H4.out | refine Sz.old ?_ H3.out | refine Sz.otherRow ?_ (by omega) _ | fail)) lq nq HLQ.out ?_; clear tok2; go_simp)
    | (refine upon_sa (ls := ext []) (c := 0) (by repeat' (first | with_reducible exact Sz.zero0 _ | with_reducible exact Sz.zero1 _ _ | refine Sz.drw ?_ | refine Sz.alloc ?_ _ | refine Sz.old ?_ H5.out | refine Sz.old ?_ H4.out | refine Sz.old ?_ H3.out | refine Sz.otherRow ?_ (by omega) _ | fail)) lr nr HLR.out ?_; go_simp)
    | fail)
  all_goals
    go_wp2_with fail
    refine HK.out _ _ _ _ _ _ _ _ _ _ _ _ _ _ _ _ _ _ ⟨by repeat' (first | exact Old.refl _ | refine Old.drw ?_ | refine Old.alloc ?_ _ | refine Old.trans ?_ H5.out | refine Old.trans ?_ H4.out | refine Old.trans ?_ H3.out | refine Old.row ?_ (by omega) _ | fail), ?_, ?_, by omega, by omega⟩
    · exact Sz.otherRow (Sz.row (ls := ext []) (c := 0) (by repeat' (first | with_reducible exact Sz.zero0 _ | with_reducible exact Sz.zero1 _ _ | refine Sz.drw ?_ | refine Sz.alloc ?_ _ | refine Sz.old ?_ H5.out | refine Sz.old ?_ H4.out | refine Sz.old ?_ H3.out | refine Sz.otherRow ?_ (by omega) _ | fail)) _ _ HLQ.out) (by omega) _
    · exact Sz.row (ls := ext []) (c := 0) (by repeat' (first | with_reducible exact Sz.zero0 _ | with_reducible exact Sz.zero1 _ _ | refine Sz.drw ?_ | refine Sz.alloc ?_ _ | refine Sz.old ?_ H5.out | refine Sz.old ?_ H4.out | refine Sz.old ?_ H3.out | refine Sz.otherRow ?_ (by omega) _ | fail)) _ _ HLR.out
end Go.Proofs.YtfgooclnohnkmaaGreatDoor
/- Proved: the contract of the program's guessDigit: the digit, or one too great. -/
namespace Go.Proofs.YtfgooclnohnkmaaGreatDoor
open Go.ChangeShapes Go.WideShapes Go.ChangeAt Go.RowKit
open M2
set_option linter.unusedVariables false
set_option linter.unusedSimpArgs false

set_option maxRecDepth 100000 in
set_option maxHeartbeats 8000000 in
theorem guess_sz (L v p m cc : Nat) (w : World) (h : Long L v p m) (hc : cnt v = m + 2) (hp : p + m + 2 ≤ 79) :
    Calls Tryz.prog 180 #[.agg (szA (pad L) cc), .agg (szV v), .int .i64 (p : Int)] w fun e w' => ∃ d : Nat, e = .returned (.int .i64 (d : Int)) ∧ L / (v * LB ^ p) ≤ d ∧ d ≤ L / (v * LB ^ p) + 1 ∧ d ≤ 268435457 ∧ Old w w' := by
  have hlL : cnt L ≤ 80 := Nat.le_trans (cnt_le h.big) (by omega)
  have HLL := pad_len' hlL (by omega)
  have HLV := pad_len' (n := v) (k := 80) (by omega) (by omega)
  have a80 := szA_cnt HLV (cnt v)
  have HL : Hid (Long L v p m) := h
  rw [hc] at a80
  have e1 := szA_at HLV (cnt v) (j := m + 1) (by omega)
  have e2 := szA_at HLV (cnt v) (j := m) (by omega)
  have t0 := szA_at HLL cc (j := p + m + 2) (by omega)
  have t1 := szA_at HLL cc (j := p + m + 1) (by omega)
  have t2 := szA_at HLL cc (j := p + m) (by omega)
  rw [pad_at] at e1 e2 t0 t1 t2
  have hf : v / LB ^ (m + 1) % LB = v / LB ^ (m + 1) := Nat.mod_eq_of_lt h.first
  rw [hf] at e1
  unfold szV
  rw [hc] at *
  have hseen := h.seen
  have b1 : v / LB ^ (m + 1) < 268435456 := h.first
  have b2 : v / LB ^ m % LB < 268435456 := Nat.mod_lt _ LB_pos
  have b3 : L / LB ^ (p + m + 2) % LB < 268435456 := Nat.mod_lt _ LB_pos
  have b4 : L / LB ^ (p + m + 1) % LB < 268435456 := Nat.mod_lt _ LB_pos
  have b5 : L / LB ^ (p + m) % LB < 268435456 := Nat.mod_lt _ LB_pos
  have b6 : 0 < v / LB ^ (m + 1) := h.f0
  have HY0 : Hid ((pad L).getD (p + m + 2) 0 = L / LB ^ (p + m + 2) % LB) := pad_at _ _
  have HY1 : Hid ((pad L).getD (p + m + 1) 0 = L / LB ^ (p + m + 1) % LB) := pad_at _ _
  have HY2 : Hid ((pad L).getD (p + m) 0 = L / LB ^ (p + m) % LB) := pad_at _ _
  have HS := Gs.start h
  have HD : Hid (∀ d r, Gs L v p m d r → LB ≤ d → Gs L v p m (d - 1) (r + v / LB ^ (m + 1)) ∧ d - 1 ≤ LB) := fun d r g hd => g.big h hd
  have HC : Hid (∀ d r, Gs L v p m d r → r * LB + L / LB ^ (p + m) % LB < d * (v / LB ^ m % LB) → Gs L v p m (d - 1) (r + v / LB ^ (m + 1)) ∧ d - 1 ≤ LB) := fun d r g ht => g.dec h ht
  have HEA : Hid (∀ d r, Gs L v p m d r → d < LB → d * (v / LB ^ m % LB) ≤ r * LB + L / LB ^ (p + m) % LB → d ≤ L / (v * LB ^ p) + 1) := fun d r g hd ht => g.enda h hd ht
  have HEB : Hid (∀ d r, Gs L v p m d r → d ≤ LB → LB ≤ r → d ≤ L / (v * LB ^ p) + 1) := fun d r g hd hr => g.endb h hd hr
  have HGE : Hid (∀ d r, Gs L v p m d r → L / (v * LB ^ p) ≤ d ∧ d ≤ LB + 1) := fun d r g => ⟨g.ge, g.le⟩
  generalize hG : Gs L v p m = G at *
  generalize v / LB ^ (m + 1) = f at *
  generalize v / LB ^ m % LB = s at *
  generalize L / LB ^ (p + m + 2) % LB = x0 at *
  generalize L / LB ^ (p + m + 1) % LB = x1 at *
  generalize L / LB ^ (p + m) % LB = x2 at *
  generalize L / LB ^ (p + m + 1) = S at *
  generalize L / (v * LB ^ p) = q at *
  clear hG h hf
  have hS : (x0 : Int) * 268435456 + (x1 : Int) = (S : Int) := by
    have := congrArg (fun z : Nat => (z : Int)) hseen
    simp only [Int.natCast_add, Int.natCast_mul] at this
    exact this
  have hSb : S < 72057594037927936 := by have : LB = 268435456 := rfl; rw [this] at hseen; omega
  clear hseen
  have HX0 : Hid ((pad L).getD (p + m + 2) 0 = x0) := HY0.out
  have HX1 : Hid ((pad L).getD (p + m + 1) 0 = x1) := HY1.out
  have HX2 : Hid ((pad L).getD (p + m) 0 = x2) := HY2.out
  clear HY0 HY1 HY2
  generalize hT0 : p + m + 2 = t at *
  generalize hT1 : p + m + 1 = tt1 at *
  generalize hT2 : p + m = tt2 at *
  generalize hM2 : m + 2 = c2 at *
  generalize hM1 : m + 1 = c1 at *
  have i0 : (c2 : Int) - 1 = (c1 : Int) := by omega
  have i1 : (c2 : Int) - 2 = (m : Int) := by omega
  have i2 : (p : Int) + (c2 : Int) = (t : Int) := by omega
  have i3 : (t : Int) - 1 = (tt1 : Int) := by omega
  have i4 : (t : Int) - 2 = (tt2 : Int) := by omega
  have k0 : (c1 : Int) < 80 := by omega
  have k1 : (m : Int) < 80 := by omega
  have k2 : (t : Int) < 80 := by omega
  have k3 : (tt1 : Int) < 80 := by omega
  have k4 : (tt2 : Int) < 80 := by omega
  have kk : c2 < 80 := by omega
  clear hT0 hT1 hT2 hM2 hM1 hp
  have hf0 : ¬ f = 0 := by omega
  have eq1 : (S : Int) / (f : Int) = ((S / f : Nat) : Int) := (Int.natCast_ediv S f).symm
  have eq2 : (S : Int) % (f : Int) = ((S % f : Nat) : Int) := (Int.natCast_emod S f).symm
  have HS0 : Hid (G (S / f) (S % f) ∧ S % f < 268435456) := ⟨HS, by have := Nat.mod_lt S b6; omega⟩
  have HW : Hid (Old w ((w.alloc (.cells (szA (pad L) cc) 95)).alloc (.cells (szA (pad v) c2) 95))) := ((Old.refl w).alloc _).alloc _
  have hD0 : S / f ≤ 268435457 := (HGE.out _ _ HS).2
  generalize S / f = D at *
  generalize S % f = E at *
  have hE0 : E < 268435456 := HS0.out.2
  have HG00 : Hid (G D E) := HS
  clear HS HL hc HS0
  have HCL : Hid (((w.alloc (.cells (szA (pad L) cc) 95)).alloc (.cells (szA (pad v) c2) 95)).cell? ⟨w.heap.size, tt2, none⟩ = some (.int .i64 (x2 : Int))) := by
    have := (Sz.new w (pad L) cc HLL).alloc (.cells (szA (pad v) c2) 95)
    exact (cell_of_row _ _ _ _ _ _ this.blk).trans t2
  go_enter Tryz.func180, Tryz.ntmps180
  go_wp2_with fail
  refine wp_scope_jumps 0 (fun a' w' => ∃ (d r : Nat) (u13 u14 u15 u16 u17 u18 u19 u20 u21 u22 u23 u24 u25 u26 u27 u28 u29 u30 u31 u32 u33 u34 u35 u36 u37 u38 u39 u40 u41 u42 u43 u44 u45 u46 u47 u48 u49 u50 u51 u52 u53 u54 u55 u56 u57 u58 u59 u60 u61 u62 u63 u64 u65 u66 u67 u68 u69 : Value), (Hid (Old w w') ∧ w'.cell? ⟨w.heap.size, tt2, none⟩ = some (.int .i64 (x2 : Int))) ∧ (Hid (G d r) ∧ d ≤ 268435457 ∧ r < 268435456) ∧ a' = { tmps := #[.agg (szA (pad L) cc), .agg (szA (pad v) c2), .int .i64 (p : Int), .pointer (some ⟨w.heap.size, 0, none⟩), .pointer (some ⟨w.heap.size + 1, 0, none⟩), undef, .int .i64 0, .int .i64 (t : Int), .int .i64 (f : Int), .int .i64 (s : Int), .int .i64 (S : Int), .int .i64 (d : Int), .int .i64 (r : Int), u13, u14, u15, u16, u17, u18, u19, u20, u21, u22, u23, u24, u25, u26, u27, u28, u29, u30, u31, u32, u33, u34, u35, u36, u37, u38, u39, u40, u41, u42, u43, u44, u45, u46, u47, u48, u49, u50, u51, u52, u53, u54, u55, u56, u57, u58, u59, u60, u61, u62, u63, u64, u65, u66, u67, u68, u69], defers := [] }) (fun a' _ => 268435456 - (intOf (a'.tmps.getD 12 undef)).toNat) rfl ?_ ?_
  · go_wp2_with fail
    go_quiet (fail)
    obtain ⟨w1, hw1⟩ : ∃ W, W = ((w.alloc (.cells (szA (pad L) cc) 95)).alloc (.cells (szA (pad v) c2) 95)).drewN nq := ⟨_, rfl⟩
    have HS1 : Hid (Sz w1 w.heap.size (pad L) cc) := by rw [hw1]; exact ((Sz.new w (pad L) cc HLL).alloc _).drew _
    have HO1 : Hid (Old w w1) := by rw [hw1]; exact HW.out.drewN _
    rw [← hw1]
    clear hw1
    have y0 := HS1.out.at (j := t) (by omega)
    have y1 := HS1.out.at (j := tt1) (by omega)
    have y2 := HS1.out.at (j := tt2) (by omega)
    rw [show (pad L).getD t 0 = x0 from HX0.out] at y0
    rw [show (pad L).getD tt1 0 = x1 from HX1.out] at y1
    rw [show (pad L).getD tt2 0 = x2 from HX2.out] at y2
    go_wp2_with fail
    go_quiet (fail)
    obtain ⟨w2, hw2⟩ : ∃ W, W = w1.drewN nq := ⟨_, rfl⟩
    have hcell : w2.cell? ⟨w.heap.size, tt2, none⟩ = some (.int .i64 (x2 : Int)) := by rw [hw2]; exact y2
    have HO2 : Hid (Old w w2) := by rw [hw2]; exact HO1.out.drewN _
    rw [← hw2]
    clear hw2 y0 y1 y2 HO1 HS1
    go_wp2_with fail
    go_quiet (fail)
    obtain ⟨w3, hw3⟩ : ∃ W, W = w2.drewN nq := ⟨_, rfl⟩
    have hcell3 : w3.cell? ⟨w.heap.size, tt2, none⟩ = some (.int .i64 (x2 : Int)) := by rw [hw3]; exact hcell
    have HO1 : Hid (Old w w3) := by rw [hw3]; exact HO2.out.drewN _
    rw [← hw3]
    clear hw3 hcell HO2
    have hcell := hcell3
    clear hcell3
    go_wp2_with fail
    (try rw [eq2])
    clear eq1 eq2 hS
    go_step3
    obtain ⟨d, hd⟩ : ∃ d, d = D := ⟨_, rfl⟩
    obtain ⟨r, hr⟩ : ∃ r, r = E := ⟨_, rfl⟩
    subst hd
    subst hr
    have HG := HG00
    have hdb : d * s ≤ 268435457 * 268435455 := Nat.mul_le_mul (by omega) (by omega)
    have bd1 : (d : Int) * (s : Int) ≤ 72057594306363392 := by
      have := Int.ofNat_le.2 hdb
      rw [Int.natCast_mul] at this
      omega
    have bd0 : 0 ≤ (d : Int) * (s : Int) := Int.mul_nonneg (Int.natCast_nonneg _) (Int.natCast_nonneg _)
    have ED : Hid ((d : Int) * (s : Int) = ((d * s : Nat) : Int)) := (Int.natCast_mul _ _).symm
    clear hdb
    by_cases hbig : 268435456 ≤ d
    · obtain ⟨HN, hd1⟩ := HD.out d r HG.out hbig
      obtain ⟨d', hd'⟩ : ∃ d', d - 1 = d' := ⟨_, rfl⟩
      obtain ⟨r', hr'⟩ : ∃ r', r + f = r' := ⟨_, rfl⟩
      have ed : (d : Int) - 1 = (d' : Int) := by omega
      have er : (r : Int) + (f : Int) = (r' : Int) := by omega
      rw [hd'] at HN hd1
      rw [hr'] at HN
      have HN' : Hid (G d' r') := HN
      have hm' : r < r' := by omega
      have hl' : d' ≤ 268435457 := by omega
      have HD1 : Hid (d' ≤ LB) := hd1
      have dg : decide ((268435456 : Int) ≤ (d : Int)) = true := decide_eq_true (by omega)
      clear HN hd1 hd' hr'
      by_cases hr2 : r' < 268435456
      · have dr : decide ((r' : Int) < 268435456) = true := decide_eq_true (by omega)
        go_wp2_with fail
        go_step3; exact ⟨rfl, d', r', _, _, _, _, _, _, _, _, _, _, _, _, _, _, _, _, _, _, _, _, _, _, _, _, _, _, _, _, _, _, _, _, _, _, _, _, _, _, _, _, _, _, _, _, _, _, _, _, _, _, _, _, _, _, _, _, _, ⟨HO1, hcell⟩, ⟨HN', hl', hr2⟩, rfl⟩
      · have dr : decide ((r' : Int) < 268435456) = false := decide_eq_false (by omega)
        have HQ : Hid (q ≤ d' ∧ d' ≤ q + 1 ∧ d' ≤ 268435457) := ⟨(HGE.out _ _ HN'.out).1, HEB.out _ _ HN'.out HD1.out (by show 268435456 ≤ r'; omega), hl'⟩
        go_wp2_with fail
        (try rw [Exit.noGoto_ret]); (try simp only [Exit.jump]); go_ret; exact ⟨_, rfl, HQ.out.1, HQ.out.2.1, HQ.out.2.2, HO1.out⟩
    · have dg : decide ((268435456 : Int) ≤ (d : Int)) = false := decide_eq_false (by omega)
      by_cases ht : r * 268435456 + x2 < d * s
      · obtain ⟨HN, hd1⟩ := HC.out d r HG.out ht
        have d0 : 0 < d := by
          rcases Nat.eq_zero_or_pos d with e | e
          · subst e; simp at ht
          · exact e
        have dt : decide ((r : Int) * 268435456 + (x2 : Int) < (d : Int) * (s : Int)) = true := decide_eq_true (by rw [ED.out]; omega)
        obtain ⟨d', hd'⟩ : ∃ d', d - 1 = d' := ⟨_, rfl⟩
        obtain ⟨r', hr'⟩ : ∃ r', r + f = r' := ⟨_, rfl⟩
        have ed : (d : Int) - 1 = (d' : Int) := by omega
        have er : (r : Int) + (f : Int) = (r' : Int) := by omega
        rw [hd'] at HN hd1
        rw [hr'] at HN
        have HN' : Hid (G d' r') := HN
        have hm' : r < r' := by omega
        have hl' : d' ≤ 268435457 := by omega
        have HD1 : Hid (d' ≤ LB) := hd1
        clear HN hd1 hd' hr' ht
        by_cases hr2 : r' < 268435456
        · have dr : decide ((r' : Int) < 268435456) = true := decide_eq_true (by omega)
          go_wp2_with fail
          go_step3; exact ⟨rfl, d', r', _, _, _, _, _, _, _, _, _, _, _, _, _, _, _, _, _, _, _, _, _, _, _, _, _, _, _, _, _, _, _, _, _, _, _, _, _, _, _, _, _, _, _, _, _, _, _, _, _, _, _, _, _, _, _, _, _, ⟨HO1, hcell⟩, ⟨HN', hl', hr2⟩, rfl⟩
        · have dr : decide ((r' : Int) < 268435456) = false := decide_eq_false (by omega)
          have HQ : Hid (q ≤ d' ∧ d' ≤ q + 1 ∧ d' ≤ 268435457) := ⟨(HGE.out _ _ HN'.out).1, HEB.out _ _ HN'.out HD1.out (by show 268435456 ≤ r'; omega), hl'⟩
          go_wp2_with fail
          (try rw [Exit.noGoto_ret]); (try simp only [Exit.jump]); go_ret; exact ⟨_, rfl, HQ.out.1, HQ.out.2.1, HQ.out.2.2, HO1.out⟩
      · have dt : decide ((r : Int) * 268435456 + (x2 : Int) < (d : Int) * (s : Int)) = false := decide_eq_false (by rw [ED.out]; omega)
        have HQ : Hid (q ≤ d ∧ d ≤ q + 1 ∧ d ≤ 268435457) := ⟨(HGE.out _ _ HG.out).1, HEA.out _ _ HG.out (by show d < 268435456; omega) (by show d * s ≤ r * 268435456 + x2; omega), by omega⟩
        clear ht
        go_wp2_with fail
        (try rw [Exit.noGoto_ret]); (try simp only [Exit.jump]); go_ret; exact ⟨_, rfl, HQ.out.1, HQ.out.2.1, HQ.out.2.2, HO1.out⟩
  · rintro a' w1 ⟨d, r, hJ⟩
    obtain ⟨u13, hJ⟩ := hJ
    obtain ⟨u14, hJ⟩ := hJ
    obtain ⟨u15, hJ⟩ := hJ
    obtain ⟨u16, hJ⟩ := hJ
    obtain ⟨u17, hJ⟩ := hJ
    obtain ⟨u18, hJ⟩ := hJ
    obtain ⟨u19, hJ⟩ := hJ
    obtain ⟨u20, hJ⟩ := hJ
    obtain ⟨u21, hJ⟩ := hJ
    obtain ⟨u22, hJ⟩ := hJ
    obtain ⟨u23, hJ⟩ := hJ
    obtain ⟨u24, hJ⟩ := hJ
    obtain ⟨u25, hJ⟩ := hJ
    obtain ⟨u26, hJ⟩ := hJ
    obtain ⟨u27, hJ⟩ := hJ
    obtain ⟨u28, hJ⟩ := hJ
    obtain ⟨u29, hJ⟩ := hJ
    obtain ⟨u30, hJ⟩ := hJ
    obtain ⟨u31, hJ⟩ := hJ
    obtain ⟨u32, hJ⟩ := hJ
    obtain ⟨u33, hJ⟩ := hJ
    obtain ⟨u34, hJ⟩ := hJ
    obtain ⟨u35, hJ⟩ := hJ
    obtain ⟨u36, hJ⟩ := hJ
    obtain ⟨u37, hJ⟩ := hJ
    obtain ⟨u38, hJ⟩ := hJ
    obtain ⟨u39, hJ⟩ := hJ
    obtain ⟨u40, hJ⟩ := hJ
    obtain ⟨u41, hJ⟩ := hJ
    obtain ⟨u42, hJ⟩ := hJ
    obtain ⟨u43, hJ⟩ := hJ
    obtain ⟨u44, hJ⟩ := hJ
    obtain ⟨u45, hJ⟩ := hJ
    obtain ⟨u46, hJ⟩ := hJ
    obtain ⟨u47, hJ⟩ := hJ
    obtain ⟨u48, hJ⟩ := hJ
    obtain ⟨u49, hJ⟩ := hJ
    obtain ⟨u50, hJ⟩ := hJ
    obtain ⟨u51, hJ⟩ := hJ
    obtain ⟨u52, hJ⟩ := hJ
    obtain ⟨u53, hJ⟩ := hJ
    obtain ⟨u54, hJ⟩ := hJ
    obtain ⟨u55, hJ⟩ := hJ
    obtain ⟨u56, hJ⟩ := hJ
    obtain ⟨u57, hJ⟩ := hJ
    obtain ⟨u58, hJ⟩ := hJ
    obtain ⟨u59, hJ⟩ := hJ
    obtain ⟨u60, hJ⟩ := hJ
    obtain ⟨u61, hJ⟩ := hJ
    obtain ⟨u62, hJ⟩ := hJ
    obtain ⟨u63, hJ⟩ := hJ
    obtain ⟨u64, hJ⟩ := hJ
    obtain ⟨u65, hJ⟩ := hJ
    obtain ⟨u66, hJ⟩ := hJ
    obtain ⟨u67, hJ⟩ := hJ
    obtain ⟨u68, hJ⟩ := hJ
    obtain ⟨u69, hJ⟩ := hJ
    obtain ⟨⟨HO1, hcell⟩, ⟨HG, hD0, hE0⟩, ha⟩ := hJ
    subst ha
    clear eq1 eq2 hS
    have hdb : d * s ≤ 268435457 * 268435455 := Nat.mul_le_mul (by omega) (by omega)
    have bd1 : (d : Int) * (s : Int) ≤ 72057594306363392 := by
      have := Int.ofNat_le.2 hdb
      rw [Int.natCast_mul] at this
      omega
    have bd0 : 0 ≤ (d : Int) * (s : Int) := Int.mul_nonneg (Int.natCast_nonneg _) (Int.natCast_nonneg _)
    have ED : Hid ((d : Int) * (s : Int) = ((d * s : Nat) : Int)) := (Int.natCast_mul _ _).symm
    clear hdb
    by_cases hbig : 268435456 ≤ d
    · obtain ⟨HN, hd1⟩ := HD.out d r HG.out hbig
      obtain ⟨d', hd'⟩ : ∃ d', d - 1 = d' := ⟨_, rfl⟩
      obtain ⟨r', hr'⟩ : ∃ r', r + f = r' := ⟨_, rfl⟩
      have ed : (d : Int) - 1 = (d' : Int) := by omega
      have er : (r : Int) + (f : Int) = (r' : Int) := by omega
      rw [hd'] at HN hd1
      rw [hr'] at HN
      have HN' : Hid (G d' r') := HN
      have hm' : r < r' := by omega
      have hl' : d' ≤ 268435457 := by omega
      have HD1 : Hid (d' ≤ LB) := hd1
      have dg : decide ((268435456 : Int) ≤ (d : Int)) = true := decide_eq_true (by omega)
      clear HN hd1 hd' hr'
      by_cases hr2 : r' < 268435456
      · have dr : decide ((r' : Int) < 268435456) = true := decide_eq_true (by omega)
        go_wp2_with fail
        go_step3; exact ⟨rfl, ⟨d', r', _, _, _, _, _, _, _, _, _, _, _, _, _, _, _, _, _, _, _, _, _, _, _, _, _, _, _, _, _, _, _, _, _, _, _, _, _, _, _, _, _, _, _, _, _, _, _, _, _, _, _, _, _, _, _, _, _, ⟨HO1, hcell⟩, ⟨HN', hl', hr2⟩, rfl⟩, by simp [intOf]; omega⟩
      · have dr : decide ((r' : Int) < 268435456) = false := decide_eq_false (by omega)
        have HQ : Hid (q ≤ d' ∧ d' ≤ q + 1 ∧ d' ≤ 268435457) := ⟨(HGE.out _ _ HN'.out).1, HEB.out _ _ HN'.out HD1.out (by show 268435456 ≤ r'; omega), hl'⟩
        go_wp2_with fail
        (try rw [Exit.noGoto_ret]); (try simp only [Exit.jump]); go_ret; exact ⟨_, rfl, HQ.out.1, HQ.out.2.1, HQ.out.2.2, HO1.out⟩
    · have dg : decide ((268435456 : Int) ≤ (d : Int)) = false := decide_eq_false (by omega)
      by_cases ht : r * 268435456 + x2 < d * s
      · obtain ⟨HN, hd1⟩ := HC.out d r HG.out ht
        have d0 : 0 < d := by
          rcases Nat.eq_zero_or_pos d with e | e
          · subst e; simp at ht
          · exact e
        have dt : decide ((r : Int) * 268435456 + (x2 : Int) < (d : Int) * (s : Int)) = true := decide_eq_true (by rw [ED.out]; omega)
        obtain ⟨d', hd'⟩ : ∃ d', d - 1 = d' := ⟨_, rfl⟩
        obtain ⟨r', hr'⟩ : ∃ r', r + f = r' := ⟨_, rfl⟩
        have ed : (d : Int) - 1 = (d' : Int) := by omega
        have er : (r : Int) + (f : Int) = (r' : Int) := by omega
        rw [hd'] at HN hd1
        rw [hr'] at HN
        have HN' : Hid (G d' r') := HN
        have hm' : r < r' := by omega
        have hl' : d' ≤ 268435457 := by omega
        have HD1 : Hid (d' ≤ LB) := hd1
        clear HN hd1 hd' hr' ht
        by_cases hr2 : r' < 268435456
        · have dr : decide ((r' : Int) < 268435456) = true := decide_eq_true (by omega)
          go_wp2_with fail
          go_step3; exact ⟨rfl, ⟨d', r', _, _, _, _, _, _, _, _, _, _, _, _, _, _, _, _, _, _, _, _, _, _, _, _, _, _, _, _, _, _, _, _, _, _, _, _, _, _, _, _, _, _, _, _, _, _, _, _, _, _, _, _, _, _, _, _, _, ⟨HO1, hcell⟩, ⟨HN', hl', hr2⟩, rfl⟩, by simp [intOf]; omega⟩
        · have dr : decide ((r' : Int) < 268435456) = false := decide_eq_false (by omega)
          have HQ : Hid (q ≤ d' ∧ d' ≤ q + 1 ∧ d' ≤ 268435457) := ⟨(HGE.out _ _ HN'.out).1, HEB.out _ _ HN'.out HD1.out (by show 268435456 ≤ r'; omega), hl'⟩
          go_wp2_with fail
          (try rw [Exit.noGoto_ret]); (try simp only [Exit.jump]); go_ret; exact ⟨_, rfl, HQ.out.1, HQ.out.2.1, HQ.out.2.2, HO1.out⟩
      · have dt : decide ((r : Int) * 268435456 + (x2 : Int) < (d : Int) * (s : Int)) = false := decide_eq_false (by rw [ED.out]; omega)
        have HQ : Hid (q ≤ d ∧ d ≤ q + 1 ∧ d ≤ 268435457) := ⟨(HGE.out _ _ HG.out).1, HEA.out _ _ HG.out (by show d < 268435456; omega) (by show d * s ≤ r * 268435456 + x2; omega), by omega⟩
        clear ht
        go_wp2_with fail
        (try rw [Exit.noGoto_ret]); (try simp only [Exit.jump]); go_ret; exact ⟨_, rfl, HQ.out.1, HQ.out.2.1, HQ.out.2.2, HO1.out⟩
end Go.Proofs.YtfgooclnohnkmaaGreatDoor
