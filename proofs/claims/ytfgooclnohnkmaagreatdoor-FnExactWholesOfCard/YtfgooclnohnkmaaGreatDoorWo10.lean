/- Proved: several texts in one: what each proves is said ahead of it. -/
import Derived.Test.YtfgooclnohnkmaaGreatDoorRows
import Derived.WalkKit
import Derived.ProofKit
import Derived.OpenShut
import Derived.Handy
import Derived.RegionTactic
import Derived.ChangeAlike
import Derived.Deep.RegionLaw
import Derived.Deep.AppendLies
import Derived.Test.YtfgooclnohnkmaaGreatDoorWo09
/- Proved: the contracts of the program's wholeWith and wholeWithin: a whole number out of a size. -/
namespace Go.Proofs.YtfgooclnohnkmaaGreatDoor
open Go.ChangeShapes Go.WideShapes Go.ChangeAt Go.RowKit
open M2
set_option linter.unusedVariables false
set_option linter.unusedSimpArgs false

theorem made_blk {w : World} {base g n : Nat} {xs : List Value} (h : w.ownsRow base 3 1 (.slice (some ⟨g, 0, none⟩) n n) n xs) : ∃ cur : List Value, w.heap[g]? = some (.cells cur.toArray 3 (0, 0)) ∧ cur.length = n := by
  rcases h.2 with ⟨e, _⟩ | ⟨g', cap, cur, e, _, hg, _, _, hs, _⟩
  · cases e
  · simp only [Value.slice.injEq, Option.some.injEq, Addr.mk.injEq] at e
    obtain ⟨⟨rfl, _⟩, _, rfl⟩ := e
    exact ⟨cur.toList, by simpa using hg, by simpa using hs⟩
theorem splice_all {α : Type} (L cs : List α) (h : L.length = cs.length) : splice L 0 cs = cs := by
  unfold splice
  rw [List.take_zero, List.nil_append, Nat.zero_add, ← h, List.drop_length, List.append_nil]
theorem own_of {w : World} {base g : Nat} {xs : List Nat} (hg : w.heap[g]? = some (.cells (xs.map (fun n : Nat => Value.int .i64 (n : Int))).toArray 3 (0, 0))) (hb : base ≤ g) (hl : xs.length ≤ 80) : Own w base (.slice (some ⟨g, 0, none⟩) xs.length xs.length) (toI xs) := by
  unfold Own
  rw [toI_len]
  refine ⟨by simp [toI], Or.inr ⟨g, xs.length, _, rfl, hb, hg, Nat.le_refl _, by unfold maxLen; omega, by simp, ?_⟩⟩
  rw [Nat.mul_one]
  simp only [toI, List.map_map]
  exact List.take_of_length_le (by simp)
theorem sz_src {w : World} {g n : Nat} (h : Sz w g (pad n) (cnt n)) (hn : cnt n ≤ 80) : ∀ (j : Nat) v, ((dig n).map (fun n : Nat => Value.int .i64 (n : Int)))[j]? = some v → w.cell? ((⟨g, 0, none⟩ : Addr).add j) = some v := by
  intro j v hj
  have hjl : j < (dig n).length := by
    have := (List.getElem?_eq_some_iff.1 hj).1
    simpa using this
  have e2 : v = .int .i64 (((dig n).getD j 0 : Nat) : Int) := by
    simp [hjl] at hj
    rw [← hj]
    simp [List.getD, hjl]
  have : (⟨g, 0, none⟩ : Addr).add j = ⟨g, j, none⟩ := by
    unfold Addr.add
    split
    · rename_i h; simp [h]
    · simp
  rw [e2, this, h.at (j := j) (by unfold cnt at hn; omega), pad_getD]
theorem copy_out {ops : Array Oper} {rest : List Oper} {a : Act} {w : World} {Q : Exit → Act → World → Prop} {ty : TypeId} {pos : String} {d : Option Tmp} {x y : Operand} {af : Array Edge}
    (g k n : Nat) (cur : List Value) (hx : a.eval x = .slice (some ⟨g, 0, none⟩) k k) (hy : a.eval y = .slice (some ⟨n, 0, none⟩) 80 80) (hg : w.heap[g]? = some (.cells cur.toArray 3 (0, 0))) (cs : List Value) (hk : cs.length = k) (h80 : k ≤ 80)
    (hsrc : ∀ (j : Nat) v, cs[j]? = some v → w.cell? ((⟨n, 0, none⟩ : Addr).add j) = some v) (hcl : cur.length = k) (h1 : ∀ v ∈ cs, v.oneCell' = true)
    (h : ∀ w', Hid (w'.heap[g]? = some (.cells cs.toArray 3 (0, 0))) → Below g w w' → wpList Tryz.prog ops Q rest (a.put d (goInt k)) w') :
    wpList Tryz.prog ops Q (⟨d, .call { callee := .builtin .copy, args := #[x, y], argTypes := #[23, 23] }, ty, pos, af, none⟩ :: rest) a w := by
  refine wpList_copy_splice rfl x y 23 23 rfl 3 Tryz.underlying23 infoIntSizeW _ _ _ _ _ _ hx hy g 0 cur 3 hg cs (by rw [hk]; exact (Nat.min_eq_right h80).symm) (fun _ => ⟨rfl, _, rfl, hsrc⟩) (by rw [hk, hcl]; omega) h1 g w (Below.refl _ _) (Nat.le_refl _) ?_
  intro w' hg' hb'
  rw [hk]
  refine h w' ?_ hb'
  have := hg'.out
  rw [splice_all cur cs (by rw [hk, hcl])] at this
  exact this
set_option maxHeartbeats 4000000 in
theorem whole_none (neg : Bool) (w : World) :
    Calls Tryz.prog 56 #[.bool neg, .agg (szV 0)] w fun e w' => e = .returned (.agg #[.bool false, .slice none 0 0]) ∧ Old w w' := by
  have c0 : cnt 0 = 0 := cnt_zero
  have HL := pad_len' (n := 0) (k := 80) (by rw [c0]; omega) (by omega)
  have a80 := szA_cnt HL (cnt 0)
  rw [c0] at a80
  unfold szV
  rw [c0]
  clear c0
  go_enter Tryz.func56, Tryz.ntmps56
  go_wp2_with fail
  refine bodyPost_ret (v := .agg #[.bool false, .slice none 0 0]) (by simp [results, Tryz.results56, go_sem]) rfl ⟨rfl, ?_⟩
  exact ((Old.refl w).alloc _).alloc _
set_option maxRecDepth 100000 in
set_option maxHeartbeats 4000000 in
theorem whole_some (neg : Bool) (n : Nat) (w : World) (h0 : n ≠ 0) (hn : cnt n ≤ 80) :
    Calls Tryz.prog 56 #[.bool neg, .agg (szV n)] w fun e w' => ∃ v, e = .returned (.agg #[.bool neg, v]) ∧ Old w w' ∧ Own w' w.heap.size v (toI (dig n)) := by
  obtain ⟨i0, hi, hz0, hz1, hz2⟩ := info_parts Tryz.infoInt
  have hc0 := cnt_pos h0
  have HL := pad_len' hn (by omega)
  have a80 := szA_cnt HL (cnt n)
  have d0 : ((cnt n : Int) == 0) = false := by simp; omega
  have HS0 : Hid (Sz ((w.alloc (.cells (szA (pad n) (cnt n)) 95)).alloc (.cells #[.bool false, .slice none 0 0] 27)) w.heap.size (pad n) (cnt n)) := (Sz.new w _ _ HL).alloc _
  have HT0 : Hid (StW ((w.alloc (.cells (szA (pad n) (cnt n)) 95)).alloc (.cells #[.bool false, .slice none 0 0] 27)) (w.heap.size + 1) (.bool false) (.slice none 0 0) 27) := by
    have := StW.new (w.alloc (.cells (szA (pad n) (cnt n)) 95)) (.bool false) (.slice none 0 0) 27
    rw [show (w.alloc (.cells (szA (pad n) (cnt n)) 95)).heap.size = w.heap.size + 1 by simp] at this
    exact this
  have HW0 : Hid (Old w ((w.alloc (.cells (szA (pad n) (cnt n)) 95)).alloc (.cells #[.bool false, .slice none 0 0] 27))) := ((Old.refl w).alloc _).alloc _
  have hsz : ((w.alloc (.cells (szA (pad n) (cnt n)) 95)).alloc (.cells #[.bool false, .slice none 0 0] 27)).heap.size = w.heap.size + 1 + 1 := by simp
  have HONE : Hid (∀ v ∈ (dig n).map (fun n : Nat => Value.int .i64 (n : Int)), v.oneCell' = true) := one_ints _
  have HLN : Hid (((dig n).map (fun n : Nat => Value.int .i64 (n : Int))).length = cnt n) := List.length_map _
  obtain ⟨cs, hcs⟩ : ∃ cs, cs = (dig n).map (fun n : Nat => Value.int .i64 (n : Int)) := ⟨_, rfl⟩
  have HCS : Hid (cs = (dig n).map (fun n : Nat => Value.int .i64 (n : Int))) := hcs
  rw [← hcs] at HONE HLN
  have HSZ : Hid (((w.alloc (.cells (szA (pad n) (cnt n)) 95)).alloc (.cells #[.bool false, .slice none 0 0] 27)).heap.size = w.heap.size + 1 + 1) := hsz
  clear hcs hsz
  unfold szV
  go_enter Tryz.func56, Tryz.ntmps56
  go_wp2_with (first
    | (at_make; refine wpList_make_full _ rfl _ _ 23 rfl (w.heap.size + 1 + 1) 3 i0 (.int .i64 0) 1 Tryz.underlying23 hi hz0 hz1 .i64 .i64 _ _ (cnt n) rfl rfl rfl rfl (by rw [hz2]; omega) (by unfold maxLen; omega) (by simp) ?_; intro w1 hown hgrow; obtain ⟨cur, hcur, hcl⟩ := made_blk hown; rw [HSZ.out] at hcur; have HC1 : Hid (w1.heap[w.heap.size + 1 + 1]? = some (.cells cur.toArray 3 (0, 0))) := hcur; have HCL : Hid (cur.length = cnt n) := hcl; have HG1 : Hid (Old ((w.alloc (.cells (szA (pad n) (cnt n)) 95)).alloc (.cells #[.bool false, .slice none 0 0] 27)) w1) := grownBy_old hgrow; clear hown hgrow hcur hcl; simp only [Act.put, List.setIfInBounds_toArray, List.set_cons_succ, List.set_cons_zero]; rw [HSZ.out])
    | ((with_reducible refine copy_out (w.heap.size + 1 + 1) (cnt n) w.heap.size cur ?_ ?_ HC1.out cs HLN.out hn ?_ HCL.out HONE.out ?_); exact rfl; exact rfl; (rw [HCS.out]; exact sz_src (HS0.out.old HG1.out) hn); intro w2 hg2 hb2; have HT2 : Hid (StW w2 (w.heap.size + 1) (.bool false) (.slice none 0 0) 27) := (hb2.block (w.heap.size + 1) (by omega)).trans (HT0.out.old HG1.out); have t0 := HT2.out.c0; have t1 := HT2.out.c1; have u0 := HT2.out.f0; have u1 := HT2.out.f1; have HG2 : Hid (Old w w2) := Below.trans (Old.trans HW0.out HG1.out) (hb2.mono (by omega)); have HB2 : Hid (w2.heap[w.heap.size + 1 + 1]? = some (.cells cs.toArray 3 (0, 0))) := hg2; clear hg2 hb2; simp only [Act.put, List.setIfInBounds_toArray, List.set_cons_succ, List.set_cons_zero]))
  refine bodyPost_ret (v := .agg #[.bool neg, .slice (some ⟨w.heap.size + 1 + 1, 0, none⟩) (cnt n) (cnt n)]) (by simp [results, Tryz.results56, go_sem, t0, t1]) rfl ⟨_, rfl, ?_, ?_⟩
  · exact (HG2.out.own (p := ⟨w.heap.size + 1, 0, none⟩) (by simp) _).own (p := ⟨w.heap.size + 1, 1, none⟩) (by simp) _
  · refine own_of (g := w.heap.size + 1 + 1) ?_ (by omega) (by unfold cnt at hn; omega)
    rw [heap_setCell_other _ _ _ _ (by simp), heap_setCell_other _ _ _ _ (by simp), HB2.out, HCS.out]
end Go.Proofs.YtfgooclnohnkmaaGreatDoor
/- Proved: contracts of BitBack and of the model's l3Back: a number's bits from the last to the first; 0 where an argument is out of its bounds. -/
namespace Go.Proofs.YtfgooclnohnkmaaGreatDoor
open Go.ChangeShapes Go.WideShapes Go.ChangeAt Go.RowKit
set_option linter.unusedVariables false
theorem vEq {a b : Int} (h : a = b) : Value.int .i64 a = Value.int .i64 b := by rw [h]
def backN : Nat → Nat → Nat → Nat
  | 0, _, o => o
  | s + 1, k, o => backN s (k / 2) (2 * o + k % 2)
theorem pow_le10 {i : Nat} (h : i ≤ 10) : 2 ^ i ≤ 1024 := Nat.pow_le_pow_right (n := 2) (by omega) h
theorem back_spec (k b : Nat) (w : World) (hb : b ≤ 10) (hk : k < 1024) :
    Calls Tryz.prog 208 #[.int .i64 k, .int .i64 b] w fun e w' => e = .returned (.int .i64 (backN b k 0)) ∧ w' = w := by
  obtain ⟨R, hR⟩ : ∃ R, backN b k 0 = R := ⟨_, rfl⟩
  rw [hR]
  have H0 : Hid (backN b k 0 = R) := hR
  clear hR
  have HO : Hid (0 < 2 ^ (b - b)) := Nat.pow_pos (by omega)
  go_enter Tryz.func208, Tryz.ntmps208
  go_wp2_with fail
  go_loop [0, 1, 5] (fun x y o => ∃ k' b' o' : Nat, b' ≤ b ∧ k' < 1024 ∧ Hid (o' < 2 ^ (b - b')) ∧ Hid (backN b' k' o' = R) ∧ x = .int .i64 k' ∧ y = .int .i64 b' ∧ o = .int .i64 o') (fun _ y _ => (intOf y).toNat)
  case atStart => exact ⟨k, b, 0, Nat.le_refl _, hk, HO, H0, rfl, rfl, rfl⟩
  case round =>
    obtain ⟨k', b', o', hb', hk', HO', H1, rfl, rfl, rfl⟩ := hrel
    clear H0 HO
    have ho : o' ≤ 1024 := Nat.le_trans (Nat.le_of_lt HO'.out) (pow_le10 (by omega))
    by_cases hz : b' = 0
    · have hd : decide ((0 : Int) < (b' : Int)) = false := by simp; omega
      have H2 : Hid (o' = R) := by
        have := H1.out
        rw [hz] at this
        exact this
      have hz' : ¬ 0 < b' := by omega
      clear hz
      go_wp2_with fail
      go_ret
      exact ⟨by rw [← H2.out]; rfl, rfl⟩
    · have hd : decide ((0 : Int) < (b' : Int)) = true := by simp; omega
      have H2 : Hid (backN (b' - 1) (k' / 2) (2 * o' + k' % 2) = R) := by
        have := H1.out
        rw [show b' = (b' - 1) + 1 by omega] at this
        exact this
      have H3 : Hid (2 * o' + k' % 2 < 2 ^ (b - (b' - 1))) := by
        have := HO'.out
        rw [show b - (b' - 1) = (b - b') + 1 by omega, Nat.pow_succ]
        show _ < _
        omega
      clear H1 HO'
      go_wp2_with fail
      exact ⟨⟨k' / 2, b' - 1, 2 * o' + k' % 2, by omega, by omega, H3, H2, vEq (by omega), vEq (by omega), vEq (by omega)⟩, by simp [intOf]; omega⟩
def resB (x p : Int) : Bool := decide (0 ≤ x) && decide (x < p)
theorem residue_any (x p : Int) (w : World) : Calls Tryz.prog 120 #[.int .i64 x, .int .i64 p] w fun e w' => e = .returned (.bool (resB x p)) ∧ w' = w := by
  by_cases h : 0 ≤ x
  · have hd : decide (x ≥ 0) = true := by simp; omega
    have hd2 : decide (0 ≤ x) = true := by simp; omega
    go_enter Tryz.func120, Tryz.ntmps120
    go_wp2_with fail
    go_ret
    exact ⟨by simp [resB, hd2], rfl⟩
  · have hd : decide (x ≥ 0) = false := by simp; omega
    have hd2 : decide (0 ≤ x) = false := by simp; omega
    go_enter Tryz.func120, Tryz.ntmps120
    go_wp2_with fail
    go_ret
    exact ⟨by simp [resB, hd2], rfl⟩
theorem wrap_pow (b : Nat) (hb : b ≤ 10) : wrap64 (2 ^ b) = ((2 ^ b : Nat) : Int) := by
  have h := pow_le10 hb
  have e : (2 : Int) ^ b = ((2 ^ b : Nat) : Int) := by simp
  rw [e]
  generalize 2 ^ b = M at *
  simp only [wrap64]
  omega
theorem back_impl_yes (k b : Nat) (w : World) (hb : b ≤ 10) (hk : k < 2 ^ b) :
    Calls Tryz.prog 213 #[.int .i64 k, .int .i64 b] w fun e w' => e = .returned (.int .i64 (backN b k 0)) ∧ w' = w := by
  obtain ⟨R, hR⟩ : ∃ R, backN b k 0 = R := ⟨_, rfl⟩
  rw [hR]
  have H0 : Hid (backN (b - 0) k 0 = R) := hR
  clear hR
  have HO : Hid (0 < 2 ^ 0) := Nat.pow_pos (by omega)
  have hk1 : k < 1024 := Nat.lt_of_lt_of_le hk (pow_le10 hb)
  have hw : wrap64 (2 ^ b) = ((2 ^ b : Nat) : Int) := wrap_pow b hb
  have c := fun W => residue_any k (wrap64 (2 ^ b)) W
  have e : resB k (wrap64 (2 ^ b)) = true := by
    rw [hw]
    simp only [resB, Bool.and_eq_true, decide_eq_true_eq]
    exact ⟨by omega, by exact_mod_cast hk⟩
  rw [e] at c
  clear e hw hk
  go_enter Tryz.func213, Tryz.ntmps213
  go_wp2_with fail
  refine (c _).mono ?_
  rintro e w' ⟨rfl, rfl⟩
  go_wp2_with fail
  go_loop [0, 5, 21] (fun x o i => ∃ k' o' i' : Nat, i' ≤ b ∧ k' < 1024 ∧ Hid (o' < 2 ^ i') ∧ Hid (backN (b - i') k' o' = R) ∧ x = .int .i64 k' ∧ o = .int .i64 o' ∧ i = .int .i64 i') (fun _ _ i => b - (intOf i).toNat)
  case atStart => exact ⟨k, 0, 0, by omega, hk1, HO, H0, rfl, rfl, rfl⟩
  case round =>
    obtain ⟨k', o', i', hi', hk', HO', H1, rfl, rfl, rfl⟩ := hrel
    clear H0 HO
    have ho : o' ≤ 1024 := Nat.le_trans (Nat.le_of_lt HO'.out) (pow_le10 (by omega))
    by_cases hz : i' < b
    · have hd : decide ((i' : Int) < (b : Int)) = true := by simp; omega
      have H2 : Hid (backN (b - (i' + 1)) (k' / 2) (2 * o' + k' % 2) = R) := by
        have := H1.out
        rw [show b - i' = (b - (i' + 1)) + 1 by omega] at this
        exact this
      have H3 : Hid (2 * o' + k' % 2 < 2 ^ (i' + 1)) := by
        have := HO'.out
        rw [Nat.pow_succ]
        show _ < _
        omega
      clear H1 HO'
      go_wp2_with fail
      exact ⟨⟨k' / 2, 2 * o' + k' % 2, i' + 1, by omega, by omega, H3, H2, vEq (by omega), vEq (by omega), by go_num⟩, by simp [intOf]; omega⟩
    · have hd : decide ((i' : Int) < (b : Int)) = false := by simp; omega
      have H2 : Hid (o' = R) := by
        have := H1.out
        rw [show b - i' = 0 by omega] at this
        exact this
      go_wp2_with fail
      go_ret
      exact ⟨by rw [← H2.out]; rfl, rfl⟩
end Go.Proofs.YtfgooclnohnkmaaGreatDoor
/- Proved: whether a list is a polynomial of a ring, of the program and of the model. -/
namespace Go.Proofs.YtfgooclnohnkmaaGreatDoor
open Go.ChangeShapes Go.WideShapes Go.ChangeAt Go.RowKit
set_option linter.unusedVariables false
/-- as many numbers as the ring asks for, each below its prime -/
def polyB (p n : Int) (xs : List Int) : Bool := decide ((xs.length : Int) = n) && xs.all (fun x => resB x p)
theorem in_res (x p : Int) : inB x 0 (p - 1) = resB x p := by
  rw [Bool.eq_iff_iff]
  simp [inB, resB]
  omega
theorem spec_res (x p : Int) (w : World) : Calls Tryz.prog 121 #[.int .i64 x, .int .i64 0, .int .i64 (p - 1)] w fun e w' => e = .returned (.bool (resB x p)) ∧ w' = w := by
  rw [← in_res]
  exact spec_in x 0 (p - 1) w
set_option maxHeartbeats 1000000 in
theorem impl_poly (p n r : Int) (xs : List Int) (v : Value) (w : World) (hv : Row w v xs) (hl : xs.length ≤ 9223372036854775807) (hp : 2 ≤ p ∧ p ≤ 268435456) :
    Calls Tryz.prog 161 #[.agg #[.int .i64 p, .int .i64 n, .int .i64 r], v] w fun e w' => e = .returned (.bool (polyB p n xs)) ∧ Old w w' := by
  by_cases hn : (xs.length : Int) = n
  · have HB : Hid ((xs.drop 0).all (fun x => resB x p) = polyB p n xs) := by
      show _ = _
      simp [polyB, hn]
    generalize polyB p n xs = B at *
    have dn : ((xs.length : Int) != n) = false := by simp [hn]
    clear hn
    rcases hv with ⟨a, cap, rfl, rfl⟩ | ⟨b, o, cap, rfl, hb, h0, hc⟩
    · have HB2 : Hid (true = B) := HB.out
      have dn0 : ((0 : Int) != n) = false := by simpa using dn
      clear HB
      go_enter Tryz.func161, Tryz.ntmps161
      go_wp2_with fail
      refine wp_loop_rounds 1 ?_
      rw [rounds_succ]
      go_wp2_with fail
      go_ret
      exact ⟨by rw [← HB2.out]; rfl, (Old.refl _).alloc _⟩
    · have HC : Hid (∀ j, j < xs.length → w.cell? ⟨b, o + j, none⟩ = some (.int .i64 (xs.getD j 0))) := hc
      clear hc
      have RC0 : Hid (Rc (w.alloc (.cells #[.int .i64 p, .int .i64 n, .int .i64 r] 151)) w.heap.size p n r) := Rc.new w p n r
      go_enter Tryz.func161, Tryz.ntmps161
      go_wp2_with fail
      go_loopw [6, 14] (fun x i W => ∃ k : Nat, k ≤ xs.length ∧ i = .int .i64 k ∧ Hid ((xs.drop k).all (fun x => resB x p) = B) ∧ Hid (Old (w.alloc (.cells #[.int .i64 p, .int .i64 n, .int .i64 r] 151)) W)) (fun _ i _ => xs.length - (intOf i).toNat)
      case atStart => exact ⟨0, by omega, rfl, HB, Old.refl _⟩
      case round =>
        obtain ⟨k, hk, rfl, H1, HG⟩ := hrel
        clear HB
        have z0 := (RC0.out.old HG.out).c0
        have HW : Hid (Old w wr) := Old.trans ((Old.refl w).alloc _) HG.out
        by_cases hlt : k < xs.length
        · have d1 : decide ((k : Int) < (xs.length : Int)) = true := by simp; omega
          have c1 : wr.cell? ⟨b, o + k, none⟩ = some (.int .i64 (xs.getD k 0)) := (HW.out.cell (p := ⟨b, o + k, none⟩) hb).trans (HC.out k hlt)
          have H2 : Hid ((resB (xs.getD k 0) p && (xs.drop (k + 1)).all (fun x => resB x p)) = B) := by
            have := H1.out
            rw [List.drop_eq_getElem_cons hlt, List.all_cons] at this
            have e : xs.getD k 0 = xs[k] := by simp [List.getD, hlt]
            rw [e]
            exact this
          clear H1
          generalize xs.getD k 0 = x at *
          have c := fun W => residue_any x p W
          cases hx : resB x p
          · rw [hx] at c
            have H3 : Hid (false = B) := by have := H2.out; rw [hx] at this; exact this
            clear H2 hx
            go_wp2_with fail
            refine (c _).mono ?_
            rintro e w2 ⟨rfl, rfl⟩
            go_wp2_with fail
            go_ret
            exact ⟨by rw [← H3.out]; rfl, HW.out⟩
          · rw [hx] at c
            have H3 : Hid ((xs.drop (k + 1)).all (fun x => resB x p) = B) := by have := H2.out; rw [hx, Bool.true_and] at this; exact this
            clear H2 hx
            go_wp2_with fail
            refine (c _).mono ?_
            rintro e w2 ⟨rfl, rfl⟩
            go_wp2_with fail
            exact ⟨⟨k + 1, by omega, by go_num, H3, HG⟩, by simp [intOf]; omega⟩
        · have d1 : decide ((k : Int) < (xs.length : Int)) = false := by simp; omega
          have H3 : Hid (true = B) := by
            have := H1.out
            rw [List.drop_eq_nil_of_le (by omega)] at this
            exact this
          clear H1
          go_wp2_with fail
          go_ret
          exact ⟨by rw [← H3.out]; rfl, HW.out⟩
  · have HB : Hid (false = polyB p n xs) := by
      show _ = _
      simp [polyB, hn]
    generalize polyB p n xs = B at *
    have dn : ((xs.length : Int) != n) = true := by simp [hn]
    obtain ⟨a, cap, rfl⟩ := hv.slice
    clear hn hv
    go_enter Tryz.func161, Tryz.ntmps161
    go_wp2_with fail
    go_ret
    exact ⟨by rw [← HB.out]; rfl, (Old.refl _).alloc _⟩
set_option maxHeartbeats 1000000 in
theorem spec_poly (p n r : Int) (xs : List Int) (v : Value) (w : World) (hv : Row w v xs) (hl : xs.length ≤ 9223372036854775807) (hp : 2 ≤ p ∧ p ≤ 268435456) :
    Calls Tryz.prog 184 #[.agg #[.int .i64 p, .int .i64 n, .int .i64 r], v] w fun e w' => e = .returned (.bool (polyB p n xs)) ∧ Old w w' := by
  by_cases hn : (xs.length : Int) = n
  · have HB : Hid ((xs.drop 0).all (fun x => resB x p) = polyB p n xs) := by
      show _ = _
      simp [polyB, hn]
    generalize polyB p n xs = B at *
    have dn : ((xs.length : Int) != n) = false := by simp [hn]
    clear hn
    rcases hv with ⟨a, cap, rfl, rfl⟩ | ⟨b, o, cap, rfl, hb, h0, hc⟩
    · have HB2 : Hid (true = B) := HB.out
      have dn0 : ((0 : Int) != n) = false := by simpa using dn
      clear HB
      go_enter Tryz.func184, Tryz.ntmps184
      go_wp2_with fail
      refine wp_loop_rounds 1 ?_
      rw [rounds_succ]
      go_wp2_with fail
      go_ret
      exact ⟨by rw [← HB2.out]; rfl, (Old.refl _).alloc _⟩
    · have HC : Hid (∀ j, j < xs.length → w.cell? ⟨b, o + j, none⟩ = some (.int .i64 (xs.getD j 0))) := hc
      clear hc
      have RC0 : Hid (Rc (w.alloc (.cells #[.int .i64 p, .int .i64 n, .int .i64 r] 151)) w.heap.size p n r) := Rc.new w p n r
      go_enter Tryz.func184, Tryz.ntmps184
      go_wp2_with fail
      go_loopw [6, 14] (fun x i W => ∃ k : Nat, k ≤ xs.length ∧ i = .int .i64 k ∧ Hid ((xs.drop k).all (fun x => resB x p) = B) ∧ Hid (Old (w.alloc (.cells #[.int .i64 p, .int .i64 n, .int .i64 r] 151)) W)) (fun _ i _ => xs.length - (intOf i).toNat)
      case atStart => exact ⟨0, by omega, rfl, HB, Old.refl _⟩
      case round =>
        obtain ⟨k, hk, rfl, H1, HG⟩ := hrel
        clear HB
        have z0 := (RC0.out.old HG.out).c0
        have HW : Hid (Old w wr) := Old.trans ((Old.refl w).alloc _) HG.out
        by_cases hlt : k < xs.length
        · have d1 : decide ((k : Int) < (xs.length : Int)) = true := by simp; omega
          have c1 : wr.cell? ⟨b, o + k, none⟩ = some (.int .i64 (xs.getD k 0)) := (HW.out.cell (p := ⟨b, o + k, none⟩) hb).trans (HC.out k hlt)
          have H2 : Hid ((resB (xs.getD k 0) p && (xs.drop (k + 1)).all (fun x => resB x p)) = B) := by
            have := H1.out
            rw [List.drop_eq_getElem_cons hlt, List.all_cons] at this
            have e : xs.getD k 0 = xs[k] := by simp [List.getD, hlt]
            rw [e]
            exact this
          clear H1
          generalize xs.getD k 0 = x at *
          have c := fun W => spec_res x p W
          cases hx : resB x p
          · rw [hx] at c
            have H3 : Hid (false = B) := by have := H2.out; rw [hx] at this; exact this
            clear H2 hx
            go_wp2_with fail
            refine (c _).mono ?_
            rintro e w2 ⟨rfl, rfl⟩
            go_wp2_with fail
            go_ret
            exact ⟨by rw [← H3.out]; rfl, HW.out⟩
          · rw [hx] at c
            have H3 : Hid ((xs.drop (k + 1)).all (fun x => resB x p) = B) := by have := H2.out; rw [hx, Bool.true_and] at this; exact this
            clear H2 hx
            go_wp2_with fail
            refine (c _).mono ?_
            rintro e w2 ⟨rfl, rfl⟩
            go_wp2_with fail
            exact ⟨⟨k + 1, by omega, by go_num, H3, HG⟩, by simp [intOf]; omega⟩
        · have d1 : decide ((k : Int) < (xs.length : Int)) = false := by simp; omega
          have H3 : Hid (true = B) := by
            have := H1.out
            rw [List.drop_eq_nil_of_le (by omega)] at this
            exact this
          clear H1
          go_wp2_with fail
          go_ret
          exact ⟨by rw [← H3.out]; rfl, HW.out⟩
  · have HB : Hid (false = polyB p n xs) := by
      show _ = _
      simp [polyB, hn]
    generalize polyB p n xs = B at *
    have dn : ((xs.length : Int) != n) = true := by simp [hn]
    obtain ⟨a, cap, rfl⟩ := hv.slice
    clear hn hv
    go_enter Tryz.func184, Tryz.ntmps184
    go_wp2_with fail
    go_ret
    exact ⟨by rw [← HB.out]; rfl, (Old.refl _).alloc _⟩
/-- a list of numbers below the prime -/
abbrev toZ (ys : List Nat) : List Int := ys.map (fun (n : Nat) => (n : Int))
theorem polyB_yes {P N : Nat} {xs : List Int} (h : polyB P N xs = true) : ∃ ys : List Nat, xs = toZ ys ∧ ys.length = N ∧ ∀ y ∈ ys, y < P := by
  simp only [polyB, Bool.and_eq_true, decide_eq_true_eq, List.all_eq_true, resB] at h
  obtain ⟨h1, h2⟩ := h
  refine ⟨xs.map Int.toNat, ?_, by simp; omega, fun y hy => ?_⟩
  · rw [toZ, List.map_map]
    refine (List.map_id xs).symm.trans (List.map_congr_left fun x hx => ?_)
    have := h2 x hx
    simp
    omega
  · obtain ⟨x, hx, rfl⟩ := List.mem_map.1 hy
    have := h2 x hx
    omega
end Go.Proofs.YtfgooclnohnkmaaGreatDoor
/- Proved: the doors of the functions on rings: none where the ring, a list or a turn is not as said; what the function within answers otherwise. -/
namespace Go.Proofs.YtfgooclnohnkmaaGreatDoor
open Go.ChangeShapes Go.WideShapes Go.ChangeAt Go.RowKit
set_option linter.unusedVariables false
theorem own_nil (w : World) (base : Nat) : Own w base (.slice none 0 0) [] := ⟨rfl, Or.inl ⟨rfl, rfl⟩⟩
end Go.Proofs.YtfgooclnohnkmaaGreatDoor
/- Proved: rows of the call's own that are filled one by one, rows of numbers read, rows appended to. -/
namespace Go.Proofs.YtfgooclnohnkmaaGreatDoor
open Go.ChangeShapes Go.WideShapes Go.ChangeAt Go.RowKit
set_option linter.unusedVariables false
theorem toZ_len (xs : List Nat) : (toZ xs).length = xs.length := by simp
theorem toZ_get (xs : List Nat) (j : Nat) : (toZ xs).getD j 0 = ((xs.getD j 0 : Nat) : Int) := by
  simp [List.getD, List.getElem?_map]
  cases xs[j]? <;> rfl
theorem Row.atZ {w : World} {v : Value} {xs : List Nat} (h : Row w v (toZ xs)) (h0 : 0 < xs.length) :
    ∃ b o cap, v = .slice (some ⟨b, o, none⟩) xs.length cap ∧ b < w.heap.size ∧ ∀ j, j < xs.length → w.cell? ⟨b, o + j, none⟩ = some (.int .i64 ((xs.getD j 0 : Nat) : Int)) := by
  rcases h with ⟨a, cap, e, e2⟩ | ⟨b, o, cap, e, hb, h1, hc⟩
  · have := congrArg List.length e2
    simp at this
    rw [this] at h0
    cases h0
  · rw [toZ_len] at e hc
    exact ⟨b, o, cap, e, hb, fun j hj => by rw [hc j hj, toZ_get]⟩
/-- a row of n numbers of the call's own, at its head -/
abbrev OwnI (w : World) (base g n : Nat) (xs : List Int) : Prop := w.ownsRow base 3 1 (.slice (some ⟨g, 0, none⟩) n n) n (xs.map (Value.int .i64))
theorem OwnI.get {w : World} {base g n : Nat} {xs : List Int} (h : OwnI w base g n xs) (hn : xs.length = n) (j : Nat) (hj : j < n) : w.cell? ⟨g, j, none⟩ = some (.int .i64 (xs.getD j 0)) := by
  rw [World.ownsRow.cellAt h j (by omega)]
  have : j < xs.length := by omega
  simp [List.getD, this]
theorem OwnI.free {w : World} {base g n : Nat} {xs : List Int} (h : OwnI w base g n xs) (j : Nat) : w.frozen? ⟨g, j, none⟩ = false := World.ownsRow.frozenAt h j
theorem OwnI.put {w : World} {base g n : Nat} {xs : List Int} (h : OwnI w base g n xs) (j : Nat) (y : Int) : OwnI (w.setCell ⟨g, j, none⟩ (.int .i64 y)) base g n (xs.set j y) := by
  have := (World.ownsRow.stored h j (.int .i64 y)).1
  unfold OwnI
  rw [List.map_set]
  exact this
theorem OwnI.own {w : World} {base g n : Nat} {xs : List Int} (h : OwnI w base g n xs) (hn : xs.length = n) : Own w base (.slice (some ⟨g, 0, none⟩) n n) xs := by
  unfold Own
  rw [hn]
  exact h
theorem OwnI.drewN {w : World} {base g n : Nat} {xs : List Int} (h : OwnI w base g n xs) (k : Nat) : OwnI (w.drewN k) base g n xs := h
theorem OwnI.old {w w' : World} {base g n : Nat} {xs : List Int} (h : OwnI w base g n xs) (hg : Old w w') : OwnI w' base g n xs := by
  refine ⟨h.1, ?_⟩
  rcases h.2 with hn | ⟨p, cap, cur, e, hb, hgg, rest⟩
  · exact .inl hn
  · refine .inr ⟨p, cap, cur, e, hb, ?_, rest⟩
    rw [hg.block p (Array.getElem?_eq_some_iff.1 hgg).1]
    exact hgg
theorem OwnI.new (w w1 : World) (n : Nat) (h : w1.ownsRow w.heap.size 3 1 (.slice (some ⟨w.heap.size, 0, none⟩) n n) n (madeCells (Value.int .i64 0).cells (n * 1)).toList) : OwnI w1 w.heap.size w.heap.size n (List.replicate n 0) := by
  rw [made_ints] at h
  exact h
theorem mul_lt28 (x y P : Nat) (hx : x < P) (hy : y < P) (hP : P ≤ 268435456) : x * y ≤ 72057594037927936 := by
  have := Nat.mul_le_mul (Nat.le_of_lt hx) (Nat.le_of_lt hy)
  have := Nat.mul_le_mul hP hP
  omega
theorem getD_lt {P : Nat} {xs : List Nat} (h : ∀ x ∈ xs, x < P) (hP : 0 < P) (j : Nat) : xs.getD j 0 < P := by
  by_cases hj : j < xs.length
  · have e : xs.getD j 0 = xs[j] := by simp [List.getD, hj]
    rw [e]
    exact h _ (List.getElem_mem hj)
  · have e : xs.getD j 0 = 0 := by simp [List.getD, List.getElem?_eq_none (show xs.length ≤ j by omega)]
    rw [e]
    exact hP
theorem one_cell (w : World) (x : Value) (t : TypeId) : ∀ j u, [x][j]? = some u → (w.alloc (.cells #[x] t)).cell? ((⟨w.heap.size, 0, none⟩ : Addr).add j) = some u := by
  intro j u h
  match j, h with
  | 0, h =>
    have : x = u := by simpa using h
    subst this
    exact cell_at w _ _ _ _ rfl
  | j + 1, h => simp at h
theorem one_one (x : Int) : ∀ u ∈ [Value.int .i64 x], u.oneCell' = true := by simp [Value.oneCell']
theorem Own.snoc {w : World} {base : Nat} {v : Value} {xs : List Int} {y : Int} (h : w.ownsRow base 3 1 v (xs.length + 1) (xs.map (Value.int .i64) ++ [.int .i64 y])) : Own w base v (xs ++ [y]) := by
  unfold Own
  rw [List.length_append, List.map_append]
  exact h
theorem Own.alloc {w : World} {base : Nat} {v : Value} {xs : List Int} (h : Own w base v xs) (o : Obj) : Own (w.alloc o) base v xs := h.old ((Old.refl _).alloc _)
end Go.Proofs.YtfgooclnohnkmaaGreatDoor
/- Proved: the program's product of all factors, as a size. -/
namespace Go.Proofs.YtfgooclnohnkmaaGreatDoor
open Go.ChangeShapes Go.WideShapes Go.ChangeAt Go.RowKit
open M2
set_option linter.unusedVariables false
set_option linter.unusedSimpArgs false
/-- the product of a list -/
def prodN (ps : List Nat) : Nat := ps.foldl (fun a p => a * p) 1
theorem prodN_snoc (ps : List Nat) (p : Nat) : prodN (ps ++ [p]) = prodN ps * p := by simp [prodN, List.foldl_append]
theorem prodN_take (ps : List Nat) (k : Nat) (h : k < ps.length) : prodN (ps.take (k + 1)) = prodN (ps.take k) * ps.getD k 0 := by
  rw [← prodN_snoc]
  congr 1
  rw [List.take_add_one]
  congr 1
  simp [List.getD, h]
theorem prodN_le (ps : List Nat) (hb : ∀ p ∈ ps, p ≤ 268435456) : ∀ k, k ≤ ps.length → prodN (ps.take k) ≤ LB ^ k
  | 0, _ => by simp [prodN]
  | k + 1, h => by
    rw [prodN_take ps k (by omega), Nat.pow_succ]
    have h1 := prodN_le ps hb k (by omega)
    have h2 : ps.getD k 0 ≤ LB := by
      have : ps.getD k 0 ∈ ps := by simp [List.getD, show k < ps.length by omega]
      exact hb _ this
    exact Nat.mul_le_mul h1 h2
theorem prodN_cnt (ps : List Nat) (hb : ∀ p ∈ ps, p ≤ 268435456) (k : Nat) (h : k ≤ ps.length) : cnt (prodN (ps.take k)) ≤ k + 1 := by
  refine cnt_le (Nat.lt_of_le_of_lt (prodN_le ps hb k h) ?_)
  rw [Nat.pow_succ]
  have h1 : 0 < LB ^ k := pw k
  have h2 : LB ^ k * 2 ≤ LB ^ k * LB := Nat.mul_le_mul_left _ (by decide)
  omega
set_option maxHeartbeats 2000000 in
theorem times_sz (a p : Nat) (w : World) (ha : cnt a ≤ 40) (hp : p ≤ 268435456) :
    Calls Tryz.prog 148 #[.agg (szV a), .int .i64 (p : Int)] w fun e w' => e = .returned (.agg (szV (a * p))) ∧ Old w w' := by
  have HPA : Hid ((pad a).length = 80) := pad_len' ha (by omega)
  have c := fun W => scaled_sz a p 0 W (by omega) hp (by omega)
  rw [Nat.add_zero] at c
  have HPR : Hid ((pad (a * p)).length = 80) := by
    have h1 : cnt (a * p) ≤ 41 := by
      refine cnt_le ?_
      have h2 := cnt_lt a
      have h3 : LB ^ cnt a ≤ LB ^ 40 := Nat.pow_le_pow_right LB_pos ha
      have h4 : a * p < LB ^ 40 * LB := by
        rcases Nat.eq_zero_or_pos p with h0 | h0
        · subst h0; simp; exact Nat.mul_pos (pw 40) LB_pos
        · exact Nat.mul_lt_mul_of_lt_of_le (by omega) hp LB_pos
      rw [Nat.pow_succ]
      exact h4
    exact pad_len' h1 (by omega)
  have H1 : Hid (Sz ((w.alloc (.cells (szA (pad a) (cnt a)) 95)).alloc (.cells Tryz.zeroCells95 95)) w.heap.size (pad a) (cnt a)) := (Sz.new w _ _ HPA.out).alloc _
  have HR : Hid (Sz ((w.alloc (.cells (szA (pad a) (cnt a)) 95)).alloc (.cells Tryz.zeroCells95 95)) (w.heap.size + 1) (ext []) 0) := Sz.zero _ _ (by simp)
  have HG : Hid (Old w ((w.alloc (.cells (szA (pad a) (cnt a)) 95)).alloc (.cells Tryz.zeroCells95 95))) := ((Old.refl w).alloc _).alloc _
  unfold szV at *
  generalize a * p = r at *
  go_enter Tryz.func148, Tryz.ntmps148
  go_wp2_with (first | ((with_reducible refine load_sz H1.out ?_ ?_); exact rfl; simp only [Act.put, List.setIfInBounds_toArray, List.set_cons_succ, List.set_cons_zero]) | (go_at_call 133; refine (c _).mono ?_; rintro e w5 ⟨rfl, g5⟩; have HR5 : Hid (Sz w5 (w.heap.size + 1) (ext []) 0) := HR.out.old g5; have HG5 : Hid (Old w w5) := Old.trans HG.out g5; clear g5) | ((with_reducible refine store_sz HR5.out (pad r) (cnt r) HPR.out ?_ ?_ ?_); exact rfl; exact rfl; simp only [Act.put]) | ((with_reducible refine bodyPost_ret (ret_sz Tryz.results148 _ _ ?_ (HR5.out.row (pad r) (cnt r) HPR.out)) ?_ ?_); exact rfl; exact rfl; exact ⟨rfl, HG5.out.row (by omega) _⟩))
set_option maxRecDepth 100000 in
set_option maxHeartbeats 4000000 in
theorem all_sz (ps : List Nat) (v : Value) (w : World) (hv : Row w v (toZ ps)) (hl : ps.length ≤ 6) (hb : ∀ p ∈ ps, p ≤ 268435456) :
    Calls Tryz.prog 147 #[.func (.func 148) #[] #[], .agg (szV 1), v] w fun e w' => e = .returned (.agg (szV (prodN ps))) ∧ Old w w' := by
  have HP1 : Hid ((pad 1).length = 80) := pad_len' (n := 1) (k := 3) (cnt_word (by omega)) (by omega)
  have H1 : Hid (Sz ((w.alloc (.cells (szA (pad 1) (cnt 1)) 95)).alloc (.cells Tryz.zeroCells95 95)) w.heap.size (pad 1) (cnt 1)) := (Sz.new w _ _ HP1.out).alloc _
  have HZ : Hid (Sz (((w.alloc (.cells (szA (pad 1) (cnt 1)) 95)).alloc (.cells Tryz.zeroCells95 95)).alloc (.cells Tryz.zeroCells95 95)) (w.heap.size + 1 + 1) (ext []) 0) := Sz.zero _ _ (by simp)
  have HY : Hid (Sz (((w.alloc (.cells (szA (pad 1) (cnt 1)) 95)).alloc (.cells Tryz.zeroCells95 95)).alloc (.cells Tryz.zeroCells95 95)) (w.heap.size + 1) (ext []) 0) := (Sz.zero _ _ (by simp)).alloc _
  have HG0 : Hid (Old w (((w.alloc (.cells (szA (pad 1) (cnt 1)) 95)).alloc (.cells Tryz.zeroCells95 95)).alloc (.cells Tryz.zeroCells95 95))) := (((Old.refl w).alloc _).alloc _).alloc _
  have HC : Hid (∀ k, k ≤ ps.length → cnt (prodN (ps.take k)) ≤ 7) := fun k h => Nat.le_trans (prodN_cnt ps hb k h) (by omega)
  have HB : Hid (∀ p ∈ ps, p ≤ 268435456) := hb
  have HN : Hid (prodN (ps.take 0) = 1) := rfl
  have HV : Hid (Row w v (toZ ps)) := hv
  obtain ⟨r, hr⟩ : ∃ r, prodN ps = r := ⟨_, rfl⟩
  rw [hr]
  have HRR : Hid (prodN ps = r) := hr
  clear hr
  obtain ⟨va, vc, rfl⟩ : ∃ a c, v = .slice a ps.length c := by have := hv.slice; rwa [toZ_len] at this
  clear hb hv
  unfold szV
  go_enter Tryz.func147, Tryz.ntmps147
  go_wp2_with (first | ((with_reducible refine load_sz H1.out ?_ ?_); exact rfl; simp only [Act.put, List.setIfInBounds_toArray, List.set_cons_succ, List.set_cons_zero]) | ((with_reducible refine store_sz HZ.out (pad 1) (cnt 1) HP1.out ?_ ?_ ?_); exact rfl; exact rfl; simp only [Act.put]))
  go_loopw [13] (fun i W => ∃ k : Nat, k ≤ ps.length ∧ i = .int .i64 k ∧ Hid (Sz W (w.heap.size + 1 + 1) (pad (prodN (ps.take k))) (cnt (prodN (ps.take k)))) ∧ Hid (Sz W (w.heap.size + 1) (ext []) 0) ∧ Hid (Old w W)) (fun i _ => ps.length - (intOf i).toNat)
  case atStart => exact ⟨0, by omega, rfl, HZ.out.row (pad 1) (cnt 1) HP1.out, HY.out.otherRow (by omega) _, HG0.out.row (by omega) _⟩
  case round =>
    obtain ⟨k, hk, rfl, HS, HR, HG⟩ := hrel
    clear H1 HZ HY HG0
    by_cases hlt : k < ps.length
    · have d1 : decide ((k : Int) < (ps.length : Int)) = true := by simp; omega
      obtain ⟨b, o, rfl, hb, hc⟩ : ∃ b o, va = some ⟨b, o, none⟩ ∧ b < w.heap.size ∧ ∀ j, j < ps.length → w.cell? ⟨b, o + j, none⟩ = some (.int .i64 ((ps.getD j 0 : Nat) : Int)) := by
        rcases HV.out with ⟨a', cap', e, e2⟩ | ⟨b, o, cap', e, hb, h0, hc⟩
        · have := congrArg List.length e2
          rw [toZ_len] at this
          simp only [List.length_nil] at this
          omega
        · simp only [Value.slice.injEq] at e
          rw [toZ_len] at hc
          exact ⟨b, o, e.1, hb, fun j hj => by rw [hc j hj, toZ_get]⟩
      have c1 : wr.cell? ⟨b, o + k, none⟩ = some (.int .i64 ((ps.getD k 0 : Nat) : Int)) := (HG.out.cell (p := ⟨b, o + k, none⟩) hb).trans (hc k hlt)
      have hpb : ps.getD k 0 ≤ 268435456 := HB.out _ (by simp [List.getD, hlt])
      have HE : Hid (prodN (ps.take (k + 1)) = prodN (ps.take k) * ps.getD k 0) := prodN_take ps k hlt
      have HC1 : Hid (cnt (prodN (ps.take k)) ≤ 40) := Nat.le_trans (HC.out k hk) (by omega)
      have HC2 : Hid ((pad (prodN (ps.take k) * ps.getD k 0)).length = 80) := by
        have := HC.out (k + 1) hlt
        rw [HE.out] at this
        exact pad_len' this (by omega)
      have HF : Hid (∀ W, Sz W (w.heap.size + 1 + 1) (pad (prodN (ps.take k) * ps.getD k 0)) (cnt (prodN (ps.take k) * ps.getD k 0)) → Sz W (w.heap.size + 1 + 1) (pad (prodN (ps.take (k + 1)))) (cnt (prodN (ps.take (k + 1))))) := fun W h => by rw [HE.out]; exact h
      have ct := fun W => times_sz (prodN (ps.take k)) (ps.getD k 0) W HC1.out hpb
      clear hc HE HC1
      generalize prodN (ps.take k) * ps.getD k 0 = y at *
      generalize prodN (ps.take k) = q at *
      generalize ps.getD k 0 = p at *
      unfold szV at ct
      go_wp2_with (first | ((with_reducible refine load_sz HS.out ?_ ?_); exact rfl; simp only [Act.put, List.setIfInBounds_toArray, List.set_cons_succ, List.set_cons_zero]) | (go_at_call 148; refine (ct _).mono ?_; rintro e w5 ⟨rfl, g5⟩; have HS5 : Hid (Sz w5 (w.heap.size + 1 + 1) (pad q) (cnt q)) := HS.out.old g5; have HR5 : Hid (Sz w5 (w.heap.size + 1) (ext []) 0) := HR.out.old g5; have HG5 : Hid (Old w w5) := Old.trans HG.out g5; clear g5) | ((with_reducible refine store_sz HS5.out (pad y) (cnt y) HC2.out ?_ ?_ ?_); exact rfl; exact rfl; simp only [Act.put]))
      exact ⟨⟨k + 1, by omega, by go_num, HF.out _ (HS5.out.row (pad y) (cnt y) HC2.out), HR5.out.otherRow (by omega) _, HG5.out.row (by omega) _⟩, by simp [intOf]; omega⟩
    · have d1 : decide ((k : Int) < (ps.length : Int)) = false := by simp; omega
      obtain rfl : k = ps.length := by omega
      have HL : Hid ((pad r).length = 80) := by
        have := HC.out ps.length (Nat.le_refl _)
        rw [List.take_length, HRR.out] at this
        exact pad_len' this (by omega)
      have HS2 : Hid (Sz wr (w.heap.size + 1 + 1) (pad r) (cnt r)) := by
        have := HS.out
        rw [List.take_length, HRR.out] at this
        exact this
      clear HS
      go_wp2_with (first | ((with_reducible refine load_sz HS2.out ?_ ?_); exact rfl; simp only [Act.put, List.setIfInBounds_toArray, List.set_cons_succ, List.set_cons_zero]) | ((with_reducible refine store_sz HR.out (pad r) (cnt r) HL.out ?_ ?_ ?_); exact rfl; exact rfl; simp only [Act.put]) | ((with_reducible refine bodyPost_ret (ret_sz Tryz.results147 _ _ ?_ (HR.out.row (pad r) (cnt r) HL.out)) ?_ ?_); exact rfl; exact rfl; exact ⟨rfl, HG.out.row (by omega) _⟩))
theorem productSize_sz (ps : List Nat) (v : Value) (w : World) (hv : Row w v (toZ ps)) (hl : ps.length ≤ 6) (hb : ∀ p ∈ ps, p ≤ 268435456) :
    Calls Tryz.prog 79 #[v] w fun e w' => e = .returned (.agg (szV (prodN ps))) ∧ Old w w' := by
  have HV : Hid (Row w v (toZ ps)) := hv
  obtain ⟨va, vc, rfl⟩ : ∃ a c, v = .slice a ps.length c := by have := hv.slice; rwa [toZ_len] at this
  have c1 := fun W => ofWord_sz 1 W (by omega)
  have c2 := fun W (h : Row W (.slice va ps.length vc) (toZ ps)) => all_sz ps _ W h hl hb
  have HL : Hid ((pad (prodN ps)).length = 80) := by
    have := prodN_cnt ps hb ps.length (Nat.le_refl _)
    rw [List.take_length] at this
    exact pad_len' this (by omega)
  have HZ : Hid (Sz (w.alloc (.cells Tryz.zeroCells95 95)) w.heap.size (ext []) 0) := Sz.zero _ _ rfl
  clear hv hb
  generalize prodN ps = r at *
  unfold szV at *
  go_enter Tryz.func79, Tryz.ntmps79
  go_wp2_with (first | (go_at_call 143; refine (c1 _).mono ?_; rintro e w1 ⟨rfl, g1⟩; have HG1 : Hid (Old w w1) := Old.trans ((Old.refl w).alloc _) g1; have HZ1 : Hid (Sz w1 w.heap.size (ext []) 0) := HZ.out.old g1; clear g1) | (go_at_call 147; refine (c2 _ (HV.out.old HG1.out)).mono ?_; rintro e w2 ⟨rfl, g2⟩; have HG2 : Hid (Old w w2) := Old.trans HG1.out g2; have HZ2 : Hid (Sz w2 w.heap.size (ext []) 0) := HZ1.out.old g2; clear g2) | ((with_reducible refine store_sz HZ2.out (pad r) (cnt r) HL.out ?_ ?_ ?_); exact rfl; exact rfl; simp only [Act.put]) | ((with_reducible refine bodyPost_ret (ret_sz Tryz.results79 _ _ ?_ (HZ2.out.row (pad r) (cnt r) HL.out)) ?_ ?_); exact rfl; exact rfl; exact ⟨rfl, HG2.out.row (Nat.le_refl _) _⟩))
end Go.Proofs.YtfgooclnohnkmaaGreatDoor
/- Proved: contracts of the model's functions on limbs: adding and taking away. -/
namespace Go.Proofs.YtfgooclnohnkmaaGreatDoor
open Go.ChangeShapes Go.WideShapes Go.ChangeAt Go.RowKit
open M2
set_option linter.unusedVariables false
set_option linter.unusedSimpArgs false
theorem one_cellW (w : World) (x : Value) (t : TypeId) : ∀ j u, [x][j]? = some u → (w.alloc (.cells #[x] t)).cell? ((⟨w.heap.size, 0, none⟩ : Addr).add j) = some u := by
  intro j u hj
  match j, hj with
  | 0, hj => simp at hj; subst hj; simp [Addr.add]
theorem one_oneW (x : Int) : ∀ u ∈ [Value.int .i64 x], u.oneCell' = true := by intro u hu; simp at hu; subst hu; rfl
theorem Own.snocW {w : World} {base : Nat} {v : Value} {xs : List Nat} {y : Nat} (h : w.ownsRow base 3 1 v ((toI xs).length + 1) ((toI xs).map (Value.int .i64) ++ [.int .i64 (y : Int)])) : Own w base v (toI (xs ++ [y])) := by
  unfold Own
  rw [toI_append]
  simpa [toI] using h
theorem Old.growW {a b c : World} {v : Value} {xs : List Value} {n : Nat} (h : Old a b) (ho : b.ownsRow a.heap.size 3 1 v n xs) (g : b.grownBy c v.ownBlock) : Old a c :=
  Below.grown h g h.size (fun k hk => (ho.lt k hk).1)
set_option maxHeartbeats 2000000 in
theorem add_any (xs ys : List Nat) (v u : Value) (w : World) (hv : Row w v (toI xs)) (hu : Row w u (toI ys)) (ha : Lim xs) (hb : Lim ys) (la : xs.length ≤ 1048576) (lb : ys.length ≤ 1048576) :
    Calls Tryz.prog 123 #[v, u] w fun e w' => ∃ v', e = .returned v' ∧ Old w w' ∧ Own w' w.heap.size v' (toI (dig (val xs + val ys))) := by
  obtain ⟨i0, hi, hz0, hz1, hz2⟩ := info_parts Tryz.infoInt
  have HV : Hid (Row w v (toI xs)) := hv
  have HU : Hid (Row w u (toI ys)) := hu
  obtain ⟨a0, cap0, rfl⟩ := hv.sliceN
  obtain ⟨a1, cap1, rfl⟩ := hu.sliceN
  clear hv hu
  go_enter Tryz.func123, Tryz.ntmps123
  go_wp2_with fail
  go_loopw [5, 6, 7] (fun o c i W => ∃ (k : Nat) (out : List Nat) (cc : Nat), (k + cc ≤ 1048577 ∧ cc ≤ 1) ∧ i = .int .i64 k ∧ c = .int .i64 cc ∧ Hid (AddI xs ys k out cc) ∧ Hid (Own W w.heap.size o (toI out)) ∧ Hid (Old w W)) (fun _ c i _ => 2 * ((max xs.length ys.length) - (intOf i).toNat) + (intOf c).toNat)
  case atStart => exact ⟨0, [], 0, ⟨by omega, by omega⟩, rfl, rfl, AddI.start xs ys, World.ownsRow_nil _ _ _ _, Old.refl _⟩
  case round =>
    obtain ⟨k, out, cc, ⟨hk, hcc⟩, rfl, rfl, HI, HO, HG⟩ := hrel
    have hx := ha.getD k
    have hy := hb.getD k
    have STEP := HI.out.step ha hb
    have HS : Hid (AddI xs ys (k + 1) (out ++ [(cc + xs.getD k 0 + ys.getD k 0) % LB]) ((cc + xs.getD k 0 + ys.getD k 0) / LB)) := STEP
    clear STEP
    by_cases h1 : k < xs.length
    · obtain ⟨b, o, rfl, hb1, hc1⟩ := Row.at (HV.out.old HG.out) (by omega)
      have c1 := hc1 k h1
      clear hc1
      by_cases h2 : k < ys.length
      · obtain ⟨b', o', rfl, hb2, hc2⟩ := Row.at (HU.out.old HG.out) (by omega)
        have c2 := hc2 k h2
        clear hc2
        generalize xs.getD k 0 = x at *
        generalize ys.getD k 0 = y at *
        generalize hR : (cc + x + y) % LB = R at *
        generalize hQ : (cc + x + y) / LB = Q at *
        unfold LB at hR hQ hx hy
        have e3 : ((cc : Int) + (x : Int) + (y : Int)) % 268435456 = (R : Int) := by omega
        have e4 : ((cc : Int) + (x : Int) + (y : Int)) / 268435456 = (Q : Int) := by omega
        have hQ1 : Q ≤ 1 := by omega
        clear hR hQ
        go_wp2_with (at_builtin; refine wpList_append_own _ rfl _ _ 98 rfl w.heap.size 3 i0 (.int .i64 0) 1 8 Tryz.underlying98 hi hz0 hz1 hz2 rfl (by decide) _ _ _ rfl (HO.out.alloc _) ⟨wr.heap.size, 0, none⟩ 1 1 [.int .i64 (R : Int)] rfl rfl (one_cellW _ _ _) (one_oneW _) (by rw [toI_len, HI.out.len]; unfold maxLen; omega) (by rw [toI_len, HI.out.len]; omega) (by have := HG.out.size; simp; omega) ?_; intro v' w1 hown hgrow _; have HO2 : Hid (Own w1 w.heap.size v' (toI (out ++ [R]))) := Own.snocW hown; have HG2 : Hid (Old w w1) := Old.growW (HG.out.alloc _) (HO.out.alloc _) hgrow; clear hown hgrow)
        exact ⟨⟨k + 1, out ++ [R], Q, ⟨by omega, hQ1⟩, by go_num, by first | rw [e4] | (rw [hQ0 hcc]; rfl), HS, HO2, HG2⟩, by simp [intOf]; omega⟩
      · have ey0 : ys.getD k 0 = 0 := by simp [List.getD, List.getElem?_eq_none (show ys.length ≤ k by omega)]
        generalize xs.getD k 0 = x at *
        rw [ey0] at HS
        clear ey0 hy
        generalize hR : (cc + x + 0) % LB = R at *
        generalize hQ : (cc + x + 0) / LB = Q at *
        unfold LB at hR hQ hx
        have e3 : ((cc : Int) + (x : Int)) % 268435456 = (R : Int) := by omega
        have e4 : ((cc : Int) + (x : Int)) / 268435456 = (Q : Int) := by omega
        have hQ1 : Q ≤ 1 := by omega
        clear hR hQ
        go_wp2_with (at_builtin; refine wpList_append_own _ rfl _ _ 98 rfl w.heap.size 3 i0 (.int .i64 0) 1 8 Tryz.underlying98 hi hz0 hz1 hz2 rfl (by decide) _ _ _ rfl (HO.out.alloc _) ⟨wr.heap.size, 0, none⟩ 1 1 [.int .i64 (R : Int)] rfl rfl (one_cellW _ _ _) (one_oneW _) (by rw [toI_len, HI.out.len]; unfold maxLen; omega) (by rw [toI_len, HI.out.len]; omega) (by have := HG.out.size; simp; omega) ?_; intro v' w1 hown hgrow _; have HO2 : Hid (Own w1 w.heap.size v' (toI (out ++ [R]))) := Own.snocW hown; have HG2 : Hid (Old w w1) := Old.growW (HG.out.alloc _) (HO.out.alloc _) hgrow; clear hown hgrow)
        exact ⟨⟨k + 1, out ++ [R], Q, ⟨by omega, hQ1⟩, by go_num, by first | rw [e4] | (rw [hQ0 hcc]; rfl), HS, HO2, HG2⟩, by simp [intOf]; omega⟩
    · by_cases h2 : k < ys.length
      · obtain ⟨b', o', rfl, hb2, hc2⟩ := Row.at (HU.out.old HG.out) (by omega)
        have c2 := hc2 k h2
        clear hc2
        have ex0 : xs.getD k 0 = 0 := by simp [List.getD, List.getElem?_eq_none (show xs.length ≤ k by omega)]
        rw [ex0] at HS
        clear ex0 hx
        generalize ys.getD k 0 = y at *
        generalize hR : (cc + 0 + y) % LB = R at *
        generalize hQ : (cc + 0 + y) / LB = Q at *
        unfold LB at hR hQ hy
        have e3 : ((cc : Int) + (y : Int)) % 268435456 = (R : Int) := by omega
        have e4 : ((cc : Int) + (y : Int)) / 268435456 = (Q : Int) := by omega
        have hQ1 : Q ≤ 1 := by omega
        clear hR hQ
        go_wp2_with (at_builtin; refine wpList_append_own _ rfl _ _ 98 rfl w.heap.size 3 i0 (.int .i64 0) 1 8 Tryz.underlying98 hi hz0 hz1 hz2 rfl (by decide) _ _ _ rfl (HO.out.alloc _) ⟨wr.heap.size, 0, none⟩ 1 1 [.int .i64 (R : Int)] rfl rfl (one_cellW _ _ _) (one_oneW _) (by rw [toI_len, HI.out.len]; unfold maxLen; omega) (by rw [toI_len, HI.out.len]; omega) (by have := HG.out.size; simp; omega) ?_; intro v' w1 hown hgrow _; have HO2 : Hid (Own w1 w.heap.size v' (toI (out ++ [R]))) := Own.snocW hown; have HG2 : Hid (Old w w1) := Old.growW (HG.out.alloc _) (HO.out.alloc _) hgrow; clear hown hgrow)
        exact ⟨⟨k + 1, out ++ [R], Q, ⟨by omega, hQ1⟩, by go_num, by first | rw [e4] | (rw [hQ0 hcc]; rfl), HS, HO2, HG2⟩, by simp [intOf]; omega⟩
      · rcases Nat.eq_zero_or_pos cc with hc0 | hc0
        · subst hc0
          have HT : Hid (trim out = dig (val xs + val ys)) := HI.out.done (by omega) (by omega) rfl
          have HL : Hid (Lim out ∧ out.length = k) := ⟨HI.out.lim, HI.out.len⟩
          clear HS HI
          go_wp2_with fail
          refine (trim_any out _ w.heap.size _ HO.out HL.out.1 (by have := HL.out.2; omega)).mono ?_
          rintro e w1 ⟨v', rfl, g1, o1⟩
          have HG2 : Hid (Old w w1) := Old.trans HG.out g1
          have HO2 : Hid (Own w1 w.heap.size v' (toI (trim out))) := o1
          clear g1 o1
          go_wp2_with fail
          go_ret
          exact ⟨_, rfl, HG2.out, by rw [← HT.out]; exact HO2.out⟩
        · have ex0 : xs.getD k 0 = 0 := by simp [List.getD, List.getElem?_eq_none (show xs.length ≤ k by omega)]
          have ey0 : ys.getD k 0 = 0 := by simp [List.getD, List.getElem?_eq_none (show ys.length ≤ k by omega)]
          rw [ex0] at HS
          clear ex0 hx
          rw [ey0] at HS
          clear ey0 hy
          generalize hR : (cc + 0 + 0) % LB = R at *
          generalize hQ : (cc + 0 + 0) / LB = Q at *
          unfold LB at hR hQ
          have e3 : ((cc : Int)) % 268435456 = (R : Int) := by omega
          have e4 : ((cc : Int)) / 268435456 = (Q : Int) := by omega
          have hQ1 : Q ≤ 1 := by omega
          have hQ0 : cc ≤ 1 → Q = 0 := by omega
          clear hR hQ
          have dc : decide (0 < cc) = true := by simp; omega
          go_wp2_with (at_builtin; refine wpList_append_own _ rfl _ _ 98 rfl w.heap.size 3 i0 (.int .i64 0) 1 8 Tryz.underlying98 hi hz0 hz1 hz2 rfl (by decide) _ _ _ rfl (HO.out.alloc _) ⟨wr.heap.size, 0, none⟩ 1 1 [.int .i64 (R : Int)] rfl rfl (one_cellW _ _ _) (one_oneW _) (by rw [toI_len, HI.out.len]; unfold maxLen; omega) (by rw [toI_len, HI.out.len]; omega) (by have := HG.out.size; simp; omega) ?_; intro v' w1 hown hgrow _; have HO2 : Hid (Own w1 w.heap.size v' (toI (out ++ [R]))) := Own.snocW hown; have HG2 : Hid (Old w w1) := Old.growW (HG.out.alloc _) (HO.out.alloc _) hgrow; clear hown hgrow)
          exact ⟨⟨k + 1, out ++ [R], Q, ⟨by omega, hQ1⟩, by go_num, by first | rw [e4] | (rw [hQ0 hcc]; rfl), HS, HO2, HG2⟩, by simp [intOf]; omega⟩
end Go.Proofs.YtfgooclnohnkmaaGreatDoor
/- Proved: the contract of the model's function that takes limbs away from limbs. -/
namespace Go.Proofs.YtfgooclnohnkmaaGreatDoor
open Go.ChangeShapes Go.WideShapes Go.ChangeAt Go.RowKit
open M2
set_option linter.unusedVariables false
set_option linter.unusedSimpArgs false
set_option maxHeartbeats 2000000 in
theorem sub_any (xs ys : List Nat) (v u : Value) (w : World) (hv : Row w v (toI xs)) (hu : Row w u (toI ys)) (ha : Nrm xs) (hb : Nrm ys) (la : xs.length ≤ 1048576) (lb : ys.length ≤ 1048576) (hle : val ys ≤ val xs) :
    Calls Tryz.prog 150 #[v, u] w fun e w' => ∃ v', e = .returned v' ∧ Old w w' ∧ Own w' w.heap.size v' (toI (dig (val xs - val ys))) := by
  obtain ⟨i0, hi, hz0, hz1, hz2⟩ := info_parts Tryz.infoInt
  have hyx := nrm_len_le ha hb hle
  have HLE : Hid (val ys ≤ val xs) := hle
  have HV : Hid (Row w v (toI xs)) := hv
  have HU : Hid (Row w u (toI ys)) := hu
  obtain ⟨a0, cap0, rfl⟩ := hv.sliceN
  obtain ⟨a1, cap1, rfl⟩ := hu.sliceN
  clear hv hu hle
  go_enter Tryz.func150, Tryz.ntmps150
  go_wp2_with fail
  go_loopw [5, 6, 11] (fun o c i W => ∃ (k : Nat) (out : List Nat) (cc : Nat), (k ≤ xs.length ∧ cc ≤ 1) ∧ i = .int .i64 k ∧ c = .int .i64 cc ∧ Hid (SubI xs ys k out cc) ∧ Hid (Own W w.heap.size o (toI out)) ∧ Hid (Old w W)) (fun _ _ i _ => xs.length - (intOf i).toNat)
  case atStart => exact ⟨0, [], 0, ⟨by omega, by omega⟩, rfl, rfl, SubI.start xs ys, World.ownsRow_nil _ _ _ _, Old.refl _⟩
  case round =>
    obtain ⟨k, out, cc, ⟨hk, hcc⟩, rfl, rfl, HI, HO, HG⟩ := hrel
    by_cases h1 : k < xs.length
    · obtain ⟨b, o, rfl, hb1, hc1⟩ := Row.at (HV.out.old HG.out) (by omega)
      have c1 := hc1 k h1
      clear hc1
      have hx := ha.1.getD k
      have hy := hb.1.getD k
      have S0 := HI.out.stepNo ha.1
      have S1 := HI.out.stepYes ha.1 hb.1
      have H0 : Hid (cc + ys.getD k 0 ≤ xs.getD k 0 → SubI xs ys (k + 1) (out ++ [xs.getD k 0 - cc - ys.getD k 0]) 0) := S0
      have H1 : Hid (xs.getD k 0 < cc + ys.getD k 0 → SubI xs ys (k + 1) (out ++ [xs.getD k 0 + LB - cc - ys.getD k 0]) 1) := S1
      clear S0 S1
      by_cases h2 : k < ys.length
      · obtain ⟨b', o', rfl, hb2, hc2⟩ := Row.at (HU.out.old HG.out) (by omega)
        have c2 := hc2 k h2
        clear hc2
        generalize xs.getD k 0 = x at *
        generalize ys.getD k 0 = y at *
        unfold LB at hx hy H1
        by_cases hd : cc + y ≤ x
        · have HS : Hid (SubI xs ys (k + 1) (out ++ [x - cc - y]) 0) := H0.out hd
          generalize hD : x - cc - y = D at *
          have e1 : (x : Int) - (cc : Int) - (y : Int) = (D : Int) := by omega
          have d1 : decide ((D : Int) < 0) = false := by simp
          clear H0 H1 hd hD
          go_wp2_with (at_builtin; refine wpList_append_own _ rfl _ _ 98 rfl w.heap.size 3 i0 (.int .i64 0) 1 8 Tryz.underlying98 hi hz0 hz1 hz2 rfl (by decide) _ _ _ rfl (HO.out.alloc _) ⟨wr.heap.size, 0, none⟩ 1 1 [.int .i64 (D : Int)] rfl rfl (one_cellW _ _ _) (one_oneW _) (by rw [toI_len, HI.out.len]; unfold maxLen; omega) (by rw [toI_len, HI.out.len]; omega) (by have := HG.out.size; simp; omega) ?_; intro v' w1 hown hgrow _; have HO2 : Hid (Own w1 w.heap.size v' (toI (out ++ [D]))) := Own.snocW hown; have HG2 : Hid (Old w w1) := Old.growW (HG.out.alloc _) (HO.out.alloc _) hgrow; clear hown hgrow)
          exact ⟨⟨k + 1, out ++ [D], 0, ⟨by omega, by omega⟩, by go_num, rfl, HS, HO2, HG2⟩, by simp [intOf]; omega⟩
        · have HS : Hid (SubI xs ys (k + 1) (out ++ [x + 268435456 - cc - y]) 1) := H1.out (by omega)
          generalize hD : x + 268435456 - cc - y = D at *
          have e1 : (x : Int) - (cc : Int) - (y : Int) + 268435456 = (D : Int) := by omega
          have d1 : decide ((x : Int) - (cc : Int) - (y : Int) < 0) = true := by simp; omega
          clear H0 H1 hd hD
          go_wp2_with (at_builtin; refine wpList_append_own _ rfl _ _ 98 rfl w.heap.size 3 i0 (.int .i64 0) 1 8 Tryz.underlying98 hi hz0 hz1 hz2 rfl (by decide) _ _ _ rfl (HO.out.alloc _) ⟨wr.heap.size, 0, none⟩ 1 1 [.int .i64 (D : Int)] rfl rfl (one_cellW _ _ _) (one_oneW _) (by rw [toI_len, HI.out.len]; unfold maxLen; omega) (by rw [toI_len, HI.out.len]; omega) (by have := HG.out.size; simp; omega) ?_; intro v' w1 hown hgrow _; have HO2 : Hid (Own w1 w.heap.size v' (toI (out ++ [D]))) := Own.snocW hown; have HG2 : Hid (Old w w1) := Old.growW (HG.out.alloc _) (HO.out.alloc _) hgrow; clear hown hgrow)
          exact ⟨⟨k + 1, out ++ [D], 1, ⟨by omega, by omega⟩, by go_num, rfl, HS, HO2, HG2⟩, by simp [intOf]; omega⟩
      · have ey0 : ys.getD k 0 = 0 := by simp [List.getD, List.getElem?_eq_none (show ys.length ≤ k by omega)]
        rw [ey0] at H0 H1
        clear ey0 hy
        generalize xs.getD k 0 = x at *
        unfold LB at hx H1
        by_cases hd : cc + 0 ≤ x
        · have HS : Hid (SubI xs ys (k + 1) (out ++ [x - cc - 0]) 0) := H0.out hd
          generalize hD : x - cc - 0 = D at *
          have e1 : (x : Int) - (cc : Int) = (D : Int) := by omega
          have d1 : decide ((D : Int) < 0) = false := by simp
          clear H0 H1 hd hD
          go_wp2_with (at_builtin; refine wpList_append_own _ rfl _ _ 98 rfl w.heap.size 3 i0 (.int .i64 0) 1 8 Tryz.underlying98 hi hz0 hz1 hz2 rfl (by decide) _ _ _ rfl (HO.out.alloc _) ⟨wr.heap.size, 0, none⟩ 1 1 [.int .i64 (D : Int)] rfl rfl (one_cellW _ _ _) (one_oneW _) (by rw [toI_len, HI.out.len]; unfold maxLen; omega) (by rw [toI_len, HI.out.len]; omega) (by have := HG.out.size; simp; omega) ?_; intro v' w1 hown hgrow _; have HO2 : Hid (Own w1 w.heap.size v' (toI (out ++ [D]))) := Own.snocW hown; have HG2 : Hid (Old w w1) := Old.growW (HG.out.alloc _) (HO.out.alloc _) hgrow; clear hown hgrow)
          exact ⟨⟨k + 1, out ++ [D], 0, ⟨by omega, by omega⟩, by go_num, rfl, HS, HO2, HG2⟩, by simp [intOf]; omega⟩
        · have HS : Hid (SubI xs ys (k + 1) (out ++ [x + 268435456 - cc - 0]) 1) := H1.out (by omega)
          generalize hD : x + 268435456 - cc - 0 = D at *
          have e1 : (x : Int) - (cc : Int) + 268435456 = (D : Int) := by omega
          have d1 : decide ((x : Int) - (cc : Int) < 0) = true := by simp; omega
          clear H0 H1 hd hD
          go_wp2_with (at_builtin; refine wpList_append_own _ rfl _ _ 98 rfl w.heap.size 3 i0 (.int .i64 0) 1 8 Tryz.underlying98 hi hz0 hz1 hz2 rfl (by decide) _ _ _ rfl (HO.out.alloc _) ⟨wr.heap.size, 0, none⟩ 1 1 [.int .i64 (D : Int)] rfl rfl (one_cellW _ _ _) (one_oneW _) (by rw [toI_len, HI.out.len]; unfold maxLen; omega) (by rw [toI_len, HI.out.len]; omega) (by have := HG.out.size; simp; omega) ?_; intro v' w1 hown hgrow _; have HO2 : Hid (Own w1 w.heap.size v' (toI (out ++ [D]))) := Own.snocW hown; have HG2 : Hid (Old w w1) := Old.growW (HG.out.alloc _) (HO.out.alloc _) hgrow; clear hown hgrow)
          exact ⟨⟨k + 1, out ++ [D], 1, ⟨by omega, by omega⟩, by go_num, rfl, HS, HO2, HG2⟩, by simp [intOf]; omega⟩
    · obtain rfl : k = xs.length := by omega
      have HT : Hid (trim out = dig (val xs - val ys)) := HI.out.done rfl hyx HLE.out
      have HL : Hid (Lim out ∧ out.length = xs.length) := ⟨HI.out.lim, HI.out.len⟩
      clear HI
      go_wp2_with fail
      refine (trim_any out _ w.heap.size _ HO.out HL.out.1 (by have := HL.out.2; omega)).mono ?_
      rintro e w1 ⟨v', rfl, g1, o1⟩
      have HG2 : Hid (Old w w1) := Old.trans HG.out g1
      have HO2 : Hid (Own w1 w.heap.size v' (toI (trim out))) := o1
      clear g1 o1
      go_wp2_with fail
      go_ret
      exact ⟨_, rfl, HG2.out, by rw [← HT.out]; exact HO2.out⟩
end Go.Proofs.YtfgooclnohnkmaaGreatDoor
