/- Proved: several texts in one: what each proves is said ahead of it. -/
import Derived.Test.YtinldhoimnbkhaaDoorDb00
import Derived.Test.YtinldhoimnbkhaaDoorDb15
import Derived.Test.YtinldhoimnbkhaaDoorDb02
/- Proved: what lies between two block numbers stays as it is where only others are written; no function of the program. -/
namespace Go.Proofs.YtinldhoimnbkhaaDoor
open Go.ChangeShapes Go.WideShapes Go.ChangeAt Go.RowKit
set_option linter.unusedVariables false
set_option linter.unusedSimpArgs false
/-- only blocks from lo up to hi (hi itself not) have been written, and new ones made -/
structure Chg (w w' : World) (lo hi : Nat) : Prop where
  os : w'.os = w.os
  tape : w'.tape = w.tape
  output : w'.output = w.output
  size : w.heap.size ≤ w'.heap.size
  block : ∀ b, b < w.heap.size → (b < lo ∨ hi ≤ b) → w'.heap[b]? = w.heap[b]?
theorem Chg.trans {a b c : World} {lo hi : Nat} (h : Chg a b lo hi) (k : Chg b c lo hi) : Chg a c lo hi :=
  ⟨k.os.trans h.os, k.tape.trans h.tape, k.output.trans h.output, Nat.le_trans h.size k.size, fun i hi ho => (k.block i (Nat.lt_of_lt_of_le hi h.size) ho).trans (h.block i hi ho)⟩
/-- what a predicate says hangs on the blocks from lo up to hi alone -/
def Far {α : Type} (R : World → Nat → Nat → α → Prop) : Prop := ∀ W W' lo hi v, R W lo hi v → (∀ b, lo ≤ b → b < hi → W'.heap[b]? = W.heap[b]?) → W.heap.size ≤ W'.heap.size → R W' lo hi v
theorem Far.old {α : Type} {R : World → Nat → Nat → α → Prop} (f : Far R) {W W' : World} {lo hi : Nat} {v : α} (h : R W lo hi v) (g : Old W W') (hh : hi ≤ W.heap.size) : R W' lo hi v :=
  f W W' lo hi v h (fun b _ hb => g.block b (by omega)) g.size
end Go.Proofs.YtinldhoimnbkhaaDoor
/- Proved: a struct in a block of its own stays where only others are written; no function of the program. -/
namespace Go.Proofs.YtinldhoimnbkhaaDoor
open Go.ChangeShapes Go.WideShapes Go.ChangeAt Go.RowKit
set_option linter.unusedVariables false
set_option linter.unusedSimpArgs false
/-- block k holds these cells -/
def Bk (w : World) (k : Nat) (cs : Array Value) (t : TypeId) : Prop := w.heap[k]? = some (.cells cs t (0, 0))
theorem Bk.lt {w : World} {k : Nat} {cs : Array Value} {t : TypeId} (h : Bk w k cs t) : k < w.heap.size := (Array.getElem?_eq_some_iff.1 h).1
theorem Bk.old {w w' : World} {k : Nat} {cs : Array Value} {t : TypeId} (h : Bk w k cs t) (g : Old w w') : Bk w' k cs t := (g.block k h.lt).trans h
theorem Bk.new' (w : World) {k : Nat} (cs : Array Value) (t : TypeId) (hk : w.heap.size = k) : Bk (w.alloc (.cells cs t)) k cs t := by
  subst hk
  exact heap_alloc_new w _
theorem Bk.alloc {w : World} {k : Nat} {cs : Array Value} {t : TypeId} (h : Bk w k cs t) (o : Obj) : Bk (w.alloc o) k cs t := h.old ((Old.refl w).alloc o)
theorem Bk.c {w : World} {k : Nat} {cs : Array Value} {t : TypeId} (h : Bk w k cs t) {i : Nat} {v : Value} (hi : cs[i]? = some v) : w.cell? ⟨k, i, none⟩ = some v := by
  rw [← hi]
  exact cell_of_row w k i cs t (0, 0) h
end Go.Proofs.YtinldhoimnbkhaaDoor
/- Proved: whole numbers as a law carries them: what its functions on them do, by blocks of memory from one number up to another. -/
namespace Go.Proofs.YtinldhoimnbkhaaDoor
open Go.ChangeShapes Go.WideShapes Go.ChangeAt Go.RowKit
set_option linter.unusedVariables false
set_option linter.unusedSimpArgs false
/-- a row of numbers of one's own, in a block from lo up to hi -/
def OwI (xs : List Int) (W : World) (lo hi : Nat) (v : Value) : Prop := Own W lo v xs ∧ hi ≤ W.heap.size ∧ ∀ b, v.ownBlock = some b → b < hi
theorem OwI.of {W w' : World} {v : Value} {xs : List Int} (o : Own w' W.heap.size v xs) : OwI xs w' W.heap.size w'.heap.size v := ⟨o, Nat.le_refl _, fun b hb => (o.lt b hb).2⟩
theorem OwI.row {W : World} {lo hi : Nat} {v : Value} {xs : List Int} (h : OwI xs W lo hi v) : Row W v xs := Own.row h.1
theorem own_far {W W' : World} {lo hi : Nat} {v : Value} {xs : List Int} (h : Own W lo v xs) (hh : ∀ b, v.ownBlock = some b → b < hi) (hf : ∀ b, lo ≤ b → b < hi → W'.heap[b]? = W.heap[b]?) : Own W' lo v xs := by
  refine ⟨h.1, ?_⟩
  rcases h.2 with hn | ⟨p, cap, cur, rfl, hb, hgg, rest⟩
  · exact .inl hn
  · refine .inr ⟨p, cap, cur, rfl, hb, ?_, rest⟩
    rw [hf p hb (hh p rfl)]
    exact hgg
theorem far_OwI (xs : List Int) : Far (OwI xs) := fun W W' lo hi v h hf hs => ⟨own_far h.1 h.2.2 hf, Nat.le_trans h.2.1 hs, h.2.2⟩
/-- how many values are left of the bound -/
def leftN (left : Int) (len : Nat) : Int := if left < (len : Int) then -1 else left - len
theorem leftN_ok {left : Int} {len : Nat} (h : ¬ leftN left len < 0) (h0 : 0 ≤ left) : (len : Int) ≤ left ∧ leftN left len = left - len ∧ 0 ≤ leftN left len := by
  unfold leftN at *
  split at h
  · omega
  · rename_i h2
    rw [if_neg h2]
    omega
end Go.Proofs.YtinldhoimnbkhaaDoor
/- Proved: whether a list is a basis, of the program and of the model. -/
namespace Go.Proofs.YtinldhoimnbkhaaDoor
open Go.ChangeShapes Go.WideShapes Go.ChangeAt Go.RowKit
open M1
set_option linter.unusedVariables false
set_option linter.unusedSimpArgs false
/-- a prime modulus -/
def pmB (p : Int) : Bool := modB p && isP p.toNat
/-- what is asked of the number at place k: a prime modulus that is not ahead of it -/
def gbAt (xs : List Int) (k : Nat) : Bool := pmB (xs.getD k 0) && !((xs.take k).contains (xs.getD k 0))
/-- from place k on -/
def gb (xs : List Int) (k : Nat) : Bool := decide (∀ i, i < xs.length → k ≤ i → gbAt xs i = true)
/-- a basis -/
def basB (xs : List Int) : Bool := decide (1 ≤ xs.length ∧ xs.length ≤ 6) && gb xs 0
theorem gb_end {xs : List Int} {k : Nat} (h : xs.length ≤ k) : gb xs k = true := decide_eq_true (fun i h1 h2 => by omega)
theorem gb_no {xs : List Int} {k : Nat} (h : k < xs.length) (hk : gbAt xs k = false) : gb xs k = false :=
  decide_eq_false (fun hh => by have := hh k h (Nat.le_refl _); rw [hk] at this; cases this)
theorem gb_yes {xs : List Int} {k : Nat} (hk : gbAt xs k = true) : gb xs k = gb xs (k + 1) := by
  unfold gb
  congr 1
  refine propext ⟨fun h i h1 h2 => h i h1 (by omega), fun h i h1 h2 => ?_⟩
  rcases Nat.eq_or_lt_of_le h2 with e | e
  · rw [← e]; exact hk
  · exact h i h1 e
theorem has_none (xs : List Int) (p : Int) (h : ∀ j, j < xs.length → (p == xs.getD j 0) = false) : xs.contains p = false := by
  rw [Bool.eq_false_iff]
  intro hc
  have hm : p ∈ xs := by simpa using hc
  obtain ⟨j, hj, e⟩ := List.getElem_of_mem hm
  have := h j hj
  simp [List.getD, hj, e] at this
theorem has_at (xs : List Int) (p : Int) (j : Nat) (hj : j < xs.length) (h : (p == xs.getD j 0) = true) : xs.contains p = true := by
  have e : xs.getD j 0 = xs[j] := by simp [List.getD, hj]
  rw [e] at h
  have e2 := beq_iff_eq.1 h
  simp [e2]
set_option maxHeartbeats 1000000 in
theorem index_any (xs : List Int) (p : Int) (v : Value) (w : World) (hv : Row w v xs) (hl : xs.length ≤ 9223372036854775807) :
    Calls Tryd.prog 145 #[v, .int .i64 p] w fun e w' => (∃ z : Int, e = .returned (.int .i64 z) ∧ decide (0 ≤ z) = xs.contains p) ∧ Old w w' := by
  rcases hv with ⟨a, cap, rfl, rfl⟩ | ⟨b, o, cap, rfl, hb, h0, hc⟩
  · go_enter Tryd.func145, Tryd.ntmps145
    go_wp2_with fail
    refine wp_loop_rounds 1 ?_
    rw [rounds_succ]
    go_wp2_with fail
    go_ret
    exact ⟨⟨_, rfl, rfl⟩, Old.refl _⟩
  · have HC : Hid (∀ j, j < xs.length → w.cell? ⟨b, o + j, none⟩ = some (.int .i64 (xs.getD j 0))) := hc
    clear hc
    go_enter Tryd.func145, Tryd.ntmps145
    go_wp2_with fail
    go_loopw [5, 8] (fun x i W => ∃ k : Nat, k ≤ xs.length ∧ i = .int .i64 k ∧ Hid (∀ j, j < k → (p == xs.getD j 0) = false) ∧ Hid (Old w W)) (fun _ i _ => xs.length - (intOf i).toNat)
    case atStart => exact ⟨0, by omega, rfl, fun j hj => by omega, Old.refl _⟩
    case round =>
      obtain ⟨k, hk, rfl, H1, HG⟩ := hrel
      by_cases hlt : k < xs.length
      · have d1 : decide ((k : Int) < (xs.length : Int)) = true := by simp; omega
        have c1 : wr.cell? ⟨b, o + k, none⟩ = some (.int .i64 (xs.getD k 0)) := (HG.out.cell (p := ⟨b, o + k, none⟩) hb).trans (HC.out k hlt)
        cases hx : (p == xs.getD k 0)
        · have H2 : Hid (∀ j, j < k + 1 → (p == xs.getD j 0) = false) := fun j hj => by
            rcases Nat.lt_or_ge j k with h | h
            · exact H1.out j h
            · obtain rfl : j = k := by omega
              exact hx
          clear H1
          generalize xs.getD k 0 = x at *
          go_wp2_with fail
          exact ⟨⟨k + 1, by omega, by go_num, H2, HG⟩, by simp [intOf]; omega⟩
        · have H2 : Hid (decide (0 ≤ (k : Int)) = xs.contains p) := by
            show _ = _
            rw [has_at xs p k hlt hx]
            simp
          clear H1
          generalize xs.getD k 0 = x at *
          go_wp2_with fail
          go_ret
          exact ⟨⟨_, rfl, H2.out⟩, HG.out⟩
      · have d1 : decide ((k : Int) < (xs.length : Int)) = false := by simp; omega
        have H2 : Hid (decide (0 ≤ (-1 : Int)) = xs.contains p) := by
          show _ = _
          rw [has_none xs p (fun j hj => H1.out j (by omega))]
          rfl
        clear H1
        go_wp2_with fail
        go_ret
        exact ⟨⟨_, rfl, H2.out⟩, HG.out⟩
theorem contains_any (xs : List Int) (p : Int) (v : Value) (w : World) (hv : Row w v xs) (hl : xs.length ≤ 9223372036854775807) :
    Calls Tryd.prog 129 #[v, .int .i64 p] w fun e w' => e = .returned (.bool (xs.contains p)) ∧ Old w w' := by
  have c := index_any xs p v w hv hl
  generalize xs.contains p = B at *
  clear hv
  go_enter Tryd.func129, Tryd.ntmps129
  go_wp2_with fail
  refine c.mono ?_
  rintro e w1 ⟨⟨z, rfl, hz⟩, g1⟩
  have HG : Hid (Old w w1) := g1
  clear g1
  have HZ : Hid (decide (0 ≤ z) = B) := hz
  clear hz
  go_wp2_with fail
  go_ret
  exact ⟨by rw [← HZ.out]; rfl, HG.out⟩
theorem Row.take {w : World} {a : Option Addr} {n cap : Nat} {xs : List Int} (h : Row w (.slice a n cap) xs) (k : Nat) (hk : k ≤ xs.length) : Row w (.slice a k cap) (xs.take k) := by
  have el : (xs.take k).length = k := by rw [List.length_take, Nat.min_eq_left hk]
  rcases h with ⟨a', cap', e, e2⟩ | ⟨b, o, cap', e, hb, h0, hc⟩
  · subst e2
    simp at hk
    subst hk
    exact Or.inl ⟨a, cap, rfl, by simp⟩
  · simp only [Value.slice.injEq] at e
    obtain ⟨rfl, _, rfl⟩ := e
    rcases Nat.eq_zero_or_pos k with h1 | h1
    · subst h1
      exact Or.inl ⟨_, cap, rfl, by simp⟩
    · refine Or.inr ⟨b, o, cap, by rw [el], hb, by omega, fun j hj => ?_⟩
      rw [el] at hj
      rw [hc j (by omega)]
      simp [List.getD, List.getElem?_take, hj]
/-- a slice's length is at most its capacity -/
def Fit : Value → Prop
  | .slice _ n c => n ≤ c
  | _ => True
theorem ret_bb {a b : Bool} (h : a = b) : Ending.returned (.bool a) = .returned (.bool b) := by rw [h]
set_option maxRecDepth 100000 in
set_option maxHeartbeats 2000000 in
theorem impl_goodBasis (xs : List Int) (v : Value) (w : World) (hP : PrsW w) (hT : TabW w) (hv : Row w v xs) (hf : Fit v) (hl : xs.length ≤ 9223372036854775807) :
    Calls Tryd.prog 110 #[v] w fun e w' => e = .returned (.bool (basB xs)) ∧ Old w w' := by
  by_cases h0 : 1 ≤ xs.length ∧ xs.length ≤ 6
  · have HB : Hid (gb xs 0 = basB xs) := by
      show _ = _
      unfold basB
      rw [decide_eq_true h0, Bool.true_and]
    generalize basB xs = B at *
    have HP : Hid (PrsW w) := hP
    have HT : Hid (TabW w) := hT
    have HV : Hid (Row w v xs) := hv
    rcases hv with ⟨a, cap, rfl, rfl⟩ | ⟨b, o, cap, rfl, hb, h1, hc⟩
    · simp at h0
    have HC : Hid (∀ j, j < xs.length → w.cell? ⟨b, o + j, none⟩ = some (.int .i64 (xs.getD j 0))) := hc
    obtain ⟨h2, h3⟩ := h0
    have hcap : xs.length ≤ cap := hf
    clear hf
    have e1 : ((xs.length : Int) == 0) = false := beq_eq_false_iff_ne.2 (by omega)
    have e2 : decide ((6 : Int) < (xs.length : Int)) = false := by simp; omega
    clear hc hP hT
    go_enter Tryd.func110, Tryd.ntmps110
    go_wp2_with fail
    go_loopw [3, 4, 15] (fun x y i W => ∃ k : Nat, k ≤ xs.length ∧ i = .int .i64 k ∧ Hid (gb xs k = B) ∧ Hid (Old w W)) (fun _ _ i _ => xs.length - (intOf i).toNat)
    case atStart => exact ⟨0, by omega, rfl, HB, Old.refl _⟩
    case round =>
      obtain ⟨k, hk, rfl, H1, HG⟩ := hrel
      clear HB
      by_cases hlt : k < xs.length
      · have d1 : decide ((k : Int) < (xs.length : Int)) = true := by simp; omega
        have c1 : wr.cell? ⟨b, o + k, none⟩ = some (.int .i64 (xs.getD k 0)) := (HG.out.cell (p := ⟨b, o + k, none⟩) hb).trans (HC.out k hlt)
        have hkc : k ≤ cap := by omega
        have RT : Hid (Row wr (.slice (some ⟨b, o, none⟩) k cap) (xs.take k)) := (HV.out.old HG.out).take k (by omega)
        have hlk : (xs.take k).length ≤ 9223372036854775807 := by rw [List.length_take]; omega
        have HAT : Hid (gbAt xs k = (pmB (xs.getD k 0) && !((xs.take k).contains (xs.getD k 0)))) := rfl
        have cp := fun W (h1 : PrsW W) (h2 : TabW W) => impl_isPM (xs.getD k 0) W h1 h2
        have cc := fun W (h : Row W (.slice (some ⟨b, o, none⟩) k cap) (xs.take k)) => contains_any (xs.take k) (xs.getD k 0) _ W h hlk
        have HPM : Hid (pmB (xs.getD k 0) = (modB (xs.getD k 0) && isP (xs.getD k 0).toNat)) := rfl
        rw [← HPM.out] at cp
        clear HPM
        cases hpm : pmB (xs.getD k 0)
        · have H3 : Hid (false = B) := by
            have := H1.out
            rw [gb_no hlt (by rw [HAT.out, hpm]; rfl)] at this
            exact this
          rw [hpm] at cp
          clear HAT hpm H1 cc
          generalize xs.getD k 0 = x at *
          go_wp2_with fail
          refine (cp _ (HP.out.old HG.out) (HT.out.old HG.out)).mono ?_
          rintro e w2 ⟨rfl, n2, rfl⟩
          go_wp2_with fail
          go_ret
          exact ⟨ret_bb H3.out, HG.out.drewN _⟩
        · rw [hpm] at cp
          cases hct : (xs.take k).contains (xs.getD k 0)
          · have H3 : Hid (gb xs (k + 1) = B) := by
              have := H1.out
              rw [gb_yes (by rw [HAT.out, hpm, hct]; rfl)] at this
              exact this
            rw [hct] at cc
            clear HAT hpm H1 hct
            generalize xs.getD k 0 = x at *
            go_wp2_with fail
            refine (cp _ (HP.out.old HG.out) (HT.out.old HG.out)).mono ?_
            rintro e w2 ⟨rfl, n2, rfl⟩
            go_wp2_with fail
            refine (cc _ (RT.out.old ((Old.refl _).drewN _))).mono ?_
            rintro e w3 ⟨rfl, g3⟩
            have HG3 : Hid (Old w w3) := Old.trans (HG.out.drewN _) g3
            clear g3
            go_wp2_with fail
            exact ⟨⟨k + 1, by omega, by go_num, H3, HG3⟩, by simp [intOf]; omega⟩
          · have H3 : Hid (false = B) := by
              have := H1.out
              rw [gb_no hlt (by rw [HAT.out, hpm, hct]; rfl)] at this
              exact this
            rw [hct] at cc
            clear HAT hpm H1 hct
            generalize xs.getD k 0 = x at *
            go_wp2_with fail
            refine (cp _ (HP.out.old HG.out) (HT.out.old HG.out)).mono ?_
            rintro e w2 ⟨rfl, n2, rfl⟩
            go_wp2_with fail
            refine (cc _ (RT.out.old ((Old.refl _).drewN _))).mono ?_
            rintro e w3 ⟨rfl, g3⟩
            have HG3 : Hid (Old w w3) := Old.trans (HG.out.drewN _) g3
            clear g3
            go_wp2_with fail
            go_ret
            exact ⟨ret_bb H3.out, HG3.out⟩
      · have d1 : decide ((k : Int) < (xs.length : Int)) = false := by simp; omega
        have H3 : Hid (true = B) := by
          have := H1.out
          rw [gb_end (by omega)] at this
          exact this
        clear H1
        go_wp2_with fail
        go_ret
        exact ⟨ret_bb H3.out, HG.out⟩
  · have HB : Hid (false = basB xs) := by
      show _ = _
      unfold basB
      rw [decide_eq_false h0, Bool.false_and]
    generalize basB xs = B at *
    obtain ⟨a, cap, rfl⟩ := hv.slice
    clear hv hP hT hf
    by_cases hz : xs.length = 0
    · have e1 : ((xs.length : Int) == 0) = true := beq_iff_eq.2 (by omega)
      clear h0
      generalize xs.length = n at *
      clear hz
      go_enter Tryd.func110, Tryd.ntmps110
      go_wp2_with fail
      go_ret
      exact ⟨ret_bb HB.out, Old.refl _⟩
    · have e1 : ((xs.length : Int) == 0) = false := beq_eq_false_iff_ne.2 (by omega)
      have e2 : decide ((6 : Int) < (xs.length : Int)) = true := by simp; omega
      clear h0
      generalize xs.length = n at *
      clear hz
      go_enter Tryd.func110, Tryd.ntmps110
      go_wp2_with fail
      go_ret
      exact ⟨ret_bb HB.out, Old.refl _⟩
end Go.Proofs.YtinldhoimnbkhaaDoor
/- Proved: whether a list is a basis, as the model tells it. -/
namespace Go.Proofs.YtinldhoimnbkhaaDoor
open Go.ChangeShapes Go.WideShapes Go.ChangeAt Go.RowKit
open M1
set_option linter.unusedVariables false
set_option linter.unusedSimpArgs false
set_option maxRecDepth 100000 in
set_option maxHeartbeats 2000000 in
theorem spec_goodBasis (xs : List Int) (v : Value) (w : World) (hv : Row w v xs) (hf : Fit v) (hl : xs.length ≤ 9223372036854775807) (hx : ∀ x ∈ xs, -9223372036854775808 ≤ x ∧ x ≤ 9223372036854775807) :
    Calls Tryd.prog 87 #[v] w fun e w' => e = .returned (.bool (basB xs)) ∧ Old w w' := by
  have ci := fun W => spec_in (xs.length : Int) 1 6 W
  by_cases h0 : 1 ≤ xs.length ∧ xs.length ≤ 6
  · have HB : Hid (gb xs 0 = basB xs) := by
      show _ = _
      unfold basB
      rw [decide_eq_true h0, Bool.true_and]
    generalize basB xs = B at *
    have hin : inB (xs.length : Int) 1 6 = true := decide_eq_true (by omega)
    rw [hin] at ci
    have HV : Hid (Row w v xs) := hv
    rcases hv with ⟨a, cap, rfl, rfl⟩ | ⟨b, o, cap, rfl, hb, h1, hc⟩
    · simp at h0
    have HC : Hid (∀ j, j < xs.length → w.cell? ⟨b, o + j, none⟩ = some (.int .i64 (xs.getD j 0))) := hc
    have HX : Hid (∀ x ∈ xs, -9223372036854775808 ≤ x ∧ x ≤ 9223372036854775807) := hx
    obtain ⟨h2, h3⟩ := h0
    have hcap : xs.length ≤ cap := hf
    clear hc hf hx hin
    go_enter Tryd.func87, Tryd.ntmps87
    go_wp2_with (go_at_call 68; refine (ci _).mono ?_; rintro e w1 ⟨rfl, hw⟩; obtain rfl : w = w1 := hw.symm)
    clear ci
    go_loopw [13] (fun i W => ∃ k : Nat, k ≤ xs.length ∧ i = .int .i64 k ∧ Hid (gb xs k = B) ∧ Hid (Old w W)) (fun i _ => xs.length - (intOf i).toNat)
    case atStart => exact ⟨0, by omega, rfl, HB, Old.refl _⟩
    case round =>
      obtain ⟨k, hk, rfl, H1, HG⟩ := hrel
      clear HB
      by_cases hlt : k < xs.length
      · have d1 : decide ((k : Int) < (xs.length : Int)) = true := by simp; omega
        have c1 : wr.cell? ⟨b, o + k, none⟩ = some (.int .i64 (xs.getD k 0)) := (HG.out.cell (p := ⟨b, o + k, none⟩) hb).trans (HC.out k hlt)
        have hkc : k ≤ cap := by omega
        have hxm : xs.getD k 0 ∈ xs := by simp [List.getD, hlt]
        have hxb := HX.out _ hxm
        have HAT : Hid (gbAt xs k = (pmB (xs.getD k 0) && !((xs.take k).contains (xs.getD k 0)))) := rfl
        have HPM : Hid (pmB (xs.getD k 0) = (modB (xs.getD k 0) && isP (xs.getD k 0).toNat)) := rfl
        have HHN : Hid ((∀ j, j < k → (xs.getD k 0 == xs.getD j 0) = false) → (xs.take k).contains (xs.getD k 0) = false) := fun h => has_none _ _ (fun j hj => by
          rw [List.length_take] at hj
          have e : (xs.take k).getD j 0 = xs.getD j 0 := by simp [List.getD, List.getElem?_take, show j < k by omega]
          rw [e]
          exact h j (by omega))
        have HHY : Hid (∀ j, j < k → (xs.getD k 0 == xs.getD j 0) = true → (xs.take k).contains (xs.getD k 0) = true) := fun j hj h => has_at _ _ j (by rw [List.length_take]; omega) (by
          have e : (xs.take k).getD j 0 = xs.getD j 0 := by simp [List.getD, List.getElem?_take, hj]
          rw [e]
          exact h)
        have cm := fun W => spec_modulus (xs.getD k 0) W
        cases hm : modB (xs.getD k 0)
        · have H3 : Hid (false = B) := by
            have := H1.out
            rw [gb_no hlt (by rw [HAT.out, HPM.out, hm]; rfl)] at this
            exact this
          rw [hm] at cm
          clear HAT HPM HHN HHY hm H1 hxm
          generalize xs.getD k 0 = x at *
          go_wp2_with (go_at_call 108; refine (cm _).mono ?_; rintro e w' ⟨rfl, rfl⟩)
          go_ret
          exact ⟨ret_bb H3.out, HG.out⟩
        · rw [hm] at cm
          obtain ⟨m1, m2⟩ := modB_yes hm
          have cp := fun W => spec_IsPrime (xs.getD k 0).toNat W (by omega)
          rw [Int.toNat_of_nonneg (by omega)] at cp
          cases hp : isP (xs.getD k 0).toNat
          · have H3 : Hid (false = B) := by
              have := H1.out
              rw [gb_no hlt (by rw [HAT.out, HPM.out, hm, hp]; rfl)] at this
              exact this
            rw [hp] at cp
            clear HAT HPM HHN HHY hm hp H1 hxm
            generalize xs.getD k 0 = x at *
            go_wp2_with (go_at_call 108; refine (cm _).mono ?_; rintro e w' ⟨rfl, rfl⟩)
            refine (cp _).mono ?_
            rintro e w2 ⟨rfl, g2⟩
            have HG2 : Hid (Old w w2) := Old.trans HG.out g2
            clear g2
            go_wp2_with fail
            go_ret
            exact ⟨ret_bb H3.out, HG2.out⟩
          · have HY : Hid ((xs.take k).contains (xs.getD k 0) = false → gb xs (k + 1) = B) := fun hct => by
              have := H1.out
              rw [gb_yes (by rw [HAT.out, HPM.out, hm, hp, hct]; rfl)] at this
              exact this
            have HN : Hid ((xs.take k).contains (xs.getD k 0) = true → false = B) := fun hct => by
              have := H1.out
              rw [gb_no hlt (by rw [HAT.out, HPM.out, hm, hp, hct]; rfl)] at this
              exact this
            rw [hp] at cp
            have HY2 : Hid ((∀ j, j < k → (xs.getD k 0 == xs.getD j 0) = false) → gb xs (k + 1) = B) := fun h => HY.out (HHN.out h)
            have HN2 : Hid (∀ j, j < k → (xs.getD k 0 == xs.getD j 0) = true → false = B) := fun j hj h => HN.out (HHY.out j hj h)
            clear HAT HPM HHN HHY HY HN hm hp H1 hxm
            generalize xs.getD k 0 = x at *
            go_wp2_with (go_at_call 108; refine (cm _).mono ?_; rintro e w' ⟨rfl, rfl⟩)
            refine (cp _).mono ?_
            rintro e w2 ⟨rfl, g2⟩
            have HG2 : Hid (Old w w2) := Old.trans HG.out g2
            clear g2 HG c1 cp cm d1
            go_wp2_with fail
            go_loopw [31] (fun i W => ∃ j : Nat, j ≤ k ∧ i = .int .i64 j ∧ Hid (∀ i, i < j → (x == xs.getD i 0) = false) ∧ Hid (Old w W)) (fun i _ => k - (intOf i).toNat)
            case atStart => exact ⟨0, by omega, rfl, fun j hj => by omega, HG2⟩
            case round =>
              obtain ⟨j, hj, rfl, H4, HG4⟩ := hrel
              by_cases hjk : j < k
              · have d2 : decide ((j : Int) < (k : Int)) = true := by simp; omega
                have c2 : wr.cell? ⟨b, o + j, none⟩ = some (.int .i64 (xs.getD j 0)) := (HG4.out.cell (p := ⟨b, o + j, none⟩) hb).trans (HC.out j (by omega))
                cases hq : (x == xs.getD j 0)
                · have H5 : Hid (∀ i, i < j + 1 → (x == xs.getD i 0) = false) := fun i hi => by
                    rcases Nat.lt_or_ge i j with h | h
                    · exact H4.out i h
                    · obtain rfl : i = j := by omega
                      exact hq
                  clear H4
                  generalize xs.getD j 0 = y at *
                  go_wp2_with fail
                  exact ⟨⟨j + 1, by omega, by go_num, H5, HG4⟩, by simp [intOf]; omega⟩
                · have H5 : Hid (false = B) := HN2.out j hjk hq
                  clear H4
                  generalize xs.getD j 0 = y at *
                  go_wp2_with fail
                  go_ret
                  exact ⟨ret_bb H5.out, HG4.out⟩
              · have d2 : decide ((j : Int) < (k : Int)) = false := by simp; omega
                have H5 : Hid (gb xs (k + 1) = B) := HY2.out (fun i hi => H4.out i (by omega))
                clear H4
                go_wp2_with fail
                exact ⟨⟨k + 1, by omega, by go_num, H5, HG4⟩, by simp [intOf]; omega⟩
      · have d1 : decide ((k : Int) < (xs.length : Int)) = false := by simp; omega
        have H3 : Hid (true = B) := by
          have := H1.out
          rw [gb_end (by omega)] at this
          exact this
        clear H1
        go_wp2_with fail
        go_ret
        exact ⟨ret_bb H3.out, HG.out⟩
  · have HB : Hid (false = basB xs) := by
      show _ = _
      unfold basB
      rw [decide_eq_false h0, Bool.false_and]
    generalize basB xs = B at *
    have hin : inB (xs.length : Int) 1 6 = false := decide_eq_false (by omega)
    rw [hin] at ci
    obtain ⟨a, cap, rfl⟩ := hv.slice
    clear hv hf h0 hin hx
    go_enter Tryd.func87, Tryd.ntmps87
    go_wp2_with (go_at_call 68; refine (ci _).mono ?_; rintro e w1 ⟨rfl, hw⟩; obtain rfl : w = w1 := hw.symm)
    go_ret
    exact ⟨ret_bb HB.out, Old.refl _⟩
end Go.Proofs.YtinldhoimnbkhaaDoor
