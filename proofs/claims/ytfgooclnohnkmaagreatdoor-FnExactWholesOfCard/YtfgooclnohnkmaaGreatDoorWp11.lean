/- Proved: several texts in one: what each proves is said ahead of it. -/
import Derived.Test.YtfgooclnohnkmaaGreatDoorWp00
import Derived.Test.YtfgooclnohnkmaaGreatDoorWp14
import Derived.Deep.RegionWith
import Derived.Test.YtfgooclnohnkmaaGreatDoorWp02
import Derived.RegionTactic
import Derived.ChangeAlike
import Derived.Deep.RegionLaw
import Derived.Deep.AppendLies
/- Proved: contracts of the model's functions on limbs: noughts struck, comparing, adding, taking away. -/
namespace Go.Proofs.YtfgooclnohnkmaaGreatDoor
open Go.ChangeShapes Go.WideShapes Go.ChangeAt Go.RowKit
open M2
set_option linter.unusedVariables false
set_option linter.unusedSimpArgs false
/-- limbs as the program's numbers -/
def toI (xs : List Nat) : List Int := xs.map (fun (n : Nat) => (n : Int))
theorem toI_len (xs : List Nat) : (toI xs).length = xs.length := by simp [toI]
theorem toI_get (xs : List Nat) (j : Nat) : (toI xs).getD j 0 = ((xs.getD j 0 : Nat) : Int) := by
  simp only [toI, List.getD, List.getElem?_map]
  cases xs[j]? <;> rfl
theorem toI_take (xs : List Nat) (k : Nat) : (toI xs).take k = toI (xs.take k) := by simp [toI]
theorem toI_append (xs ys : List Nat) : toI (xs ++ ys) = toI xs ++ toI ys := by simp [toI]
/-- where the limbs lie, if there are any -/
theorem Row.at {w : World} {a : Option Addr} {n cap : Nat} {xs : List Nat} (h : Row w (.slice a n cap) (toI xs)) (h0 : 0 < xs.length) :
    ∃ b o, a = some ⟨b, o, none⟩ ∧ b < w.heap.size ∧ ∀ j, j < xs.length → w.cell? ⟨b, o + j, none⟩ = some (.int .i64 ((xs.getD j 0 : Nat) : Int)) := by
  rcases h with ⟨a', cap', e, e2⟩ | ⟨b, o, cap', e, hb, _, hc⟩
  · have := congrArg List.length e2
    rw [toI_len, List.length_nil] at this
    omega
  · simp only [Value.slice.injEq] at e
    obtain ⟨rfl, _, _⟩ := e
    rw [toI_len] at hc
    exact ⟨b, o, rfl, hb, fun j hj => by rw [hc j hj, toI_get]⟩
theorem Row.sliceN {w : World} {v : Value} {xs : List Nat} (h : Row w v (toI xs)) : ∃ a cap, v = .slice a xs.length cap := by
  obtain ⟨a, cap, e⟩ := h.slice
  rw [toI_len] at e
  exact ⟨a, cap, e⟩
theorem nrm_take {xs : List Nat} (h : Lim xs) (k : Nat) (hk : k ≤ xs.length) (h0 : 0 < k → xs.getD (k - 1) 0 ≠ 0) : Nrm (xs.take k) := by
  refine ⟨h.take k, fun hne => ?_⟩
  have hk0 : 0 < k := by
    rcases Nat.eq_zero_or_pos k with e | e
    · subst e; simp at hne
    · exact e
  have := h0 hk0
  rw [List.getLast_eq_getElem]
  simp only [List.length_take, Nat.min_eq_left hk, List.getElem_take]
  simpa [List.getD, show k - 1 < xs.length by omega] using this
theorem beq0 (x : Nat) (h : x ≠ 0) : ((x : Int) == 0) = false := by simp; omega
theorem dlt_yes {a b : Int} (h : a < b) : decide (a < b) = true := by simp; omega
theorem dlt_no {a b : Int} (h : ¬ a < b) : decide (a < b) = false := by simp; omega
def sliceLen : Value → Nat
  | .slice _ k _ => k
  | _ => 0
set_option maxHeartbeats 1000000 in
theorem trim_any (xs : List Nat) (v : Value) (base : Nat) (w : World) (h : Own w base v (toI xs)) (hl : Lim xs) (hn : xs.length ≤ 1073741824) :
    Calls Tryz.prog 171 #[v] w fun e w' => ∃ v', e = .returned v' ∧ Old w w' ∧ Own w' base v' (toI (trim xs)) := by
  by_cases h0 : xs.length = 0
  · obtain rfl := List.length_eq_zero_iff.1 h0
    have HF : Hid (Own w base v (toI (trim []))) := by
      have : trim [] = [] := dig_zero
      rw [this]; exact h
    obtain ⟨a0, cap0, rfl⟩ := (Own.row h).slice
    rw [toI_len] at *
    clear h
    go_enter Tryz.func171, Tryz.ntmps171
    go_wp2_with fail
    refine wp_loop_rounds 1 ?_
    rw [rounds_succ]
    go_wp2_with fail
    go_ret
    exact ⟨_, rfl, Old.refl _, HF.out⟩
  · obtain ⟨g, cap, e⟩ : ∃ g cap, v = .slice (some ⟨g, 0, none⟩) xs.length cap := by
      rcases h.2 with ⟨_, h1⟩ | ⟨g, cap, cur, e, _⟩
      · rw [toI_len] at h1; exact absurd h1 h0
      · rw [toI_len] at e; exact ⟨g, cap, e⟩
    subst e
    have hcap : xs.length ≤ cap ∧ cap ≤ 9223372036854775807 := by
      rcases h.2 with ⟨h1, _⟩ | ⟨g', cap', cur, e, _, _, h1, h2, _⟩
      · simp at h1
      · simp only [Value.slice.injEq] at e
        obtain ⟨_, _, rfl⟩ := e
        rw [toI_len] at h1
        exact ⟨h1, h2⟩
    obtain ⟨hcap1, hcap2⟩ := hcap
    have HO : Hid (Own w base (.slice (some ⟨g, 0, none⟩) xs.length cap) (toI xs)) := h
    obtain ⟨b, o, e1, hb, hc⟩ := Row.at (Own.row h) (by omega)
    obtain ⟨rfl, rfl⟩ : b = g ∧ o = 0 := by cases e1; exact ⟨rfl, rfl⟩
    simp only [Nat.zero_add] at hc
    have HC : Hid (∀ j, j < xs.length → w.cell? ⟨b, j, none⟩ = some (.int .i64 ((xs.getD j 0 : Nat) : Int))) := hc
    clear h hc e1
    go_enter Tryz.func171, Tryz.ntmps171
    go_wp2_with fail
    go_loopw [0] (fun u W => ∃ k : Nat, k ≤ xs.length ∧ u = .slice (some ⟨b, 0, none⟩) k cap ∧ Hid (val (xs.take k) = val xs) ∧ Hid (Old w W)) (fun u _ => sliceLen u)
    case atStart => exact ⟨xs.length, Nat.le_refl _, rfl, by rw [List.take_length]; rfl, Old.refl _⟩
    case round =>
      obtain ⟨k, hk, rfl, HV, HG⟩ := hrel
      rcases Nat.eq_zero_or_pos k with hk0 | hk0
      · subst hk0
        have HF : Hid (Own wr base (.slice (some ⟨b, 0, none⟩) 0 cap) (toI (trim xs))) := by
          have e : trim xs = xs.take 0 := by
            unfold trim
            rw [← HV.out]
            exact dig_val (nrm_take hl 0 (by omega) (fun h => absurd h (by omega)))
          rw [e, ← toI_take]
          exact Own.take (by rw [toI_len]; exact HO.out.old HG.out) 0 (by omega)
        clear HO
        go_wp2_with fail
        go_ret
        exact ⟨_, rfl, HG.out, HF.out⟩
      · obtain ⟨m, rfl⟩ : ∃ m, k = m + 1 := ⟨k - 1, by omega⟩
        have c1 : wr.cell? ⟨b, m, none⟩ = some (.int .i64 ((xs.getD m 0 : Nat) : Int)) := (HG.out.cell (p := ⟨b, m, none⟩) hb).trans (HC.out m (by omega))
        have d0 : decide ((0 : Int) < ((m + 1 : Nat) : Int)) = true := by simp <;> omega
        by_cases hx : xs.getD m 0 = 0
        · have HV2 : Hid (val (xs.take m) = val xs) := by
            have := HV.out
            rw [val_take_succ, hx, Nat.mul_zero, Nat.add_zero] at this
            exact this
          rw [hx] at c1
          clear HV hx
          go_wp2_with fail
          exact ⟨⟨m, by omega, rfl, HV2, HG⟩, by simp [sliceLen]⟩
        · have HF : Hid (Own wr base (.slice (some ⟨b, 0, none⟩) (m + 1) cap) (toI (trim xs))) := by
            have e : trim xs = xs.take (m + 1) := by
              unfold trim
              rw [← HV.out]
              exact dig_val (nrm_take hl (m + 1) hk (fun _ => hx))
            rw [e, ← toI_take]
            exact Own.take (by rw [toI_len]; exact HO.out.old HG.out) (m + 1) (by rw [toI_len]; exact hk)
          have d1 := beq0 _ hx
          generalize xs.getD m 0 = x at *
          clear HO
          go_wp2_with fail
          go_ret
          exact ⟨_, rfl, HG.out, HF.out⟩
set_option maxHeartbeats 1000000 in
theorem cmp_any (xs ys : List Nat) (v u : Value) (w : World) (hv : Row w v (toI xs)) (hu : Row w u (toI ys)) (ha : Nrm xs) (hb : Nrm ys) (la : xs.length ≤ 1073741824) (lb : ys.length ≤ 1073741824) :
    Calls Tryz.prog 149 #[v, u] w fun e w' => e = .returned (.int .i64 (cmpN (val xs) (val ys))) ∧ Old w w' := by
  have HV : Hid (Row w v (toI xs)) := hv
  have HU : Hid (Row w u (toI ys)) := hu
  obtain ⟨a0, cap0, rfl⟩ := hv.sliceN
  obtain ⟨a1, cap1, rfl⟩ := hu.sliceN
  clear hv hu
  by_cases hlen : xs.length = ys.length
  · have d1 : ((xs.length : Int) != (ys.length : Int)) = false := by simp; omega
    have HL : Hid (xs.length = ys.length) := hlen
    clear hlen
    go_enter Tryz.func149, Tryz.ntmps149
    go_wp2_with fail
    go_loopw [5] (fun i W => ∃ k : Nat, k ≤ xs.length ∧ i = .int .i64 ((k : Int) - 1) ∧ Hid (xs.drop k = ys.drop k) ∧ Hid (Old w W)) (fun i _ => (intOf i + 1).toNat)
    case atStart => exact ⟨xs.length, Nat.le_refl _, rfl, (by show xs.drop xs.length = ys.drop xs.length; rw [List.drop_length, HL.out, List.drop_length]), Old.refl _⟩
    case round =>
      obtain ⟨k, hk, rfl, HD, HG⟩ := hrel
      rcases Nat.eq_zero_or_pos k with hk0 | hk0
      · subst hk0
        have e : cmpN (val xs) (val ys) = 0 := by
          have : xs = ys := by simpa using HD.out
          rw [this]
          unfold cmpN
          rw [if_neg (by omega), if_neg (by omega)]
        have HE : Hid (cmpN (val xs) (val ys) = 0) := e
        clear e
        go_wp2_with fail
        go_ret
        exact ⟨congrArg (fun z => Ending.returned (.int .i64 z)) HE.out.symm, HG.out⟩
      · obtain ⟨m, rfl⟩ : ∃ m, k = m + 1 := ⟨k - 1, by omega⟩
        obtain ⟨b, o, rfl, hb1, hc1⟩ := Row.at (HV.out.old HG.out) (by omega)
        obtain ⟨b', o', rfl, hb2, hc2⟩ := Row.at (HU.out.old HG.out) (by have := HL.out; omega)
        have c1 := hc1 m (by omega)
        have c2 := hc2 m (by have := HL.out; omega)
        clear hc1 hc2
        have d0 : decide ((0 : Int) ≤ (m : Int)) = true := by simp
        have hm : m < ys.length := by have := HL.out; omega
        have em : ((m + 1 : Nat) : Int) - 1 = (m : Int) := by omega
        have LTa := cmp_at (i := m) ha.1 (by omega) HL.out HD.out
        have LTb := cmp_at (i := m) hb.1 hm HL.out.symm HD.out.symm
        have EQ := drop_step (i := m) (by omega) HL.out HD.out
        have HA : Hid (xs.getD m 0 < ys.getD m 0 → val xs < val ys) := LTa
        have HB : Hid (ys.getD m 0 < xs.getD m 0 → val ys < val xs) := LTb
        have HE : Hid (xs.getD m 0 = ys.getD m 0 → xs.drop m = ys.drop m) := EQ
        clear LTa LTb EQ HD
        generalize xs.getD m 0 = x at *
        generalize ys.getD m 0 = y at *
        rw [em]
        clear em
        rcases Nat.lt_trichotomy x y with hxy | hxy | hxy
        · have d1 : decide (x < y) = true := by simp; omega
          have HE2 : Hid (cmpN (val xs) (val ys) = -1) := by have := HA.out hxy; unfold cmpN; rw [if_pos this]; rfl
          clear hxy
          go_wp2_with fail
          go_quiet (fail)
          go_wp2_with fail
          go_ret
          exact ⟨congrArg (fun z => Ending.returned (.int .i64 z)) HE2.out.symm, HG.out.drewN _⟩
        · subst hxy
          have HE3 : Hid (xs.drop m = ys.drop m) := HE.out rfl
          clear HE HA HB
          go_wp2_with fail
          go_quiet (fail)
          go_wp2_with fail
          go_quiet (fail)
          go_wp2_with fail
          exact ⟨⟨m, by omega, rfl, HE3, HG.out.drewN _⟩, by simp [intOf]⟩
        · have d1 : decide (x < y) = false := by simp; omega
          have d2 : decide (y < x) = true := by simp; omega
          have HE2 : Hid (cmpN (val xs) (val ys) = 1) := by have := HB.out hxy; unfold cmpN; rw [if_neg (by omega), if_pos this]; rfl
          clear hxy
          go_wp2_with fail
          go_quiet (fail)
          go_wp2_with fail
          go_quiet (fail)
          go_wp2_with fail
          go_ret
          exact ⟨congrArg (fun z => Ending.returned (.int .i64 z)) HE2.out.symm, (HG.out.drewN _).drewN _⟩
  · have d1 : ((xs.length : Int) != (ys.length : Int)) = true := by simp; omega
    by_cases hlt : xs.length < ys.length
    · have d2 : decide ((xs.length : Int) < (ys.length : Int)) = true := dlt_yes (by omega)
      have e : cmpN (val xs) (val ys) = -1 := by unfold cmpN; rw [if_pos (cmp_short ha hb hlt)]
      rw [e]
      go_enter Tryz.func149, Tryz.ntmps149
      go_wp2_with fail
      go_ret
      exact ⟨rfl, Old.refl _⟩
    · have d2 : decide ((xs.length : Int) < (ys.length : Int)) = false := dlt_no (by omega)
      have e : cmpN (val xs) (val ys) = 1 := by
        have := cmp_short hb ha (by omega)
        unfold cmpN; rw [if_neg (by omega), if_pos this]
      rw [e]
      go_enter Tryz.func149, Tryz.ntmps149
      go_wp2_with fail
      go_ret
      exact ⟨rfl, Old.refl _⟩
end Go.Proofs.YtfgooclnohnkmaaGreatDoor
/- Proved: contracts of the statements' own helpers over whole numbers: sizes, copies, comparisons, marks. -/
namespace Go.Proofs.YtfgooclnohnkmaaGreatDoor
open Go.ChangeShapes Go.WideShapes Go.ChangeAt Go.RowKit
set_option linter.unusedVariables false
set_option linter.unusedSimpArgs false
theorem szInts_any (a : Option Addr) (len cap : Nat) (left : Int) (w : World) (hl : len ≤ 9223372036854775807) (h0 : 0 ≤ left) (h1 : left ≤ 1048576) :
    Calls Tryz.prog 81 #[.slice a len cap, .int .i64 left] w fun e w' => e = .returned (.int .i64 (if left < (len : Int) then -1 else left - len)) ∧ w' = w := by
  by_cases h : left < (len : Int)
  · have d : decide (left - (len : Int) < 0) = true := by simp; omega
    rw [if_pos h]
    go_enter Tryz.func81, Tryz.ntmps81
    go_wp2_with fail
    go_ret
    exact ⟨rfl, rfl⟩
  · have d : decide (left - (len : Int) < 0) = false := by simp; omega
    rw [if_neg h]
    go_enter Tryz.func81, Tryz.ntmps81
    go_wp2_with fail
    go_ret
    exact ⟨rfl, rfl⟩
set_option maxHeartbeats 1000000 in
theorem eqWhole_yes (neg : Bool) (xs : List Int) (v u : Value) (w : World) (h : Row w v xs) (k : Row w u xs) (hl : xs.length ≤ 1073741824) :
    Calls Tryz.prog 43 #[.agg #[.bool neg, v], .agg #[.bool neg, u]] w fun e w' => e = .returned (.bool true) ∧ Old w w' := by
  have HR : Hid (Row w v xs) := h
  have HK : Hid (Row w u xs) := k
  obtain ⟨a0, cap0, rfl⟩ := h.slice
  obtain ⟨a1, cap1, rfl⟩ := k.slice
  clear h k
  have dn : (neg != neg) = false := by simp
  go_enter Tryz.func43, Tryz.ntmps43
  go_wp2_with fail
  refine (eqInts_yes xs _ _ _ (HR.out.old (((Old.refl w).alloc _).alloc _)) (HK.out.old (((Old.refl w).alloc _).alloc _)) hl).mono ?_
  rintro e w1 ⟨rfl, g1⟩
  have HG : Hid (Old w w1) := Old.trans (((Old.refl w).alloc _).alloc _) g1
  clear g1
  go_wp2_with fail
  go_ret
  exact ⟨rfl, HG.out⟩
end Go.Proofs.YtfgooclnohnkmaaGreatDoor
/- Proved: the walk of the statement on GoodWhole, under the contract of the program's own function. -/
namespace Go.Proofs.YtfgooclnohnkmaaGreatDoor
open Go.ChangeShapes Go.WideShapes Go.ChangeAt Go.RowKit
open M2
set_option linter.unusedVariables false
set_option linter.unusedSimpArgs false
/-- a struct of two cells in a block of its own -/
abbrev StW (w : World) (k : Nat) (x y : Value) (t : TypeId) : Prop := w.heap[k]? = some (.cells #[x, y] t (0, 0))
theorem StW.c0 {w : World} {k : Nat} {x y : Value} {t : TypeId} (h : StW w k x y t) : w.cell? ⟨k, 0, none⟩ = some x := cell_of_row w k 0 _ t (0, 0) h
theorem StW.c1 {w : World} {k : Nat} {x y : Value} {t : TypeId} (h : StW w k x y t) : w.cell? ⟨k, 1, none⟩ = some y := cell_of_row w k 1 _ t (0, 0) h
theorem StW.f0 {w : World} {k : Nat} {x y : Value} {t : TypeId} (h : StW w k x y t) : w.frozen? ⟨k, 0, none⟩ = false := frozen_of_row w k 0 _ t h
theorem StW.f1 {w : World} {k : Nat} {x y : Value} {t : TypeId} (h : StW w k x y t) : w.frozen? ⟨k, 1, none⟩ = false := frozen_of_row w k 1 _ t h
theorem StW.lt {w : World} {k : Nat} {x y : Value} {t : TypeId} (h : StW w k x y t) : k < w.heap.size := (Array.getElem?_eq_some_iff.1 h).1
theorem StW.old {w w' : World} {k : Nat} {x y : Value} {t : TypeId} (h : StW w k x y t) (g : Old w w') : StW w' k x y t := (g.block k h.lt).trans h
theorem StW.new (w : World) (x y : Value) (t : TypeId) : StW (w.alloc (.cells #[x, y] t)) w.heap.size x y t := heap_alloc_new w _
end Go.Proofs.YtfgooclnohnkmaaGreatDoor
/- Proved: structs of two cells under writes into other blocks; no function of the program. -/
namespace Go.Proofs.YtfgooclnohnkmaaGreatDoor
open Go.ChangeShapes Go.WideShapes Go.ChangeAt Go.RowKit
set_option linter.unusedVariables false
set_option linter.unusedSimpArgs false
theorem StW.at1 (w : World) (x y x' y' : Value) (t t' : TypeId) : StW ((w.alloc (.cells #[x, y] t)).alloc (.cells #[x', y'] t')) w.heap.size x y t := heap_alloc2_old w _ _
/-- since w0 a struct has been made in block k that tells a sign and limbs, which lie in a row that is new as well -/
structure Made (w0 : World) (rb : Bool) (rl : List Nat) (W : World) (k : Nat) (a : Option Addr) (cap : Nat) : Prop where
  old : Old w0 W
  st : StW W k (.bool rb) (.slice a (toI rl).length cap) 27
  own : Own W w0.heap.size (.slice a (toI rl).length cap) (toI rl)
  lo : w0.heap.size ≤ k
theorem two_made {w0 w5 : World} {rb : Bool} {rl : List Nat} {a : Option Addr} {cap base k : Nat} (g : Old w0 w5) (o : Own w5 base (.slice a (toI rl).length cap) (toI rl)) (s : StW w5 k (.bool false) (.slice none 0 0) 27) (hb : w0.heap.size ≤ base) (hk : w0.heap.size ≤ k) (hne : k < base) :
    Made w0 rb rl ((w5.setCell ⟨k, 0, none⟩ (.bool rb)).setCell ⟨k, 1, none⟩ (.slice a (toI rl).length cap)) k a cap := by
  refine ⟨(g.own (p := ⟨k, 0, none⟩) hk _).own (p := ⟨k, 1, none⟩) hk _, ?_, ?_, hk⟩
  · have h1 := heap_setCell_same w5 k 0 _ _ (.bool rb) s
    have h2 := heap_setCell_same _ k 1 _ _ (.slice a (toI rl).length cap) h1
    exact h2
  · refine Own.low (base := base) (ownsRow_setCell_other (ownsRow_setCell_other o (fun e => ?_) _) (fun e => ?_) _) hb
    · have := (o.lt k e).1; omega
    · have := (o.lt k e).1; omega
end Go.Proofs.YtfgooclnohnkmaaGreatDoor
/- Proved: whether a list is a polynomial of a ring, of the program and of the model. -/
namespace Go.Proofs.YtfgooclnohnkmaaGreatDoor
open Go.ChangeShapes Go.WideShapes Go.ChangeAt Go.RowKit
set_option linter.unusedVariables false
/-- as many numbers as the ring asks for, each below its prime -/
def polyB (p n : Int) (xs : List Int) : Bool := decide ((xs.length : Int) = n) && xs.all (fun x => resB x p)
theorem in_res (x p : Int) : inB x 0 (p - 1) = resB x p := by
  rw [Bool.eq_iff_iff]
  simp [inB, resB]
  omega
theorem spec_res (x p : Int) (w : World) : Calls Tryz.prog 121 #[.int .i64 x, .int .i64 0, .int .i64 (p - 1)] w fun e w' => e = .returned (.bool (resB x p)) ∧ w' = w := by
  rw [← in_res]
  exact spec_in x 0 (p - 1) w
set_option maxHeartbeats 1000000 in
theorem impl_poly (p n r : Int) (xs : List Int) (v : Value) (w : World) (hv : Row w v xs) (hl : xs.length ≤ 9223372036854775807) (hp : 2 ≤ p ∧ p ≤ 268435456) :
    Calls Tryz.prog 161 #[.agg #[.int .i64 p, .int .i64 n, .int .i64 r], v] w fun e w' => e = .returned (.bool (polyB p n xs)) ∧ Old w w' := by
  by_cases hn : (xs.length : Int) = n
  · have HB : Hid ((xs.drop 0).all (fun x => resB x p) = polyB p n xs) := by
      show _ = _
      simp [polyB, hn]
    generalize polyB p n xs = B at *
    have dn : ((xs.length : Int) != n) = false := by simp [hn]
    clear hn
    rcases hv with ⟨a, cap, rfl, rfl⟩ | ⟨b, o, cap, rfl, hb, h0, hc⟩
    · have HB2 : Hid (true = B) := HB.out
      have dn0 : ((0 : Int) != n) = false := by simpa using dn
      clear HB
      go_enter Tryz.func161, Tryz.ntmps161
      go_wp2_with fail
      refine wp_loop_rounds 1 ?_
      rw [rounds_succ]
      go_wp2_with fail
      go_ret
      exact ⟨by rw [← HB2.out]; rfl, (Old.refl _).alloc _⟩
    · have HC : Hid (∀ j, j < xs.length → w.cell? ⟨b, o + j, none⟩ = some (.int .i64 (xs.getD j 0))) := hc
      clear hc
      have RC0 : Hid (Rc (w.alloc (.cells #[.int .i64 p, .int .i64 n, .int .i64 r] 151)) w.heap.size p n r) := Rc.new w p n r
      go_enter Tryz.func161, Tryz.ntmps161
      go_wp2_with fail
      go_loopw [6, 14] (fun x i W => ∃ k : Nat, k ≤ xs.length ∧ i = .int .i64 k ∧ Hid ((xs.drop k).all (fun x => resB x p) = B) ∧ Hid (Old (w.alloc (.cells #[.int .i64 p, .int .i64 n, .int .i64 r] 151)) W)) (fun _ i _ => xs.length - (intOf i).toNat)
      case atStart => exact ⟨0, by omega, rfl, HB, Old.refl _⟩
      case round =>
        obtain ⟨k, hk, rfl, H1, HG⟩ := hrel
        clear HB
        have z0 := (RC0.out.old HG.out).c0
        have HW : Hid (Old w wr) := Old.trans ((Old.refl w).alloc _) HG.out
        by_cases hlt : k < xs.length
        · have d1 : decide ((k : Int) < (xs.length : Int)) = true := by simp; omega
          have c1 : wr.cell? ⟨b, o + k, none⟩ = some (.int .i64 (xs.getD k 0)) := (HW.out.cell (p := ⟨b, o + k, none⟩) hb).trans (HC.out k hlt)
          have H2 : Hid ((resB (xs.getD k 0) p && (xs.drop (k + 1)).all (fun x => resB x p)) = B) := by
            have := H1.out
            rw [List.drop_eq_getElem_cons hlt, List.all_cons] at this
            have e : xs.getD k 0 = xs[k] := by simp [List.getD, hlt]
            rw [e]
            exact this
          clear H1
          generalize xs.getD k 0 = x at *
          have c := fun W => residue_any x p W
          cases hx : resB x p
          · rw [hx] at c
            have H3 : Hid (false = B) := by have := H2.out; rw [hx] at this; exact this
            clear H2 hx
            go_wp2_with fail
            refine (c _).mono ?_
            rintro e w2 ⟨rfl, rfl⟩
            go_wp2_with fail
            go_ret
            exact ⟨by rw [← H3.out]; rfl, HW.out⟩
          · rw [hx] at c
            have H3 : Hid ((xs.drop (k + 1)).all (fun x => resB x p) = B) := by have := H2.out; rw [hx, Bool.true_and] at this; exact this
            clear H2 hx
            go_wp2_with fail
            refine (c _).mono ?_
            rintro e w2 ⟨rfl, rfl⟩
            go_wp2_with fail
            exact ⟨⟨k + 1, by omega, by go_num, H3, HG⟩, by simp [intOf]; omega⟩
        · have d1 : decide ((k : Int) < (xs.length : Int)) = false := by simp; omega
          have H3 : Hid (true = B) := by
            have := H1.out
            rw [List.drop_eq_nil_of_le (by omega)] at this
            exact this
          clear H1
          go_wp2_with fail
          go_ret
          exact ⟨by rw [← H3.out]; rfl, HW.out⟩
  · have HB : Hid (false = polyB p n xs) := by
      show _ = _
      simp [polyB, hn]
    generalize polyB p n xs = B at *
    have dn : ((xs.length : Int) != n) = true := by simp [hn]
    obtain ⟨a, cap, rfl⟩ := hv.slice
    clear hn hv
    go_enter Tryz.func161, Tryz.ntmps161
    go_wp2_with fail
    go_ret
    exact ⟨by rw [← HB.out]; rfl, (Old.refl _).alloc _⟩
set_option maxHeartbeats 1000000 in
theorem spec_poly (p n r : Int) (xs : List Int) (v : Value) (w : World) (hv : Row w v xs) (hl : xs.length ≤ 9223372036854775807) (hp : 2 ≤ p ∧ p ≤ 268435456) :
    Calls Tryz.prog 184 #[.agg #[.int .i64 p, .int .i64 n, .int .i64 r], v] w fun e w' => e = .returned (.bool (polyB p n xs)) ∧ Old w w' := by
  by_cases hn : (xs.length : Int) = n
  · have HB : Hid ((xs.drop 0).all (fun x => resB x p) = polyB p n xs) := by
      show _ = _
      simp [polyB, hn]
    generalize polyB p n xs = B at *
    have dn : ((xs.length : Int) != n) = false := by simp [hn]
    clear hn
    rcases hv with ⟨a, cap, rfl, rfl⟩ | ⟨b, o, cap, rfl, hb, h0, hc⟩
    · have HB2 : Hid (true = B) := HB.out
      have dn0 : ((0 : Int) != n) = false := by simpa using dn
      clear HB
      go_enter Tryz.func184, Tryz.ntmps184
      go_wp2_with fail
      refine wp_loop_rounds 1 ?_
      rw [rounds_succ]
      go_wp2_with fail
      go_ret
      exact ⟨by rw [← HB2.out]; rfl, (Old.refl _).alloc _⟩
    · have HC : Hid (∀ j, j < xs.length → w.cell? ⟨b, o + j, none⟩ = some (.int .i64 (xs.getD j 0))) := hc
      clear hc
      have RC0 : Hid (Rc (w.alloc (.cells #[.int .i64 p, .int .i64 n, .int .i64 r] 151)) w.heap.size p n r) := Rc.new w p n r
      go_enter Tryz.func184, Tryz.ntmps184
      go_wp2_with fail
      go_loopw [6, 14] (fun x i W => ∃ k : Nat, k ≤ xs.length ∧ i = .int .i64 k ∧ Hid ((xs.drop k).all (fun x => resB x p) = B) ∧ Hid (Old (w.alloc (.cells #[.int .i64 p, .int .i64 n, .int .i64 r] 151)) W)) (fun _ i _ => xs.length - (intOf i).toNat)
      case atStart => exact ⟨0, by omega, rfl, HB, Old.refl _⟩
      case round =>
        obtain ⟨k, hk, rfl, H1, HG⟩ := hrel
        clear HB
        have z0 := (RC0.out.old HG.out).c0
        have HW : Hid (Old w wr) := Old.trans ((Old.refl w).alloc _) HG.out
        by_cases hlt : k < xs.length
        · have d1 : decide ((k : Int) < (xs.length : Int)) = true := by simp; omega
          have c1 : wr.cell? ⟨b, o + k, none⟩ = some (.int .i64 (xs.getD k 0)) := (HW.out.cell (p := ⟨b, o + k, none⟩) hb).trans (HC.out k hlt)
          have H2 : Hid ((resB (xs.getD k 0) p && (xs.drop (k + 1)).all (fun x => resB x p)) = B) := by
            have := H1.out
            rw [List.drop_eq_getElem_cons hlt, List.all_cons] at this
            have e : xs.getD k 0 = xs[k] := by simp [List.getD, hlt]
            rw [e]
            exact this
          clear H1
          generalize xs.getD k 0 = x at *
          have c := fun W => spec_res x p W
          cases hx : resB x p
          · rw [hx] at c
            have H3 : Hid (false = B) := by have := H2.out; rw [hx] at this; exact this
            clear H2 hx
            go_wp2_with fail
            refine (c _).mono ?_
            rintro e w2 ⟨rfl, rfl⟩
            go_wp2_with fail
            go_ret
            exact ⟨by rw [← H3.out]; rfl, HW.out⟩
          · rw [hx] at c
            have H3 : Hid ((xs.drop (k + 1)).all (fun x => resB x p) = B) := by have := H2.out; rw [hx, Bool.true_and] at this; exact this
            clear H2 hx
            go_wp2_with fail
            refine (c _).mono ?_
            rintro e w2 ⟨rfl, rfl⟩
            go_wp2_with fail
            exact ⟨⟨k + 1, by omega, by go_num, H3, HG⟩, by simp [intOf]; omega⟩
        · have d1 : decide ((k : Int) < (xs.length : Int)) = false := by simp; omega
          have H3 : Hid (true = B) := by
            have := H1.out
            rw [List.drop_eq_nil_of_le (by omega)] at this
            exact this
          clear H1
          go_wp2_with fail
          go_ret
          exact ⟨by rw [← H3.out]; rfl, HW.out⟩
  · have HB : Hid (false = polyB p n xs) := by
      show _ = _
      simp [polyB, hn]
    generalize polyB p n xs = B at *
    have dn : ((xs.length : Int) != n) = true := by simp [hn]
    obtain ⟨a, cap, rfl⟩ := hv.slice
    clear hn hv
    go_enter Tryz.func184, Tryz.ntmps184
    go_wp2_with fail
    go_ret
    exact ⟨by rw [← HB.out]; rfl, (Old.refl _).alloc _⟩
/-- a list of numbers below the prime -/
abbrev toZ (ys : List Nat) : List Int := ys.map (fun (n : Nat) => (n : Int))
theorem polyB_yes {P N : Nat} {xs : List Int} (h : polyB P N xs = true) : ∃ ys : List Nat, xs = toZ ys ∧ ys.length = N ∧ ∀ y ∈ ys, y < P := by
  simp only [polyB, Bool.and_eq_true, decide_eq_true_eq, List.all_eq_true, resB] at h
  obtain ⟨h1, h2⟩ := h
  refine ⟨xs.map Int.toNat, ?_, by simp; omega, fun y hy => ?_⟩
  · rw [toZ, List.map_map]
    refine (List.map_id xs).symm.trans (List.map_congr_left fun x hx => ?_)
    have := h2 x hx
    simp
    omega
  · obtain ⟨x, hx, rfl⟩ := List.mem_map.1 hy
    have := h2 x hx
    omega
end Go.Proofs.YtfgooclnohnkmaaGreatDoor
/- Proved: the doors of the functions on rings: none where the ring, a list or a turn is not as said; what the function within answers otherwise. -/
namespace Go.Proofs.YtfgooclnohnkmaaGreatDoor
open Go.ChangeShapes Go.WideShapes Go.ChangeAt Go.RowKit
set_option linter.unusedVariables false
theorem own_nil (w : World) (base : Nat) : Own w base (.slice none 0 0) [] := ⟨rfl, Or.inl ⟨rfl, rfl⟩⟩
end Go.Proofs.YtfgooclnohnkmaaGreatDoor
/- Proved: rows of the call's own that are filled one by one, rows of numbers read, rows appended to. -/
namespace Go.Proofs.YtfgooclnohnkmaaGreatDoor
open Go.ChangeShapes Go.WideShapes Go.ChangeAt Go.RowKit
set_option linter.unusedVariables false
theorem toZ_len (xs : List Nat) : (toZ xs).length = xs.length := by simp
theorem toZ_get (xs : List Nat) (j : Nat) : (toZ xs).getD j 0 = ((xs.getD j 0 : Nat) : Int) := by
  simp [List.getD, List.getElem?_map]
  cases xs[j]? <;> rfl
theorem Row.atZ {w : World} {v : Value} {xs : List Nat} (h : Row w v (toZ xs)) (h0 : 0 < xs.length) :
    ∃ b o cap, v = .slice (some ⟨b, o, none⟩) xs.length cap ∧ b < w.heap.size ∧ ∀ j, j < xs.length → w.cell? ⟨b, o + j, none⟩ = some (.int .i64 ((xs.getD j 0 : Nat) : Int)) := by
  rcases h with ⟨a, cap, e, e2⟩ | ⟨b, o, cap, e, hb, h1, hc⟩
  · have := congrArg List.length e2
    simp at this
    rw [this] at h0
    cases h0
  · rw [toZ_len] at e hc
    exact ⟨b, o, cap, e, hb, fun j hj => by rw [hc j hj, toZ_get]⟩
/-- a row of n numbers of the call's own, at its head -/
abbrev OwnI (w : World) (base g n : Nat) (xs : List Int) : Prop := w.ownsRow base 3 1 (.slice (some ⟨g, 0, none⟩) n n) n (xs.map (Value.int .i64))
theorem OwnI.get {w : World} {base g n : Nat} {xs : List Int} (h : OwnI w base g n xs) (hn : xs.length = n) (j : Nat) (hj : j < n) : w.cell? ⟨g, j, none⟩ = some (.int .i64 (xs.getD j 0)) := by
  rw [World.ownsRow.cellAt h j (by omega)]
  have : j < xs.length := by omega
  simp [List.getD, this]
theorem OwnI.free {w : World} {base g n : Nat} {xs : List Int} (h : OwnI w base g n xs) (j : Nat) : w.frozen? ⟨g, j, none⟩ = false := World.ownsRow.frozenAt h j
theorem OwnI.put {w : World} {base g n : Nat} {xs : List Int} (h : OwnI w base g n xs) (j : Nat) (y : Int) : OwnI (w.setCell ⟨g, j, none⟩ (.int .i64 y)) base g n (xs.set j y) := by
  have := (World.ownsRow.stored h j (.int .i64 y)).1
  unfold OwnI
  rw [List.map_set]
  exact this
theorem OwnI.own {w : World} {base g n : Nat} {xs : List Int} (h : OwnI w base g n xs) (hn : xs.length = n) : Own w base (.slice (some ⟨g, 0, none⟩) n n) xs := by
  unfold Own
  rw [hn]
  exact h
theorem OwnI.drewN {w : World} {base g n : Nat} {xs : List Int} (h : OwnI w base g n xs) (k : Nat) : OwnI (w.drewN k) base g n xs := h
theorem OwnI.old {w w' : World} {base g n : Nat} {xs : List Int} (h : OwnI w base g n xs) (hg : Old w w') : OwnI w' base g n xs := by
  refine ⟨h.1, ?_⟩
  rcases h.2 with hn | ⟨p, cap, cur, e, hb, hgg, rest⟩
  · exact .inl hn
  · refine .inr ⟨p, cap, cur, e, hb, ?_, rest⟩
    rw [hg.block p (Array.getElem?_eq_some_iff.1 hgg).1]
    exact hgg
theorem OwnI.new (w w1 : World) (n : Nat) (h : w1.ownsRow w.heap.size 3 1 (.slice (some ⟨w.heap.size, 0, none⟩) n n) n (madeCells (Value.int .i64 0).cells (n * 1)).toList) : OwnI w1 w.heap.size w.heap.size n (List.replicate n 0) := by
  rw [made_ints] at h
  exact h
theorem mul_lt28 (x y P : Nat) (hx : x < P) (hy : y < P) (hP : P ≤ 268435456) : x * y ≤ 72057594037927936 := by
  have := Nat.mul_le_mul (Nat.le_of_lt hx) (Nat.le_of_lt hy)
  have := Nat.mul_le_mul hP hP
  omega
theorem getD_lt {P : Nat} {xs : List Nat} (h : ∀ x ∈ xs, x < P) (hP : 0 < P) (j : Nat) : xs.getD j 0 < P := by
  by_cases hj : j < xs.length
  · have e : xs.getD j 0 = xs[j] := by simp [List.getD, hj]
    rw [e]
    exact h _ (List.getElem_mem hj)
  · have e : xs.getD j 0 = 0 := by simp [List.getD, List.getElem?_eq_none (show xs.length ≤ j by omega)]
    rw [e]
    exact hP
theorem one_cell (w : World) (x : Value) (t : TypeId) : ∀ j u, [x][j]? = some u → (w.alloc (.cells #[x] t)).cell? ((⟨w.heap.size, 0, none⟩ : Addr).add j) = some u := by
  intro j u h
  match j, h with
  | 0, h =>
    have : x = u := by simpa using h
    subst this
    exact cell_at w _ _ _ _ rfl
  | j + 1, h => simp at h
theorem one_one (x : Int) : ∀ u ∈ [Value.int .i64 x], u.oneCell' = true := by simp [Value.oneCell']
theorem Own.snoc {w : World} {base : Nat} {v : Value} {xs : List Int} {y : Int} (h : w.ownsRow base 3 1 v (xs.length + 1) (xs.map (Value.int .i64) ++ [.int .i64 y])) : Own w base v (xs ++ [y]) := by
  unfold Own
  rw [List.length_append, List.map_append]
  exact h
theorem Own.alloc {w : World} {base : Nat} {v : Value} {xs : List Int} (h : Own w base v xs) (o : Obj) : Own (w.alloc o) base v xs := h.old ((Old.refl _).alloc _)
end Go.Proofs.YtfgooclnohnkmaaGreatDoor
