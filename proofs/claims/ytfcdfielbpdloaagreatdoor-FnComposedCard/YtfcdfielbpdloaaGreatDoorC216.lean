/- Proved: several texts in one: what each proves is said ahead of it. -/
import Derived.Test.YtfcdfielbpdloaaGreatDoorRows
import Derived.WalkKit
import Derived.ProofKit
import Derived.OpenShut
import Derived.Handy
import Derived.WalkSmall
import Derived.WalkLawsBesides
import Derived.Test.YtfcdfielbpdloaaGreatDoorC202
import Derived.Test.YtfcdfielbpdloaaGreatDoorBoth
import Derived.Test.YtfcdfielbpdloaaGreatDoorC200
import Derived.Test.YtfcdfielbpdloaaGreatDoorC211
/- Proved: contracts of RootOf, of the program and of the model: both answer one and the same least root, 0 and no where there is none. -/
namespace Go.Proofs.YtfcdfielbpdloaaGreatDoor
open Go.ChangeShapes Go.WideShapes Go.ChangeAt Go.RowKit
open M1
set_option linter.unusedVariables false
def inB (x lo hi : Int) : Bool := decide (lo ≤ x ∧ x ≤ hi)
theorem inB_out {x lo hi : Int} (h : inB x lo hi = true) : lo ≤ x ∧ x ≤ hi := by simpa [inB] using h
theorem inB_not {x lo hi : Int} (h : inB x lo hi = false) : x < lo ∨ (lo ≤ x ∧ hi < x) := by simp [inB] at h; omega
theorem spec_in (x lo hi : Int) (w : World) :
    Calls Tryz.prog 58 #[.int .i64 x, .int .i64 lo, .int .i64 hi] w fun e w' => e = .returned (.bool (inB x lo hi)) ∧ w' = w := by
  cases h : inB x lo hi
  · rcases inB_not h with h1 | ⟨h1, h2⟩
    · clear h
      have d : decide (lo ≤ x) = false := by simp; omega
      go_enter Tryz.func58, Tryz.ntmps58
      go_wp2
      go_ret
      exact ⟨rfl, rfl⟩
    · clear h
      have d : decide (x ≤ hi) = false := by simp; omega
      go_enter Tryz.func58, Tryz.ntmps58
      go_wp2
      go_ret
      exact ⟨rfl, rfl⟩
  · obtain ⟨h1, h2⟩ := inB_out h
    clear h
    have d : decide (x ≤ hi) = true := by simp; omega
    go_enter Tryz.func58, Tryz.ntmps58
    go_wp2
    go_ret
    exact ⟨rfl, rfl⟩
theorem impl_isPM (p : Int) (w : World) (hP : PrsW w) (hT : TabW w) :
    Calls Tryz.prog 55 #[.int .i64 p] w fun e w' => e = .returned (.bool (modB p && isP p.toNat)) ∧ ∃ k, w' = w.drewN k := by
  cases h : modB p
  · have HB : Hid ((false && isP p.toNat) = false) := rfl
    generalize (false && isP p.toNat) = B at *
    clear hP hT
    go_enter Tryz.func55, Tryz.ntmps55
    go_wp2_with (go_at_call 65; refine (impl_isModulus _ _).mono ?_; rintro en w' ⟨rfl, rfl⟩)
    go_ret
    exact ⟨ret_bool HB.out.symm, 0, rfl⟩
  · obtain ⟨h1, h2⟩ := modB_yes h
    have c := fun W (h1 : PrsW W) (h2 : TabW W) => impl_IsPrime p.toNat W (by omega) h1 h2
    rw [Int.toNat_of_nonneg (by omega)] at c
    rw [Bool.true_and]
    generalize isP p.toNat = B at *
    have HP : Hid (PrsW w) := hP
    have HT : Hid (TabW w) := hT
    clear hP hT
    go_enter Tryz.func55, Tryz.ntmps55
    go_wp2_with (go_at_call 65; refine (impl_isModulus _ _).mono ?_; rintro en w' ⟨rfl, rfl⟩)
    refine (c _ HP.out HT.out).mono ?_
    rintro e w2 ⟨rfl, k, rfl⟩
    go_wp2_with fail
    go_ret
    exact ⟨rfl, k, rfl⟩
end Go.Proofs.YtfcdfielbpdloaaGreatDoor
/- Proved: what is carried through a statement on lists: a ring's cells, rows of the call's own; and a ring's copy. -/
namespace Go.Proofs.YtfcdfielbpdloaaGreatDoor
open Go.ChangeShapes Go.WideShapes Go.ChangeAt Go.RowKit
set_option linter.unusedVariables false
theorem Old.by_ {a w w' : World} {ob : Option Nat} (h : Old a w) (g : w.grownBy w' ob) (hb : ∀ b, ob = some b → a.heap.size ≤ b) : Old a w' := Below.grown h g h.size hb
end Go.Proofs.YtfcdfielbpdloaaGreatDoor
/- Proved: whether a list is a basis, of the program and of the model. -/
namespace Go.Proofs.YtfcdfielbpdloaaGreatDoor
open Go.ChangeShapes Go.WideShapes Go.ChangeAt Go.RowKit
open M1
set_option linter.unusedVariables false
set_option linter.unusedSimpArgs false
def pmB (p : Int) : Bool := modB p && isP p.toNat
def gbAt (xs : List Int) (k : Nat) : Bool := pmB (xs.getD k 0) && !((xs.take k).contains (xs.getD k 0))
def gb (xs : List Int) (k : Nat) : Bool := decide (∀ i, i < xs.length → k ≤ i → gbAt xs i = true)
def basB (xs : List Int) : Bool := decide (1 ≤ xs.length ∧ xs.length ≤ 6) && gb xs 0
theorem gb_end {xs : List Int} {k : Nat} (h : xs.length ≤ k) : gb xs k = true := decide_eq_true (fun i h1 h2 => by omega)
theorem gb_no {xs : List Int} {k : Nat} (h : k < xs.length) (hk : gbAt xs k = false) : gb xs k = false :=
  decide_eq_false (fun hh => by have := hh k h (Nat.le_refl _); rw [hk] at this; cases this)
theorem gb_yes {xs : List Int} {k : Nat} (hk : gbAt xs k = true) : gb xs k = gb xs (k + 1) := by
  unfold gb
  congr 1
  refine propext ⟨fun h i h1 h2 => h i h1 (by omega), fun h i h1 h2 => ?_⟩
  rcases Nat.eq_or_lt_of_le h2 with e | e
  · rw [← e]; exact hk
  · exact h i h1 e
theorem has_none (xs : List Int) (p : Int) (h : ∀ j, j < xs.length → (p == xs.getD j 0) = false) : xs.contains p = false := by
  rw [Bool.eq_false_iff]
  intro hc
  have hm : p ∈ xs := by simpa using hc
  obtain ⟨j, hj, e⟩ := List.getElem_of_mem hm
  have := h j hj
  simp [List.getD, hj, e] at this
theorem has_at (xs : List Int) (p : Int) (j : Nat) (hj : j < xs.length) (h : (p == xs.getD j 0) = true) : xs.contains p = true := by
  have e : xs.getD j 0 = xs[j] := by simp [List.getD, hj]
  rw [e] at h
  have e2 := beq_iff_eq.1 h
  simp [e2]
set_option maxHeartbeats 1000000 in
theorem index_any (xs : List Int) (p : Int) (v : Value) (w : World) (hv : Row w v xs) (hl : xs.length ≤ 9223372036854775807) :
    Calls Tryz.prog 90 #[v, .int .i64 p] w fun e w' => (∃ z : Int, e = .returned (.int .i64 z) ∧ decide (0 ≤ z) = xs.contains p) ∧ Old w w' := by
  rcases hv with ⟨a, cap, rfl, rfl⟩ | ⟨b, o, cap, rfl, hb, h0, hc⟩
  · go_enter Tryz.func90, Tryz.ntmps90
    go_wp2_with fail
    refine wp_loop_rounds 1 ?_
    rw [rounds_succ]
    go_wp2_with fail
    go_ret
    exact ⟨⟨_, rfl, rfl⟩, Old.refl _⟩
  · have HC : Hid (∀ j, j < xs.length → w.cell? ⟨b, o + j, none⟩ = some (.int .i64 (xs.getD j 0))) := hc
    clear hc
    go_enter Tryz.func90, Tryz.ntmps90
    go_wp2_with fail
    go_loopw [5, 8] (fun x i W => ∃ k : Nat, k ≤ xs.length ∧ i = .int .i64 k ∧ Hid (∀ j, j < k → (p == xs.getD j 0) = false) ∧ Hid (Old w W)) (fun _ i _ => xs.length - (intOf i).toNat)
    case atStart => exact ⟨0, by omega, rfl, fun j hj => by omega, Old.refl _⟩
    case round =>
      obtain ⟨k, hk, rfl, H1, HG⟩ := hrel
      by_cases hlt : k < xs.length
      · have d1 : decide ((k : Int) < (xs.length : Int)) = true := by simp; omega
        have c1 : wr.cell? ⟨b, o + k, none⟩ = some (.int .i64 (xs.getD k 0)) := (HG.out.cell (p := ⟨b, o + k, none⟩) hb).trans (HC.out k hlt)
        cases hx : (p == xs.getD k 0)
        · have H2 : Hid (∀ j, j < k + 1 → (p == xs.getD j 0) = false) := fun j hj => by
            rcases Nat.lt_or_ge j k with h | h
            · exact H1.out j h
            · obtain rfl : j = k := by omega
              exact hx
          clear H1
          generalize xs.getD k 0 = x at *
          go_wp2_with fail
          exact ⟨⟨k + 1, by omega, by go_num, H2, HG⟩, by simp [intOf]; omega⟩
        · have H2 : Hid (decide (0 ≤ (k : Int)) = xs.contains p) := by
            show _ = _
            rw [has_at xs p k hlt hx]
            simp
          clear H1
          generalize xs.getD k 0 = x at *
          go_wp2_with fail
          go_ret
          exact ⟨⟨_, rfl, H2.out⟩, HG.out⟩
      · have d1 : decide ((k : Int) < (xs.length : Int)) = false := by simp; omega
        have H2 : Hid (decide (0 ≤ (-1 : Int)) = xs.contains p) := by
          show _ = _
          rw [has_none xs p (fun j hj => H1.out j (by omega))]
          rfl
        clear H1
        go_wp2_with fail
        go_ret
        exact ⟨⟨_, rfl, H2.out⟩, HG.out⟩
theorem contains_any (xs : List Int) (p : Int) (v : Value) (w : World) (hv : Row w v xs) (hl : xs.length ≤ 9223372036854775807) :
    Calls Tryz.prog 56 #[v, .int .i64 p] w fun e w' => e = .returned (.bool (xs.contains p)) ∧ Old w w' := by
  have c := index_any xs p v w hv hl
  generalize xs.contains p = B at *
  clear hv
  go_enter Tryz.func56, Tryz.ntmps56
  go_wp2_with fail
  refine c.mono ?_
  rintro e w1 ⟨⟨z, rfl, hz⟩, g1⟩
  have HG : Hid (Old w w1) := g1
  clear g1
  have HZ : Hid (decide (0 ≤ z) = B) := hz
  clear hz
  go_wp2_with fail
  go_ret
  exact ⟨by rw [← HZ.out]; rfl, HG.out⟩
theorem Row.take {w : World} {a : Option Addr} {n cap : Nat} {xs : List Int} (h : Row w (.slice a n cap) xs) (k : Nat) (hk : k ≤ xs.length) : Row w (.slice a k cap) (xs.take k) := by
  have el : (xs.take k).length = k := by rw [List.length_take, Nat.min_eq_left hk]
  rcases h with ⟨a', cap', e, e2⟩ | ⟨b, o, cap', e, hb, h0, hc⟩
  · subst e2
    simp at hk
    subst hk
    exact Or.inl ⟨a, cap, rfl, by simp⟩
  · simp only [Value.slice.injEq] at e
    obtain ⟨rfl, _, rfl⟩ := e
    rcases Nat.eq_zero_or_pos k with h1 | h1
    · subst h1
      exact Or.inl ⟨_, cap, rfl, by simp⟩
    · refine Or.inr ⟨b, o, cap, by rw [el], hb, by omega, fun j hj => ?_⟩
      rw [el] at hj
      rw [hc j (by omega)]
      simp [List.getD, List.getElem?_take, hj]
def Fit : Value → Prop
  | .slice _ n c => n ≤ c
  | _ => True
theorem ret_bb {a b : Bool} (h : a = b) : Ending.returned (.bool a) = .returned (.bool b) := by rw [h]
set_option maxRecDepth 100000 in
set_option maxHeartbeats 2000000 in
theorem impl_goodBasis (xs : List Int) (v : Value) (w : World) (hP : PrsW w) (hT : TabW w) (hv : Row w v xs) (hf : Fit v) (hl : xs.length ≤ 9223372036854775807) :
    Calls Tryz.prog 23 #[v] w fun e w' => e = .returned (.bool (basB xs)) ∧ Old w w' := by
  by_cases h0 : 1 ≤ xs.length ∧ xs.length ≤ 6
  · have HB : Hid (gb xs 0 = basB xs) := by
      show _ = _
      unfold basB
      rw [decide_eq_true h0, Bool.true_and]
    generalize basB xs = B at *
    have HP : Hid (PrsW w) := hP
    have HT : Hid (TabW w) := hT
    have HV : Hid (Row w v xs) := hv
    rcases hv with ⟨a, cap, rfl, rfl⟩ | ⟨b, o, cap, rfl, hb, h1, hc⟩
    · simp at h0
    have HC : Hid (∀ j, j < xs.length → w.cell? ⟨b, o + j, none⟩ = some (.int .i64 (xs.getD j 0))) := hc
    obtain ⟨h2, h3⟩ := h0
    have hcap : xs.length ≤ cap := hf
    clear hf
    have e1 : ((xs.length : Int) == 0) = false := beq_eq_false_iff_ne.2 (by omega)
    have e2 : decide ((6 : Int) < (xs.length : Int)) = false := by simp; omega
    clear hc hP hT
    go_enter Tryz.func23, Tryz.ntmps23
    go_wp2_with fail
    go_loopw [3, 4, 15] (fun x y i W => ∃ k : Nat, k ≤ xs.length ∧ i = .int .i64 k ∧ Hid (gb xs k = B) ∧ Hid (Old w W)) (fun _ _ i _ => xs.length - (intOf i).toNat)
    case atStart => exact ⟨0, by omega, rfl, HB, Old.refl _⟩
    case round =>
      obtain ⟨k, hk, rfl, H1, HG⟩ := hrel
      clear HB
      by_cases hlt : k < xs.length
      · have d1 : decide ((k : Int) < (xs.length : Int)) = true := by simp; omega
        have c1 : wr.cell? ⟨b, o + k, none⟩ = some (.int .i64 (xs.getD k 0)) := (HG.out.cell (p := ⟨b, o + k, none⟩) hb).trans (HC.out k hlt)
        have hkc : k ≤ cap := by omega
        have RT : Hid (Row wr (.slice (some ⟨b, o, none⟩) k cap) (xs.take k)) := (HV.out.old HG.out).take k (by omega)
        have hlk : (xs.take k).length ≤ 9223372036854775807 := by rw [List.length_take]; omega
        have HAT : Hid (gbAt xs k = (pmB (xs.getD k 0) && !((xs.take k).contains (xs.getD k 0)))) := rfl
        have cp := fun W (h1 : PrsW W) (h2 : TabW W) => impl_isPM (xs.getD k 0) W h1 h2
        have cc := fun W (h : Row W (.slice (some ⟨b, o, none⟩) k cap) (xs.take k)) => contains_any (xs.take k) (xs.getD k 0) _ W h hlk
        have HPM : Hid (pmB (xs.getD k 0) = (modB (xs.getD k 0) && isP (xs.getD k 0).toNat)) := rfl
        rw [← HPM.out] at cp
        clear HPM
        cases hpm : pmB (xs.getD k 0)
        · have H3 : Hid (false = B) := by
            have := H1.out
            rw [gb_no hlt (by rw [HAT.out, hpm]; rfl)] at this
            exact this
          rw [hpm] at cp
          clear HAT hpm H1 cc
          generalize xs.getD k 0 = x at *
          go_wp2_with fail
          refine (cp _ (HP.out.old HG.out) (HT.out.old HG.out)).mono ?_
          rintro e w2 ⟨rfl, n2, rfl⟩
          go_wp2_with fail
          go_ret
          exact ⟨ret_bb H3.out, HG.out.drewN _⟩
        · rw [hpm] at cp
          cases hct : (xs.take k).contains (xs.getD k 0)
          · have H3 : Hid (gb xs (k + 1) = B) := by
              have := H1.out
              rw [gb_yes (by rw [HAT.out, hpm, hct]; rfl)] at this
              exact this
            rw [hct] at cc
            clear HAT hpm H1 hct
            generalize xs.getD k 0 = x at *
            go_wp2_with fail
            refine (cp _ (HP.out.old HG.out) (HT.out.old HG.out)).mono ?_
            rintro e w2 ⟨rfl, n2, rfl⟩
            go_wp2_with fail
            refine (cc _ (RT.out.old ((Old.refl _).drewN _))).mono ?_
            rintro e w3 ⟨rfl, g3⟩
            have HG3 : Hid (Old w w3) := Old.trans (HG.out.drewN _) g3
            clear g3
            go_wp2_with fail
            exact ⟨⟨k + 1, by omega, by go_num, H3, HG3⟩, by simp [intOf]; omega⟩
          · have H3 : Hid (false = B) := by
              have := H1.out
              rw [gb_no hlt (by rw [HAT.out, hpm, hct]; rfl)] at this
              exact this
            rw [hct] at cc
            clear HAT hpm H1 hct
            generalize xs.getD k 0 = x at *
            go_wp2_with fail
            refine (cp _ (HP.out.old HG.out) (HT.out.old HG.out)).mono ?_
            rintro e w2 ⟨rfl, n2, rfl⟩
            go_wp2_with fail
            refine (cc _ (RT.out.old ((Old.refl _).drewN _))).mono ?_
            rintro e w3 ⟨rfl, g3⟩
            have HG3 : Hid (Old w w3) := Old.trans (HG.out.drewN _) g3
            clear g3
            go_wp2_with fail
            go_ret
            exact ⟨ret_bb H3.out, HG3.out⟩
      · have d1 : decide ((k : Int) < (xs.length : Int)) = false := by simp; omega
        have H3 : Hid (true = B) := by
          have := H1.out
          rw [gb_end (by omega)] at this
          exact this
        clear H1
        go_wp2_with fail
        go_ret
        exact ⟨ret_bb H3.out, HG.out⟩
  · have HB : Hid (false = basB xs) := by
      show _ = _
      unfold basB
      rw [decide_eq_false h0, Bool.false_and]
    generalize basB xs = B at *
    obtain ⟨a, cap, rfl⟩ := hv.slice
    clear hv hP hT hf
    by_cases hz : xs.length = 0
    · have e1 : ((xs.length : Int) == 0) = true := beq_iff_eq.2 (by omega)
      clear h0
      generalize xs.length = n at *
      clear hz
      go_enter Tryz.func23, Tryz.ntmps23
      go_wp2_with fail
      go_ret
      exact ⟨ret_bb HB.out, Old.refl _⟩
    · have e1 : ((xs.length : Int) == 0) = false := beq_eq_false_iff_ne.2 (by omega)
      have e2 : decide ((6 : Int) < (xs.length : Int)) = true := by simp; omega
      clear h0
      generalize xs.length = n at *
      clear hz
      go_enter Tryz.func23, Tryz.ntmps23
      go_wp2_with fail
      go_ret
      exact ⟨ret_bb HB.out, Old.refl _⟩
end Go.Proofs.YtfcdfielbpdloaaGreatDoor
/- Proved: whether a list is a polynomial of a ring, of the program and of the model. -/
namespace Go.Proofs.YtfcdfielbpdloaaGreatDoor
open Go.ChangeShapes Go.WideShapes Go.ChangeAt Go.RowKit
set_option linter.unusedVariables false
theorem in_res (x p : Int) : inB x 0 (p - 1) = resB x p := by
  rw [Bool.eq_iff_iff]
  simp [inB, resB]
  omega
theorem spec_res (x p : Int) (w : World) : Calls Tryz.prog 58 #[.int .i64 x, .int .i64 0, .int .i64 (p - 1)] w fun e w' => e = .returned (.bool (resB x p)) ∧ w' = w := by
  rw [← in_res]
  exact spec_in x 0 (p - 1) w
abbrev toZ (ys : List Nat) : List Int := ys.map (fun (n : Nat) => (n : Int))
end Go.Proofs.YtfcdfielbpdloaaGreatDoor
/- Proved: whether a list is a basis, as the model tells it. -/
namespace Go.Proofs.YtfcdfielbpdloaaGreatDoor
open Go.ChangeShapes Go.WideShapes Go.ChangeAt Go.RowKit
open M1
set_option linter.unusedVariables false
set_option linter.unusedSimpArgs false
set_option maxRecDepth 100000 in
set_option maxHeartbeats 2000000 in
theorem spec_goodBasis (xs : List Int) (v : Value) (w : World) (hv : Row w v xs) (hf : Fit v) (hl : xs.length ≤ 9223372036854775807) (hx : ∀ x ∈ xs, -9223372036854775808 ≤ x ∧ x ≤ 9223372036854775807) :
    Calls Tryz.prog 35 #[v] w fun e w' => e = .returned (.bool (basB xs)) ∧ Old w w' := by
  have ci := fun W => spec_in (xs.length : Int) 1 6 W
  by_cases h0 : 1 ≤ xs.length ∧ xs.length ≤ 6
  · have HB : Hid (gb xs 0 = basB xs) := by
      show _ = _
      unfold basB
      rw [decide_eq_true h0, Bool.true_and]
    generalize basB xs = B at *
    have hin : inB (xs.length : Int) 1 6 = true := decide_eq_true (by omega)
    rw [hin] at ci
    have HV : Hid (Row w v xs) := hv
    rcases hv with ⟨a, cap, rfl, rfl⟩ | ⟨b, o, cap, rfl, hb, h1, hc⟩
    · simp at h0
    have HC : Hid (∀ j, j < xs.length → w.cell? ⟨b, o + j, none⟩ = some (.int .i64 (xs.getD j 0))) := hc
    have HX : Hid (∀ x ∈ xs, -9223372036854775808 ≤ x ∧ x ≤ 9223372036854775807) := hx
    obtain ⟨h2, h3⟩ := h0
    have hcap : xs.length ≤ cap := hf
    clear hc hf hx hin
    go_enter Tryz.func35, Tryz.ntmps35
    go_wp2_with (go_at_call 58; refine (ci _).mono ?_; rintro e w1 ⟨rfl, hw⟩; obtain rfl : w = w1 := hw.symm)
    clear ci
    go_loopw [13] (fun i W => ∃ k : Nat, k ≤ xs.length ∧ i = .int .i64 k ∧ Hid (gb xs k = B) ∧ Hid (Old w W)) (fun i _ => xs.length - (intOf i).toNat)
    case atStart => exact ⟨0, by omega, rfl, HB, Old.refl _⟩
    case round =>
      obtain ⟨k, hk, rfl, H1, HG⟩ := hrel
      clear HB
      by_cases hlt : k < xs.length
      · have d1 : decide ((k : Int) < (xs.length : Int)) = true := by simp; omega
        have c1 : wr.cell? ⟨b, o + k, none⟩ = some (.int .i64 (xs.getD k 0)) := (HG.out.cell (p := ⟨b, o + k, none⟩) hb).trans (HC.out k hlt)
        have hkc : k ≤ cap := by omega
        have hxm : xs.getD k 0 ∈ xs := by simp [List.getD, hlt]
        have hxb := HX.out _ hxm
        have HAT : Hid (gbAt xs k = (pmB (xs.getD k 0) && !((xs.take k).contains (xs.getD k 0)))) := rfl
        have HPM : Hid (pmB (xs.getD k 0) = (modB (xs.getD k 0) && isP (xs.getD k 0).toNat)) := rfl
        have HHN : Hid ((∀ j, j < k → (xs.getD k 0 == xs.getD j 0) = false) → (xs.take k).contains (xs.getD k 0) = false) := fun h => has_none _ _ (fun j hj => by
          rw [List.length_take] at hj
          have e : (xs.take k).getD j 0 = xs.getD j 0 := by simp [List.getD, List.getElem?_take, show j < k by omega]
          rw [e]
          exact h j (by omega))
        have HHY : Hid (∀ j, j < k → (xs.getD k 0 == xs.getD j 0) = true → (xs.take k).contains (xs.getD k 0) = true) := fun j hj h => has_at _ _ j (by rw [List.length_take]; omega) (by
          have e : (xs.take k).getD j 0 = xs.getD j 0 := by simp [List.getD, List.getElem?_take, hj]
          rw [e]
          exact h)
        have cm := fun W => spec_modulus (xs.getD k 0) W
        cases hm : modB (xs.getD k 0)
        · have H3 : Hid (false = B) := by
            have := H1.out
            rw [gb_no hlt (by rw [HAT.out, HPM.out, hm]; rfl)] at this
            exact this
          rw [hm] at cm
          clear HAT HPM HHN HHY hm H1 hxm
          generalize xs.getD k 0 = x at *
          go_wp2_with (go_at_call 72; refine (cm _).mono ?_; rintro e w' ⟨rfl, rfl⟩)
          go_ret
          exact ⟨ret_bb H3.out, HG.out⟩
        · rw [hm] at cm
          obtain ⟨m1, m2⟩ := modB_yes hm
          have cp := fun W => spec_IsPrime (xs.getD k 0).toNat W (by omega)
          rw [Int.toNat_of_nonneg (by omega)] at cp
          cases hp : isP (xs.getD k 0).toNat
          · have H3 : Hid (false = B) := by
              have := H1.out
              rw [gb_no hlt (by rw [HAT.out, HPM.out, hm, hp]; rfl)] at this
              exact this
            rw [hp] at cp
            clear HAT HPM HHN HHY hm hp H1 hxm
            generalize xs.getD k 0 = x at *
            go_wp2_with (go_at_call 72; refine (cm _).mono ?_; rintro e w' ⟨rfl, rfl⟩)
            refine (cp _).mono ?_
            rintro e w2 ⟨rfl, g2⟩
            have HG2 : Hid (Old w w2) := Old.trans HG.out g2
            clear g2
            go_wp2_with fail
            go_ret
            exact ⟨ret_bb H3.out, HG2.out⟩
          · have HY : Hid ((xs.take k).contains (xs.getD k 0) = false → gb xs (k + 1) = B) := fun hct => by
              have := H1.out
              rw [gb_yes (by rw [HAT.out, HPM.out, hm, hp, hct]; rfl)] at this
              exact this
            have HN : Hid ((xs.take k).contains (xs.getD k 0) = true → false = B) := fun hct => by
              have := H1.out
              rw [gb_no hlt (by rw [HAT.out, HPM.out, hm, hp, hct]; rfl)] at this
              exact this
            rw [hp] at cp
            have HY2 : Hid ((∀ j, j < k → (xs.getD k 0 == xs.getD j 0) = false) → gb xs (k + 1) = B) := fun h => HY.out (HHN.out h)
            have HN2 : Hid (∀ j, j < k → (xs.getD k 0 == xs.getD j 0) = true → false = B) := fun j hj h => HN.out (HHY.out j hj h)
            clear HAT HPM HHN HHY HY HN hm hp H1 hxm
            generalize xs.getD k 0 = x at *
            go_wp2_with (go_at_call 72; refine (cm _).mono ?_; rintro e w' ⟨rfl, rfl⟩)
            refine (cp _).mono ?_
            rintro e w2 ⟨rfl, g2⟩
            have HG2 : Hid (Old w w2) := Old.trans HG.out g2
            clear g2 HG c1 cp cm d1
            go_wp2_with fail
            go_loopw [31] (fun i W => ∃ j : Nat, j ≤ k ∧ i = .int .i64 j ∧ Hid (∀ i, i < j → (x == xs.getD i 0) = false) ∧ Hid (Old w W)) (fun i _ => k - (intOf i).toNat)
            case atStart => exact ⟨0, by omega, rfl, fun j hj => by omega, HG2⟩
            case round =>
              obtain ⟨j, hj, rfl, H4, HG4⟩ := hrel
              by_cases hjk : j < k
              · have d2 : decide ((j : Int) < (k : Int)) = true := by simp; omega
                have c2 : wr.cell? ⟨b, o + j, none⟩ = some (.int .i64 (xs.getD j 0)) := (HG4.out.cell (p := ⟨b, o + j, none⟩) hb).trans (HC.out j (by omega))
                cases hq : (x == xs.getD j 0)
                · have H5 : Hid (∀ i, i < j + 1 → (x == xs.getD i 0) = false) := fun i hi => by
                    rcases Nat.lt_or_ge i j with h | h
                    · exact H4.out i h
                    · obtain rfl : i = j := by omega
                      exact hq
                  clear H4
                  generalize xs.getD j 0 = y at *
                  go_wp2_with fail
                  exact ⟨⟨j + 1, by omega, by go_num, H5, HG4⟩, by simp [intOf]; omega⟩
                · have H5 : Hid (false = B) := HN2.out j hjk hq
                  clear H4
                  generalize xs.getD j 0 = y at *
                  go_wp2_with fail
                  go_ret
                  exact ⟨ret_bb H5.out, HG4.out⟩
              · have d2 : decide ((j : Int) < (k : Int)) = false := by simp; omega
                have H5 : Hid (gb xs (k + 1) = B) := HY2.out (fun i hi => H4.out i (by omega))
                clear H4
                go_wp2_with fail
                exact ⟨⟨k + 1, by omega, by go_num, H5, HG4⟩, by simp [intOf]; omega⟩
      · have d1 : decide ((k : Int) < (xs.length : Int)) = false := by simp; omega
        have H3 : Hid (true = B) := by
          have := H1.out
          rw [gb_end (by omega)] at this
          exact this
        clear H1
        go_wp2_with fail
        go_ret
        exact ⟨ret_bb H3.out, HG.out⟩
  · have HB : Hid (false = basB xs) := by
      show _ = _
      unfold basB
      rw [decide_eq_false h0, Bool.false_and]
    generalize basB xs = B at *
    have hin : inB (xs.length : Int) 1 6 = false := decide_eq_false (by omega)
    rw [hin] at ci
    obtain ⟨a, cap, rfl⟩ := hv.slice
    clear hv hf h0 hin hx
    go_enter Tryz.func35, Tryz.ntmps35
    go_wp2_with (go_at_call 58; refine (ci _).mono ?_; rintro e w1 ⟨rfl, hw⟩; obtain rfl : w = w1 := hw.symm)
    go_ret
    exact ⟨ret_bb HB.out, Old.refl _⟩
end Go.Proofs.YtfcdfielbpdloaaGreatDoor
/- Proved: whether numbers are residues of a basis, of the program and of the model. -/
namespace Go.Proofs.YtfcdfielbpdloaaGreatDoor
open Go.ChangeShapes Go.WideShapes Go.ChangeAt Go.RowKit
set_option linter.unusedVariables false
set_option linter.unusedSimpArgs false
def rsF (rs xs : List Int) (k : Nat) : Bool := decide (∀ i, i < xs.length → k ≤ i → resB (rs.getD i 0) (xs.getD i 0) = true)
def rsB (rs xs : List Int) : Bool := decide (rs.length = xs.length) && rsF rs xs 0
theorem rsF_end {rs xs : List Int} {k : Nat} (h : xs.length ≤ k) : rsF rs xs k = true := decide_eq_true (fun i h1 h2 => by omega)
theorem rsF_no {rs xs : List Int} {k : Nat} (h : k < xs.length) (hk : resB (rs.getD k 0) (xs.getD k 0) = false) : rsF rs xs k = false :=
  decide_eq_false (fun hh => by have := hh k h (Nat.le_refl _); rw [hk] at this; cases this)
theorem rsF_yes {rs xs : List Int} {k : Nat} (hk : resB (rs.getD k 0) (xs.getD k 0) = true) : rsF rs xs k = rsF rs xs (k + 1) := by
  unfold rsF
  congr 1
  refine propext ⟨fun h i h1 h2 => h i h1 (by omega), fun h i h1 h2 => ?_⟩
  rcases Nat.eq_or_lt_of_le h2 with e | e
  · rw [← e]; exact hk
  · exact h i h1 e
theorem Row.cells {w : World} {v : Value} {xs : List Int} (h : Row w v xs) (h0 : 0 < xs.length) : ∃ b o cap, v = .slice (some ⟨b, o, none⟩) xs.length cap ∧ b < w.heap.size ∧ ∀ j, j < xs.length → w.cell? ⟨b, o + j, none⟩ = some (.int .i64 (xs.getD j 0)) := by
  rcases h with ⟨a, cap, rfl, rfl⟩ | ⟨b, o, cap, e, hb, _, hc⟩
  · simp at h0
  · exact ⟨b, o, cap, e, hb, hc⟩
set_option maxHeartbeats 2000000 in
theorem areRes_any (rs xs : List Int) (v u : Value) (w : World) (hv : Row w v rs) (hu : Row w u xs) (hl : xs.length ≤ 9223372036854775807) (h1 : 1 ≤ xs.length) :
    Calls Tryz.prog 24 #[v, u] w fun e w' => e = .returned (.bool (rsB rs xs)) ∧ Old w w' := by
  by_cases hn : rs.length = xs.length
  · have HB : Hid (rsF rs xs 0 = rsB rs xs) := by
      show _ = _
      unfold rsB
      rw [decide_eq_true hn, Bool.true_and]
    generalize rsB rs xs = B at *
    obtain ⟨b, o, cap, rfl, hb, hc⟩ := hv.cells (by omega)
    obtain ⟨b2, o2, cap2, rfl, hb2, hc2⟩ := hu.cells (by omega)
    rw [hn] at hc ⊢
    have HC : Hid (∀ j, j < xs.length → w.cell? ⟨b, o + j, none⟩ = some (.int .i64 (rs.getD j 0))) := hc
    have HC2 : Hid (∀ j, j < xs.length → w.cell? ⟨b2, o2 + j, none⟩ = some (.int .i64 (xs.getD j 0))) := hc2
    have dn : ((xs.length : Int) != (xs.length : Int)) = false := by simp
    clear hc hc2 hn hv hu
    go_enter Tryz.func24, Tryz.ntmps24
    go_wp2_with fail
    go_loopw [14] (fun i W => ∃ k : Nat, k ≤ xs.length ∧ i = .int .i64 k ∧ Hid (rsF rs xs k = B) ∧ Hid (Old w W)) (fun i _ => xs.length - (intOf i).toNat)
    case atStart => exact ⟨0, by omega, rfl, HB, Old.refl _⟩
    case round =>
      obtain ⟨k, hk, rfl, H1, HG⟩ := hrel
      clear HB
      by_cases hlt : k < xs.length
      · have d1 : decide ((k : Int) < (xs.length : Int)) = true := by simp; omega
        have c1 : wr.cell? ⟨b, o + k, none⟩ = some (.int .i64 (rs.getD k 0)) := (HG.out.cell (p := ⟨b, o + k, none⟩) hb).trans (HC.out k hlt)
        have c2 : wr.cell? ⟨b2, o2 + k, none⟩ = some (.int .i64 (xs.getD k 0)) := (HG.out.cell (p := ⟨b2, o2 + k, none⟩) hb2).trans (HC2.out k hlt)
        have cr := fun W => residue_any (rs.getD k 0) (xs.getD k 0) W
        have i1 : (k : Int) < (xs.length : Int) := by omega
        cases hx : resB (rs.getD k 0) (xs.getD k 0)
        · rw [hx] at cr
          have H3 : Hid (false = B) := by have := H1.out; rw [rsF_no hlt hx] at this; exact this
          clear H1 hx
          generalize rs.getD k 0 = x at *
          generalize xs.getD k 0 = p at *
          go_wp2_with fail
          refine (cr _).mono ?_
          rintro e w2 ⟨rfl, hw⟩
          obtain rfl : wr = w2 := hw.symm
          go_wp2_with fail
          go_ret
          exact ⟨ret_bb H3.out, HG.out⟩
        · rw [hx] at cr
          have H3 : Hid (rsF rs xs (k + 1) = B) := by have := H1.out; rw [rsF_yes hx] at this; exact this
          clear H1 hx
          generalize rs.getD k 0 = x at *
          generalize xs.getD k 0 = p at *
          go_wp2_with fail
          refine (cr _).mono ?_
          rintro e w2 ⟨rfl, hw⟩
          obtain rfl : wr = w2 := hw.symm
          go_wp2_with fail
          exact ⟨⟨k + 1, by omega, by go_num, H3, HG⟩, by simp [intOf]; omega⟩
      · have d1 : decide ((k : Int) < (xs.length : Int)) = false := by simp; omega
        have H3 : Hid (true = B) := by have := H1.out; rw [rsF_end (by omega)] at this; exact this
        clear H1
        go_wp2_with fail
        go_ret
        exact ⟨ret_bb H3.out, HG.out⟩
  · have HB : Hid (false = rsB rs xs) := by
      show _ = _
      unfold rsB
      rw [decide_eq_false hn, Bool.false_and]
    generalize rsB rs xs = B at *
    obtain ⟨a, cap, rfl⟩ := hv.slice
    obtain ⟨a2, cap2, rfl⟩ := hu.slice
    have dn : ((rs.length : Int) != (xs.length : Int)) = true := by simp; omega
    clear hn hv hu
    go_enter Tryz.func24, Tryz.ntmps24
    go_wp2_with fail
    go_ret
    exact ⟨ret_bb HB.out, Old.refl _⟩
set_option maxRecDepth 100000 in
set_option maxHeartbeats 2000000 in
theorem l4Good_any (rs xs : List Int) (v u : Value) (w : World) (hv : Row w v rs) (hu : Row w u xs) (hf : Fit u) (hl : xs.length ≤ 9223372036854775807) (hlr : rs.length ≤ 9223372036854775807) (hx : ∀ x ∈ xs, -9223372036854775808 ≤ x ∧ x ≤ 9223372036854775807) :
    Calls Tryz.prog 27 #[v, u] w fun e w' => e = .returned (.bool (basB xs && rsB rs xs)) ∧ Old w w' := by
  have cg := spec_goodBasis xs u w hu hf hl hx
  cases hbas : basB xs
  · rw [hbas] at cg
    have HB : Hid (false = (false && rsB rs xs)) := by show _ = _; simp
    generalize (false && rsB rs xs) = B at *
    obtain ⟨a, cap, rfl⟩ := hv.slice
    obtain ⟨a2, cap2, rfl⟩ := hu.slice
    clear hv hu hf hx
    go_enter Tryz.func27, Tryz.ntmps27
    go_wp2_with fail
    refine cg.mono ?_
    rintro e w1 ⟨rfl, g1⟩
    have HG1 : Hid (Old w w1) := g1
    clear g1
    go_wp2_with fail
    go_ret
    exact ⟨ret_bb HB.out, HG1.out⟩
  rw [hbas] at cg
  rw [Bool.true_and]
  have h1 : 1 ≤ xs.length := by
    simp only [basB, Bool.and_eq_true, decide_eq_true_eq] at hbas
    exact hbas.1.1
  have hb3 : ∀ k, k < xs.length → 2 ≤ xs.getD k 0 ∧ xs.getD k 0 ≤ 268435456 := fun k hk => by
    simp only [basB, Bool.and_eq_true, decide_eq_true_eq] at hbas
    have h5 := of_decide_eq_true hbas.2 k hk (Nat.zero_le _)
    simp only [gbAt, Bool.and_eq_true, pmB] at h5
    exact modB_yes h5.1.1
  have HBD : Hid (∀ k, k < xs.length → 2 ≤ xs.getD k 0 ∧ xs.getD k 0 ≤ 268435456) := hb3
  clear hb3 hbas hx hf
  by_cases hn : rs.length = xs.length
  · have HB : Hid (rsF rs xs 0 = rsB rs xs) := by
      show _ = _
      unfold rsB
      rw [decide_eq_true hn, Bool.true_and]
    generalize rsB rs xs = B at *
    obtain ⟨b, o, cap, rfl, hb, hc⟩ := hv.cells (by omega)
    obtain ⟨b2, o2, cap2, rfl, hb2, hc2⟩ := hu.cells (by omega)
    rw [hn] at hc ⊢
    have HC : Hid (∀ j, j < xs.length → w.cell? ⟨b, o + j, none⟩ = some (.int .i64 (rs.getD j 0))) := hc
    have HC2 : Hid (∀ j, j < xs.length → w.cell? ⟨b2, o2 + j, none⟩ = some (.int .i64 (xs.getD j 0))) := hc2
    have dn : ((xs.length : Int) != (xs.length : Int)) = false := by simp
    clear hc hc2 hn hv hu
    go_enter Tryz.func27, Tryz.ntmps27
    go_wp2_with fail
    refine cg.mono ?_
    rintro e w1 ⟨rfl, g1⟩
    have HG1 : Hid (Old w w1) := g1
    clear g1 cg
    go_wp2_with fail
    go_loopw [19] (fun i W => ∃ k : Nat, k ≤ xs.length ∧ i = .int .i64 k ∧ Hid (rsF rs xs k = B) ∧ Hid (Old w W)) (fun i _ => xs.length - (intOf i).toNat)
    case atStart => exact ⟨0, by omega, rfl, HB, HG1⟩
    case round =>
      obtain ⟨k, hk, rfl, H1, HG⟩ := hrel
      clear HB HG1
      by_cases hlt : k < xs.length
      · have d1 : decide ((k : Int) < (xs.length : Int)) = true := by simp; omega
        have c1 : wr.cell? ⟨b, o + k, none⟩ = some (.int .i64 (rs.getD k 0)) := (HG.out.cell (p := ⟨b, o + k, none⟩) hb).trans (HC.out k hlt)
        have c2 : wr.cell? ⟨b2, o2 + k, none⟩ = some (.int .i64 (xs.getD k 0)) := (HG.out.cell (p := ⟨b2, o2 + k, none⟩) hb2).trans (HC2.out k hlt)
        have cr := fun W => spec_res (rs.getD k 0) (xs.getD k 0) W
        have i1 : (k : Int) < (xs.length : Int) := by omega
        obtain ⟨p1, p2⟩ := HBD.out k hlt
        cases hx : resB (rs.getD k 0) (xs.getD k 0)
        · rw [hx] at cr
          have H3 : Hid (false = B) := by have := H1.out; rw [rsF_no hlt hx] at this; exact this
          clear H1 hx
          generalize rs.getD k 0 = x at *
          generalize xs.getD k 0 = p at *
          go_wp2_with fail
          refine (cr _).mono ?_
          rintro e w2 ⟨rfl, hw⟩
          obtain rfl : wr = w2 := hw.symm
          go_wp2_with fail
          go_ret
          exact ⟨ret_bb H3.out, HG.out⟩
        · rw [hx] at cr
          have H3 : Hid (rsF rs xs (k + 1) = B) := by have := H1.out; rw [rsF_yes hx] at this; exact this
          clear H1 hx
          generalize rs.getD k 0 = x at *
          generalize xs.getD k 0 = p at *
          go_wp2_with fail
          refine (cr _).mono ?_
          rintro e w2 ⟨rfl, hw⟩
          obtain rfl : wr = w2 := hw.symm
          go_wp2_with fail
          exact ⟨⟨k + 1, by omega, by go_num, H3, HG⟩, by simp [intOf]; omega⟩
      · have d1 : decide ((k : Int) < (xs.length : Int)) = false := by simp; omega
        have H3 : Hid (true = B) := by have := H1.out; rw [rsF_end (by omega)] at this; exact this
        clear H1
        go_wp2_with fail
        go_ret
        exact ⟨ret_bb H3.out, HG.out⟩
  · have HB : Hid (false = rsB rs xs) := by
      show _ = _
      unfold rsB
      rw [decide_eq_false hn, Bool.false_and]
    generalize rsB rs xs = B at *
    obtain ⟨a, cap, rfl⟩ := hv.slice
    obtain ⟨a2, cap2, rfl⟩ := hu.slice
    have dn : ((rs.length : Int) != (xs.length : Int)) = true := by simp; omega
    clear hn hv hu
    go_enter Tryz.func27, Tryz.ntmps27
    go_wp2_with fail
    refine cg.mono ?_
    rintro e w1 ⟨rfl, g1⟩
    have HG1 : Hid (Old w w1) := g1
    clear g1
    go_wp2_with fail
    go_ret
    exact ⟨ret_bb HB.out, HG1.out⟩
end Go.Proofs.YtfcdfielbpdloaaGreatDoor
