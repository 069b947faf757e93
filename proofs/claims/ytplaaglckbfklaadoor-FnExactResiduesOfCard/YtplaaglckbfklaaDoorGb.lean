/- Proved: whether a list is a basis, of the program and of the model. -/
import Derived.Test.YtplaaglckbfklaaDoorKB
namespace Go.Proofs.YtplaaglckbfklaaDoor
open Go.ChangeShapes Go.WideShapes Go.ChangeAt Go.RowKit
open M1
set_option linter.unusedVariables false
set_option linter.unusedSimpArgs false
/-- a prime modulus -/
def pmB (p : Int) : Bool := modB p && isP p.toNat
/-- what is asked of the number at place k: a prime modulus that is not ahead of it -/
def gbAt (xs : List Int) (k : Nat) : Bool := pmB (xs.getD k 0) && !((xs.take k).contains (xs.getD k 0))
/-- from place k on -/
def gb (xs : List Int) (k : Nat) : Bool := decide (∀ i, i < xs.length → k ≤ i → gbAt xs i = true)
/-- a basis -/
def basB (xs : List Int) : Bool := decide (1 ≤ xs.length ∧ xs.length ≤ 6) && gb xs 0
theorem gb_end {xs : List Int} {k : Nat} (h : xs.length ≤ k) : gb xs k = true := decide_eq_true (fun i h1 h2 => by omega)
theorem gb_no {xs : List Int} {k : Nat} (h : k < xs.length) (hk : gbAt xs k = false) : gb xs k = false :=
  decide_eq_false (fun hh => by have := hh k h (Nat.le_refl _); rw [hk] at this; cases this)
theorem gb_yes {xs : List Int} {k : Nat} (hk : gbAt xs k = true) : gb xs k = gb xs (k + 1) := by
  unfold gb
  congr 1
  refine propext ⟨fun h i h1 h2 => h i h1 (by omega), fun h i h1 h2 => ?_⟩
  rcases Nat.eq_or_lt_of_le h2 with e | e
  · rw [← e]; exact hk
  · exact h i h1 e
theorem has_snoc (xs : List Int) (k : Nat) (p : Int) (h : k < xs.length) : (xs.take (k + 1)).contains p = ((xs.take k).contains p || (p == xs.getD k 0)) := by
  rw [take_succI xs k h, List.contains_eq_any_beq, List.contains_eq_any_beq, List.any_append]
  simp only [List.any_cons, List.any_nil, Bool.or_false]
theorem has_none (xs : List Int) (p : Int) (h : ∀ j, j < xs.length → (p == xs.getD j 0) = false) : xs.contains p = false := by
  rw [Bool.eq_false_iff]
  intro hc
  have hm : p ∈ xs := by simpa using hc
  obtain ⟨j, hj, e⟩ := List.getElem_of_mem hm
  have := h j hj
  simp [List.getD, hj, e] at this
theorem has_at (xs : List Int) (p : Int) (j : Nat) (hj : j < xs.length) (h : (p == xs.getD j 0) = true) : xs.contains p = true := by
  have e : xs.getD j 0 = xs[j] := by simp [List.getD, hj]
  rw [e] at h
  have e2 := beq_iff_eq.1 h
  simp [e2]
set_option maxHeartbeats 1000000 in
theorem index_any (xs : List Int) (p : Int) (v : Value) (w : World) (hv : Row w v xs) (hl : xs.length ≤ 9223372036854775807) :
    Calls Tryd.prog 171 #[v, .int .i64 p] w fun e w' => (∃ z : Int, e = .returned (.int .i64 z) ∧ decide (0 ≤ z) = xs.contains p) ∧ Old w w' := by
  rcases hv with ⟨a, cap, rfl, rfl⟩ | ⟨b, o, cap, rfl, hb, h0, hc⟩
  · go_enter Tryd.func171, Tryd.ntmps171
    go_wp2_with fail
    refine wp_loop_rounds 1 ?_
    rw [rounds_succ]
    go_wp2_with fail
    go_ret
    exact ⟨⟨_, rfl, rfl⟩, Old.refl _⟩
  · have HC : Hid (∀ j, j < xs.length → w.cell? ⟨b, o + j, none⟩ = some (.int .i64 (xs.getD j 0))) := hc
    clear hc
    go_enter Tryd.func171, Tryd.ntmps171
    go_wp2_with fail
    go_loopw [5, 8] (fun x i W => ∃ k : Nat, k ≤ xs.length ∧ i = .int .i64 k ∧ Hid (∀ j, j < k → (p == xs.getD j 0) = false) ∧ Hid (Old w W)) (fun _ i _ => xs.length - (intOf i).toNat)
    case atStart => exact ⟨0, by omega, rfl, fun j hj => by omega, Old.refl _⟩
    case round =>
      obtain ⟨k, hk, rfl, H1, HG⟩ := hrel
      by_cases hlt : k < xs.length
      · have d1 : decide ((k : Int) < (xs.length : Int)) = true := by simp; omega
        have c1 : wr.cell? ⟨b, o + k, none⟩ = some (.int .i64 (xs.getD k 0)) := (HG.out.cell (p := ⟨b, o + k, none⟩) hb).trans (HC.out k hlt)
        cases hx : (p == xs.getD k 0)
        · have H2 : Hid (∀ j, j < k + 1 → (p == xs.getD j 0) = false) := fun j hj => by
            rcases Nat.lt_or_ge j k with h | h
            · exact H1.out j h
            · obtain rfl : j = k := by omega
              exact hx
          clear H1
          generalize xs.getD k 0 = x at *
          go_wp2_with fail
          exact ⟨⟨k + 1, by omega, by go_num, H2, HG⟩, by simp [intOf]; omega⟩
        · have H2 : Hid (decide (0 ≤ (k : Int)) = xs.contains p) := by
            show _ = _
            rw [has_at xs p k hlt hx]
            simp
          clear H1
          generalize xs.getD k 0 = x at *
          go_wp2_with fail
          go_ret
          exact ⟨⟨_, rfl, H2.out⟩, HG.out⟩
      · have d1 : decide ((k : Int) < (xs.length : Int)) = false := by simp; omega
        have H2 : Hid (decide (0 ≤ (-1 : Int)) = xs.contains p) := by
          show _ = _
          rw [has_none xs p (fun j hj => H1.out j (by omega))]
          rfl
        clear H1
        go_wp2_with fail
        go_ret
        exact ⟨⟨_, rfl, H2.out⟩, HG.out⟩
theorem contains_any (xs : List Int) (p : Int) (v : Value) (w : World) (hv : Row w v xs) (hl : xs.length ≤ 9223372036854775807) :
    Calls Tryd.prog 118 #[v, .int .i64 p] w fun e w' => e = .returned (.bool (xs.contains p)) ∧ Old w w' := by
  have c := index_any xs p v w hv hl
  generalize xs.contains p = B at *
  clear hv
  go_enter Tryd.func118, Tryd.ntmps118
  go_wp2_with fail
  refine c.mono ?_
  rintro e w1 ⟨⟨z, rfl, hz⟩, g1⟩
  have HG : Hid (Old w w1) := g1
  clear g1
  have HZ : Hid (decide (0 ≤ z) = B) := hz
  clear hz
  go_wp2_with fail
  go_ret
  exact ⟨by rw [← HZ.out]; rfl, HG.out⟩
theorem Row.take {w : World} {a : Option Addr} {n cap : Nat} {xs : List Int} (h : Row w (.slice a n cap) xs) (k : Nat) (hk : k ≤ xs.length) : Row w (.slice a k cap) (xs.take k) := by
  have el : (xs.take k).length = k := by rw [List.length_take, Nat.min_eq_left hk]
  rcases h with ⟨a', cap', e, e2⟩ | ⟨b, o, cap', e, hb, h0, hc⟩
  · subst e2
    simp at hk
    subst hk
    exact Or.inl ⟨a, cap, rfl, by simp⟩
  · simp only [Value.slice.injEq] at e
    obtain ⟨rfl, _, rfl⟩ := e
    rcases Nat.eq_zero_or_pos k with h1 | h1
    · subst h1
      exact Or.inl ⟨_, cap, rfl, by simp⟩
    · refine Or.inr ⟨b, o, cap, by rw [el], hb, by omega, fun j hj => ?_⟩
      rw [el] at hj
      rw [hc j (by omega)]
      simp [List.getD, List.getElem?_take, hj]
/-- a slice's length is at most its capacity -/
def Fit : Value → Prop
  | .slice _ n c => n ≤ c
  | _ => True
theorem ret_bb {a b : Bool} (h : a = b) : Ending.returned (.bool a) = .returned (.bool b) := by rw [h]
set_option maxRecDepth 100000 in
set_option maxHeartbeats 2000000 in
theorem impl_goodBasis (xs : List Int) (v : Value) (w : World) (hP : PrsW w) (hT : TabW w) (hv : Row w v xs) (hf : Fit v) (hl : xs.length ≤ 9223372036854775807) :
    Calls Tryd.prog 50 #[v] w fun e w' => e = .returned (.bool (basB xs)) ∧ Old w w' := by
  by_cases h0 : 1 ≤ xs.length ∧ xs.length ≤ 6
  · have HB : Hid (gb xs 0 = basB xs) := by
      show _ = _
      unfold basB
      rw [decide_eq_true h0, Bool.true_and]
    generalize basB xs = B at *
    have HP : Hid (PrsW w) := hP
    have HT : Hid (TabW w) := hT
    have HV : Hid (Row w v xs) := hv
    rcases hv with ⟨a, cap, rfl, rfl⟩ | ⟨b, o, cap, rfl, hb, h1, hc⟩
    · simp at h0
    have HC : Hid (∀ j, j < xs.length → w.cell? ⟨b, o + j, none⟩ = some (.int .i64 (xs.getD j 0))) := hc
    obtain ⟨h2, h3⟩ := h0
    have hcap : xs.length ≤ cap := hf
    clear hf
    have e1 : ((xs.length : Int) == 0) = false := beq_eq_false_iff_ne.2 (by omega)
    have e2 : decide ((6 : Int) < (xs.length : Int)) = false := by simp; omega
    clear hc hP hT
    go_enter Tryd.func50, Tryd.ntmps50
    go_wp2_with fail
    go_loopw [3, 4, 15] (fun x y i W => ∃ k : Nat, k ≤ xs.length ∧ i = .int .i64 k ∧ Hid (gb xs k = B) ∧ Hid (Old w W)) (fun _ _ i _ => xs.length - (intOf i).toNat)
    case atStart => exact ⟨0, by omega, rfl, HB, Old.refl _⟩
    case round =>
      obtain ⟨k, hk, rfl, H1, HG⟩ := hrel
      clear HB
      by_cases hlt : k < xs.length
      · have d1 : decide ((k : Int) < (xs.length : Int)) = true := by simp; omega
        have c1 : wr.cell? ⟨b, o + k, none⟩ = some (.int .i64 (xs.getD k 0)) := (HG.out.cell (p := ⟨b, o + k, none⟩) hb).trans (HC.out k hlt)
        have hkc : k ≤ cap := by omega
        have RT : Hid (Row wr (.slice (some ⟨b, o, none⟩) k cap) (xs.take k)) := (HV.out.old HG.out).take k (by omega)
        have hlk : (xs.take k).length ≤ 9223372036854775807 := by rw [List.length_take]; omega
        have HAT : Hid (gbAt xs k = (pmB (xs.getD k 0) && !((xs.take k).contains (xs.getD k 0)))) := rfl
        have cp := fun W (h1 : PrsW W) (h2 : TabW W) => impl_isPM (xs.getD k 0) W h1 h2
        have cc := fun W (h : Row W (.slice (some ⟨b, o, none⟩) k cap) (xs.take k)) => contains_any (xs.take k) (xs.getD k 0) _ W h hlk
        have HPM : Hid (pmB (xs.getD k 0) = (modB (xs.getD k 0) && isP (xs.getD k 0).toNat)) := rfl
        rw [← HPM.out] at cp
        clear HPM
        cases hpm : pmB (xs.getD k 0)
        · have H3 : Hid (false = B) := by
            have := H1.out
            rw [gb_no hlt (by rw [HAT.out, hpm]; rfl)] at this
            exact this
          rw [hpm] at cp
          clear HAT hpm H1 cc
          generalize xs.getD k 0 = x at *
          go_wp2_with fail
          refine (cp _ (HP.out.old HG.out) (HT.out.old HG.out)).mono ?_
          rintro e w2 ⟨rfl, n2, rfl⟩
          go_wp2_with fail
          go_ret
          exact ⟨ret_bb H3.out, HG.out.drewN _⟩
        · rw [hpm] at cp
          cases hct : (xs.take k).contains (xs.getD k 0)
          · have H3 : Hid (gb xs (k + 1) = B) := by
              have := H1.out
              rw [gb_yes (by rw [HAT.out, hpm, hct]; rfl)] at this
              exact this
            rw [hct] at cc
            clear HAT hpm H1 hct
            generalize xs.getD k 0 = x at *
            go_wp2_with fail
            refine (cp _ (HP.out.old HG.out) (HT.out.old HG.out)).mono ?_
            rintro e w2 ⟨rfl, n2, rfl⟩
            go_wp2_with fail
            refine (cc _ (RT.out.old ((Old.refl _).drewN _))).mono ?_
            rintro e w3 ⟨rfl, g3⟩
            have HG3 : Hid (Old w w3) := Old.trans (HG.out.drewN _) g3
            clear g3
            go_wp2_with fail
            exact ⟨⟨k + 1, by omega, by go_num, H3, HG3⟩, by simp [intOf]; omega⟩
          · have H3 : Hid (false = B) := by
              have := H1.out
              rw [gb_no hlt (by rw [HAT.out, hpm, hct]; rfl)] at this
              exact this
            rw [hct] at cc
            clear HAT hpm H1 hct
            generalize xs.getD k 0 = x at *
            go_wp2_with fail
            refine (cp _ (HP.out.old HG.out) (HT.out.old HG.out)).mono ?_
            rintro e w2 ⟨rfl, n2, rfl⟩
            go_wp2_with fail
            refine (cc _ (RT.out.old ((Old.refl _).drewN _))).mono ?_
            rintro e w3 ⟨rfl, g3⟩
            have HG3 : Hid (Old w w3) := Old.trans (HG.out.drewN _) g3
            clear g3
            go_wp2_with fail
            go_ret
            exact ⟨ret_bb H3.out, HG3.out⟩
      · have d1 : decide ((k : Int) < (xs.length : Int)) = false := by simp; omega
        have H3 : Hid (true = B) := by
          have := H1.out
          rw [gb_end (by omega)] at this
          exact this
        clear H1
        go_wp2_with fail
        go_ret
        exact ⟨ret_bb H3.out, HG.out⟩
  · have HB : Hid (false = basB xs) := by
      show _ = _
      unfold basB
      rw [decide_eq_false h0, Bool.false_and]
    generalize basB xs = B at *
    obtain ⟨a, cap, rfl⟩ := hv.slice
    clear hv hP hT hf
    by_cases hz : xs.length = 0
    · have e1 : ((xs.length : Int) == 0) = true := beq_iff_eq.2 (by omega)
      clear h0
      generalize xs.length = n at *
      clear hz
      go_enter Tryd.func50, Tryd.ntmps50
      go_wp2_with fail
      go_ret
      exact ⟨ret_bb HB.out, Old.refl _⟩
    · have e1 : ((xs.length : Int) == 0) = false := beq_eq_false_iff_ne.2 (by omega)
      have e2 : decide ((6 : Int) < (xs.length : Int)) = true := by simp; omega
      clear h0
      generalize xs.length = n at *
      clear hz
      go_enter Tryd.func50, Tryd.ntmps50
      go_wp2_with fail
      go_ret
      exact ⟨ret_bb HB.out, Old.refl _⟩
end Go.Proofs.YtplaaglckbfklaaDoor
