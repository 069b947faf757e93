/- Proved: several texts in one: what each proves is said ahead of it. -/
import Derived.Test.YtejkejfhahmhcaaDoorKB
import Derived.Test.YtejkejfhahmhcaaDoorKS
import Derived.Test.YtejkejfhahmhcaaDoorKE
import Derived.Test.YtejkejfhahmhcaaDoorKD
import Derived.Test.YtejkejfhahmhcaaDoorKC
/- Proved: whether a list is a basis, of the program and of the model. -/
namespace Go.Proofs.YtejkejfhahmhcaaDoor
open Go.ChangeShapes Go.WideShapes Go.ChangeAt Go.RowKit
open M1
set_option linter.unusedVariables false
set_option linter.unusedSimpArgs false
/-- a prime modulus -/
def pmB (p : Int) : Bool := modB p && isP p.toNat
/-- what is asked of the number at place k: a prime modulus that is not ahead of it -/
def gbAt (xs : List Int) (k : Nat) : Bool := pmB (xs.getD k 0) && !((xs.take k).contains (xs.getD k 0))
/-- from place k on -/
def gb (xs : List Int) (k : Nat) : Bool := decide (∀ i, i < xs.length → k ≤ i → gbAt xs i = true)
/-- a basis -/
def basB (xs : List Int) : Bool := decide (1 ≤ xs.length ∧ xs.length ≤ 6) && gb xs 0
theorem gb_end {xs : List Int} {k : Nat} (h : xs.length ≤ k) : gb xs k = true := decide_eq_true (fun i h1 h2 => by omega)
theorem gb_no {xs : List Int} {k : Nat} (h : k < xs.length) (hk : gbAt xs k = false) : gb xs k = false :=
  decide_eq_false (fun hh => by have := hh k h (Nat.le_refl _); rw [hk] at this; cases this)
theorem gb_yes {xs : List Int} {k : Nat} (hk : gbAt xs k = true) : gb xs k = gb xs (k + 1) := by
  unfold gb
  congr 1
  refine propext ⟨fun h i h1 h2 => h i h1 (by omega), fun h i h1 h2 => ?_⟩
  rcases Nat.eq_or_lt_of_le h2 with e | e
  · rw [← e]; exact hk
  · exact h i h1 e
theorem has_snoc (xs : List Int) (k : Nat) (p : Int) (h : k < xs.length) : (xs.take (k + 1)).contains p = ((xs.take k).contains p || (p == xs.getD k 0)) := by
  rw [take_succI xs k h, List.contains_eq_any_beq, List.contains_eq_any_beq, List.any_append]
  simp only [List.any_cons, List.any_nil, Bool.or_false]
theorem has_none (xs : List Int) (p : Int) (h : ∀ j, j < xs.length → (p == xs.getD j 0) = false) : xs.contains p = false := by
  rw [Bool.eq_false_iff]
  intro hc
  have hm : p ∈ xs := by simpa using hc
  obtain ⟨j, hj, e⟩ := List.getElem_of_mem hm
  have := h j hj
  simp [List.getD, hj, e] at this
theorem has_at (xs : List Int) (p : Int) (j : Nat) (hj : j < xs.length) (h : (p == xs.getD j 0) = true) : xs.contains p = true := by
  have e : xs.getD j 0 = xs[j] := by simp [List.getD, hj]
  rw [e] at h
  have e2 := beq_iff_eq.1 h
  simp [e2]
set_option maxHeartbeats 1000000 in
theorem index_any (xs : List Int) (p : Int) (v : Value) (w : World) (hv : Row w v xs) (hl : xs.length ≤ 9223372036854775807) :
    Calls Tryd.prog 110 #[v, .int .i64 p] w fun e w' => (∃ z : Int, e = .returned (.int .i64 z) ∧ decide (0 ≤ z) = xs.contains p) ∧ Old w w' := by
  rcases hv with ⟨a, cap, rfl, rfl⟩ | ⟨b, o, cap, rfl, hb, h0, hc⟩
  · go_enter Tryd.func110, Tryd.ntmps110
    go_wp2_with fail
    refine wp_loop_rounds 1 ?_
    rw [rounds_succ]
    go_wp2_with fail
    go_ret
    exact ⟨⟨_, rfl, rfl⟩, Old.refl _⟩
  · have HC : Hid (∀ j, j < xs.length → w.cell? ⟨b, o + j, none⟩ = some (.int .i64 (xs.getD j 0))) := hc
    clear hc
    go_enter Tryd.func110, Tryd.ntmps110
    go_wp2_with fail
    go_loopw [5, 8] (fun x i W => ∃ k : Nat, k ≤ xs.length ∧ i = .int .i64 k ∧ Hid (∀ j, j < k → (p == xs.getD j 0) = false) ∧ Hid (Old w W)) (fun _ i _ => xs.length - (intOf i).toNat)
    case atStart => exact ⟨0, by omega, rfl, fun j hj => by omega, Old.refl _⟩
    case round =>
      obtain ⟨k, hk, rfl, H1, HG⟩ := hrel
      by_cases hlt : k < xs.length
      · have d1 : decide ((k : Int) < (xs.length : Int)) = true := by simp; omega
        have c1 : wr.cell? ⟨b, o + k, none⟩ = some (.int .i64 (xs.getD k 0)) := (HG.out.cell (p := ⟨b, o + k, none⟩) hb).trans (HC.out k hlt)
        cases hx : (p == xs.getD k 0)
        · have H2 : Hid (∀ j, j < k + 1 → (p == xs.getD j 0) = false) := fun j hj => by
            rcases Nat.lt_or_ge j k with h | h
            · exact H1.out j h
            · obtain rfl : j = k := by omega
              exact hx
          clear H1
          generalize xs.getD k 0 = x at *
          go_wp2_with fail
          exact ⟨⟨k + 1, by omega, by go_num, H2, HG⟩, by simp [intOf]; omega⟩
        · have H2 : Hid (decide (0 ≤ (k : Int)) = xs.contains p) := by
            show _ = _
            rw [has_at xs p k hlt hx]
            simp
          clear H1
          generalize xs.getD k 0 = x at *
          go_wp2_with fail
          go_ret
          exact ⟨⟨_, rfl, H2.out⟩, HG.out⟩
      · have d1 : decide ((k : Int) < (xs.length : Int)) = false := by simp; omega
        have H2 : Hid (decide (0 ≤ (-1 : Int)) = xs.contains p) := by
          show _ = _
          rw [has_none xs p (fun j hj => H1.out j (by omega))]
          rfl
        clear H1
        go_wp2_with fail
        go_ret
        exact ⟨⟨_, rfl, H2.out⟩, HG.out⟩
theorem contains_any (xs : List Int) (p : Int) (v : Value) (w : World) (hv : Row w v xs) (hl : xs.length ≤ 9223372036854775807) :
    Calls Tryd.prog 76 #[v, .int .i64 p] w fun e w' => e = .returned (.bool (xs.contains p)) ∧ Old w w' := by
  have c := index_any xs p v w hv hl
  generalize xs.contains p = B at *
  clear hv
  go_enter Tryd.func76, Tryd.ntmps76
  go_wp2_with fail
  refine c.mono ?_
  rintro e w1 ⟨⟨z, rfl, hz⟩, g1⟩
  have HG : Hid (Old w w1) := g1
  clear g1
  have HZ : Hid (decide (0 ≤ z) = B) := hz
  clear hz
  go_wp2_with fail
  go_ret
  exact ⟨by rw [← HZ.out]; rfl, HG.out⟩
theorem Row.take {w : World} {a : Option Addr} {n cap : Nat} {xs : List Int} (h : Row w (.slice a n cap) xs) (k : Nat) (hk : k ≤ xs.length) : Row w (.slice a k cap) (xs.take k) := by
  have el : (xs.take k).length = k := by rw [List.length_take, Nat.min_eq_left hk]
  rcases h with ⟨a', cap', e, e2⟩ | ⟨b, o, cap', e, hb, h0, hc⟩
  · subst e2
    simp at hk
    subst hk
    exact Or.inl ⟨a, cap, rfl, by simp⟩
  · simp only [Value.slice.injEq] at e
    obtain ⟨rfl, _, rfl⟩ := e
    rcases Nat.eq_zero_or_pos k with h1 | h1
    · subst h1
      exact Or.inl ⟨_, cap, rfl, by simp⟩
    · refine Or.inr ⟨b, o, cap, by rw [el], hb, by omega, fun j hj => ?_⟩
      rw [el] at hj
      rw [hc j (by omega)]
      simp [List.getD, List.getElem?_take, hj]
/-- a slice's length is at most its capacity -/
def Fit : Value → Prop
  | .slice _ n c => n ≤ c
  | _ => True
theorem ret_bb {a b : Bool} (h : a = b) : Ending.returned (.bool a) = .returned (.bool b) := by rw [h]
set_option maxRecDepth 100000 in
set_option maxHeartbeats 2000000 in
theorem impl_goodBasis (xs : List Int) (v : Value) (w : World) (hP : PrsW w) (hT : TabW w) (hv : Row w v xs) (hf : Fit v) (hl : xs.length ≤ 9223372036854775807) :
    Calls Tryd.prog 37 #[v] w fun e w' => e = .returned (.bool (basB xs)) ∧ Old w w' := by
  by_cases h0 : 1 ≤ xs.length ∧ xs.length ≤ 6
  · have HB : Hid (gb xs 0 = basB xs) := by
      show _ = _
      unfold basB
      rw [decide_eq_true h0, Bool.true_and]
    generalize basB xs = B at *
    have HP : Hid (PrsW w) := hP
    have HT : Hid (TabW w) := hT
    have HV : Hid (Row w v xs) := hv
    rcases hv with ⟨a, cap, rfl, rfl⟩ | ⟨b, o, cap, rfl, hb, h1, hc⟩
    · simp at h0
    have HC : Hid (∀ j, j < xs.length → w.cell? ⟨b, o + j, none⟩ = some (.int .i64 (xs.getD j 0))) := hc
    obtain ⟨h2, h3⟩ := h0
    have hcap : xs.length ≤ cap := hf
    clear hf
    have e1 : ((xs.length : Int) == 0) = false := beq_eq_false_iff_ne.2 (by omega)
    have e2 : decide ((6 : Int) < (xs.length : Int)) = false := by simp; omega
    clear hc hP hT
    go_enter Tryd.func37, Tryd.ntmps37
    go_wp2_with fail
    go_loopw [3, 4, 15] (fun x y i W => ∃ k : Nat, k ≤ xs.length ∧ i = .int .i64 k ∧ Hid (gb xs k = B) ∧ Hid (Old w W)) (fun _ _ i _ => xs.length - (intOf i).toNat)
    case atStart => exact ⟨0, by omega, rfl, HB, Old.refl _⟩
    case round =>
      obtain ⟨k, hk, rfl, H1, HG⟩ := hrel
      clear HB
      by_cases hlt : k < xs.length
      · have d1 : decide ((k : Int) < (xs.length : Int)) = true := by simp; omega
        have c1 : wr.cell? ⟨b, o + k, none⟩ = some (.int .i64 (xs.getD k 0)) := (HG.out.cell (p := ⟨b, o + k, none⟩) hb).trans (HC.out k hlt)
        have hkc : k ≤ cap := by omega
        have RT : Hid (Row wr (.slice (some ⟨b, o, none⟩) k cap) (xs.take k)) := (HV.out.old HG.out).take k (by omega)
        have hlk : (xs.take k).length ≤ 9223372036854775807 := by rw [List.length_take]; omega
        have HAT : Hid (gbAt xs k = (pmB (xs.getD k 0) && !((xs.take k).contains (xs.getD k 0)))) := rfl
        have cp := fun W (h1 : PrsW W) (h2 : TabW W) => impl_isPM (xs.getD k 0) W h1 h2
        have cc := fun W (h : Row W (.slice (some ⟨b, o, none⟩) k cap) (xs.take k)) => contains_any (xs.take k) (xs.getD k 0) _ W h hlk
        have HPM : Hid (pmB (xs.getD k 0) = (modB (xs.getD k 0) && isP (xs.getD k 0).toNat)) := rfl
        rw [← HPM.out] at cp
        clear HPM
        cases hpm : pmB (xs.getD k 0)
        · have H3 : Hid (false = B) := by
            have := H1.out
            rw [gb_no hlt (by rw [HAT.out, hpm]; rfl)] at this
            exact this
          rw [hpm] at cp
          clear HAT hpm H1 cc
          generalize xs.getD k 0 = x at *
          go_wp2_with fail
          refine (cp _ (HP.out.old HG.out) (HT.out.old HG.out)).mono ?_
          rintro e w2 ⟨rfl, n2, rfl⟩
          go_wp2_with fail
          go_ret
          exact ⟨ret_bb H3.out, HG.out.drewN _⟩
        · rw [hpm] at cp
          cases hct : (xs.take k).contains (xs.getD k 0)
          · have H3 : Hid (gb xs (k + 1) = B) := by
              have := H1.out
              rw [gb_yes (by rw [HAT.out, hpm, hct]; rfl)] at this
              exact this
            rw [hct] at cc
            clear HAT hpm H1 hct
            generalize xs.getD k 0 = x at *
            go_wp2_with fail
            refine (cp _ (HP.out.old HG.out) (HT.out.old HG.out)).mono ?_
            rintro e w2 ⟨rfl, n2, rfl⟩
            go_wp2_with fail
            refine (cc _ (RT.out.old ((Old.refl _).drewN _))).mono ?_
            rintro e w3 ⟨rfl, g3⟩
            have HG3 : Hid (Old w w3) := Old.trans (HG.out.drewN _) g3
            clear g3
            go_wp2_with fail
            exact ⟨⟨k + 1, by omega, by go_num, H3, HG3⟩, by simp [intOf]; omega⟩
          · have H3 : Hid (false = B) := by
              have := H1.out
              rw [gb_no hlt (by rw [HAT.out, hpm, hct]; rfl)] at this
              exact this
            rw [hct] at cc
            clear HAT hpm H1 hct
            generalize xs.getD k 0 = x at *
            go_wp2_with fail
            refine (cp _ (HP.out.old HG.out) (HT.out.old HG.out)).mono ?_
            rintro e w2 ⟨rfl, n2, rfl⟩
            go_wp2_with fail
            refine (cc _ (RT.out.old ((Old.refl _).drewN _))).mono ?_
            rintro e w3 ⟨rfl, g3⟩
            have HG3 : Hid (Old w w3) := Old.trans (HG.out.drewN _) g3
            clear g3
            go_wp2_with fail
            go_ret
            exact ⟨ret_bb H3.out, HG3.out⟩
      · have d1 : decide ((k : Int) < (xs.length : Int)) = false := by simp; omega
        have H3 : Hid (true = B) := by
          have := H1.out
          rw [gb_end (by omega)] at this
          exact this
        clear H1
        go_wp2_with fail
        go_ret
        exact ⟨ret_bb H3.out, HG.out⟩
  · have HB : Hid (false = basB xs) := by
      show _ = _
      unfold basB
      rw [decide_eq_false h0, Bool.false_and]
    generalize basB xs = B at *
    obtain ⟨a, cap, rfl⟩ := hv.slice
    clear hv hP hT hf
    by_cases hz : xs.length = 0
    · have e1 : ((xs.length : Int) == 0) = true := beq_iff_eq.2 (by omega)
      clear h0
      generalize xs.length = n at *
      clear hz
      go_enter Tryd.func37, Tryd.ntmps37
      go_wp2_with fail
      go_ret
      exact ⟨ret_bb HB.out, Old.refl _⟩
    · have e1 : ((xs.length : Int) == 0) = false := beq_eq_false_iff_ne.2 (by omega)
      have e2 : decide ((6 : Int) < (xs.length : Int)) = true := by simp; omega
      clear h0
      generalize xs.length = n at *
      clear hz
      go_enter Tryd.func37, Tryd.ntmps37
      go_wp2_with fail
      go_ret
      exact ⟨ret_bb HB.out, Old.refl _⟩
end Go.Proofs.YtejkejfhahmhcaaDoor
/- Proved: whether a list is a basis, as the model tells it. -/
namespace Go.Proofs.YtejkejfhahmhcaaDoor
open Go.ChangeShapes Go.WideShapes Go.ChangeAt Go.RowKit
open M1
set_option linter.unusedVariables false
set_option linter.unusedSimpArgs false
set_option maxRecDepth 100000 in
set_option maxHeartbeats 2000000 in
theorem spec_goodBasis (xs : List Int) (v : Value) (w : World) (hv : Row w v xs) (hf : Fit v) (hl : xs.length ≤ 9223372036854775807) (hx : ∀ x ∈ xs, -9223372036854775808 ≤ x ∧ x ≤ 9223372036854775807) :
    Calls Tryd.prog 44 #[v] w fun e w' => e = .returned (.bool (basB xs)) ∧ Old w w' := by
  have ci := fun W => spec_in (xs.length : Int) 1 6 W
  by_cases h0 : 1 ≤ xs.length ∧ xs.length ≤ 6
  · have HB : Hid (gb xs 0 = basB xs) := by
      show _ = _
      unfold basB
      rw [decide_eq_true h0, Bool.true_and]
    generalize basB xs = B at *
    have hin : inB (xs.length : Int) 1 6 = true := decide_eq_true (by omega)
    rw [hin] at ci
    have HV : Hid (Row w v xs) := hv
    rcases hv with ⟨a, cap, rfl, rfl⟩ | ⟨b, o, cap, rfl, hb, h1, hc⟩
    · simp at h0
    have HC : Hid (∀ j, j < xs.length → w.cell? ⟨b, o + j, none⟩ = some (.int .i64 (xs.getD j 0))) := hc
    have HX : Hid (∀ x ∈ xs, -9223372036854775808 ≤ x ∧ x ≤ 9223372036854775807) := hx
    obtain ⟨h2, h3⟩ := h0
    have hcap : xs.length ≤ cap := hf
    clear hc hf hx hin
    go_enter Tryd.func44, Tryd.ntmps44
    go_wp2_with (go_at_call 59; refine (ci _).mono ?_; rintro e w1 ⟨rfl, hw⟩; obtain rfl : w = w1 := hw.symm)
    clear ci
    go_loopw [13] (fun i W => ∃ k : Nat, k ≤ xs.length ∧ i = .int .i64 k ∧ Hid (gb xs k = B) ∧ Hid (Old w W)) (fun i _ => xs.length - (intOf i).toNat)
    case atStart => exact ⟨0, by omega, rfl, HB, Old.refl _⟩
    case round =>
      obtain ⟨k, hk, rfl, H1, HG⟩ := hrel
      clear HB
      by_cases hlt : k < xs.length
      · have d1 : decide ((k : Int) < (xs.length : Int)) = true := by simp; omega
        have c1 : wr.cell? ⟨b, o + k, none⟩ = some (.int .i64 (xs.getD k 0)) := (HG.out.cell (p := ⟨b, o + k, none⟩) hb).trans (HC.out k hlt)
        have hkc : k ≤ cap := by omega
        have hxm : xs.getD k 0 ∈ xs := by simp [List.getD, hlt]
        have hxb := HX.out _ hxm
        have HAT : Hid (gbAt xs k = (pmB (xs.getD k 0) && !((xs.take k).contains (xs.getD k 0)))) := rfl
        have HPM : Hid (pmB (xs.getD k 0) = (modB (xs.getD k 0) && isP (xs.getD k 0).toNat)) := rfl
        have HHN : Hid ((∀ j, j < k → (xs.getD k 0 == xs.getD j 0) = false) → (xs.take k).contains (xs.getD k 0) = false) := fun h => has_none _ _ (fun j hj => by
          rw [List.length_take] at hj
          have e : (xs.take k).getD j 0 = xs.getD j 0 := by simp [List.getD, List.getElem?_take, show j < k by omega]
          rw [e]
          exact h j (by omega))
        have HHY : Hid (∀ j, j < k → (xs.getD k 0 == xs.getD j 0) = true → (xs.take k).contains (xs.getD k 0) = true) := fun j hj h => has_at _ _ j (by rw [List.length_take]; omega) (by
          have e : (xs.take k).getD j 0 = xs.getD j 0 := by simp [List.getD, List.getElem?_take, hj]
          rw [e]
          exact h)
        have cm := fun W => spec_modulus (xs.getD k 0) W
        cases hm : modB (xs.getD k 0)
        · have H3 : Hid (false = B) := by
            have := H1.out
            rw [gb_no hlt (by rw [HAT.out, HPM.out, hm]; rfl)] at this
            exact this
          rw [hm] at cm
          clear HAT HPM HHN HHY hm H1 hxm
          generalize xs.getD k 0 = x at *
          go_wp2_with (go_at_call 56; refine (cm _).mono ?_; rintro e w' ⟨rfl, rfl⟩)
          go_ret
          exact ⟨ret_bb H3.out, HG.out⟩
        · rw [hm] at cm
          obtain ⟨m1, m2⟩ := modB_yes hm
          have cp := fun W => spec_IsPrime (xs.getD k 0).toNat W (by omega)
          rw [Int.toNat_of_nonneg (by omega)] at cp
          cases hp : isP (xs.getD k 0).toNat
          · have H3 : Hid (false = B) := by
              have := H1.out
              rw [gb_no hlt (by rw [HAT.out, HPM.out, hm, hp]; rfl)] at this
              exact this
            rw [hp] at cp
            clear HAT HPM HHN HHY hm hp H1 hxm
            generalize xs.getD k 0 = x at *
            go_wp2_with (go_at_call 56; refine (cm _).mono ?_; rintro e w' ⟨rfl, rfl⟩)
            refine (cp _).mono ?_
            rintro e w2 ⟨rfl, g2⟩
            have HG2 : Hid (Old w w2) := Old.trans HG.out g2
            clear g2
            go_wp2_with fail
            go_ret
            exact ⟨ret_bb H3.out, HG2.out⟩
          · have HY : Hid ((xs.take k).contains (xs.getD k 0) = false → gb xs (k + 1) = B) := fun hct => by
              have := H1.out
              rw [gb_yes (by rw [HAT.out, HPM.out, hm, hp, hct]; rfl)] at this
              exact this
            have HN : Hid ((xs.take k).contains (xs.getD k 0) = true → false = B) := fun hct => by
              have := H1.out
              rw [gb_no hlt (by rw [HAT.out, HPM.out, hm, hp, hct]; rfl)] at this
              exact this
            rw [hp] at cp
            have HY2 : Hid ((∀ j, j < k → (xs.getD k 0 == xs.getD j 0) = false) → gb xs (k + 1) = B) := fun h => HY.out (HHN.out h)
            have HN2 : Hid (∀ j, j < k → (xs.getD k 0 == xs.getD j 0) = true → false = B) := fun j hj h => HN.out (HHY.out j hj h)
            clear HAT HPM HHN HHY HY HN hm hp H1 hxm
            generalize xs.getD k 0 = x at *
            go_wp2_with (go_at_call 56; refine (cm _).mono ?_; rintro e w' ⟨rfl, rfl⟩)
            refine (cp _).mono ?_
            rintro e w2 ⟨rfl, g2⟩
            have HG2 : Hid (Old w w2) := Old.trans HG.out g2
            clear g2 HG c1 cp cm d1
            go_wp2_with fail
            go_loopw [31] (fun i W => ∃ j : Nat, j ≤ k ∧ i = .int .i64 j ∧ Hid (∀ i, i < j → (x == xs.getD i 0) = false) ∧ Hid (Old w W)) (fun i _ => k - (intOf i).toNat)
            case atStart => exact ⟨0, by omega, rfl, fun j hj => by omega, HG2⟩
            case round =>
              obtain ⟨j, hj, rfl, H4, HG4⟩ := hrel
              by_cases hjk : j < k
              · have d2 : decide ((j : Int) < (k : Int)) = true := by simp; omega
                have c2 : wr.cell? ⟨b, o + j, none⟩ = some (.int .i64 (xs.getD j 0)) := (HG4.out.cell (p := ⟨b, o + j, none⟩) hb).trans (HC.out j (by omega))
                cases hq : (x == xs.getD j 0)
                · have H5 : Hid (∀ i, i < j + 1 → (x == xs.getD i 0) = false) := fun i hi => by
                    rcases Nat.lt_or_ge i j with h | h
                    · exact H4.out i h
                    · obtain rfl : i = j := by omega
                      exact hq
                  clear H4
                  generalize xs.getD j 0 = y at *
                  go_wp2_with fail
                  exact ⟨⟨j + 1, by omega, by go_num, H5, HG4⟩, by simp [intOf]; omega⟩
                · have H5 : Hid (false = B) := HN2.out j hjk hq
                  clear H4
                  generalize xs.getD j 0 = y at *
                  go_wp2_with fail
                  go_ret
                  exact ⟨ret_bb H5.out, HG4.out⟩
              · have d2 : decide ((j : Int) < (k : Int)) = false := by simp; omega
                have H5 : Hid (gb xs (k + 1) = B) := HY2.out (fun i hi => H4.out i (by omega))
                clear H4
                go_wp2_with fail
                exact ⟨⟨k + 1, by omega, by go_num, H5, HG4⟩, by simp [intOf]; omega⟩
      · have d1 : decide ((k : Int) < (xs.length : Int)) = false := by simp; omega
        have H3 : Hid (true = B) := by
          have := H1.out
          rw [gb_end (by omega)] at this
          exact this
        clear H1
        go_wp2_with fail
        go_ret
        exact ⟨ret_bb H3.out, HG.out⟩
  · have HB : Hid (false = basB xs) := by
      show _ = _
      unfold basB
      rw [decide_eq_false h0, Bool.false_and]
    generalize basB xs = B at *
    have hin : inB (xs.length : Int) 1 6 = false := decide_eq_false (by omega)
    rw [hin] at ci
    obtain ⟨a, cap, rfl⟩ := hv.slice
    clear hv hf h0 hin hx
    go_enter Tryd.func44, Tryd.ntmps44
    go_wp2_with (go_at_call 59; refine (ci _).mono ?_; rintro e w1 ⟨rfl, hw⟩; obtain rfl : w = w1 := hw.symm)
    go_ret
    exact ⟨ret_bb HB.out, Old.refl _⟩
end Go.Proofs.YtejkejfhahmhcaaDoor
/- Proved: the program's product of all factors, as a size. -/
namespace Go.Proofs.YtejkejfhahmhcaaDoor
open Go.ChangeShapes Go.WideShapes Go.ChangeAt Go.RowKit
open M2
set_option linter.unusedVariables false
set_option linter.unusedSimpArgs false
/-- the product of a list -/
def prodN (ps : List Nat) : Nat := ps.foldl (fun a p => a * p) 1
theorem prodN_nil : prodN [] = 1 := rfl
theorem prodN_snoc (ps : List Nat) (p : Nat) : prodN (ps ++ [p]) = prodN ps * p := by simp [prodN, List.foldl_append]
theorem prodN_take (ps : List Nat) (k : Nat) (h : k < ps.length) : prodN (ps.take (k + 1)) = prodN (ps.take k) * ps.getD k 0 := by
  rw [← prodN_snoc]
  congr 1
  rw [List.take_add_one]
  congr 1
  simp [List.getD, h]
theorem prodN_le (ps : List Nat) (hb : ∀ p ∈ ps, p ≤ 268435456) : ∀ k, k ≤ ps.length → prodN (ps.take k) ≤ LB ^ k
  | 0, _ => by simp [prodN]
  | k + 1, h => by
    rw [prodN_take ps k (by omega), Nat.pow_succ]
    have h1 := prodN_le ps hb k (by omega)
    have h2 : ps.getD k 0 ≤ LB := by
      have : ps.getD k 0 ∈ ps := by simp [List.getD, show k < ps.length by omega]
      exact hb _ this
    exact Nat.mul_le_mul h1 h2
theorem prodN_cnt (ps : List Nat) (hb : ∀ p ∈ ps, p ≤ 268435456) (k : Nat) (h : k ≤ ps.length) : cnt (prodN (ps.take k)) ≤ k + 1 := by
  refine cnt_le (Nat.lt_of_le_of_lt (prodN_le ps hb k h) ?_)
  rw [Nat.pow_succ]
  have h1 : 0 < LB ^ k := pw k
  have h2 : LB ^ k * 2 ≤ LB ^ k * LB := Nat.mul_le_mul_left _ (by decide)
  omega
set_option maxHeartbeats 2000000 in
theorem times_sz (a p : Nat) (w : World) (ha : cnt a ≤ 40) (hp : p ≤ 268435456) :
    Calls Tryd.prog 106 #[.agg (szV a), .int .i64 (p : Int)] w fun e w' => e = .returned (.agg (szV (a * p))) ∧ Old w w' := by
  have HPA : Hid ((pad a).length = 80) := pad_len' ha (by omega)
  have c := fun W => scaled_sz a p 0 W (by omega) hp (by omega)
  rw [Nat.add_zero] at c
  have HPR : Hid ((pad (a * p)).length = 80) := by
    have h1 : cnt (a * p) ≤ 41 := by
      refine cnt_le ?_
      have h2 := cnt_lt a
      have h3 : LB ^ cnt a ≤ LB ^ 40 := Nat.pow_le_pow_right LB_pos ha
      have h4 : a * p < LB ^ 40 * LB := by
        rcases Nat.eq_zero_or_pos p with h0 | h0
        · subst h0; simp; exact Nat.mul_pos (pw 40) LB_pos
        · exact Nat.mul_lt_mul_of_lt_of_le (by omega) hp LB_pos
      rw [Nat.pow_succ]
      exact h4
    exact pad_len' h1 (by omega)
  have H1 : Hid (Sz ((w.alloc (.cells (szA (pad a) (cnt a)) 54)).alloc (.cells Tryd.zeroCells54 54)) w.heap.size (pad a) (cnt a)) := (Sz.new w _ _ HPA.out).alloc _
  have HR : Hid (Sz ((w.alloc (.cells (szA (pad a) (cnt a)) 54)).alloc (.cells Tryd.zeroCells54 54)) (w.heap.size + 1) (ext []) 0) := Sz.zero _ _ (by simp)
  have HG : Hid (Old w ((w.alloc (.cells (szA (pad a) (cnt a)) 54)).alloc (.cells Tryd.zeroCells54 54))) := ((Old.refl w).alloc _).alloc _
  unfold szV at *
  generalize a * p = r at *
  go_enter Tryd.func106, Tryd.ntmps106
  go_wp2_with (first | ((with_reducible refine load_sz H1.out ?_ ?_); exact rfl; simp only [Act.put, List.setIfInBounds_toArray, List.set_cons_succ, List.set_cons_zero]) | (go_at_call 93; refine (c _).mono ?_; rintro e w5 ⟨rfl, g5⟩; have HR5 : Hid (Sz w5 (w.heap.size + 1) (ext []) 0) := HR.out.old g5; have HG5 : Hid (Old w w5) := Old.trans HG.out g5; clear g5) | ((with_reducible refine store_sz HR5.out (pad r) (cnt r) HPR.out ?_ ?_ ?_); exact rfl; exact rfl; simp only [Act.put]) | ((with_reducible refine bodyPost_ret (ret_sz Tryd.results106 _ _ ?_ (HR5.out.row (pad r) (cnt r) HPR.out)) ?_ ?_); exact rfl; exact rfl; exact ⟨rfl, HG5.out.row (by omega) _⟩))
set_option maxRecDepth 100000 in
set_option maxHeartbeats 4000000 in
theorem all_sz (ps : List Nat) (v : Value) (w : World) (hv : Row w v (toZ ps)) (hl : ps.length ≤ 6) (hb : ∀ p ∈ ps, p ≤ 268435456) :
    Calls Tryd.prog 105 #[.func (.func 106) #[] #[], .agg (szV 1), v] w fun e w' => e = .returned (.agg (szV (prodN ps))) ∧ Old w w' := by
  have HP1 : Hid ((pad 1).length = 80) := pad_len' (n := 1) (k := 3) (cnt_word (by omega)) (by omega)
  have H1 : Hid (Sz ((w.alloc (.cells (szA (pad 1) (cnt 1)) 54)).alloc (.cells Tryd.zeroCells54 54)) w.heap.size (pad 1) (cnt 1)) := (Sz.new w _ _ HP1.out).alloc _
  have HZ : Hid (Sz (((w.alloc (.cells (szA (pad 1) (cnt 1)) 54)).alloc (.cells Tryd.zeroCells54 54)).alloc (.cells Tryd.zeroCells54 54)) (w.heap.size + 1 + 1) (ext []) 0) := Sz.zero _ _ (by simp)
  have HY : Hid (Sz (((w.alloc (.cells (szA (pad 1) (cnt 1)) 54)).alloc (.cells Tryd.zeroCells54 54)).alloc (.cells Tryd.zeroCells54 54)) (w.heap.size + 1) (ext []) 0) := (Sz.zero _ _ (by simp)).alloc _
  have HG0 : Hid (Old w (((w.alloc (.cells (szA (pad 1) (cnt 1)) 54)).alloc (.cells Tryd.zeroCells54 54)).alloc (.cells Tryd.zeroCells54 54))) := (((Old.refl w).alloc _).alloc _).alloc _
  have HC : Hid (∀ k, k ≤ ps.length → cnt (prodN (ps.take k)) ≤ 7) := fun k h => Nat.le_trans (prodN_cnt ps hb k h) (by omega)
  have HB : Hid (∀ p ∈ ps, p ≤ 268435456) := hb
  have HN : Hid (prodN (ps.take 0) = 1) := rfl
  have HV : Hid (Row w v (toZ ps)) := hv
  obtain ⟨r, hr⟩ : ∃ r, prodN ps = r := ⟨_, rfl⟩
  rw [hr]
  have HRR : Hid (prodN ps = r) := hr
  clear hr
  obtain ⟨va, vc, rfl⟩ : ∃ a c, v = .slice a ps.length c := by have := hv.slice; rwa [toZ_len] at this
  clear hb hv
  unfold szV
  go_enter Tryd.func105, Tryd.ntmps105
  go_wp2_with (first | ((with_reducible refine load_sz H1.out ?_ ?_); exact rfl; simp only [Act.put, List.setIfInBounds_toArray, List.set_cons_succ, List.set_cons_zero]) | ((with_reducible refine store_sz HZ.out (pad 1) (cnt 1) HP1.out ?_ ?_ ?_); exact rfl; exact rfl; simp only [Act.put]))
  go_loopw [13] (fun i W => ∃ k : Nat, k ≤ ps.length ∧ i = .int .i64 k ∧ Hid (Sz W (w.heap.size + 1 + 1) (pad (prodN (ps.take k))) (cnt (prodN (ps.take k)))) ∧ Hid (Sz W (w.heap.size + 1) (ext []) 0) ∧ Hid (Old w W)) (fun i _ => ps.length - (intOf i).toNat)
  case atStart => exact ⟨0, by omega, rfl, HZ.out.row (pad 1) (cnt 1) HP1.out, HY.out.otherRow (by omega) _, HG0.out.row (by omega) _⟩
  case round =>
    obtain ⟨k, hk, rfl, HS, HR, HG⟩ := hrel
    clear H1 HZ HY HG0
    by_cases hlt : k < ps.length
    · have d1 : decide ((k : Int) < (ps.length : Int)) = true := by simp; omega
      obtain ⟨b, o, rfl, hb, hc⟩ : ∃ b o, va = some ⟨b, o, none⟩ ∧ b < w.heap.size ∧ ∀ j, j < ps.length → w.cell? ⟨b, o + j, none⟩ = some (.int .i64 ((ps.getD j 0 : Nat) : Int)) := by
        rcases HV.out with ⟨a', cap', e, e2⟩ | ⟨b, o, cap', e, hb, h0, hc⟩
        · have := congrArg List.length e2
          rw [toZ_len] at this
          simp only [List.length_nil] at this
          omega
        · simp only [Value.slice.injEq] at e
          rw [toZ_len] at hc
          exact ⟨b, o, e.1, hb, fun j hj => by rw [hc j hj, toZ_get]⟩
      have c1 : wr.cell? ⟨b, o + k, none⟩ = some (.int .i64 ((ps.getD k 0 : Nat) : Int)) := (HG.out.cell (p := ⟨b, o + k, none⟩) hb).trans (hc k hlt)
      have hpb : ps.getD k 0 ≤ 268435456 := HB.out _ (by simp [List.getD, hlt])
      have HE : Hid (prodN (ps.take (k + 1)) = prodN (ps.take k) * ps.getD k 0) := prodN_take ps k hlt
      have HC1 : Hid (cnt (prodN (ps.take k)) ≤ 40) := Nat.le_trans (HC.out k hk) (by omega)
      have HC2 : Hid ((pad (prodN (ps.take k) * ps.getD k 0)).length = 80) := by
        have := HC.out (k + 1) hlt
        rw [HE.out] at this
        exact pad_len' this (by omega)
      have HF : Hid (∀ W, Sz W (w.heap.size + 1 + 1) (pad (prodN (ps.take k) * ps.getD k 0)) (cnt (prodN (ps.take k) * ps.getD k 0)) → Sz W (w.heap.size + 1 + 1) (pad (prodN (ps.take (k + 1)))) (cnt (prodN (ps.take (k + 1))))) := fun W h => by rw [HE.out]; exact h
      have ct := fun W => times_sz (prodN (ps.take k)) (ps.getD k 0) W HC1.out hpb
      clear hc HE HC1
      generalize prodN (ps.take k) * ps.getD k 0 = y at *
      generalize prodN (ps.take k) = q at *
      generalize ps.getD k 0 = p at *
      unfold szV at ct
      go_wp2_with (first | ((with_reducible refine load_sz HS.out ?_ ?_); exact rfl; simp only [Act.put, List.setIfInBounds_toArray, List.set_cons_succ, List.set_cons_zero]) | (go_at_call 106; refine (ct _).mono ?_; rintro e w5 ⟨rfl, g5⟩; have HS5 : Hid (Sz w5 (w.heap.size + 1 + 1) (pad q) (cnt q)) := HS.out.old g5; have HR5 : Hid (Sz w5 (w.heap.size + 1) (ext []) 0) := HR.out.old g5; have HG5 : Hid (Old w w5) := Old.trans HG.out g5; clear g5) | ((with_reducible refine store_sz HS5.out (pad y) (cnt y) HC2.out ?_ ?_ ?_); exact rfl; exact rfl; simp only [Act.put]))
      exact ⟨⟨k + 1, by omega, by go_num, HF.out _ (HS5.out.row (pad y) (cnt y) HC2.out), HR5.out.otherRow (by omega) _, HG5.out.row (by omega) _⟩, by simp [intOf]; omega⟩
    · have d1 : decide ((k : Int) < (ps.length : Int)) = false := by simp; omega
      obtain rfl : k = ps.length := by omega
      have HL : Hid ((pad r).length = 80) := by
        have := HC.out ps.length (Nat.le_refl _)
        rw [List.take_length, HRR.out] at this
        exact pad_len' this (by omega)
      have HS2 : Hid (Sz wr (w.heap.size + 1 + 1) (pad r) (cnt r)) := by
        have := HS.out
        rw [List.take_length, HRR.out] at this
        exact this
      clear HS
      go_wp2_with (first | ((with_reducible refine load_sz HS2.out ?_ ?_); exact rfl; simp only [Act.put, List.setIfInBounds_toArray, List.set_cons_succ, List.set_cons_zero]) | ((with_reducible refine store_sz HR.out (pad r) (cnt r) HL.out ?_ ?_ ?_); exact rfl; exact rfl; simp only [Act.put]) | ((with_reducible refine bodyPost_ret (ret_sz Tryd.results105 _ _ ?_ (HR.out.row (pad r) (cnt r) HL.out)) ?_ ?_); exact rfl; exact rfl; exact ⟨rfl, HG.out.row (by omega) _⟩))
theorem productSize_sz (ps : List Nat) (v : Value) (w : World) (hv : Row w v (toZ ps)) (hl : ps.length ≤ 6) (hb : ∀ p ∈ ps, p ≤ 268435456) :
    Calls Tryd.prog 55 #[v] w fun e w' => e = .returned (.agg (szV (prodN ps))) ∧ Old w w' := by
  have HV : Hid (Row w v (toZ ps)) := hv
  obtain ⟨va, vc, rfl⟩ : ∃ a c, v = .slice a ps.length c := by have := hv.slice; rwa [toZ_len] at this
  have c1 := fun W => ofWord_sz 1 W (by omega)
  have c2 := fun W (h : Row W (.slice va ps.length vc) (toZ ps)) => all_sz ps _ W h hl hb
  have HL : Hid ((pad (prodN ps)).length = 80) := by
    have := prodN_cnt ps hb ps.length (Nat.le_refl _)
    rw [List.take_length] at this
    exact pad_len' this (by omega)
  have HZ : Hid (Sz (w.alloc (.cells Tryd.zeroCells54 54)) w.heap.size (ext []) 0) := Sz.zero _ _ rfl
  clear hv hb
  generalize prodN ps = r at *
  unfold szV at *
  go_enter Tryd.func55, Tryd.ntmps55
  go_wp2_with (first | (go_at_call 100; refine (c1 _).mono ?_; rintro e w1 ⟨rfl, g1⟩; have HG1 : Hid (Old w w1) := Old.trans ((Old.refl w).alloc _) g1; have HZ1 : Hid (Sz w1 w.heap.size (ext []) 0) := HZ.out.old g1; clear g1) | (go_at_call 105; refine (c2 _ (HV.out.old HG1.out)).mono ?_; rintro e w2 ⟨rfl, g2⟩; have HG2 : Hid (Old w w2) := Old.trans HG1.out g2; have HZ2 : Hid (Sz w2 w.heap.size (ext []) 0) := HZ1.out.old g2; clear g2) | ((with_reducible refine store_sz HZ2.out (pad r) (cnt r) HL.out ?_ ?_ ?_); exact rfl; exact rfl; simp only [Act.put]) | ((with_reducible refine bodyPost_ret (ret_sz Tryd.results55 _ _ ?_ (HZ2.out.row (pad r) (cnt r) HL.out)) ?_ ?_); exact rfl; exact rfl; exact ⟨rfl, HG2.out.row (Nat.le_refl _) _⟩))
end Go.Proofs.YtejkejfhahmhcaaDoor
/- Proved: the model's product of a basis; and a basis, opened. -/
namespace Go.Proofs.YtejkejfhahmhcaaDoor
open Go.ChangeShapes Go.WideShapes Go.ChangeAt Go.RowKit
open M2
set_option linter.unusedVariables false
set_option linter.unusedSimpArgs false
/-- what a basis is -/
structure Bas (ps : List Nat) : Prop where
  len1 : 1 ≤ ps.length
  len6 : ps.length ≤ 6
  lo : ∀ p ∈ ps, 2 ≤ p
  hi : ∀ p ∈ ps, p ≤ 268435456
theorem basB_yes {xs : List Int} (h : basB xs = true) : ∃ ps : List Nat, xs = toZ ps ∧ Bas ps := by
  simp only [basB, Bool.and_eq_true, decide_eq_true_eq] at h
  obtain ⟨⟨h1, h2⟩, h3⟩ := h
  have h4 : ∀ x ∈ xs, 2 ≤ x ∧ x ≤ 268435456 := fun x hx => by
    obtain ⟨j, hj, e⟩ := List.getElem_of_mem hx
    have h5 := of_decide_eq_true h3 j hj (Nat.zero_le _)
    simp only [gbAt, Bool.and_eq_true, pmB] at h5
    have h6 := modB_yes h5.1.1
    have e2 : xs.getD j 0 = x := by simp [List.getD, hj, e]
    rw [e2] at h6
    exact h6
  refine ⟨xs.map Int.toNat, ?_, by simpa using h1, by simpa using h2, fun p hp => ?_, fun p hp => ?_⟩
  · rw [toZ, List.map_map]
    refine (List.map_id xs).symm.trans (List.map_congr_left fun x hx => ?_)
    have := h4 x hx
    simp
    omega
  · obtain ⟨x, hx, rfl⟩ := List.mem_map.1 hp
    have := h4 x hx
    omega
  · obtain ⟨x, hx, rfl⟩ := List.mem_map.1 hp
    have := h4 x hx
    omega
theorem one_dig (w : World) (t : TypeId) : Row (w.alloc (.cells #[.int .i64 1] t)) (.slice (some ⟨w.heap.size, 0, none⟩) 1 1) (toI (dig 1)) := by
  have e : dig 1 = [1] := by decide +kernel
  rw [e]
  exact Or.inr ⟨w.heap.size, 0, 1, rfl, by simp, by simp [toI], fun j hj => by
    have : j = 0 := by simp [toI] at hj; omega
    subst this
    rw [cell_at _ _ _ _ _ (by simp)]
    rfl⟩
theorem dig_short {n k : Nat} (h : cnt n ≤ k) : (dig n).length ≤ k := h
set_option maxRecDepth 100000 in
set_option maxHeartbeats 2000000 in
theorem spec_product (ps : List Nat) (v : Value) (w : World) (hv : Row w v (toZ ps)) (hl : ps.length ≤ 6) (hb : ∀ p ∈ ps, p ≤ 268435456) :
    Calls Tryd.prog 42 #[v] w fun e w' => ∃ v', e = .returned v' ∧ Old w w' ∧ Row w' v' (toI (dig (prodN ps))) := by
  have HC : Hid (∀ k, k ≤ ps.length → cnt (prodN (ps.take k)) ≤ 7) := fun k h => Nat.le_trans (prodN_cnt ps hb k h) (by omega)
  have HB : Hid (∀ p ∈ ps, p ≤ 268435456) := hb
  have HV : Hid (Row w v (toZ ps)) := hv
  obtain ⟨va, vc, rfl⟩ : ∃ a c, v = .slice a ps.length c := by have := hv.slice; rwa [toZ_len] at this
  have HL1 : Hid ((dig 1).length = 1) := by show (dig 1).length = 1; decide +kernel
  clear hb hv
  go_enter Tryd.func42, Tryd.ntmps42
  go_wp2_with fail
  go_loopw [3, 9] (fun x i W => ∃ (k : Nat) (a : Option Addr) (n c : Nat), k ≤ ps.length ∧ i = .int .i64 k ∧ x = .slice a n c ∧ Hid (Row W (.slice a n c) (toI (dig (prodN (ps.take k))))) ∧ Hid (Old w W)) (fun _ i _ => ps.length - (intOf i).toNat)
  case atStart => exact ⟨0, _, _, _, by omega, rfl, rfl, one_dig w _, (Old.refl w).alloc _⟩
  case round =>
    obtain ⟨k, a, n, c, hk, rfl, rfl, HR, HG⟩ := hrel
    by_cases hlt : k < ps.length
    · have d1 : decide ((k : Int) < (ps.length : Int)) = true := by simp; omega
      obtain ⟨b, o, rfl, hb, hc⟩ : ∃ b o, va = some ⟨b, o, none⟩ ∧ b < w.heap.size ∧ ∀ j, j < ps.length → w.cell? ⟨b, o + j, none⟩ = some (.int .i64 ((ps.getD j 0 : Nat) : Int)) := by
        rcases HV.out with ⟨a', cap', e, e2⟩ | ⟨b, o, cap', e, hb, h0, hc⟩
        · have := congrArg List.length e2
          rw [toZ_len] at this
          simp only [List.length_nil] at this
          omega
        · simp only [Value.slice.injEq] at e
          rw [toZ_len] at hc
          exact ⟨b, o, e.1, hb, fun j hj => by rw [hc j hj, toZ_get]⟩
      have c1 : wr.cell? ⟨b, o + k, none⟩ = some (.int .i64 ((ps.getD k 0 : Nat) : Int)) := (HG.out.cell (p := ⟨b, o + k, none⟩) hb).trans (hc k hlt)
      have hpb : ps.getD k 0 ≤ 268435456 := HB.out _ (by simp [List.getD, hlt])
      have HE : Hid (prodN (ps.take (k + 1)) = prodN (ps.take k) * ps.getD k 0) := prodN_take ps k hlt
      have HC1 : Hid ((dig (prodN (ps.take k))).length ≤ 1048576) := Nat.le_trans (HC.out k hk) (by omega)
      have HC2 : Hid ((dig (ps.getD k 0)).length ≤ 1048576) := Nat.le_trans (cnt_word (by omega)) (by omega)
      have HF : Hid (∀ W u, Row W u (toI (dig (prodN (ps.take k) * ps.getD k 0))) → Row W u (toI (dig (prodN (ps.take (k + 1)))))) := fun W u h => by rw [HE.out]; exact h
      clear hc HE
      generalize prodN (ps.take k) = q at *
      generalize ps.getD k 0 = p at *
      go_wp2_with fail
      refine (of_any p _ (by omega)).mono ?_
      rintro e w2 ⟨v2, rfl, g2, o2⟩
      have HG2 : Hid (Old w w2) := Old.trans HG.out g2
      have HR2 : Hid (Row w2 (.slice a n c) (toI (dig q))) := HR.out.old g2
      have HP2 : Hid (Row w2 v2 (toI (dig p))) := Own.row o2
      obtain ⟨a2, cap2, rfl⟩ := (Own.row o2).slice
      clear g2 o2
      go_wp2_with fail
      refine (mul_any (dig q) (dig p) _ _ _ HR2.out HP2.out (dig_lim q) (dig_lim p) HC1.out HC2.out).mono ?_
      rw [val_dig, val_dig]
      rintro e w3 ⟨v3, rfl, g3, o3⟩
      have HG3 : Hid (Old w w3) := Old.trans HG2.out g3
      have HP3 : Hid (Row w3 v3 (toI (dig (q * p)))) := Own.row o3
      obtain ⟨a3, cap3, rfl⟩ := (Own.row o3).slice
      clear g3 o3
      go_wp2_with fail
      exact ⟨⟨k + 1, _, _, _, by omega, by go_num, rfl, HF.out _ _ HP3.out, HG3⟩, by simp [intOf]; omega⟩
    · have d1 : decide ((k : Int) < (ps.length : Int)) = false := by simp; omega
      obtain rfl : k = ps.length := by omega
      have HF : Hid (Row wr (.slice a n c) (toI (dig (prodN ps)))) := by
        have := HR.out
        rw [List.take_length] at this
        exact this
      clear HR
      go_wp2_with fail
      go_ret
      exact ⟨_, rfl, HG.out, HF.out⟩
end Go.Proofs.YtejkejfhahmhcaaDoor
/- Proved: contracts of ProductOf, of the program and of the model. -/
namespace Go.Proofs.YtejkejfhahmhcaaDoor
open Go.ChangeShapes Go.WideShapes Go.ChangeAt Go.RowKit
open M2
set_option linter.unusedVariables false
set_option linter.unusedSimpArgs false
theorem infoWh : (Tryd.prog.info? 24).map (·.size) = some 2 := by kernel_rfl
/-- a whole number and a bool that are answered -/
theorem ret_wb {fn : Func} {p u : Tmp} (h : fn.results = #[.cell p 24, .tmp u]) (tmps : Array Value) (w : World) {g : Nat} {x y z : Value} (hp : tmps.getD p undef = .pointer (some ⟨g, 0, none⟩)) (hu : tmps.getD u undef = z) (hs : StW w g x y 24) :
    (results fn tmps).run Tryd.prog w = .ok (.tuple #[.agg #[x, y], z]) w := by
  have hld := run_loadVar_row (P := Tryd.prog) w g 24 24 #[x, y] (0, 0) _ hs Tryd.underlying24 rfl infoWh
  rw [results_cell_tmp h, hp, hu]
  simp [asAddr, Result.andThen, hld]
theorem nil_own (w : World) (base : Nat) : Own w base (.slice none 0 0) (toI []) := ⟨rfl, Or.inl ⟨rfl, rfl⟩⟩
theorem st_zero (w : World) (k : Nat) (h : StW w k (.bool false) (.slice none 0 0) 24) : StW ((w.setCell ⟨k, 0, none⟩ (.bool false)).setCell ⟨k, 1, none⟩ (.slice none 0 0)) k (.bool false) (.slice none 0 0) 24 := by
  have h1 := heap_setCell_same w k 0 _ _ (.bool false) h
  have h2 := heap_setCell_same _ k 1 _ _ (.slice none 0 0) h1
  exact h2
/-- what a call that tells a whole number and a bool leaves -/
abbrev Wh (W : World) (rb : Bool) (rl : List Nat) (ok : Bool) (e : Ending) (w' : World) : Prop := ∃ v', e = .returned (.tuple #[.agg #[.bool rb, v'], .bool ok]) ∧ Old W w' ∧ Own w' W.heap.size v' (toI rl)
theorem prodN_pos (ps : List Nat) (h : ∀ p ∈ ps, 2 ≤ p) : ∀ k, k ≤ ps.length → 0 < prodN (ps.take k)
  | 0, _ => by simp [prodN]
  | k + 1, hk => by
    rw [prodN_take ps k (by omega)]
    have h1 := prodN_pos ps h k (by omega)
    have h2 : 2 ≤ ps.getD k 0 := h _ (by simp [List.getD, show k < ps.length by omega])
    exact Nat.mul_pos h1 (by omega)
theorem Bas.pos {ps : List Nat} (h : Bas ps) : prodN ps ≠ 0 := by
  have := prodN_pos ps h.lo ps.length (Nat.le_refl _)
  rw [List.take_length] at this
  omega
theorem Bas.cnt {ps : List Nat} (h : Bas ps) : M2.cnt (prodN ps) ≤ 7 := by
  have := prodN_cnt ps h.hi ps.length (Nat.le_refl _)
  rw [List.take_length] at this
  have := h.len6
  omega
end Go.Proofs.YtejkejfhahmhcaaDoor
