/- Proved: contracts of the model's functions on limbs: noughts struck, comparing, adding, taking away. -/
import Derived.Test.YtfgooclnohnkmaaGreatDoorK0
import Derived.Test.YtfgooclnohnkmaaGreatDoorMtwob
namespace Go.Proofs.YtfgooclnohnkmaaGreatDoor
open Go.ChangeShapes Go.WideShapes Go.ChangeAt Go.RowKit
open M2
set_option linter.unusedVariables false
set_option linter.unusedSimpArgs false
/-- limbs as the program's numbers -/
def toI (xs : List Nat) : List Int := xs.map (fun (n : Nat) => (n : Int))
theorem toI_len (xs : List Nat) : (toI xs).length = xs.length := by simp [toI]
theorem toI_get (xs : List Nat) (j : Nat) : (toI xs).getD j 0 = ((xs.getD j 0 : Nat) : Int) := by
  simp only [toI, List.getD, List.getElem?_map]
  cases xs[j]? <;> rfl
theorem toI_take (xs : List Nat) (k : Nat) : (toI xs).take k = toI (xs.take k) := by simp [toI]
theorem toI_append (xs ys : List Nat) : toI (xs ++ ys) = toI xs ++ toI ys := by simp [toI]
theorem toI_nil : toI [] = [] := rfl
/-- where the limbs lie, if there are any -/
theorem Row.at {w : World} {a : Option Addr} {n cap : Nat} {xs : List Nat} (h : Row w (.slice a n cap) (toI xs)) (h0 : 0 < xs.length) :
    ∃ b o, a = some ⟨b, o, none⟩ ∧ b < w.heap.size ∧ ∀ j, j < xs.length → w.cell? ⟨b, o + j, none⟩ = some (.int .i64 ((xs.getD j 0 : Nat) : Int)) := by
  rcases h with ⟨a', cap', e, e2⟩ | ⟨b, o, cap', e, hb, _, hc⟩
  · have := congrArg List.length e2
    rw [toI_len, List.length_nil] at this
    omega
  · simp only [Value.slice.injEq] at e
    obtain ⟨rfl, _, _⟩ := e
    rw [toI_len] at hc
    exact ⟨b, o, rfl, hb, fun j hj => by rw [hc j hj, toI_get]⟩
theorem Row.sliceN {w : World} {v : Value} {xs : List Nat} (h : Row w v (toI xs)) : ∃ a cap, v = .slice a xs.length cap := by
  obtain ⟨a, cap, e⟩ := h.slice
  rw [toI_len] at e
  exact ⟨a, cap, e⟩
theorem nrm_take {xs : List Nat} (h : Lim xs) (k : Nat) (hk : k ≤ xs.length) (h0 : 0 < k → xs.getD (k - 1) 0 ≠ 0) : Nrm (xs.take k) := by
  refine ⟨h.take k, fun hne => ?_⟩
  have hk0 : 0 < k := by
    rcases Nat.eq_zero_or_pos k with e | e
    · subst e; simp at hne
    · exact e
  have := h0 hk0
  rw [List.getLast_eq_getElem]
  simp only [List.length_take, Nat.min_eq_left hk, List.getElem_take]
  simpa [List.getD, show k - 1 < xs.length by omega] using this
theorem beq0 (x : Nat) (h : x ≠ 0) : ((x : Int) == 0) = false := by simp; omega
theorem dlt_yes {a b : Int} (h : a < b) : decide (a < b) = true := by simp; omega
theorem dlt_no {a b : Int} (h : ¬ a < b) : decide (a < b) = false := by simp; omega
def sliceLen : Value → Nat
  | .slice _ k _ => k
  | _ => 0
set_option maxHeartbeats 1000000 in
theorem trim_any (xs : List Nat) (v : Value) (base : Nat) (w : World) (h : Own w base v (toI xs)) (hl : Lim xs) (hn : xs.length ≤ 1073741824) :
    Calls Tryz.prog 171 #[v] w fun e w' => ∃ v', e = .returned v' ∧ Old w w' ∧ Own w' base v' (toI (trim xs)) := by
  by_cases h0 : xs.length = 0
  · obtain rfl := List.length_eq_zero_iff.1 h0
    have HF : Hid (Own w base v (toI (trim []))) := by
      have : trim [] = [] := dig_zero
      rw [this]; exact h
    obtain ⟨a0, cap0, rfl⟩ := (Own.row h).slice
    rw [toI_len] at *
    clear h
    go_enter Tryz.func171, Tryz.ntmps171
    go_wp2_with fail
    refine wp_loop_rounds 1 ?_
    rw [rounds_succ]
    go_wp2_with fail
    go_ret
    exact ⟨_, rfl, Old.refl _, HF.out⟩
  · obtain ⟨g, cap, e⟩ : ∃ g cap, v = .slice (some ⟨g, 0, none⟩) xs.length cap := by
      rcases h.2 with ⟨_, h1⟩ | ⟨g, cap, cur, e, _⟩
      · rw [toI_len] at h1; exact absurd h1 h0
      · rw [toI_len] at e; exact ⟨g, cap, e⟩
    subst e
    have hcap : xs.length ≤ cap ∧ cap ≤ 9223372036854775807 := by
      rcases h.2 with ⟨h1, _⟩ | ⟨g', cap', cur, e, _, _, h1, h2, _⟩
      · simp at h1
      · simp only [Value.slice.injEq] at e
        obtain ⟨_, _, rfl⟩ := e
        rw [toI_len] at h1
        exact ⟨h1, h2⟩
    obtain ⟨hcap1, hcap2⟩ := hcap
    have HO : Hid (Own w base (.slice (some ⟨g, 0, none⟩) xs.length cap) (toI xs)) := h
    obtain ⟨b, o, e1, hb, hc⟩ := Row.at (Own.row h) (by omega)
    obtain ⟨rfl, rfl⟩ : b = g ∧ o = 0 := by cases e1; exact ⟨rfl, rfl⟩
    simp only [Nat.zero_add] at hc
    have HC : Hid (∀ j, j < xs.length → w.cell? ⟨b, j, none⟩ = some (.int .i64 ((xs.getD j 0 : Nat) : Int))) := hc
    clear h hc e1
    go_enter Tryz.func171, Tryz.ntmps171
    go_wp2_with fail
    go_loopw [0] (fun u W => ∃ k : Nat, k ≤ xs.length ∧ u = .slice (some ⟨b, 0, none⟩) k cap ∧ Hid (val (xs.take k) = val xs) ∧ Hid (Old w W)) (fun u _ => sliceLen u)
    case atStart => exact ⟨xs.length, Nat.le_refl _, rfl, by rw [List.take_length]; rfl, Old.refl _⟩
    case round =>
      obtain ⟨k, hk, rfl, HV, HG⟩ := hrel
      rcases Nat.eq_zero_or_pos k with hk0 | hk0
      · subst hk0
        have HF : Hid (Own wr base (.slice (some ⟨b, 0, none⟩) 0 cap) (toI (trim xs))) := by
          have e : trim xs = xs.take 0 := by
            unfold trim
            rw [← HV.out]
            exact dig_val (nrm_take hl 0 (by omega) (fun h => absurd h (by omega)))
          rw [e, ← toI_take]
          exact Own.take (by rw [toI_len]; exact HO.out.old HG.out) 0 (by omega)
        clear HO
        go_wp2_with fail
        go_ret
        exact ⟨_, rfl, HG.out, HF.out⟩
      · obtain ⟨m, rfl⟩ : ∃ m, k = m + 1 := ⟨k - 1, by omega⟩
        have c1 : wr.cell? ⟨b, m, none⟩ = some (.int .i64 ((xs.getD m 0 : Nat) : Int)) := (HG.out.cell (p := ⟨b, m, none⟩) hb).trans (HC.out m (by omega))
        have d0 : decide ((0 : Int) < ((m + 1 : Nat) : Int)) = true := by simp <;> omega
        by_cases hx : xs.getD m 0 = 0
        · have HV2 : Hid (val (xs.take m) = val xs) := by
            have := HV.out
            rw [val_take_succ, hx, Nat.mul_zero, Nat.add_zero] at this
            exact this
          rw [hx] at c1
          clear HV hx
          go_wp2_with fail
          exact ⟨⟨m, by omega, rfl, HV2, HG⟩, by simp [sliceLen]⟩
        · have HF : Hid (Own wr base (.slice (some ⟨b, 0, none⟩) (m + 1) cap) (toI (trim xs))) := by
            have e : trim xs = xs.take (m + 1) := by
              unfold trim
              rw [← HV.out]
              exact dig_val (nrm_take hl (m + 1) hk (fun _ => hx))
            rw [e, ← toI_take]
            exact Own.take (by rw [toI_len]; exact HO.out.old HG.out) (m + 1) (by rw [toI_len]; exact hk)
          have d1 := beq0 _ hx
          generalize xs.getD m 0 = x at *
          clear HO
          go_wp2_with fail
          go_ret
          exact ⟨_, rfl, HG.out, HF.out⟩
set_option maxHeartbeats 1000000 in
theorem cmp_any (xs ys : List Nat) (v u : Value) (w : World) (hv : Row w v (toI xs)) (hu : Row w u (toI ys)) (ha : Nrm xs) (hb : Nrm ys) (la : xs.length ≤ 1073741824) (lb : ys.length ≤ 1073741824) :
    Calls Tryz.prog 149 #[v, u] w fun e w' => e = .returned (.int .i64 (cmpN (val xs) (val ys))) ∧ Old w w' := by
  have HV : Hid (Row w v (toI xs)) := hv
  have HU : Hid (Row w u (toI ys)) := hu
  obtain ⟨a0, cap0, rfl⟩ := hv.sliceN
  obtain ⟨a1, cap1, rfl⟩ := hu.sliceN
  clear hv hu
  by_cases hlen : xs.length = ys.length
  · have d1 : ((xs.length : Int) != (ys.length : Int)) = false := by simp; omega
    have HL : Hid (xs.length = ys.length) := hlen
    clear hlen
    go_enter Tryz.func149, Tryz.ntmps149
    go_wp2_with fail
    go_loopw [5] (fun i W => ∃ k : Nat, k ≤ xs.length ∧ i = .int .i64 ((k : Int) - 1) ∧ Hid (xs.drop k = ys.drop k) ∧ Hid (Old w W)) (fun i _ => (intOf i + 1).toNat)
    case atStart => exact ⟨xs.length, Nat.le_refl _, rfl, (by show xs.drop xs.length = ys.drop xs.length; rw [List.drop_length, HL.out, List.drop_length]), Old.refl _⟩
    case round =>
      obtain ⟨k, hk, rfl, HD, HG⟩ := hrel
      rcases Nat.eq_zero_or_pos k with hk0 | hk0
      · subst hk0
        have e : cmpN (val xs) (val ys) = 0 := by
          have : xs = ys := by simpa using HD.out
          rw [this]
          unfold cmpN
          rw [if_neg (by omega), if_neg (by omega)]
        have HE : Hid (cmpN (val xs) (val ys) = 0) := e
        clear e
        go_wp2_with fail
        go_ret
        exact ⟨congrArg (fun z => Ending.returned (.int .i64 z)) HE.out.symm, HG.out⟩
      · obtain ⟨m, rfl⟩ : ∃ m, k = m + 1 := ⟨k - 1, by omega⟩
        obtain ⟨b, o, rfl, hb1, hc1⟩ := Row.at (HV.out.old HG.out) (by omega)
        obtain ⟨b', o', rfl, hb2, hc2⟩ := Row.at (HU.out.old HG.out) (by have := HL.out; omega)
        have c1 := hc1 m (by omega)
        have c2 := hc2 m (by have := HL.out; omega)
        clear hc1 hc2
        have d0 : decide ((0 : Int) ≤ (m : Int)) = true := by simp
        have hm : m < ys.length := by have := HL.out; omega
        have em : ((m + 1 : Nat) : Int) - 1 = (m : Int) := by omega
        have LTa := cmp_at (i := m) ha.1 (by omega) HL.out HD.out
        have LTb := cmp_at (i := m) hb.1 hm HL.out.symm HD.out.symm
        have EQ := drop_step (i := m) (by omega) HL.out HD.out
        have HA : Hid (xs.getD m 0 < ys.getD m 0 → val xs < val ys) := LTa
        have HB : Hid (ys.getD m 0 < xs.getD m 0 → val ys < val xs) := LTb
        have HE : Hid (xs.getD m 0 = ys.getD m 0 → xs.drop m = ys.drop m) := EQ
        clear LTa LTb EQ HD
        generalize xs.getD m 0 = x at *
        generalize ys.getD m 0 = y at *
        rw [em]
        clear em
        rcases Nat.lt_trichotomy x y with hxy | hxy | hxy
        · have d1 : decide (x < y) = true := by simp; omega
          have HE2 : Hid (cmpN (val xs) (val ys) = -1) := by have := HA.out hxy; unfold cmpN; rw [if_pos this]; rfl
          clear hxy
          go_wp2_with fail
          go_quiet (fail)
          go_wp2_with fail
          go_ret
          exact ⟨congrArg (fun z => Ending.returned (.int .i64 z)) HE2.out.symm, HG.out.drewN _⟩
        · subst hxy
          have HE3 : Hid (xs.drop m = ys.drop m) := HE.out rfl
          clear HE HA HB
          go_wp2_with fail
          go_quiet (fail)
          go_wp2_with fail
          go_quiet (fail)
          go_wp2_with fail
          exact ⟨⟨m, by omega, rfl, HE3, HG.out.drewN _⟩, by simp [intOf]⟩
        · have d1 : decide (x < y) = false := by simp; omega
          have d2 : decide (y < x) = true := by simp; omega
          have HE2 : Hid (cmpN (val xs) (val ys) = 1) := by have := HB.out hxy; unfold cmpN; rw [if_neg (by omega), if_pos this]; rfl
          clear hxy
          go_wp2_with fail
          go_quiet (fail)
          go_wp2_with fail
          go_quiet (fail)
          go_wp2_with fail
          go_ret
          exact ⟨congrArg (fun z => Ending.returned (.int .i64 z)) HE2.out.symm, (HG.out.drewN _).drewN _⟩
  · have d1 : ((xs.length : Int) != (ys.length : Int)) = true := by simp; omega
    by_cases hlt : xs.length < ys.length
    · have d2 : decide ((xs.length : Int) < (ys.length : Int)) = true := dlt_yes (by omega)
      have e : cmpN (val xs) (val ys) = -1 := by unfold cmpN; rw [if_pos (cmp_short ha hb hlt)]
      rw [e]
      go_enter Tryz.func149, Tryz.ntmps149
      go_wp2_with fail
      go_ret
      exact ⟨rfl, Old.refl _⟩
    · have d2 : decide ((xs.length : Int) < (ys.length : Int)) = false := dlt_no (by omega)
      have e : cmpN (val xs) (val ys) = 1 := by
        have := cmp_short hb ha (by omega)
        unfold cmpN; rw [if_neg (by omega), if_pos this]
      rw [e]
      go_enter Tryz.func149, Tryz.ntmps149
      go_wp2_with fail
      go_ret
      exact ⟨rfl, Old.refl _⟩
end Go.Proofs.YtfgooclnohnkmaaGreatDoor
