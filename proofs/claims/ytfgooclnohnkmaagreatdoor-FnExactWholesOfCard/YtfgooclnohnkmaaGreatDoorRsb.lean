/- Proved: whether numbers are residues of a basis, of the program and of the model. -/
import Derived.Test.YtfgooclnohnkmaaGreatDoorNA
import Derived.Test.YtfgooclnohnkmaaGreatDoorKE
namespace Go.Proofs.YtfgooclnohnkmaaGreatDoor
open Go.ChangeShapes Go.WideShapes Go.ChangeAt Go.RowKit
set_option linter.unusedVariables false
set_option linter.unusedSimpArgs false
/-- from place k on each number is from 0 on and below its prime -/
def rsF (rs xs : List Int) (k : Nat) : Bool := decide (∀ i, i < xs.length → k ≤ i → resB (rs.getD i 0) (xs.getD i 0) = true)
def rsB (rs xs : List Int) : Bool := decide (rs.length = xs.length) && rsF rs xs 0
theorem rsF_end {rs xs : List Int} {k : Nat} (h : xs.length ≤ k) : rsF rs xs k = true := decide_eq_true (fun i h1 h2 => by omega)
theorem rsF_no {rs xs : List Int} {k : Nat} (h : k < xs.length) (hk : resB (rs.getD k 0) (xs.getD k 0) = false) : rsF rs xs k = false :=
  decide_eq_false (fun hh => by have := hh k h (Nat.le_refl _); rw [hk] at this; cases this)
theorem rsF_yes {rs xs : List Int} {k : Nat} (hk : resB (rs.getD k 0) (xs.getD k 0) = true) : rsF rs xs k = rsF rs xs (k + 1) := by
  unfold rsF
  congr 1
  refine propext ⟨fun h i h1 h2 => h i h1 (by omega), fun h i h1 h2 => ?_⟩
  rcases Nat.eq_or_lt_of_le h2 with e | e
  · rw [← e]; exact hk
  · exact h i h1 e
theorem Row.cells {w : World} {v : Value} {xs : List Int} (h : Row w v xs) (h0 : 0 < xs.length) : ∃ b o cap, v = .slice (some ⟨b, o, none⟩) xs.length cap ∧ b < w.heap.size ∧ ∀ j, j < xs.length → w.cell? ⟨b, o + j, none⟩ = some (.int .i64 (xs.getD j 0)) := by
  rcases h with ⟨a, cap, rfl, rfl⟩ | ⟨b, o, cap, e, hb, _, hc⟩
  · simp at h0
  · exact ⟨b, o, cap, e, hb, hc⟩
set_option maxHeartbeats 2000000 in
theorem areRes_any (rs xs : List Int) (v u : Value) (w : World) (hv : Row w v rs) (hu : Row w u xs) (hl : xs.length ≤ 9223372036854775807) (h1 : 1 ≤ xs.length) :
    Calls Tryz.prog 55 #[v, u] w fun e w' => e = .returned (.bool (rsB rs xs)) ∧ Old w w' := by
  by_cases hn : rs.length = xs.length
  · have HB : Hid (rsF rs xs 0 = rsB rs xs) := by
      show _ = _
      unfold rsB
      rw [decide_eq_true hn, Bool.true_and]
    generalize rsB rs xs = B at *
    obtain ⟨b, o, cap, rfl, hb, hc⟩ := hv.cells (by omega)
    obtain ⟨b2, o2, cap2, rfl, hb2, hc2⟩ := hu.cells (by omega)
    rw [hn] at hc ⊢
    have HC : Hid (∀ j, j < xs.length → w.cell? ⟨b, o + j, none⟩ = some (.int .i64 (rs.getD j 0))) := hc
    have HC2 : Hid (∀ j, j < xs.length → w.cell? ⟨b2, o2 + j, none⟩ = some (.int .i64 (xs.getD j 0))) := hc2
    have dn : ((xs.length : Int) != (xs.length : Int)) = false := by simp
    clear hc hc2 hn hv hu
    go_enter Tryz.func55, Tryz.ntmps55
    go_wp2_with fail
    go_loopw [14] (fun i W => ∃ k : Nat, k ≤ xs.length ∧ i = .int .i64 k ∧ Hid (rsF rs xs k = B) ∧ Hid (Old w W)) (fun i _ => xs.length - (intOf i).toNat)
    case atStart => exact ⟨0, by omega, rfl, HB, Old.refl _⟩
    case round =>
      obtain ⟨k, hk, rfl, H1, HG⟩ := hrel
      clear HB
      by_cases hlt : k < xs.length
      · have d1 : decide ((k : Int) < (xs.length : Int)) = true := by simp; omega
        have c1 : wr.cell? ⟨b, o + k, none⟩ = some (.int .i64 (rs.getD k 0)) := (HG.out.cell (p := ⟨b, o + k, none⟩) hb).trans (HC.out k hlt)
        have c2 : wr.cell? ⟨b2, o2 + k, none⟩ = some (.int .i64 (xs.getD k 0)) := (HG.out.cell (p := ⟨b2, o2 + k, none⟩) hb2).trans (HC2.out k hlt)
        have cr := fun W => residue_any (rs.getD k 0) (xs.getD k 0) W
        have i1 : (k : Int) < (xs.length : Int) := by omega
        cases hx : resB (rs.getD k 0) (xs.getD k 0)
        · rw [hx] at cr
          have H3 : Hid (false = B) := by have := H1.out; rw [rsF_no hlt hx] at this; exact this
          clear H1 hx
          generalize rs.getD k 0 = x at *
          generalize xs.getD k 0 = p at *
          go_wp2_with fail
          refine (cr _).mono ?_
          rintro e w2 ⟨rfl, hw⟩
          obtain rfl : wr = w2 := hw.symm
          go_wp2_with fail
          go_ret
          exact ⟨ret_bb H3.out, HG.out⟩
        · rw [hx] at cr
          have H3 : Hid (rsF rs xs (k + 1) = B) := by have := H1.out; rw [rsF_yes hx] at this; exact this
          clear H1 hx
          generalize rs.getD k 0 = x at *
          generalize xs.getD k 0 = p at *
          go_wp2_with fail
          refine (cr _).mono ?_
          rintro e w2 ⟨rfl, hw⟩
          obtain rfl : wr = w2 := hw.symm
          go_wp2_with fail
          exact ⟨⟨k + 1, by omega, by go_num, H3, HG⟩, by simp [intOf]; omega⟩
      · have d1 : decide ((k : Int) < (xs.length : Int)) = false := by simp; omega
        have H3 : Hid (true = B) := by have := H1.out; rw [rsF_end (by omega)] at this; exact this
        clear H1
        go_wp2_with fail
        go_ret
        exact ⟨ret_bb H3.out, HG.out⟩
  · have HB : Hid (false = rsB rs xs) := by
      show _ = _
      unfold rsB
      rw [decide_eq_false hn, Bool.false_and]
    generalize rsB rs xs = B at *
    obtain ⟨a, cap, rfl⟩ := hv.slice
    obtain ⟨a2, cap2, rfl⟩ := hu.slice
    have dn : ((rs.length : Int) != (xs.length : Int)) = true := by simp; omega
    clear hn hv hu
    go_enter Tryz.func55, Tryz.ntmps55
    go_wp2_with fail
    go_ret
    exact ⟨ret_bb HB.out, Old.refl _⟩
set_option maxRecDepth 100000 in
set_option maxHeartbeats 2000000 in
theorem l4Good_any (rs xs : List Int) (v u : Value) (w : World) (hv : Row w v rs) (hu : Row w u xs) (hf : Fit u) (hl : xs.length ≤ 9223372036854775807) (hlr : rs.length ≤ 9223372036854775807) (hx : ∀ x ∈ xs, -9223372036854775808 ≤ x ∧ x ≤ 9223372036854775807) :
    Calls Tryz.prog 58 #[v, u] w fun e w' => e = .returned (.bool (basB xs && rsB rs xs)) ∧ Old w w' := by
  have cg := spec_goodBasis xs u w hu hf hl hx
  cases hbas : basB xs
  · rw [hbas] at cg
    have HB : Hid (false = (false && rsB rs xs)) := by show _ = _; simp
    generalize (false && rsB rs xs) = B at *
    obtain ⟨a, cap, rfl⟩ := hv.slice
    obtain ⟨a2, cap2, rfl⟩ := hu.slice
    clear hv hu hf hx
    go_enter Tryz.func58, Tryz.ntmps58
    go_wp2_with fail
    refine cg.mono ?_
    rintro e w1 ⟨rfl, g1⟩
    have HG1 : Hid (Old w w1) := g1
    clear g1
    go_wp2_with fail
    go_ret
    exact ⟨ret_bb HB.out, HG1.out⟩
  rw [hbas] at cg
  rw [Bool.true_and]
  have h1 : 1 ≤ xs.length := by
    simp only [basB, Bool.and_eq_true, decide_eq_true_eq] at hbas
    exact hbas.1.1
  have hb3 : ∀ k, k < xs.length → 2 ≤ xs.getD k 0 ∧ xs.getD k 0 ≤ 268435456 := fun k hk => by
    simp only [basB, Bool.and_eq_true, decide_eq_true_eq] at hbas
    have h5 := of_decide_eq_true hbas.2 k hk (Nat.zero_le _)
    simp only [gbAt, Bool.and_eq_true, pmB] at h5
    exact modB_yes h5.1.1
  have HBD : Hid (∀ k, k < xs.length → 2 ≤ xs.getD k 0 ∧ xs.getD k 0 ≤ 268435456) := hb3
  clear hb3 hbas hx hf
  by_cases hn : rs.length = xs.length
  · have HB : Hid (rsF rs xs 0 = rsB rs xs) := by
      show _ = _
      unfold rsB
      rw [decide_eq_true hn, Bool.true_and]
    generalize rsB rs xs = B at *
    obtain ⟨b, o, cap, rfl, hb, hc⟩ := hv.cells (by omega)
    obtain ⟨b2, o2, cap2, rfl, hb2, hc2⟩ := hu.cells (by omega)
    rw [hn] at hc ⊢
    have HC : Hid (∀ j, j < xs.length → w.cell? ⟨b, o + j, none⟩ = some (.int .i64 (rs.getD j 0))) := hc
    have HC2 : Hid (∀ j, j < xs.length → w.cell? ⟨b2, o2 + j, none⟩ = some (.int .i64 (xs.getD j 0))) := hc2
    have dn : ((xs.length : Int) != (xs.length : Int)) = false := by simp
    clear hc hc2 hn hv hu
    go_enter Tryz.func58, Tryz.ntmps58
    go_wp2_with fail
    refine cg.mono ?_
    rintro e w1 ⟨rfl, g1⟩
    have HG1 : Hid (Old w w1) := g1
    clear g1 cg
    go_wp2_with fail
    go_loopw [19] (fun i W => ∃ k : Nat, k ≤ xs.length ∧ i = .int .i64 k ∧ Hid (rsF rs xs k = B) ∧ Hid (Old w W)) (fun i _ => xs.length - (intOf i).toNat)
    case atStart => exact ⟨0, by omega, rfl, HB, HG1⟩
    case round =>
      obtain ⟨k, hk, rfl, H1, HG⟩ := hrel
      clear HB HG1
      by_cases hlt : k < xs.length
      · have d1 : decide ((k : Int) < (xs.length : Int)) = true := by simp; omega
        have c1 : wr.cell? ⟨b, o + k, none⟩ = some (.int .i64 (rs.getD k 0)) := (HG.out.cell (p := ⟨b, o + k, none⟩) hb).trans (HC.out k hlt)
        have c2 : wr.cell? ⟨b2, o2 + k, none⟩ = some (.int .i64 (xs.getD k 0)) := (HG.out.cell (p := ⟨b2, o2 + k, none⟩) hb2).trans (HC2.out k hlt)
        have cr := fun W => spec_res (rs.getD k 0) (xs.getD k 0) W
        have i1 : (k : Int) < (xs.length : Int) := by omega
        obtain ⟨p1, p2⟩ := HBD.out k hlt
        cases hx : resB (rs.getD k 0) (xs.getD k 0)
        · rw [hx] at cr
          have H3 : Hid (false = B) := by have := H1.out; rw [rsF_no hlt hx] at this; exact this
          clear H1 hx
          generalize rs.getD k 0 = x at *
          generalize xs.getD k 0 = p at *
          go_wp2_with fail
          refine (cr _).mono ?_
          rintro e w2 ⟨rfl, hw⟩
          obtain rfl : wr = w2 := hw.symm
          go_wp2_with fail
          go_ret
          exact ⟨ret_bb H3.out, HG.out⟩
        · rw [hx] at cr
          have H3 : Hid (rsF rs xs (k + 1) = B) := by have := H1.out; rw [rsF_yes hx] at this; exact this
          clear H1 hx
          generalize rs.getD k 0 = x at *
          generalize xs.getD k 0 = p at *
          go_wp2_with fail
          refine (cr _).mono ?_
          rintro e w2 ⟨rfl, hw⟩
          obtain rfl : wr = w2 := hw.symm
          go_wp2_with fail
          exact ⟨⟨k + 1, by omega, by go_num, H3, HG⟩, by simp [intOf]; omega⟩
      · have d1 : decide ((k : Int) < (xs.length : Int)) = false := by simp; omega
        have H3 : Hid (true = B) := by have := H1.out; rw [rsF_end (by omega)] at this; exact this
        clear H1
        go_wp2_with fail
        go_ret
        exact ⟨ret_bb H3.out, HG.out⟩
  · have HB : Hid (false = rsB rs xs) := by
      show _ = _
      unfold rsB
      rw [decide_eq_false hn, Bool.false_and]
    generalize rsB rs xs = B at *
    obtain ⟨a, cap, rfl⟩ := hv.slice
    obtain ⟨a2, cap2, rfl⟩ := hu.slice
    have dn : ((rs.length : Int) != (xs.length : Int)) = true := by simp; omega
    clear hn hv hu
    go_enter Tryz.func58, Tryz.ntmps58
    go_wp2_with fail
    refine cg.mono ?_
    rintro e w1 ⟨rfl, g1⟩
    have HG1 : Hid (Old w w1) := g1
    clear g1
    go_wp2_with fail
    go_ret
    exact ⟨ret_bb HB.out, HG1.out⟩
end Go.Proofs.YtfgooclnohnkmaaGreatDoor
