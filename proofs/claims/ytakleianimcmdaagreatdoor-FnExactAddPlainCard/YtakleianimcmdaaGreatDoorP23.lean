/- Proved: several texts in one: what each proves is said ahead of it. -/
import Derived.Test.YtakleianimcmdaaGreatDoorP22
import Derived.Test.YtakleianimcmdaaGreatDoorP12
import Derived.Test.YtakleianimcmdaaGreatDoorP02
import Derived.Test.YtakleianimcmdaaGreatDoorP00
import Derived.Deep.RegionLawGrows
/- Proved: the model's product of a basis; and a basis, opened. -/
namespace Go.Proofs.YtakleianimcmdaaGreatDoor
open Go.ChangeShapes Go.WideShapes Go.ChangeAt Go.RowKit
open M2
set_option linter.unusedVariables false
set_option linter.unusedSimpArgs false
structure Bas (ps : List Nat) : Prop where
  len1 : 1 ≤ ps.length
  len6 : ps.length ≤ 6
  lo : ∀ p ∈ ps, 2 ≤ p
  hi : ∀ p ∈ ps, p ≤ 268435456
theorem basB_yes {xs : List Int} (h : basB xs = true) : ∃ ps : List Nat, xs = toZ ps ∧ Bas ps := by
  simp only [basB, Bool.and_eq_true, decide_eq_true_eq] at h
  obtain ⟨⟨h1, h2⟩, h3⟩ := h
  have h4 : ∀ x ∈ xs, 2 ≤ x ∧ x ≤ 268435456 := fun x hx => by
    obtain ⟨j, hj, e⟩ := List.getElem_of_mem hx
    have h5 := of_decide_eq_true h3 j hj (Nat.zero_le _)
    simp only [gbAt, Bool.and_eq_true, pmB] at h5
    have h6 := modB_yes h5.1.1
    have e2 : xs.getD j 0 = x := by simp [List.getD, hj, e]
    rw [e2] at h6
    exact h6
  refine ⟨xs.map Int.toNat, ?_, by simpa using h1, by simpa using h2, fun p hp => ?_, fun p hp => ?_⟩
  · rw [toZ, List.map_map]
    refine (List.map_id xs).symm.trans (List.map_congr_left fun x hx => ?_)
    have := h4 x hx
    simp
    omega
  · obtain ⟨x, hx, rfl⟩ := List.mem_map.1 hp
    have := h4 x hx
    omega
  · obtain ⟨x, hx, rfl⟩ := List.mem_map.1 hp
    have := h4 x hx
    omega
theorem one_dig (w : World) (t : TypeId) : Row (w.alloc (.cells #[.int .i64 1] t)) (.slice (some ⟨w.heap.size, 0, none⟩) 1 1) (toI (dig 1)) := by
  have e : dig 1 = [1] := by decide +kernel
  rw [e]
  exact Or.inr ⟨w.heap.size, 0, 1, rfl, by simp, by simp [toI], fun j hj => by
    have : j = 0 := by simp [toI] at hj; omega
    subst this
    rw [cell_at _ _ _ _ _ (by simp)]
    rfl⟩
set_option maxRecDepth 100000 in
set_option maxHeartbeats 2000000 in
theorem spec_product (ps : List Nat) (v : Value) (w : World) (hv : Row w v (toZ ps)) (hl : ps.length ≤ 6) (hb : ∀ p ∈ ps, p ≤ 268435456) :
    Calls Tryz.prog 151 #[v] w fun e w' => ∃ v', e = .returned v' ∧ Old w w' ∧ Row w' v' (toI (dig (prodN ps))) := by
  have HC : Hid (∀ k, k ≤ ps.length → cnt (prodN (ps.take k)) ≤ 7) := fun k h => Nat.le_trans (prodN_cnt ps hb k h) (by omega)
  have HB : Hid (∀ p ∈ ps, p ≤ 268435456) := hb
  have HV : Hid (Row w v (toZ ps)) := hv
  obtain ⟨va, vc, rfl⟩ : ∃ a c, v = .slice a ps.length c := by have := hv.slice; rwa [toZ_len] at this
  have HL1 : Hid ((dig 1).length = 1) := by show (dig 1).length = 1; decide +kernel
  clear hb hv
  go_enter Tryz.func151, Tryz.ntmps151
  go_wp2_with fail
  go_loopw [3, 9] (fun x i W => ∃ (k : Nat) (a : Option Addr) (n c : Nat), k ≤ ps.length ∧ i = .int .i64 k ∧ x = .slice a n c ∧ Hid (Row W (.slice a n c) (toI (dig (prodN (ps.take k))))) ∧ Hid (Old w W)) (fun _ i _ => ps.length - (intOf i).toNat)
  case atStart => exact ⟨0, _, _, _, by omega, rfl, rfl, one_dig w _, (Old.refl w).alloc _⟩
  case round =>
    obtain ⟨k, a, n, c, hk, rfl, rfl, HR, HG⟩ := hrel
    by_cases hlt : k < ps.length
    · have d1 : decide ((k : Int) < (ps.length : Int)) = true := by simp; omega
      obtain ⟨b, o, rfl, hb, hc⟩ : ∃ b o, va = some ⟨b, o, none⟩ ∧ b < w.heap.size ∧ ∀ j, j < ps.length → w.cell? ⟨b, o + j, none⟩ = some (.int .i64 ((ps.getD j 0 : Nat) : Int)) := by
        rcases HV.out with ⟨a', cap', e, e2⟩ | ⟨b, o, cap', e, hb, h0, hc⟩
        · have := congrArg List.length e2
          rw [toZ_len] at this
          simp only [List.length_nil] at this
          omega
        · simp only [Value.slice.injEq] at e
          rw [toZ_len] at hc
          exact ⟨b, o, e.1, hb, fun j hj => by rw [hc j hj, toZ_get]⟩
      have c1 : wr.cell? ⟨b, o + k, none⟩ = some (.int .i64 ((ps.getD k 0 : Nat) : Int)) := (HG.out.cell (p := ⟨b, o + k, none⟩) hb).trans (hc k hlt)
      have hpb : ps.getD k 0 ≤ 268435456 := HB.out _ (by simp [List.getD, hlt])
      have HE : Hid (prodN (ps.take (k + 1)) = prodN (ps.take k) * ps.getD k 0) := prodN_take ps k hlt
      have HC1 : Hid ((dig (prodN (ps.take k))).length ≤ 1048576) := Nat.le_trans (HC.out k hk) (by omega)
      have HC2 : Hid ((dig (ps.getD k 0)).length ≤ 1048576) := Nat.le_trans (cnt_word (by omega)) (by omega)
      have HF : Hid (∀ W u, Row W u (toI (dig (prodN (ps.take k) * ps.getD k 0))) → Row W u (toI (dig (prodN (ps.take (k + 1)))))) := fun W u h => by rw [HE.out]; exact h
      clear hc HE
      generalize prodN (ps.take k) = q at *
      generalize ps.getD k 0 = p at *
      go_wp2_with fail
      refine (of_any p _ (by omega)).mono ?_
      rintro e w2 ⟨v2, rfl, g2, o2⟩
      have HG2 : Hid (Old w w2) := Old.trans HG.out g2
      have HR2 : Hid (Row w2 (.slice a n c) (toI (dig q))) := HR.out.old g2
      have HP2 : Hid (Row w2 v2 (toI (dig p))) := Own.row o2
      obtain ⟨a2, cap2, rfl⟩ := (Own.row o2).slice
      clear g2 o2
      go_wp2_with fail
      refine (mul_any (dig q) (dig p) _ _ _ HR2.out HP2.out (dig_lim q) (dig_lim p) HC1.out HC2.out).mono ?_
      rw [val_dig, val_dig]
      rintro e w3 ⟨v3, rfl, g3, o3⟩
      have HG3 : Hid (Old w w3) := Old.trans HG2.out g3
      have HP3 : Hid (Row w3 v3 (toI (dig (q * p)))) := Own.row o3
      obtain ⟨a3, cap3, rfl⟩ := (Own.row o3).slice
      clear g3 o3
      go_wp2_with fail
      exact ⟨⟨k + 1, _, _, _, by omega, by go_num, rfl, HF.out _ _ HP3.out, HG3⟩, by simp [intOf]; omega⟩
    · have d1 : decide ((k : Int) < (ps.length : Int)) = false := by simp; omega
      obtain rfl : k = ps.length := by omega
      have HF : Hid (Row wr (.slice a n c) (toI (dig (prodN ps)))) := by
        have := HR.out
        rw [List.take_length] at this
        exact this
      clear HR
      go_wp2_with fail
      go_ret
      exact ⟨_, rfl, HG.out, HF.out⟩
end Go.Proofs.YtakleianimcmdaaGreatDoor
/- Proved: contracts of ProductOf, of the program and of the model. -/
namespace Go.Proofs.YtakleianimcmdaaGreatDoor
open Go.ChangeShapes Go.WideShapes Go.ChangeAt Go.RowKit
open M2
set_option linter.unusedVariables false
set_option linter.unusedSimpArgs false
theorem nil_own (w : World) (base : Nat) : Own w base (.slice none 0 0) (toI []) := ⟨rfl, Or.inl ⟨rfl, rfl⟩⟩
theorem Bas.cnt {ps : List Nat} (h : Bas ps) : M2.cnt (prodN ps) ≤ 7 := by
  have := prodN_cnt ps h.hi ps.length (Nat.le_refl _)
  rw [List.take_length] at this
  have := h.len6
  omega
end Go.Proofs.YtakleianimcmdaaGreatDoor
/- Proved: what the model answers, as functions of the numbers: sums and products of whole numbers. -/
namespace Go.Proofs.YtakleianimcmdaaGreatDoor
open Go.ChangeShapes Go.WideShapes Go.ChangeAt Go.RowKit
open M2
set_option linter.unusedVariables false
set_option linter.unusedSimpArgs false
def nat (xs : List Int) : List Nat := xs.map Int.toNat
theorem nat_len (xs : List Int) : (nat xs).length = xs.length := by simp [nat]
theorem nat_get (xs : List Int) (j : Nat) : (nat xs).getD j 0 = (xs.getD j 0).toNat := by
  simp only [nat, List.getD, List.getElem?_map]
  cases xs[j]? <;> rfl
theorem toI_nat {xs : List Int} (h : ∀ j, j < xs.length → 0 ≤ xs.getD j 0) : toI (nat xs) = xs := by
  apply List.ext_getElem
  · simp [toI, nat]
  · intro i h1 h2
    have := h i h2
    simp only [toI, nat, List.map_map, List.getElem_map, Function.comp]
    have e : xs.getD i 0 = xs[i] := by simp [List.getD, h2]
    rw [e] at this
    omega
theorem good_gw {n : Bool} {xs : List Int} (h : Good n xs) : toI (nat xs) = xs ∧ Gw n (nat xs) ∧ (nat xs).length ≤ 40 := by
  have hr : ∀ j, j < xs.length → 0 ≤ xs.getD j 0 := fun j hj => (h.2.2 j hj).1.1
  refine ⟨toI_nat hr, ⟨⟨?_, ?_⟩, ?_⟩, by rw [nat_len]; exact h.1⟩
  · intro x hx
    obtain ⟨j, hj, e⟩ := List.getElem_of_mem hx
    rw [nat_len] at hj
    have h2 := (h.2.2 j hj).1
    have h3 := nat_get xs j
    have e2 : (nat xs).getD j 0 = x := by rw [← e]; simp [List.getD, nat_len, hj]
    rw [e2] at h3
    unfold LB
    omega
  · intro hne h0
    have hl : 0 < xs.length := by
      rcases Nat.eq_zero_or_pos xs.length with h1 | h1
      · exact absurd (List.length_eq_zero_iff.1 (by rw [nat_len]; exact h1)) hne
      · exact h1
    rw [List.getLast_eq_getElem] at h0
    have hj : xs.length - 1 < xs.length := by omega
    have h2 := h.2.2 (xs.length - 1) hj
    have h3 := nat_get xs (xs.length - 1)
    have e2 : (nat xs).getD (xs.length - 1) 0 = 0 := by
      rw [← h0]
      simp [List.getD, nat_len, hj]
    rw [e2] at h3
    exact h2.2 ⟨by have := h2.1; omega, by omega⟩
  · intro hn he
    have : xs.length = 0 := by rw [← nat_len, he]; rfl
    exact h.2.1 ⟨this, hn⟩
end Go.Proofs.YtakleianimcmdaaGreatDoor
