/- Proved: several texts in one: what each proves is said ahead of it. -/
import Derived.Test.YtihjndakgncdaaaGreatDoorFd18
import Derived.Test.YtihjndakgncdaaaGreatDoorFd17
import Derived.Test.YtihjndakgncdaaaGreatDoorFd05
import Derived.Test.YtihjndakgncdaaaGreatDoorFd00
import Derived.Deep.RegionLawGrows
/- Proved: the model's product of a basis; and a basis, opened. -/
namespace Go.Proofs.YtihjndakgncdaaaGreatDoor
open Go.ChangeShapes Go.WideShapes Go.ChangeAt Go.RowKit
open M2
set_option linter.unusedVariables false
set_option linter.unusedSimpArgs false
structure Bas (ps : List Nat) : Prop where
  len1 : 1 ≤ ps.length
  len6 : ps.length ≤ 6
  lo : ∀ p ∈ ps, 2 ≤ p
  hi : ∀ p ∈ ps, p ≤ 268435456
theorem basB_yes {xs : List Int} (h : basB xs = true) : ∃ ps : List Nat, xs = toZ ps ∧ Bas ps := by
  simp only [basB, Bool.and_eq_true, decide_eq_true_eq] at h
  obtain ⟨⟨h1, h2⟩, h3⟩ := h
  have h4 : ∀ x ∈ xs, 2 ≤ x ∧ x ≤ 268435456 := fun x hx => by
    obtain ⟨j, hj, e⟩ := List.getElem_of_mem hx
    have h5 := of_decide_eq_true h3 j hj (Nat.zero_le _)
    simp only [gbAt, Bool.and_eq_true, pmB] at h5
    have h6 := modB_yes h5.1.1
    have e2 : xs.getD j 0 = x := by simp [List.getD, hj, e]
    rw [e2] at h6
    exact h6
  refine ⟨xs.map Int.toNat, ?_, by simpa using h1, by simpa using h2, fun p hp => ?_, fun p hp => ?_⟩
  · rw [toZ, List.map_map]
    refine (List.map_id xs).symm.trans (List.map_congr_left fun x hx => ?_)
    have := h4 x hx
    simp
    omega
  · obtain ⟨x, hx, rfl⟩ := List.mem_map.1 hp
    have := h4 x hx
    omega
  · obtain ⟨x, hx, rfl⟩ := List.mem_map.1 hp
    have := h4 x hx
    omega
theorem one_dig (w : World) (t : TypeId) : Row (w.alloc (.cells #[.int .i64 1] t)) (.slice (some ⟨w.heap.size, 0, none⟩) 1 1) (toI (dig 1)) := by
  have e : dig 1 = [1] := by decide +kernel
  rw [e]
  exact Or.inr ⟨w.heap.size, 0, 1, rfl, by simp, by simp [toI], fun j hj => by
    have : j = 0 := by simp [toI] at hj; omega
    subst this
    rw [cell_at _ _ _ _ _ (by simp)]
    rfl⟩
set_option maxRecDepth 100000 in
set_option maxHeartbeats 2000000 in
theorem spec_product (ps : List Nat) (v : Value) (w : World) (hv : Row w v (toZ ps)) (hl : ps.length ≤ 6) (hb : ∀ p ∈ ps, p ≤ 268435456) :
    Calls Tryz.prog 76 #[v] w fun e w' => ∃ v', e = .returned v' ∧ Old w w' ∧ Row w' v' (toI (dig (prodN ps))) := by
  have HC : Hid (∀ k, k ≤ ps.length → cnt (prodN (ps.take k)) ≤ 7) := fun k h => Nat.le_trans (prodN_cnt ps hb k h) (by omega)
  have HB := hidP hb
  have HV := hidP hv
  obtain ⟨va, vc, rfl⟩ : ∃ a c, v = .slice a ps.length c := by have := hv.slice; rwa [toZ_len] at this
  clear hb hv
  go_enter Tryz.func76, Tryz.ntmps76
  go_wp2_with fail
  go_loopw [3, 9] (fun x i W => ∃ (k : Nat) (a : Option Addr) (n c : Nat), k ≤ ps.length ∧ i = .int .i64 k ∧ x = .slice a n c ∧ Hid (Row W (.slice a n c) (toI (dig (prodN (ps.take k))))) ∧ Hid (Old w W)) (fun _ i _ => ps.length - (intOf i).toNat)
  case atStart => exact ⟨0, _, _, _, by omega, rfl, rfl, one_dig w _, (Old.refl w).alloc _⟩
  case round =>
    obtain ⟨k, a, n, c, hk, rfl, rfl, HR, HG⟩ := hrel
    by_cases hlt : k < ps.length
    · obtain ⟨b, o, rfl, hb, hc⟩ : ∃ b o, va = some ⟨b, o, none⟩ ∧ b < w.heap.size ∧ ∀ j, j < ps.length → w.cell? ⟨b, o + j, none⟩ = some (.int .i64 ((ps.getD j 0 : Nat) : Int)) := by
        rcases HV.out with ⟨a', cap', e, e2⟩ | ⟨b, o, cap', e, hb, h0, hc⟩
        · have := congrArg List.length e2
          rw [toZ_len] at this
          simp only [List.length_nil] at this
          omega
        · simp only [Value.slice.injEq] at e
          rw [toZ_len] at hc
          exact ⟨b, o, e.1, hb, fun j hj => by rw [hc j hj, toZ_get]⟩
      have c1 := (HG.out.cell (p := ⟨b, o + k, none⟩) hb).trans (hc k hlt)
      have hpb : ps.getD k 0 ≤ 268435456 := HB.out _ (by simp [List.getD, hlt])
      have HE := hidP (prodN_take ps k hlt)
      have HC1 : Hid ((dig (prodN (ps.take k))).length ≤ 1048576) := Nat.le_trans (HC.out k hk) (by omega)
      have HC2 : Hid ((dig (ps.getD k 0)).length ≤ 1048576) := Nat.le_trans (cnt_word (by omega)) (by omega)
      have HF : Hid (∀ W u, Row W u (toI (dig (prodN (ps.take k) * ps.getD k 0))) → Row W u (toI (dig (prodN (ps.take (k + 1)))))) := fun W u h => by rw [HE.out]; exact h
      clear hc HE
      generalize prodN (ps.take k) = q at *
      generalize ps.getD k 0 = p at *
      go_wp2_with fail
      refine (of_any p _ (by omega)).mono ?_
      rintro e w2 ⟨v2, rfl, g2, o2⟩
      have HG2 := hidP (Old.trans HG.out g2)
      have HR2 := hidP (HR.out.old g2)
      have HP2 := hidP (Own.row o2)
      obtain ⟨a2, cap2, rfl⟩ := (Own.row o2).slice
      clear g2 o2
      go_wp2_with fail
      refine (mul_any (dig q) (dig p) _ _ _ HR2.out HP2.out (dig_lim q) (dig_lim p) HC1.out HC2.out).mono ?_
      rw [val_dig, val_dig]
      rintro e w3 ⟨v3, rfl, g3, o3⟩
      have HG3 := hidP (Old.trans HG2.out g3)
      have HP3 := hidP (Own.row o3)
      obtain ⟨a3, cap3, rfl⟩ := (Own.row o3).slice
      clear g3 o3
      go_wp2_with fail
      exact ⟨⟨k + 1, _, _, _, by omega, by go_num, rfl, HF.out _ _ HP3.out, HG3⟩, by simp [intOf]; omega⟩
    · have d1 : decide ((k : Int) < (ps.length : Int)) = false := by simp; omega
      obtain rfl : k = ps.length := by omega
      have HF : Hid (Row wr (.slice a n c) (toI (dig (prodN ps)))) := by
        have := HR.out
        rw [List.take_length] at this
        exact this
      clear HR
      go_wp2_with fail
      go_ret
      exact ⟨_, rfl, HG.out, HF.out⟩
end Go.Proofs.YtihjndakgncdaaaGreatDoor
/- Proved: contracts of ProductOf, of the program and of the model. -/
namespace Go.Proofs.YtihjndakgncdaaaGreatDoor
open Go.ChangeShapes Go.WideShapes Go.ChangeAt Go.RowKit
open M2
set_option linter.unusedVariables false
set_option linter.unusedSimpArgs false
theorem nil_own (w : World) (base : Nat) : Own w base (.slice none 0 0) (toI []) := ⟨rfl, Or.inl ⟨rfl, rfl⟩⟩
theorem prodN_pos (ps : List Nat) (h : ∀ p ∈ ps, 2 ≤ p) : ∀ k, k ≤ ps.length → 0 < prodN (ps.take k)
  | 0, _ => by simp [prodN]
  | k + 1, hk => by
    rw [prodN_take ps k (by omega)]
    have h1 := prodN_pos ps h k (by omega)
    have h2 : 2 ≤ ps.getD k 0 := h _ (by simp [List.getD, show k < ps.length by omega])
    exact Nat.mul_pos h1 (by omega)
theorem Bas.pos {ps : List Nat} (h : Bas ps) : prodN ps ≠ 0 := by
  have := prodN_pos ps h.lo ps.length (Nat.le_refl _)
  rw [List.take_length] at this
  omega
theorem Bas.cnt {ps : List Nat} (h : Bas ps) : M2.cnt (prodN ps) ≤ 7 := by
  have := prodN_cnt ps h.hi ps.length (Nat.le_refl _)
  rw [List.take_length] at this
  have := h.len6
  omega
end Go.Proofs.YtihjndakgncdaaaGreatDoor
