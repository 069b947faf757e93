/- Proved: several texts in one: what each proves is said ahead of it. -/
import Derived.Test.YtanijpekdnkicaaGreatDoorWq05
import Derived.Test.YtanijpekdnkicaaGreatDoorWq06
import Derived.Test.YtanijpekdnkicaaGreatDoorWq10
import Derived.Test.YtanijpekdnkicaaGreatDoorWq12
import Derived.Test.YtanijpekdnkicaaGreatDoorWq02
import Derived.Test.YtanijpekdnkicaaGreatDoorWq00
import Derived.Deep.RegionLawGrows
/- Proved: the program's product of all factors, as a size. -/
namespace Go.Proofs.YtanijpekdnkicaaGreatDoor
open Go.ChangeShapes Go.WideShapes Go.ChangeAt Go.RowKit
open M2
set_option linter.unusedVariables false
set_option linter.unusedSimpArgs false
def prodN (ps : List Nat) : Nat := ps.foldl (fun a p => a * p) 1
theorem prodN_snoc (ps : List Nat) (p : Nat) : prodN (ps ++ [p]) = prodN ps * p := by simp [prodN, List.foldl_append]
theorem prodN_take (ps : List Nat) (k : Nat) (h : k < ps.length) : prodN (ps.take (k + 1)) = prodN (ps.take k) * ps.getD k 0 := by
  rw [← prodN_snoc]
  congr 1
  rw [List.take_add_one]
  congr 1
  simp [List.getD, h]
theorem prodN_le (ps : List Nat) (hb : ∀ p ∈ ps, p ≤ 268435456) : ∀ k, k ≤ ps.length → prodN (ps.take k) ≤ LB ^ k
  | 0, _ => by simp [prodN]
  | k + 1, h => by
    rw [prodN_take ps k (by omega), Nat.pow_succ]
    have h1 := prodN_le ps hb k (by omega)
    have h2 : ps.getD k 0 ≤ LB := by
      have : ps.getD k 0 ∈ ps := by simp [List.getD, show k < ps.length by omega]
      exact hb _ this
    exact Nat.mul_le_mul h1 h2
theorem prodN_cnt (ps : List Nat) (hb : ∀ p ∈ ps, p ≤ 268435456) (k : Nat) (h : k ≤ ps.length) : cnt (prodN (ps.take k)) ≤ k + 1 := by
  refine cnt_le (Nat.lt_of_le_of_lt (prodN_le ps hb k h) ?_)
  rw [Nat.pow_succ]
  have h1 : 0 < LB ^ k := pw k
  have h2 : LB ^ k * 2 ≤ LB ^ k * LB := Nat.mul_le_mul_left _ (by decide)
  omega
set_option maxHeartbeats 2000000 in
theorem times_sz (a p : Nat) (w : World) (ha : cnt a ≤ 40) (hp : p ≤ 268435456) :
    Calls Tryz.prog 111 #[.agg (szV a), .int .i64 (p : Int)] w fun e w' => e = .returned (.agg (szV (a * p))) ∧ Old w w' := by
  have HPA : Hid ((pad a).length = 80) := pad_len' ha (by omega)
  have c := fun W => scaled_sz a p 0 W (by omega) hp (by omega)
  rw [Nat.add_zero] at c
  have HPR : Hid ((pad (a * p)).length = 80) := by
    have h1 : cnt (a * p) ≤ 41 := by
      refine cnt_le ?_
      have h2 := cnt_lt a
      have h3 : LB ^ cnt a ≤ LB ^ 40 := Nat.pow_le_pow_right LB_pos ha
      have h4 : a * p < LB ^ 40 * LB := by
        rcases Nat.eq_zero_or_pos p with h0 | h0
        · subst h0; simp; exact Nat.mul_pos (pw 40) LB_pos
        · exact Nat.mul_lt_mul_of_lt_of_le (by omega) hp LB_pos
      rw [Nat.pow_succ]
      exact h4
    exact pad_len' h1 (by omega)
  have H1 : Hid (Sz ((w.alloc (.cells (szA (pad a) (cnt a)) 131)).alloc (.cells Tryz.zeroCells131 131)) w.heap.size (pad a) (cnt a)) := (Sz.new w _ _ HPA.out).alloc _
  have HR : Hid (Sz ((w.alloc (.cells (szA (pad a) (cnt a)) 131)).alloc (.cells Tryz.zeroCells131 131)) (w.heap.size + 1) (ext []) 0) := Sz.zero _ _ (by simp)
  have HG : Hid (Old w ((w.alloc (.cells (szA (pad a) (cnt a)) 131)).alloc (.cells Tryz.zeroCells131 131))) := ((Old.refl w).alloc _).alloc _
  unfold szV at *
  generalize a * p = r at *
  go_enter Tryz.func111, Tryz.ntmps111
  go_wp2_with (first | ((with_reducible refine load_sz H1.out ?_ ?_); exact rfl; simp only [Act.put, List.setIfInBounds_toArray, List.set_cons_succ, List.set_cons_zero]) | (go_at_call 112; refine (c _).mono ?_; rintro e w5 ⟨rfl, g5⟩; have HR5 : Hid (Sz w5 (w.heap.size + 1) (ext []) 0) := HR.out.old g5; have HG5 : Hid (Old w w5) := Old.trans HG.out g5; clear g5) | ((with_reducible refine store_sz HR5.out (pad r) (cnt r) HPR.out ?_ ?_ ?_); exact rfl; exact rfl; simp only [Act.put]) | ((with_reducible refine bodyPost_ret (ret_sz Tryz.results111 _ _ ?_ (HR5.out.row (pad r) (cnt r) HPR.out)) ?_ ?_); exact rfl; exact rfl; exact ⟨rfl, HG5.out.row (by omega) _⟩))
set_option maxRecDepth 100000 in
set_option maxHeartbeats 4000000 in
theorem all_sz (ps : List Nat) (v : Value) (w : World) (hv : Row w v (toZ ps)) (hl : ps.length ≤ 6) (hb : ∀ p ∈ ps, p ≤ 268435456) :
    Calls Tryz.prog 110 #[.func (.func 111) #[] #[], .agg (szV 1), v] w fun e w' => e = .returned (.agg (szV (prodN ps))) ∧ Old w w' := by
  have HP1 : Hid ((pad 1).length = 80) := pad_len' (n := 1) (k := 3) (cnt_word (by omega)) (by omega)
  have H1 : Hid (Sz ((w.alloc (.cells (szA (pad 1) (cnt 1)) 131)).alloc (.cells Tryz.zeroCells131 131)) w.heap.size (pad 1) (cnt 1)) := (Sz.new w _ _ HP1.out).alloc _
  have HZ : Hid (Sz (((w.alloc (.cells (szA (pad 1) (cnt 1)) 131)).alloc (.cells Tryz.zeroCells131 131)).alloc (.cells Tryz.zeroCells131 131)) (w.heap.size + 1 + 1) (ext []) 0) := Sz.zero _ _ (by simp)
  have HY : Hid (Sz (((w.alloc (.cells (szA (pad 1) (cnt 1)) 131)).alloc (.cells Tryz.zeroCells131 131)).alloc (.cells Tryz.zeroCells131 131)) (w.heap.size + 1) (ext []) 0) := (Sz.zero _ _ (by simp)).alloc _
  have HG0 : Hid (Old w (((w.alloc (.cells (szA (pad 1) (cnt 1)) 131)).alloc (.cells Tryz.zeroCells131 131)).alloc (.cells Tryz.zeroCells131 131))) := (((Old.refl w).alloc _).alloc _).alloc _
  have HC : Hid (∀ k, k ≤ ps.length → cnt (prodN (ps.take k)) ≤ 7) := fun k h => Nat.le_trans (prodN_cnt ps hb k h) (by omega)
  have HB : Hid (∀ p ∈ ps, p ≤ 268435456) := hb
  have HN : Hid (prodN (ps.take 0) = 1) := rfl
  have HV : Hid (Row w v (toZ ps)) := hv
  obtain ⟨r, hr⟩ : ∃ r, prodN ps = r := ⟨_, rfl⟩
  rw [hr]
  have HRR : Hid (prodN ps = r) := hr
  clear hr
  obtain ⟨va, vc, rfl⟩ : ∃ a c, v = .slice a ps.length c := by have := hv.slice; rwa [toZ_len] at this
  clear hb hv
  unfold szV
  go_enter Tryz.func110, Tryz.ntmps110
  go_wp2_with (first | ((with_reducible refine load_sz H1.out ?_ ?_); exact rfl; simp only [Act.put, List.setIfInBounds_toArray, List.set_cons_succ, List.set_cons_zero]) | ((with_reducible refine store_sz HZ.out (pad 1) (cnt 1) HP1.out ?_ ?_ ?_); exact rfl; exact rfl; simp only [Act.put]))
  go_loopw [13] (fun i W => ∃ k : Nat, k ≤ ps.length ∧ i = .int .i64 k ∧ Hid (Sz W (w.heap.size + 1 + 1) (pad (prodN (ps.take k))) (cnt (prodN (ps.take k)))) ∧ Hid (Sz W (w.heap.size + 1) (ext []) 0) ∧ Hid (Old w W)) (fun i _ => ps.length - (intOf i).toNat)
  case atStart => exact ⟨0, by omega, rfl, HZ.out.row (pad 1) (cnt 1) HP1.out, HY.out.otherRow (by omega) _, HG0.out.row (by omega) _⟩
  case round =>
    obtain ⟨k, hk, rfl, HS, HR, HG⟩ := hrel
    clear H1 HZ HY HG0
    by_cases hlt : k < ps.length
    · have d1 : decide ((k : Int) < (ps.length : Int)) = true := by simp; omega
      obtain ⟨b, o, rfl, hb, hc⟩ : ∃ b o, va = some ⟨b, o, none⟩ ∧ b < w.heap.size ∧ ∀ j, j < ps.length → w.cell? ⟨b, o + j, none⟩ = some (.int .i64 ((ps.getD j 0 : Nat) : Int)) := by
        rcases HV.out with ⟨a', cap', e, e2⟩ | ⟨b, o, cap', e, hb, h0, hc⟩
        · have := congrArg List.length e2
          rw [toZ_len] at this
          simp only [List.length_nil] at this
          omega
        · simp only [Value.slice.injEq] at e
          rw [toZ_len] at hc
          exact ⟨b, o, e.1, hb, fun j hj => by rw [hc j hj, toZ_get]⟩
      have c1 : wr.cell? ⟨b, o + k, none⟩ = some (.int .i64 ((ps.getD k 0 : Nat) : Int)) := (HG.out.cell (p := ⟨b, o + k, none⟩) hb).trans (hc k hlt)
      have hpb : ps.getD k 0 ≤ 268435456 := HB.out _ (by simp [List.getD, hlt])
      have HE : Hid (prodN (ps.take (k + 1)) = prodN (ps.take k) * ps.getD k 0) := prodN_take ps k hlt
      have HC1 : Hid (cnt (prodN (ps.take k)) ≤ 40) := Nat.le_trans (HC.out k hk) (by omega)
      have HC2 : Hid ((pad (prodN (ps.take k) * ps.getD k 0)).length = 80) := by
        have := HC.out (k + 1) hlt
        rw [HE.out] at this
        exact pad_len' this (by omega)
      have HF : Hid (∀ W, Sz W (w.heap.size + 1 + 1) (pad (prodN (ps.take k) * ps.getD k 0)) (cnt (prodN (ps.take k) * ps.getD k 0)) → Sz W (w.heap.size + 1 + 1) (pad (prodN (ps.take (k + 1)))) (cnt (prodN (ps.take (k + 1))))) := fun W h => by rw [HE.out]; exact h
      have ct := fun W => times_sz (prodN (ps.take k)) (ps.getD k 0) W HC1.out hpb
      clear hc HE HC1
      generalize prodN (ps.take k) * ps.getD k 0 = y at *
      generalize prodN (ps.take k) = q at *
      generalize ps.getD k 0 = p at *
      unfold szV at ct
      go_wp2_with (first | ((with_reducible refine load_sz HS.out ?_ ?_); exact rfl; simp only [Act.put, List.setIfInBounds_toArray, List.set_cons_succ, List.set_cons_zero]) | (go_at_call 111; refine (ct _).mono ?_; rintro e w5 ⟨rfl, g5⟩; have HS5 : Hid (Sz w5 (w.heap.size + 1 + 1) (pad q) (cnt q)) := HS.out.old g5; have HR5 : Hid (Sz w5 (w.heap.size + 1) (ext []) 0) := HR.out.old g5; have HG5 : Hid (Old w w5) := Old.trans HG.out g5; clear g5) | ((with_reducible refine store_sz HS5.out (pad y) (cnt y) HC2.out ?_ ?_ ?_); exact rfl; exact rfl; simp only [Act.put]))
      exact ⟨⟨k + 1, by omega, by go_num, HF.out _ (HS5.out.row (pad y) (cnt y) HC2.out), HR5.out.otherRow (by omega) _, HG5.out.row (by omega) _⟩, by simp [intOf]; omega⟩
    · have d1 : decide ((k : Int) < (ps.length : Int)) = false := by simp; omega
      obtain rfl : k = ps.length := by omega
      have HL : Hid ((pad r).length = 80) := by
        have := HC.out ps.length (Nat.le_refl _)
        rw [List.take_length, HRR.out] at this
        exact pad_len' this (by omega)
      have HS2 : Hid (Sz wr (w.heap.size + 1 + 1) (pad r) (cnt r)) := by
        have := HS.out
        rw [List.take_length, HRR.out] at this
        exact this
      clear HS
      go_wp2_with (first | ((with_reducible refine load_sz HS2.out ?_ ?_); exact rfl; simp only [Act.put, List.setIfInBounds_toArray, List.set_cons_succ, List.set_cons_zero]) | ((with_reducible refine store_sz HR.out (pad r) (cnt r) HL.out ?_ ?_ ?_); exact rfl; exact rfl; simp only [Act.put]) | ((with_reducible refine bodyPost_ret (ret_sz Tryz.results110 _ _ ?_ (HR.out.row (pad r) (cnt r) HL.out)) ?_ ?_); exact rfl; exact rfl; exact ⟨rfl, HG.out.row (by omega) _⟩))
theorem productSize_sz (ps : List Nat) (v : Value) (w : World) (hv : Row w v (toZ ps)) (hl : ps.length ≤ 6) (hb : ∀ p ∈ ps, p ≤ 268435456) :
    Calls Tryz.prog 83 #[v] w fun e w' => e = .returned (.agg (szV (prodN ps))) ∧ Old w w' := by
  have HV : Hid (Row w v (toZ ps)) := hv
  obtain ⟨va, vc, rfl⟩ : ∃ a c, v = .slice a ps.length c := by have := hv.slice; rwa [toZ_len] at this
  have c1 := fun W => ofWord_sz 1 W (by omega)
  have c2 := fun W (h : Row W (.slice va ps.length vc) (toZ ps)) => all_sz ps _ W h hl hb
  have HL : Hid ((pad (prodN ps)).length = 80) := by
    have := prodN_cnt ps hb ps.length (Nat.le_refl _)
    rw [List.take_length] at this
    exact pad_len' this (by omega)
  have HZ : Hid (Sz (w.alloc (.cells Tryz.zeroCells131 131)) w.heap.size (ext []) 0) := Sz.zero _ _ rfl
  clear hv hb
  generalize prodN ps = r at *
  unfold szV at *
  go_enter Tryz.func83, Tryz.ntmps83
  go_wp2_with (first | (go_at_call 113; refine (c1 _).mono ?_; rintro e w1 ⟨rfl, g1⟩; have HG1 : Hid (Old w w1) := Old.trans ((Old.refl w).alloc _) g1; have HZ1 : Hid (Sz w1 w.heap.size (ext []) 0) := HZ.out.old g1; clear g1) | (go_at_call 110; refine (c2 _ (HV.out.old HG1.out)).mono ?_; rintro e w2 ⟨rfl, g2⟩; have HG2 : Hid (Old w w2) := Old.trans HG1.out g2; have HZ2 : Hid (Sz w2 w.heap.size (ext []) 0) := HZ1.out.old g2; clear g2) | ((with_reducible refine store_sz HZ2.out (pad r) (cnt r) HL.out ?_ ?_ ?_); exact rfl; exact rfl; simp only [Act.put]) | ((with_reducible refine bodyPost_ret (ret_sz Tryz.results83 _ _ ?_ (HZ2.out.row (pad r) (cnt r) HL.out)) ?_ ?_); exact rfl; exact rfl; exact ⟨rfl, HG2.out.row (Nat.le_refl _) _⟩))
end Go.Proofs.YtanijpekdnkicaaGreatDoor
/- Proved: the model's product of a basis; and a basis, opened. -/
namespace Go.Proofs.YtanijpekdnkicaaGreatDoor
open Go.ChangeShapes Go.WideShapes Go.ChangeAt Go.RowKit
open M2
set_option linter.unusedVariables false
set_option linter.unusedSimpArgs false
structure Bas (ps : List Nat) : Prop where
  len1 : 1 ≤ ps.length
  len6 : ps.length ≤ 6
  lo : ∀ p ∈ ps, 2 ≤ p
  hi : ∀ p ∈ ps, p ≤ 268435456
theorem basB_yes {xs : List Int} (h : basB xs = true) : ∃ ps : List Nat, xs = toZ ps ∧ Bas ps := by
  simp only [basB, Bool.and_eq_true, decide_eq_true_eq] at h
  obtain ⟨⟨h1, h2⟩, h3⟩ := h
  have h4 : ∀ x ∈ xs, 2 ≤ x ∧ x ≤ 268435456 := fun x hx => by
    obtain ⟨j, hj, e⟩ := List.getElem_of_mem hx
    have h5 := of_decide_eq_true h3 j hj (Nat.zero_le _)
    simp only [gbAt, Bool.and_eq_true, pmB] at h5
    have h6 := modB_yes h5.1.1
    have e2 : xs.getD j 0 = x := by simp [List.getD, hj, e]
    rw [e2] at h6
    exact h6
  refine ⟨xs.map Int.toNat, ?_, by simpa using h1, by simpa using h2, fun p hp => ?_, fun p hp => ?_⟩
  · rw [toZ, List.map_map]
    refine (List.map_id xs).symm.trans (List.map_congr_left fun x hx => ?_)
    have := h4 x hx
    simp
    omega
  · obtain ⟨x, hx, rfl⟩ := List.mem_map.1 hp
    have := h4 x hx
    omega
  · obtain ⟨x, hx, rfl⟩ := List.mem_map.1 hp
    have := h4 x hx
    omega
theorem one_dig (w : World) (t : TypeId) : Row (w.alloc (.cells #[.int .i64 1] t)) (.slice (some ⟨w.heap.size, 0, none⟩) 1 1) (toI (dig 1)) := by
  have e : dig 1 = [1] := by decide +kernel
  rw [e]
  exact Or.inr ⟨w.heap.size, 0, 1, rfl, by simp, by simp [toI], fun j hj => by
    have : j = 0 := by simp [toI] at hj; omega
    subst this
    rw [cell_at _ _ _ _ _ (by simp)]
    rfl⟩
set_option maxRecDepth 100000 in
set_option maxHeartbeats 2000000 in
theorem spec_product (ps : List Nat) (v : Value) (w : World) (hv : Row w v (toZ ps)) (hl : ps.length ≤ 6) (hb : ∀ p ∈ ps, p ≤ 268435456) :
    Calls Tryz.prog 145 #[v] w fun e w' => ∃ v', e = .returned v' ∧ Old w w' ∧ Row w' v' (toI (dig (prodN ps))) := by
  have HC : Hid (∀ k, k ≤ ps.length → cnt (prodN (ps.take k)) ≤ 7) := fun k h => Nat.le_trans (prodN_cnt ps hb k h) (by omega)
  have HB : Hid (∀ p ∈ ps, p ≤ 268435456) := hb
  have HV : Hid (Row w v (toZ ps)) := hv
  obtain ⟨va, vc, rfl⟩ : ∃ a c, v = .slice a ps.length c := by have := hv.slice; rwa [toZ_len] at this
  have HL1 : Hid ((dig 1).length = 1) := by show (dig 1).length = 1; decide +kernel
  clear hb hv
  go_enter Tryz.func145, Tryz.ntmps145
  go_wp2_with fail
  go_loopw [3, 9] (fun x i W => ∃ (k : Nat) (a : Option Addr) (n c : Nat), k ≤ ps.length ∧ i = .int .i64 k ∧ x = .slice a n c ∧ Hid (Row W (.slice a n c) (toI (dig (prodN (ps.take k))))) ∧ Hid (Old w W)) (fun _ i _ => ps.length - (intOf i).toNat)
  case atStart => exact ⟨0, _, _, _, by omega, rfl, rfl, one_dig w _, (Old.refl w).alloc _⟩
  case round =>
    obtain ⟨k, a, n, c, hk, rfl, rfl, HR, HG⟩ := hrel
    by_cases hlt : k < ps.length
    · have d1 : decide ((k : Int) < (ps.length : Int)) = true := by simp; omega
      obtain ⟨b, o, rfl, hb, hc⟩ : ∃ b o, va = some ⟨b, o, none⟩ ∧ b < w.heap.size ∧ ∀ j, j < ps.length → w.cell? ⟨b, o + j, none⟩ = some (.int .i64 ((ps.getD j 0 : Nat) : Int)) := by
        rcases HV.out with ⟨a', cap', e, e2⟩ | ⟨b, o, cap', e, hb, h0, hc⟩
        · have := congrArg List.length e2
          rw [toZ_len] at this
          simp only [List.length_nil] at this
          omega
        · simp only [Value.slice.injEq] at e
          rw [toZ_len] at hc
          exact ⟨b, o, e.1, hb, fun j hj => by rw [hc j hj, toZ_get]⟩
      have c1 : wr.cell? ⟨b, o + k, none⟩ = some (.int .i64 ((ps.getD k 0 : Nat) : Int)) := (HG.out.cell (p := ⟨b, o + k, none⟩) hb).trans (hc k hlt)
      have hpb : ps.getD k 0 ≤ 268435456 := HB.out _ (by simp [List.getD, hlt])
      have HE : Hid (prodN (ps.take (k + 1)) = prodN (ps.take k) * ps.getD k 0) := prodN_take ps k hlt
      have HC1 : Hid ((dig (prodN (ps.take k))).length ≤ 1048576) := Nat.le_trans (HC.out k hk) (by omega)
      have HC2 : Hid ((dig (ps.getD k 0)).length ≤ 1048576) := Nat.le_trans (cnt_word (by omega)) (by omega)
      have HF : Hid (∀ W u, Row W u (toI (dig (prodN (ps.take k) * ps.getD k 0))) → Row W u (toI (dig (prodN (ps.take (k + 1)))))) := fun W u h => by rw [HE.out]; exact h
      clear hc HE
      generalize prodN (ps.take k) = q at *
      generalize ps.getD k 0 = p at *
      go_wp2_with fail
      refine (of_any p _ (by omega)).mono ?_
      rintro e w2 ⟨v2, rfl, g2, o2⟩
      have HG2 : Hid (Old w w2) := Old.trans HG.out g2
      have HR2 : Hid (Row w2 (.slice a n c) (toI (dig q))) := HR.out.old g2
      have HP2 : Hid (Row w2 v2 (toI (dig p))) := Own.row o2
      obtain ⟨a2, cap2, rfl⟩ := (Own.row o2).slice
      clear g2 o2
      go_wp2_with fail
      refine (mul_any (dig q) (dig p) _ _ _ HR2.out HP2.out (dig_lim q) (dig_lim p) HC1.out HC2.out).mono ?_
      rw [val_dig, val_dig]
      rintro e w3 ⟨v3, rfl, g3, o3⟩
      have HG3 : Hid (Old w w3) := Old.trans HG2.out g3
      have HP3 : Hid (Row w3 v3 (toI (dig (q * p)))) := Own.row o3
      obtain ⟨a3, cap3, rfl⟩ := (Own.row o3).slice
      clear g3 o3
      go_wp2_with fail
      exact ⟨⟨k + 1, _, _, _, by omega, by go_num, rfl, HF.out _ _ HP3.out, HG3⟩, by simp [intOf]; omega⟩
    · have d1 : decide ((k : Int) < (ps.length : Int)) = false := by simp; omega
      obtain rfl : k = ps.length := by omega
      have HF : Hid (Row wr (.slice a n c) (toI (dig (prodN ps)))) := by
        have := HR.out
        rw [List.take_length] at this
        exact this
      clear HR
      go_wp2_with fail
      go_ret
      exact ⟨_, rfl, HG.out, HF.out⟩
end Go.Proofs.YtanijpekdnkicaaGreatDoor
/- Proved: bytes that grow in memory of their own, and the contracts of the functions that write numbers as bytes. -/
namespace Go.Proofs.YtanijpekdnkicaaGreatDoor
open Go.ChangeShapes Go.WideShapes Go.ChangeAt Go.RowKit
set_option linter.unusedVariables false
set_option linter.unusedSimpArgs false
theorem Tryz.infoU8 : (Tryz.prog.info? 5).map (fun i => (i.zero, i.size, i.bytes)) = some (some (.int .u8 0), 1, 1) := by kernel_rfl
abbrev BO (w : World) (base : Nat) (v : Value) (bs : List Int) : Prop := w.ownsRow base 5 1 v bs.length (bs.map (Value.int .u8))
structure Rg (base : Nat) (w w' : World) : Prop where
  os : w'.os = w.os
  tape : w'.tape = w.tape
  output : w'.output = w.output
  size : w.heap.size ≤ w'.heap.size
  block : ∀ k, k < base → w'.heap[k]? = w.heap[k]?
  typ : ∀ k, k < w.heap.size → (∀ cur fr, w.heap[k]? ≠ some (.cells cur 5 fr)) → w'.heap[k]? = w.heap[k]?
theorem Rg.refl (base : Nat) (w : World) : Rg base w w := ⟨rfl, rfl, rfl, Nat.le_refl _, fun _ _ => rfl, fun _ _ _ => rfl⟩
theorem Rg.trans {base : Nat} {a b c : World} (h : Rg base a b) (k : Rg base b c) : Rg base a c :=
  ⟨k.os.trans h.os, k.tape.trans h.tape, k.output.trans h.output, Nat.le_trans h.size k.size, fun i hi => (k.block i hi).trans (h.block i hi), fun i hi hn => (k.typ i (Nat.lt_of_lt_of_le hi h.size) (fun cur fr => by rw [h.typ i hi hn]; exact hn cur fr)).trans (h.typ i hi hn)⟩
theorem Rg.of_old {base : Nat} {w w' : World} (h : Old w w') (hb : base ≤ w.heap.size) : Rg base w w' :=
  ⟨h.os, h.tape, h.output, h.size, fun k hk => h.block k (Nat.lt_of_lt_of_le hk hb), fun k hk _ => h.block k hk⟩
theorem Rg.old {base : Nat} {a w w' : World} (h : Rg base w w') (g : Old a w) (hb : a.heap.size ≤ base) : Old a w' :=
  ⟨h.os.trans g.os, h.tape.trans g.tape, h.output.trans g.output, Nat.le_trans g.size h.size, fun k hk => (h.block k (Nat.lt_of_lt_of_le hk hb)).trans (g.block k hk)⟩
theorem Rg.alloc {base : Nat} {a w : World} (h : Rg base a w) (hb : base ≤ w.heap.size) (o : Obj) : Rg base a (w.alloc o) := h.trans (Rg.of_old ((Old.refl w).alloc o) hb)
theorem Rg.bk {base : Nat} {w w' : World} {k : Nat} {cs : Array Value} {t : TypeId} (h : Rg base w w') (b : Bk w k cs t) (ht : t ≠ 5) : Bk w' k cs t :=
  (h.typ k b.lt (fun cur fr e => by
    have h1 := (show w.heap[k]? = _ from b).symm.trans e
    simp at h1
    exact ht h1.2.1)).trans b
theorem Rg.own {base lo : Nat} {w w' : World} {v : Value} {xs : List Int} (h : Rg base w w') (o : Own w lo v xs) : Own w' lo v xs := by
  refine ⟨o.1, ?_⟩
  rcases o.2 with hn | ⟨p, cap, cur, rfl, hb, hgg, rest⟩
  · exact .inl hn
  · refine .inr ⟨p, cap, cur, rfl, hb, ?_, rest⟩
    exact h.bk (show Bk w p cur 3 from hgg) (by decide)
theorem BO.old {w w' : World} {base : Nat} {v : Value} {bs : List Int} (o : BO w base v bs) (h : Old w w') : BO w' base v bs := by
  refine ⟨o.1, ?_⟩
  rcases o.2 with hn | ⟨p, cap, cur, rfl, hb, hgg, rest⟩
  · exact .inl hn
  · refine .inr ⟨p, cap, cur, rfl, hb, ?_, rest⟩
    exact (show Bk w p cur 5 from hgg).old h
theorem BO.rg {w w' : World} {base : Nat} {v : Value} {bs : List Int} (o : BO w base v bs) (g : w.grownBy w' v.ownBlock) (hb : base ≤ w.heap.size) : Rg base w w' := by
  refine ⟨g.os, g.tape, g.output, g.size, fun k hk => g.block k (Nat.lt_of_lt_of_le hk hb) (fun e => by have := (o.lt k e.symm).1; omega), fun k hk hn => g.block k hk (fun e => ?_)⟩
  rcases o.2 with ⟨rfl, _⟩ | ⟨p, cap, cur, rfl, _, hgg, _⟩
  · simp [Value.ownBlock] at e
  · simp [Value.ownBlock] at e
    subst e
    exact hn _ _ hgg
theorem BO.nil (w : World) (base : Nat) : BO w base (.slice none 0 0) [] := World.ownsRow_nil w base _ _
theorem BO.slice {w : World} {base : Nat} {v : Value} {bs : List Int} (o : BO w base v bs) : ∃ a c, v = .slice a bs.length c := by
  rcases o.2 with ⟨e, h0⟩ | ⟨g, cap, cur, e, _⟩
  · exact ⟨none, 0, by rw [e, h0]⟩
  · exact ⟨_, cap, e⟩
theorem one_u8 (x : Int) : ∀ u ∈ [Value.int .u8 x], u.oneCell' = true := by intro u hu; simp at hu; subst hu; rfl
theorem BO.snoc {w : World} {base : Nat} {v : Value} {bs : List Int} {y : Int} (h : w.ownsRow base 5 1 v (bs.length + 1) (bs.map (Value.int .u8) ++ [.int .u8 y])) : BO w base v (bs ++ [y]) := by
  unfold BO
  rw [List.length_append, List.map_append]
  exact h
theorem one_cellB (w : World) (x : Value) (t : TypeId) : ∀ j u, [x][j]? = some u → (w.alloc (.cells #[x] t)).cell? ((⟨w.heap.size, 0, none⟩ : Addr).add j) = some u := by
  intro j u hj
  match j, hj with
  | 0, hj => simp at hj; subst hj; simp [Addr.add]
theorem hidP0 {P : Prop} (h : P) : Hid P := h
def BA (base : Nat) (bs : List Int) (w : World) (e : Ending) (w' : World) : Prop := ∃ v', e = .returned v' ∧ BO w' base v' bs ∧ Rg base w w'
def byA (x : Int) (k : Nat) : Int := x / 2 ^ (8 * k) % 256
def nb (x : Int) : Nat → List Int
  | 0 => []
  | k + 1 => byA x k :: nb x k
theorem nb_len (x : Int) : ∀ k, (nb x k).length = k
  | 0 => rfl
  | k + 1 => by simp [nb, nb_len x k]
set_option maxRecDepth 100000 in
set_option maxHeartbeats 4000000 in
theorem spec_l12Number (base many : Nat) (x : Int) (bs : List Int) (v : Value) (w : World) (ho : BO w base v bs) (hb : base ≤ w.heap.size) (hm : many ≤ 4) (hl : bs.length ≤ 1000000) :
    Calls Tryz.prog 64 #[v, .int .i64 x, .int .i64 (many : Int)] w (BA base (bs ++ nb x many) w) := by
  obtain ⟨i0, hi, hz0, hz1, hz2⟩ := info_parts Tryz.infoU8
  have HO : Hid (BO w base v bs) := ho
  clear ho
  go_enter Tryz.func64, Tryz.ntmps64
  go_wp2_with fail
  go_loopw [0, 7] (fun t p W => ∃ (q : Nat) (p' : Int) (ds : List Int), q ≤ many ∧ p = .int .i64 p' ∧ Hid (p' = (q : Int) - 1) ∧ ds.length ≤ 1000004 - q ∧ Hid (ds ++ nb x q = bs ++ nb x many) ∧ Hid (BO W base t ds) ∧ Hid (Rg base w W)) (fun _ p _ => (intOf p + 1).toNat)
  case atStart => exact ⟨many, _, bs, Nat.le_refl _, rfl, rfl, by omega, rfl, HO, Rg.refl _ _⟩
  case round =>
    clear HO
    obtain ⟨q, p', ds, hq, rfl, HP, hdl, HD, HO, HG⟩ := hrel
    cases q with
    | zero =>
      obtain rfl : p' = -1 := by have := HP.out; omega
      go_wp2_with fail
      go_ret
      refine ⟨_, rfl, ?_, HG.out⟩
      have := HD.out
      simp only [nb, List.append_nil] at this
      rw [← this]
      exact HO.out
    | succ r =>
      obtain rfl : p' = (r : Int) := by have := HP.out; omega
      obtain ⟨B, hB⟩ : ∃ B, byA x r = B := ⟨_, rfl⟩
      have HD2 : Hid ((ds ++ [B]) ++ nb x r = bs ++ nb x many) := by
        show _ = _
        rw [← HD.out, ← hB, List.append_assoc]
        rfl
      have hr3 : r < 4 := by omega
      have hBB : x / 2 ^ (8 * r) % 256 = B := hB
      clear hB HD HP
      obtain ⟨ta, tc, rfl⟩ := HO.out.slice
      go_wp2_with (at_builtin; refine wpList_append_own _ rfl _ _ 54 rfl base 5 i0 (.int .u8 0) 1 1 Tryz.underlying54 hi hz0 hz1 hz2 rfl (by decide) _ _ _ rfl (BO.old HO.out ((Old.refl wr).alloc _)) ⟨wr.heap.size, 0, none⟩ 1 1 [.int .u8 B] rfl rfl (one_cellB _ _ _) (one_u8 _) (by clear hBB; unfold maxLen; omega) (by clear hBB; omega) (by clear hBB; have := HG.out.size; simp; omega) ?_; intro v5 w5 o5 g5 x5; have HO2 : Hid (BO w5 base v5 (ds ++ [B])) := BO.snoc o5; have HG2 : Hid (Rg base w w5) := (HG.out.alloc (by clear hBB; have := HG.out.size; omega) _).trans (BO.rg (BO.old HO.out ((Old.refl wr).alloc _)) g5 (by clear hBB; have := HG.out.size; simp; omega)); clear o5 g5 x5)
      clear hBB
      exact ⟨⟨r, _, ds ++ [B], by omega, rfl, rfl, by simp; omega, HD2, HO2, HG2⟩, by simp [intOf]⟩
def nbs (width : Nat) (xs : List Int) : List Int := (xs.map fun x => nb x width).flatten
theorem nbs_len (width : Nat) (xs : List Int) : (nbs width xs).length = width * xs.length := by
  induction xs with
  | nil => simp [nbs]
  | cons x xs ih =>
    have : nbs width (x :: xs) = nb x width ++ nbs width xs := by simp [nbs]
    rw [this, List.length_append, nb_len, ih, List.length_cons, Nat.mul_succ, Nat.add_comm]
theorem nbs_succ (width : Nat) (xs : List Int) (k : Nat) (h : k < xs.length) : nbs width (xs.take (k + 1)) = nbs width (xs.take k) ++ nb (xs.getD k 0) width := by
  have e : xs.take (k + 1) = xs.take k ++ [xs.getD k 0] := by
    rw [List.take_add_one]
    simp [List.getD, h]
  rw [e]
  simp [nbs]
set_option maxRecDepth 100000 in
set_option maxHeartbeats 4000000 in
theorem impl_withNumbers (base width : Nat) (xs bs : List Int) (v u : Value) (w : World) (ho : BO w base v bs) (hb : base ≤ w.heap.size) (hv : ∀ W, Rg base w W → Row W u xs) (hm : width ≤ 4) (hl : bs.length + 4 * xs.length ≤ 1000000) :
    Calls Tryz.prog 69 #[v, .int .i64 (width : Int), u] w (BA base (bs ++ nbs width xs) w) := by
  obtain ⟨i0, hi, hz0, hz1, hz2⟩ := info_parts Tryz.infoU8
  have HV : Hid (∀ W, Rg base w W → Row W u xs) := hv
  obtain ⟨ua, uc, eu⟩ := (hv w (Rg.refl _ _)).slice
  subst eu
  have HO : Hid (BO w base v (bs ++ nbs width (xs.take 0))) := by
    have : bs ++ nbs width (xs.take 0) = bs := by simp [nbs]
    rw [this]
    exact ho
  have HLN : Hid (∀ k, k ≤ xs.length → (bs ++ nbs width (xs.take k)).length ≤ bs.length + 4 * k) := fun k hk => by
    rw [List.length_append, nbs_len, List.length_take, Nat.min_eq_left hk]
    have := Nat.mul_le_mul_right k hm
    omega
  have HSU : Hid (∀ k, k < xs.length → nbs width (xs.take (k + 1)) = nbs width (xs.take k) ++ nb (xs.getD k 0) width) := fun k hk => nbs_succ width xs k hk
  have HEND : Hid (nbs width (xs.take xs.length) = nbs width xs) := by show _ = _; rw [List.take_length]
  clear ho hv
  go_enter Tryz.func69, Tryz.ntmps69
  go_wp2_with fail
  go_loopw [0, 8, 9, 12] (fun t _ _ i W => ∃ k : Nat, k ≤ xs.length ∧ i = .int .i64 k ∧ Hid (BO W base t (bs ++ nbs width (xs.take k))) ∧ Hid (Rg base w W)) (fun _ _ _ i _ => xs.length - (intOf i).toNat)
  case atStart => exact ⟨0, by omega, rfl, HO, Rg.refl _ _⟩
  case round =>
    clear HO
    obtain ⟨k, hk, rfl, HO, HG⟩ := hrel
    by_cases hlt : k < xs.length
    · have d1 : decide ((k : Int) < (xs.length : Int)) = true := by simp; omega
      have ilt : (k : Int) < (xs.length : Int) := by omega
      have HR := HV.out wr HG.out
      rcases HR with ⟨a', cap', e, e'⟩ | ⟨b, o, cap', e, hb1, h01, hc1⟩
      · subst e'
        simp at hlt
      obtain ⟨rfl, rfl⟩ : ua = some ⟨b, o, none⟩ ∧ uc = cap' := by simpa using e
      have c1 := hc1 k hlt
      have hdl := HLN.out k (by omega)
      have hsu := HSU.out k hlt
      obtain ⟨ds, hds⟩ : ∃ z, bs ++ nbs width (xs.take k) = z := ⟨_, rfl⟩
      have HN2 : Hid (∀ W t, BO W base t (ds ++ nb (xs.getD k 0) width) → BO W base t (bs ++ nbs width (xs.take (k + 1)))) := fun W t h => by
        rw [hsu, ← List.append_assoc, hds]
        exact h
      rw [hds] at HO hdl
      generalize xs.getD k 0 = x at *
      clear hds hsu hc1 e h01
      obtain ⟨ta0, tc0, rfl⟩ := HO.out.slice
      go_wp2_with fail
      go_loopw [0, 9] (fun t p W => ∃ (q : Nat) (p' : Int) (cs : List Int), q ≤ width ∧ p = .int .i64 p' ∧ Hid (p' = (q : Int) - 1) ∧ cs.length ≤ 1000008 - q ∧ Hid (cs ++ nb x q = ds ++ nb x width) ∧ Hid (BO W base t cs) ∧ Hid (Rg base w W)) (fun _ p _ => (intOf p + 1).toNat)
      case atStart => exact ⟨width, _, ds, Nat.le_refl _, rfl, rfl, by omega, rfl, HO, HG⟩
      case round =>
        clear HO HG c1
        obtain ⟨q, p', cs, hq, rfl, HP, hdl2, HD, HO, HG⟩ := hrel
        cases q with
        | zero =>
          obtain rfl : p' = -1 := by have := HP.out; omega
          obtain ⟨ta, tc, etv⟩ := HO.out.slice
          have HO2 : Hid (BO wr base (.slice ta cs.length tc) (bs ++ nbs width (xs.take (k + 1)))) := by
            refine HN2.out _ _ ?_
            have h1 := HD.out
            simp only [nb, List.append_nil] at h1
            rw [← h1, ← etv]
            exact HO.out
          subst etv
          clear HD HP HN2
          go_wp2_with fail
          exact ⟨⟨k + 1, by omega, by go_num, HO2, HG⟩, by simp [intOf]; omega⟩
        | succ r =>
          obtain rfl : p' = (r : Int) := by have := HP.out; omega
          obtain ⟨B, hB⟩ : ∃ B, byA x r = B := ⟨_, rfl⟩
          have HD2 : Hid ((cs ++ [B]) ++ nb x r = ds ++ nb x width) := by
            show _ = _
            rw [← HD.out, ← hB, List.append_assoc]
            rfl
          have hr3 : r < 4 := by omega
          have hBB : x / 2 ^ (8 * r) % 256 = B := hB
          clear hB HD HP
          obtain ⟨ta, tc, rfl⟩ := HO.out.slice
          go_wp2_with (at_builtin; refine wpList_append_own _ rfl _ _ 54 rfl base 5 i0 (.int .u8 0) 1 1 Tryz.underlying54 hi hz0 hz1 hz2 rfl (by decide) _ _ _ rfl (BO.old HO.out ((Old.refl wr).alloc _)) ⟨wr.heap.size, 0, none⟩ 1 1 [.int .u8 B] rfl rfl (one_cellB _ _ _) (one_u8 _) (by clear hBB; unfold maxLen; omega) (by clear hBB; omega) (by clear hBB; have := HG.out.size; simp; omega) ?_; intro v5 w5 o5 g5 x5; have HO2 : Hid (BO w5 base v5 (cs ++ [B])) := BO.snoc o5; have HG2 : Hid (Rg base w w5) := (HG.out.alloc (by clear hBB; have := HG.out.size; omega) _).trans (BO.rg (BO.old HO.out ((Old.refl wr).alloc _)) g5 (by clear hBB; have := HG.out.size; simp; omega)); clear o5 g5 x5)
          clear hBB
          exact ⟨⟨r, _, cs ++ [B], by omega, rfl, rfl, by simp; omega, HD2, HO2, HG2⟩, by simp [intOf]⟩
    · have d1 : decide ((k : Int) < (xs.length : Int)) = false := by simp; omega
      obtain rfl : k = xs.length := by omega
      have HO2 := HO.out
      rw [HEND.out] at HO2
      have HO3 := hidP0 HO2
      clear HO2
      go_wp2_with fail
      go_ret
      exact ⟨_, rfl, HO3.out, HG.out⟩
end Go.Proofs.YtanijpekdnkicaaGreatDoor
/- Proved: rows of bytes as a law carries them: comparisons and marks. -/
namespace Go.Proofs.YtanijpekdnkicaaGreatDoor
open Go.ChangeShapes Go.WideShapes Go.ChangeAt Go.RowKit
set_option linter.unusedVariables false
set_option linter.unusedSimpArgs false
def RoB (w : World) (v : Value) (bs : List Int) : Prop :=
  (∃ a cap, v = .slice a 0 cap ∧ bs = []) ∨ ∃ b o cap, v = .slice (some ⟨b, o, none⟩) bs.length cap ∧ b < w.heap.size ∧ 0 < bs.length ∧ ∀ j, j < bs.length → w.cell? ⟨b, o + j, none⟩ = some (.int .u8 (bs.getD j 0))
theorem BO.ro {w : World} {base : Nat} {v : Value} {bs : List Int} (h : BO w base v bs) : RoB w v bs := by
  rcases h.2 with ⟨e, h0⟩ | ⟨g, cap, cur, e, hb, hg, h1, h2, h3, h4⟩
  · exact Or.inl ⟨none, 0, e, List.length_eq_zero_iff.1 h0⟩
  · subst e
    by_cases h0 : bs.length = 0
    · exact Or.inl ⟨_, cap, by rw [h0], List.length_eq_zero_iff.1 h0⟩
    · refine Or.inr ⟨g, 0, cap, rfl, (Array.getElem?_eq_some_iff.1 hg).1, by omega, fun j hj => ?_⟩
      have := World.ownsRow.cellAt h j (by omega)
      rw [Nat.zero_add, this]
      simp [List.getD, hj]
set_option maxHeartbeats 4000000 in
theorem eqBys_yes (xs : List Int) (v u : Value) (w : World) (h : RoB w v xs) (k : RoB w u xs) (hl : xs.length ≤ 1073741824) :
    Calls Tryz.prog 27 #[v, u] w fun e w' => e = .returned (.bool true) ∧ Old w w' := by
  rcases h with ⟨a, cap, rfl, e1⟩ | ⟨b, o, cap, rfl, hb, h0, hc⟩
  · subst e1
    rcases k with ⟨a', cap', rfl, _⟩ | ⟨b', o', cap', rfl, _, h0', _⟩
    · go_enter Tryz.func27, Tryz.ntmps27
      go_wp2_with fail
      refine wp_loop_rounds 1 ?_
      rw [rounds_succ]
      go_wp2_with fail
      go_ret
      exact ⟨rfl, Old.refl _⟩
    · simp at h0'
  · rcases k with ⟨a', cap', rfl, e1⟩ | ⟨b', o', cap', rfl, hb', h0', hc'⟩
    · subst e1
      simp at h0
    have HC : Hid (∀ j, j < xs.length → w.cell? ⟨b, o + j, none⟩ = some (.int .u8 (xs.getD j 0))) := hc
    have HC' : Hid (∀ j, j < xs.length → w.cell? ⟨b', o' + j, none⟩ = some (.int .u8 (xs.getD j 0))) := hc'
    clear hc hc'
    go_enter Tryz.func27, Tryz.ntmps27
    go_wp2_with fail
    go_loopw [5] (fun i W => ∃ k : Nat, k ≤ xs.length ∧ i = .int .i64 k ∧ Hid (Old w W)) (fun i _ => xs.length - (intOf i).toNat)
    case atStart => exact ⟨0, by omega, rfl, Old.refl _⟩
    case round =>
      obtain ⟨k, hk, rfl, HG⟩ := hrel
      by_cases hlt : k < xs.length
      · have d1 : decide ((k : Int) < (xs.length : Int)) = true := by simp; omega
        have c1 : wr.cell? ⟨b, o + k, none⟩ = some (.int .u8 (xs.getD k 0)) := (HG.out.cell (p := ⟨b, o + k, none⟩) hb).trans (HC.out k hlt)
        have c2 : wr.cell? ⟨b', o' + k, none⟩ = some (.int .u8 (xs.getD k 0)) := (HG.out.cell (p := ⟨b', o' + k, none⟩) hb').trans (HC'.out k hlt)
        generalize xs.getD k 0 = x at *
        have dx : (x != x) = false := by simp
        go_wp2_with fail
        go_quiet (fail)
        go_wp2_with fail
        exact ⟨⟨k + 1, by omega, by go_num, HG.out.drewN _⟩, by simp [intOf]; omega⟩
      · have d1 : decide ((k : Int) < (xs.length : Int)) = false := by simp; omega
        go_wp2_with fail
        go_ret
        exact ⟨rfl, HG.out⟩
def marksB (k : Int) (n : Nat) : List Int := (List.range n).map (fun (i : Nat) => (k + (i : Int)) % 256)
theorem marksB_len (k : Int) (n : Nat) : (marksB k n).length = n := by simp [marksB]
theorem marksB_get (k : Int) (n j : Nat) (h : j < n) : (marksB k n).getD j 0 = (k + (j : Int)) % 256 := by simp [marksB, List.getD, h]
def markB (xs : List Int) (k : Int) (j : Nat) : List Int := (List.range xs.length).map (fun (i : Nat) => if i < j then (k + (i : Int)) % 256 else xs.getD i 0)
theorem markB_len (xs : List Int) (k : Int) (j : Nat) : (markB xs k j).length = xs.length := by simp [markB]
theorem markB_zero (xs : List Int) (k : Int) : markB xs k 0 = xs := by
  refine List.ext_getElem (markB_len xs k 0) (fun i h1 h2 => ?_)
  simp [markB, List.getD, h2]
theorem markB_full (xs : List Int) (k : Int) : markB xs k xs.length = marksB k xs.length := by
  unfold markB marksB
  refine List.map_congr_left fun i hi => ?_
  rw [if_pos (by simpa using hi)]
theorem markB_set (xs : List Int) (k : Int) (j : Nat) (h : j < xs.length) : (markB xs k j).set j ((k + (j : Int)) % 256) = markB xs k (j + 1) := by
  refine List.ext_getElem (by rw [List.length_set, markB_len, markB_len]) (fun i h1 h2 => ?_)
  rw [markB_len] at h2
  rw [List.getElem_set]
  by_cases e : j = i
  · subst e
    rw [if_pos rfl]
    simp [markB]
  · rw [if_neg e]
    simp only [markB, List.getElem_map, List.getElem_range]
    by_cases h3 : i < j
    · rw [if_pos h3, if_pos (by omega)]
    · rw [if_neg h3, if_neg (by omega)]
set_option maxHeartbeats 4000000 in
theorem markBys_any (xs : List Int) (v : Value) (k : Int) (base : Nat) (w : World) (h : BO w base v xs) (hl : xs.length ≤ 1073741824) (hk : 0 ≤ k) (hk' : k ≤ 1073741824) :
    Calls Tryz.prog 30 #[v, .int .i64 k] w fun e w' => e = .returned (.int .i64 (k + xs.length)) ∧ w.grownBy w' v.ownBlock ∧ BO w' base v (marksB k xs.length) := by
  by_cases h0 : xs.length = 0
  · obtain rfl := List.length_eq_zero_iff.1 h0
    have HF : Hid (BO w base v (marksB k 0)) := h
    obtain ⟨a0, cap0, rfl⟩ := h.slice
    clear h
    go_enter Tryz.func30, Tryz.ntmps30
    go_wp2_with fail
    refine wp_loop_rounds 1 ?_
    rw [rounds_succ]
    go_wp2_with fail
    go_ret
    exact ⟨by simp, World.grownBy.refl _ _, HF.out⟩
  · obtain ⟨g, cap, rfl⟩ : ∃ g cap, v = .slice (some ⟨g, 0, none⟩) xs.length cap := by
      rcases h.2 with ⟨_, h1⟩ | ⟨g, cap, cur, e, _⟩
      · exact absurd h1 h0
      · exact ⟨g, cap, e⟩
    have HO : Hid (w.ownsRow base 5 1 (.slice (some ⟨g, 0, none⟩) xs.length cap) xs.length ((markB xs k 0).map (Value.int .u8))) := by rw [markB_zero]; exact h
    clear h
    go_enter Tryz.func30, Tryz.ntmps30
    go_wp2_with fail
    go_loopw [1, 5] (fun m i W => ∃ j : Nat, j ≤ xs.length ∧ i = .int .i64 j ∧ m = .int .i64 (k + j) ∧ Hid (W.ownsRow base 5 1 (.slice (some ⟨g, 0, none⟩) xs.length cap) xs.length ((markB xs k j).map (Value.int .u8))) ∧ Hid (w.grownBy W (some g))) (fun _ i _ => xs.length - (intOf i).toNat)
    case atStart => exact ⟨0, by omega, rfl, by go_num, HO, World.grownBy.refl _ _⟩
    case round =>
      obtain ⟨j, hj, rfl, rfl, HO1, HG1⟩ := hrel
      clear HO
      by_cases hlt : j < xs.length
      · have d1 : decide ((j : Int) < (xs.length : Int)) = true := by simp; omega
        have c2 : wr.cell? ⟨g, j, none⟩ = some (.int .u8 ((markB xs k j).getD j 0)) := by
          rw [World.ownsRow.cellAt HO1.out j (by omega)]
          have := markB_len xs k j
          simp [List.getD, this, hlt]
        have c3 : wr.frozen? ⟨g, j, none⟩ = false := World.ownsRow.frozenAt HO1.out j
        have st := World.ownsRow.stored HO1.out j (.int .u8 ((k + j) % 256))
        have HS : Hid ((wr.setCell ⟨g, j, none⟩ (.int .u8 ((k + j) % 256))).ownsRow base 5 1 (.slice (some ⟨g, 0, none⟩) xs.length cap) xs.length ((markB xs k (j + 1)).map (Value.int .u8))) := by
          have := st.1
          rw [← List.map_set, markB_set xs k j hlt] at this
          exact this
        have HG2 : Hid (w.grownBy (wr.setCell ⟨g, j, none⟩ (.int .u8 ((k + j) % 256))) (some g)) :=
          ⟨st.2.os.trans HG1.out.os, st.2.tape.trans HG1.out.tape, st.2.output.trans HG1.out.output, Nat.le_trans HG1.out.size st.2.size, fun p hp hne => (st.2.block p (Nat.lt_of_lt_of_le hp HG1.out.size) hne).trans (HG1.out.block p hp hne)⟩
        generalize (markB xs k j).getD j 0 = y at *
        clear st HO1 HG1
        go_wp2_with fail
        exact ⟨⟨j + 1, by omega, by go_num, by go_num, HS, HG2⟩, by simp [intOf]; omega⟩
      · have d1 : decide ((j : Int) < (xs.length : Int)) = false := by simp; omega
        obtain rfl : j = xs.length := by omega
        have HO2 := HO1.out
        rw [markB_full] at HO2
        have HO3 : Hid (BO wr base (.slice (some ⟨g, 0, none⟩) xs.length cap) (marksB k xs.length)) := by
          show wr.ownsRow _ _ _ _ _ _
          rw [marksB_len]
          exact HO2
        clear HO2 HO1
        go_wp2_with fail
        go_ret
        exact ⟨rfl, HG1.out, HO3.out⟩
set_option maxHeartbeats 4000000 in
theorem heldBys_yes (n : Nat) (v : Value) (k : Int) (w : World) (h : RoB w v (marksB k n)) (hl : n ≤ 1073741824) (hk : 0 ≤ k) (hk' : k ≤ 1073741824) :
    Calls Tryz.prog 31 #[v, .int .i64 k] w fun e w' => e = .returned (.int .i64 (k + n)) ∧ Old w w' := by
  rcases h with ⟨a0, cap0, rfl, e2⟩ | ⟨b, o, cap, rfl, hb, h0, hc⟩
  · have hn := congrArg List.length e2
    rw [marksB_len] at hn
    obtain rfl : n = 0 := by simpa using hn
    clear e2 hn
    go_enter Tryz.func31, Tryz.ntmps31
    go_wp2_with fail
    refine wp_loop_rounds 1 ?_
    rw [rounds_succ]
    go_wp2_with fail
    go_ret
    exact ⟨by simp, Old.refl _⟩
  · rw [marksB_len] at hc ⊢
    have HC : Hid (∀ j, j < n → w.cell? ⟨b, o + j, none⟩ = some (.int .u8 ((k + j) % 256))) := fun j hj => by rw [hc j hj, marksB_get k n j hj]
    clear hc h0
    go_enter Tryz.func31, Tryz.ntmps31
    go_wp2_with fail
    go_loopw [1, 5] (fun m i W => ∃ j : Nat, j ≤ n ∧ i = .int .i64 j ∧ m = .int .i64 (k + j) ∧ Hid (Old w W)) (fun _ i _ => n - (intOf i).toNat)
    case atStart => exact ⟨0, by omega, rfl, by go_num, Old.refl _⟩
    case round =>
      obtain ⟨j, hj, rfl, rfl, HG⟩ := hrel
      by_cases hlt : j < n
      · have d1 : decide ((j : Int) < (n : Int)) = true := by simp; omega
        have c1 : wr.cell? ⟨b, o + j, none⟩ = some (.int .u8 ((k + j) % 256)) := (HG.out.cell (p := ⟨b, o + j, none⟩) hb).trans (HC.out j hlt)
        have dx : ((k + (j : Int)) % 256 != (k + (j : Int)) % 256) = false := by simp
        go_wp2_with fail
        exact ⟨⟨j + 1, by omega, by go_num, by go_num, HG⟩, by simp [intOf]; omega⟩
      · have d1 : decide ((j : Int) < (n : Int)) = false := by simp; omega
        obtain rfl : j = n := by omega
        go_wp2_with fail
        go_ret
        exact ⟨rfl, HG.out⟩
def OwB (xs : List Int) (W : World) (lo hi : Nat) (v : Value) : Prop := BO W lo v xs ∧ hi ≤ W.heap.size ∧ ∀ b, v.ownBlock = some b → b < hi
theorem far_OwB (xs : List Int) : Far (OwB xs) := fun W W' lo hi v h hf hs => by
  refine ⟨⟨h.1.1, ?_⟩, Nat.le_trans h.2.1 hs, h.2.2⟩
  rcases h.1.2 with hn | ⟨p, cap, cur, rfl, hb, hgg, rest⟩
  · exact .inl hn
  · refine .inr ⟨p, cap, cur, rfl, hb, ?_, rest⟩
    rw [hf p hb (h.2.2 p rfl)]
    exact hgg
def YY (xs : List Int) (W : World) (lo hi : Nat) (v : Value) : Prop := ∃ a c, v = .slice a xs.length c ∧ OwB xs W lo hi (.slice a xs.length c)
theorem far_YY (xs : List Int) : Far (YY xs) := fun W W' lo hi v h hf hs => by
  obtain ⟨a, c, q, o⟩ := h
  exact ⟨a, c, q, far_OwB xs W W' lo hi _ o hf hs⟩
theorem shape_YY {xs : List Int} (W : World) (lo hi : Nat) (v : Value) (h : YY xs W lo hi v) : ∃ a c, v = .slice a xs.length c := by
  obtain ⟨a, c, q, o⟩ := h
  exact ⟨a, c, q⟩
theorem yy_of {xs : List Int} {W w' : World} {v : Value} (o : BO w' W.heap.size v xs) : YY xs w' W.heap.size w'.heap.size v := by
  obtain ⟨a, c, rfl⟩ := o.slice
  exact ⟨a, c, rfl, o, Nat.le_refl _, fun b hb => (o.lt b hb).2⟩
theorem yy_eq (xs : List Int) (W : World) (lo hi : Nat) (g : Value) (lo' hi' : Nat) (g' : Value) (h : YY xs W lo hi g) (h' : YY xs W lo' hi' g') (hl : xs.length ≤ 1073741824) :
    Calls Tryz.prog 27 #[g, g'] W fun e w' => e = .returned (.bool true) ∧ Old W w' := by
  obtain ⟨a, c, rfl, o⟩ := h
  obtain ⟨a', c', rfl, o'⟩ := h'
  exact eqBys_yes xs _ _ W o.1.ro o'.1.ro hl
def YYM (k : Int) (n : Nat) (W : World) (lo hi : Nat) (v : Value) : Prop := ∃ a c, v = .slice a n c ∧ OwB (marksB k n) W lo hi (.slice a n c)
theorem far_YYM (k : Int) (n : Nat) : Far (YYM k n) := fun W W' lo hi v h hf hs => by
  obtain ⟨a, c, q, o⟩ := h
  exact ⟨a, c, q, far_OwB _ W W' lo hi _ o hf hs⟩
theorem shape_YYM {k : Int} {n : Nat} (W : World) (lo hi : Nat) (v : Value) (h : YYM k n W lo hi v) : ∃ a c, v = .slice a n c := by
  obtain ⟨a, c, q, o⟩ := h
  exact ⟨a, c, q⟩
theorem yy_mark (xs : List Int) (k : Int) (W : World) (lo hi : Nat) (g : Value) (h : YY xs W lo hi g) (hl : xs.length ≤ 1048576) (hk : 0 ≤ k) (hk' : k ≤ 1073741824) :
    Calls Tryz.prog 30 #[g, .int .i64 k] W fun e w' => e = .returned (.int .i64 (k + xs.length)) ∧ Chg W w' lo hi ∧ YYM k xs.length w' lo hi g := by
  obtain ⟨a, c, rfl, o⟩ := h
  refine (markBys_any xs _ k lo W o.1 (by omega) hk hk').mono ?_
  rintro e w' ⟨rfl, gr, ow⟩
  exact ⟨rfl, chg_by gr (fun b hb => ⟨(o.1.lt b hb).1, o.2.2 b hb⟩), a, c, rfl, ow, Nat.le_trans o.2.1 gr.size, o.2.2⟩
theorem yym_held (n : Nat) (k : Int) (W : World) (lo hi : Nat) (g : Value) (h : YYM k n W lo hi g) (hl : n ≤ 1048576) (hk : 0 ≤ k) (hk' : k ≤ 1073741824) :
    Calls Tryz.prog 31 #[g, .int .i64 k] W fun e w' => e = .returned (.int .i64 (k + n)) ∧ Old W w' := by
  obtain ⟨a, c, rfl, o⟩ := h
  exact heldBys_yes n _ k W o.1.ro (by omega) hk hk'
end Go.Proofs.YtanijpekdnkicaaGreatDoor
/- Proved: contracts of ProductOf, of the program and of the model. -/
namespace Go.Proofs.YtanijpekdnkicaaGreatDoor
open Go.ChangeShapes Go.WideShapes Go.ChangeAt Go.RowKit
open M2
set_option linter.unusedVariables false
set_option linter.unusedSimpArgs false
theorem nil_own (w : World) (base : Nat) : Own w base (.slice none 0 0) (toI []) := ⟨rfl, Or.inl ⟨rfl, rfl⟩⟩
theorem Bas.cnt {ps : List Nat} (h : Bas ps) : M2.cnt (prodN ps) ≤ 7 := by
  have := prodN_cnt ps h.hi ps.length (Nat.le_refl _)
  rw [List.take_length] at this
  have := h.len6
  omega
end Go.Proofs.YtanijpekdnkicaaGreatDoor
/- Proved: what the model answers, as functions of the numbers: sums and products of whole numbers. -/
namespace Go.Proofs.YtanijpekdnkicaaGreatDoor
open Go.ChangeShapes Go.WideShapes Go.ChangeAt Go.RowKit
open M2
set_option linter.unusedVariables false
set_option linter.unusedSimpArgs false
def nat (xs : List Int) : List Nat := xs.map Int.toNat
theorem nat_len (xs : List Int) : (nat xs).length = xs.length := by simp [nat]
theorem nat_get (xs : List Int) (j : Nat) : (nat xs).getD j 0 = (xs.getD j 0).toNat := by
  simp only [nat, List.getD, List.getElem?_map]
  cases xs[j]? <;> rfl
theorem toI_nat {xs : List Int} (h : ∀ j, j < xs.length → 0 ≤ xs.getD j 0) : toI (nat xs) = xs := by
  apply List.ext_getElem
  · simp [toI, nat]
  · intro i h1 h2
    have := h i h2
    simp only [toI, nat, List.map_map, List.getElem_map, Function.comp]
    have e : xs.getD i 0 = xs[i] := by simp [List.getD, h2]
    rw [e] at this
    omega
theorem good_gw {n : Bool} {xs : List Int} (h : Good n xs) : toI (nat xs) = xs ∧ Gw n (nat xs) ∧ (nat xs).length ≤ 40 := by
  have hr : ∀ j, j < xs.length → 0 ≤ xs.getD j 0 := fun j hj => (h.2.2 j hj).1.1
  refine ⟨toI_nat hr, ⟨⟨?_, ?_⟩, ?_⟩, by rw [nat_len]; exact h.1⟩
  · intro x hx
    obtain ⟨j, hj, e⟩ := List.getElem_of_mem hx
    rw [nat_len] at hj
    have h2 := (h.2.2 j hj).1
    have h3 := nat_get xs j
    have e2 : (nat xs).getD j 0 = x := by rw [← e]; simp [List.getD, nat_len, hj]
    rw [e2] at h3
    unfold LB
    omega
  · intro hne h0
    have hl : 0 < xs.length := by
      rcases Nat.eq_zero_or_pos xs.length with h1 | h1
      · exact absurd (List.length_eq_zero_iff.1 (by rw [nat_len]; exact h1)) hne
      · exact h1
    rw [List.getLast_eq_getElem] at h0
    have hj : xs.length - 1 < xs.length := by omega
    have h2 := h.2.2 (xs.length - 1) hj
    have h3 := nat_get xs (xs.length - 1)
    have e2 : (nat xs).getD (xs.length - 1) 0 = 0 := by
      rw [← h0]
      simp [List.getD, nat_len, hj]
    rw [e2] at h3
    exact h2.2 ⟨by have := h2.1; omega, by omega⟩
  · intro hn he
    have : xs.length = 0 := by rw [← nat_len, he]; rfl
    exact h.2.1 ⟨this, hn⟩
end Go.Proofs.YtanijpekdnkicaaGreatDoor
