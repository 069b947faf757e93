/- Proved: several texts in one: what each proves is said ahead of it. -/
import Derived.Test.YtejhpljichmmpaaGreatDoorGx15
import Derived.Test.YtejhpljichmmpaaGreatDoorGx16
import Derived.Test.YtejhpljichmmpaaGreatDoorGx09
import Derived.Test.YtejhpljichmmpaaGreatDoorGx17
import Derived.Test.YtejhpljichmmpaaGreatDoorGx05
import Derived.Test.YtejhpljichmmpaaGreatDoorGx00
import Derived.Deep.RegionLawGrows
/- Proved: the program's product of all factors, as a size. -/
namespace Go.Proofs.YtejhpljichmmpaaGreatDoor
open Go.ChangeShapes Go.WideShapes Go.ChangeAt Go.RowKit
open M2
set_option linter.unusedVariables false
set_option linter.unusedSimpArgs false
def prodN (ps : List Nat) : Nat := ps.foldl (fun a p => a * p) 1
theorem prodN_snoc (ps : List Nat) (p : Nat) : prodN (ps ++ [p]) = prodN ps * p := by simp [prodN, List.foldl_append]
theorem prodN_take (ps : List Nat) (k : Nat) (h : k < ps.length) : prodN (ps.take (k + 1)) = prodN (ps.take k) * ps.getD k 0 := by
  rw [← prodN_snoc]
  congr 1
  rw [List.take_add_one]
  congr 1
  simp [List.getD, h]
theorem prodN_le (ps : List Nat) (hb : ∀ p ∈ ps, p ≤ 268435456) : ∀ k, k ≤ ps.length → prodN (ps.take k) ≤ LB ^ k
  | 0, _ => by simp [prodN]
  | k + 1, h => by
    rw [prodN_take ps k (by omega), Nat.pow_succ]
    have h1 := prodN_le ps hb k (by omega)
    have h2 : ps.getD k 0 ≤ LB := by
      have : ps.getD k 0 ∈ ps := by simp [List.getD, show k < ps.length by omega]
      exact hb _ this
    exact Nat.mul_le_mul h1 h2
theorem prodN_cnt (ps : List Nat) (hb : ∀ p ∈ ps, p ≤ 268435456) (k : Nat) (h : k ≤ ps.length) : cnt (prodN (ps.take k)) ≤ k + 1 := by
  refine cnt_le (Nat.lt_of_le_of_lt (prodN_le ps hb k h) ?_)
  rw [Nat.pow_succ]
  have h1 : 0 < LB ^ k := pw k
  have h2 : LB ^ k * 2 ≤ LB ^ k * LB := Nat.mul_le_mul_left _ (by decide)
  omega
set_option maxHeartbeats 2000000 in
theorem times_sz (a p : Nat) (w : World) (ha : cnt a ≤ 40) (hp : p ≤ 268435456) :
    Calls Tryz.prog 168 #[.agg (szV a), .int .i64 (p : Int)] w fun e w' => e = .returned (.agg (szV (a * p))) ∧ Old w w' := by
  have HPA : Hid ((pad a).length = 80) := pad_len' ha (by omega)
  have c := fun W => scaled_sz a p 0 W (by omega) hp (by omega)
  rw [Nat.add_zero] at c
  have HPR : Hid ((pad (a * p)).length = 80) := by
    have h1 : cnt (a * p) ≤ 41 := by
      refine cnt_le ?_
      have h2 := cnt_lt a
      have h3 : LB ^ cnt a ≤ LB ^ 40 := Nat.pow_le_pow_right LB_pos ha
      have h4 : a * p < LB ^ 40 * LB := by
        rcases Nat.eq_zero_or_pos p with h0 | h0
        · subst h0; simp; exact Nat.mul_pos (pw 40) LB_pos
        · exact Nat.mul_lt_mul_of_lt_of_le (by omega) hp LB_pos
      rw [Nat.pow_succ]
      exact h4
    exact pad_len' h1 (by omega)
  have H1 : Hid (Sz ((w.alloc (.cells (szA (pad a) (cnt a)) 120)).alloc (.cells Tryz.zeroCells120 120)) w.heap.size (pad a) (cnt a)) := (Sz.new w _ _ HPA.out).alloc _
  have HR : Hid (Sz ((w.alloc (.cells (szA (pad a) (cnt a)) 120)).alloc (.cells Tryz.zeroCells120 120)) (w.heap.size + 1) (ext []) 0) := Sz.zero _ _ (by simp)
  have HG : Hid (Old w ((w.alloc (.cells (szA (pad a) (cnt a)) 120)).alloc (.cells Tryz.zeroCells120 120))) := ((Old.refl w).alloc _).alloc _
  unfold szV at *
  generalize a * p = r at *
  go_enter Tryz.func168, Tryz.ntmps168
  go_wp2_with (first | ((with_reducible refine load_sz H1.out ?_ ?_); exact rfl; simp only [Act.put, List.setIfInBounds_toArray, List.set_cons_succ, List.set_cons_zero]) | (go_at_call 169; refine (c _).mono ?_; rintro e w5 ⟨rfl, g5⟩; have HR5 : Hid (Sz w5 (w.heap.size + 1) (ext []) 0) := HR.out.old g5; have HG5 : Hid (Old w w5) := Old.trans HG.out g5; clear g5) | ((with_reducible refine store_sz HR5.out (pad r) (cnt r) HPR.out ?_ ?_ ?_); exact rfl; exact rfl; simp only [Act.put]) | ((with_reducible refine bodyPost_ret (ret_sz Tryz.results168 _ _ ?_ (HR5.out.row (pad r) (cnt r) HPR.out)) ?_ ?_); exact rfl; exact rfl; exact ⟨rfl, HG5.out.row (by omega) _⟩))
set_option maxRecDepth 100000 in
set_option maxHeartbeats 4000000 in
theorem all_sz (ps : List Nat) (v : Value) (w : World) (hv : Row w v (toZ ps)) (hl : ps.length ≤ 6) (hb : ∀ p ∈ ps, p ≤ 268435456) :
    Calls Tryz.prog 167 #[.func (.func 168) #[] #[], .agg (szV 1), v] w fun e w' => e = .returned (.agg (szV (prodN ps))) ∧ Old w w' := by
  have HP1 : Hid ((pad 1).length = 80) := pad_len' (n := 1) (k := 3) (cnt_word (by omega)) (by omega)
  have H1 : Hid (Sz ((w.alloc (.cells (szA (pad 1) (cnt 1)) 120)).alloc (.cells Tryz.zeroCells120 120)) w.heap.size (pad 1) (cnt 1)) := (Sz.new w _ _ HP1.out).alloc _
  have HZ : Hid (Sz (((w.alloc (.cells (szA (pad 1) (cnt 1)) 120)).alloc (.cells Tryz.zeroCells120 120)).alloc (.cells Tryz.zeroCells120 120)) (w.heap.size + 1 + 1) (ext []) 0) := Sz.zero _ _ (by simp)
  have HY : Hid (Sz (((w.alloc (.cells (szA (pad 1) (cnt 1)) 120)).alloc (.cells Tryz.zeroCells120 120)).alloc (.cells Tryz.zeroCells120 120)) (w.heap.size + 1) (ext []) 0) := (Sz.zero _ _ (by simp)).alloc _
  have HG0 : Hid (Old w (((w.alloc (.cells (szA (pad 1) (cnt 1)) 120)).alloc (.cells Tryz.zeroCells120 120)).alloc (.cells Tryz.zeroCells120 120))) := (((Old.refl w).alloc _).alloc _).alloc _
  have HC : Hid (∀ k, k ≤ ps.length → cnt (prodN (ps.take k)) ≤ 7) := fun k h => Nat.le_trans (prodN_cnt ps hb k h) (by omega)
  have HB : Hid (∀ p ∈ ps, p ≤ 268435456) := hb
  have HN : Hid (prodN (ps.take 0) = 1) := rfl
  have HV : Hid (Row w v (toZ ps)) := hv
  obtain ⟨r, hr⟩ : ∃ r, prodN ps = r := ⟨_, rfl⟩
  rw [hr]
  have HRR : Hid (prodN ps = r) := hr
  clear hr
  obtain ⟨va, vc, rfl⟩ : ∃ a c, v = .slice a ps.length c := by have := hv.slice; rwa [toZ_len] at this
  clear hb hv
  unfold szV
  go_enter Tryz.func167, Tryz.ntmps167
  go_wp2_with (first | ((with_reducible refine load_sz H1.out ?_ ?_); exact rfl; simp only [Act.put, List.setIfInBounds_toArray, List.set_cons_succ, List.set_cons_zero]) | ((with_reducible refine store_sz HZ.out (pad 1) (cnt 1) HP1.out ?_ ?_ ?_); exact rfl; exact rfl; simp only [Act.put]))
  go_loopw [13] (fun i W => ∃ k : Nat, k ≤ ps.length ∧ i = .int .i64 k ∧ Hid (Sz W (w.heap.size + 1 + 1) (pad (prodN (ps.take k))) (cnt (prodN (ps.take k)))) ∧ Hid (Sz W (w.heap.size + 1) (ext []) 0) ∧ Hid (Old w W)) (fun i _ => ps.length - (intOf i).toNat)
  case atStart => exact ⟨0, by omega, rfl, HZ.out.row (pad 1) (cnt 1) HP1.out, HY.out.otherRow (by omega) _, HG0.out.row (by omega) _⟩
  case round =>
    obtain ⟨k, hk, rfl, HS, HR, HG⟩ := hrel
    clear H1 HZ HY HG0
    by_cases hlt : k < ps.length
    · have d1 : decide ((k : Int) < (ps.length : Int)) = true := by simp; omega
      obtain ⟨b, o, rfl, hb, hc⟩ : ∃ b o, va = some ⟨b, o, none⟩ ∧ b < w.heap.size ∧ ∀ j, j < ps.length → w.cell? ⟨b, o + j, none⟩ = some (.int .i64 ((ps.getD j 0 : Nat) : Int)) := by
        rcases HV.out with ⟨a', cap', e, e2⟩ | ⟨b, o, cap', e, hb, h0, hc⟩
        · have := congrArg List.length e2
          rw [toZ_len] at this
          simp only [List.length_nil] at this
          omega
        · simp only [Value.slice.injEq] at e
          rw [toZ_len] at hc
          exact ⟨b, o, e.1, hb, fun j hj => by rw [hc j hj, toZ_get]⟩
      have c1 : wr.cell? ⟨b, o + k, none⟩ = some (.int .i64 ((ps.getD k 0 : Nat) : Int)) := (HG.out.cell (p := ⟨b, o + k, none⟩) hb).trans (hc k hlt)
      have hpb : ps.getD k 0 ≤ 268435456 := HB.out _ (by simp [List.getD, hlt])
      have HE : Hid (prodN (ps.take (k + 1)) = prodN (ps.take k) * ps.getD k 0) := prodN_take ps k hlt
      have HC1 : Hid (cnt (prodN (ps.take k)) ≤ 40) := Nat.le_trans (HC.out k hk) (by omega)
      have HC2 : Hid ((pad (prodN (ps.take k) * ps.getD k 0)).length = 80) := by
        have := HC.out (k + 1) hlt
        rw [HE.out] at this
        exact pad_len' this (by omega)
      have HF : Hid (∀ W, Sz W (w.heap.size + 1 + 1) (pad (prodN (ps.take k) * ps.getD k 0)) (cnt (prodN (ps.take k) * ps.getD k 0)) → Sz W (w.heap.size + 1 + 1) (pad (prodN (ps.take (k + 1)))) (cnt (prodN (ps.take (k + 1))))) := fun W h => by rw [HE.out]; exact h
      have ct := fun W => times_sz (prodN (ps.take k)) (ps.getD k 0) W HC1.out hpb
      clear hc HE HC1
      generalize prodN (ps.take k) * ps.getD k 0 = y at *
      generalize prodN (ps.take k) = q at *
      generalize ps.getD k 0 = p at *
      unfold szV at ct
      go_wp2_with (first | ((with_reducible refine load_sz HS.out ?_ ?_); exact rfl; simp only [Act.put, List.setIfInBounds_toArray, List.set_cons_succ, List.set_cons_zero]) | (go_at_call 168; refine (ct _).mono ?_; rintro e w5 ⟨rfl, g5⟩; have HS5 : Hid (Sz w5 (w.heap.size + 1 + 1) (pad q) (cnt q)) := HS.out.old g5; have HR5 : Hid (Sz w5 (w.heap.size + 1) (ext []) 0) := HR.out.old g5; have HG5 : Hid (Old w w5) := Old.trans HG.out g5; clear g5) | ((with_reducible refine store_sz HS5.out (pad y) (cnt y) HC2.out ?_ ?_ ?_); exact rfl; exact rfl; simp only [Act.put]))
      exact ⟨⟨k + 1, by omega, by go_num, HF.out _ (HS5.out.row (pad y) (cnt y) HC2.out), HR5.out.otherRow (by omega) _, HG5.out.row (by omega) _⟩, by simp [intOf]; omega⟩
    · have d1 : decide ((k : Int) < (ps.length : Int)) = false := by simp; omega
      obtain rfl : k = ps.length := by omega
      have HL : Hid ((pad r).length = 80) := by
        have := HC.out ps.length (Nat.le_refl _)
        rw [List.take_length, HRR.out] at this
        exact pad_len' this (by omega)
      have HS2 : Hid (Sz wr (w.heap.size + 1 + 1) (pad r) (cnt r)) := by
        have := HS.out
        rw [List.take_length, HRR.out] at this
        exact this
      clear HS
      go_wp2_with (first | ((with_reducible refine load_sz HS2.out ?_ ?_); exact rfl; simp only [Act.put, List.setIfInBounds_toArray, List.set_cons_succ, List.set_cons_zero]) | ((with_reducible refine store_sz HR.out (pad r) (cnt r) HL.out ?_ ?_ ?_); exact rfl; exact rfl; simp only [Act.put]) | ((with_reducible refine bodyPost_ret (ret_sz Tryz.results167 _ _ ?_ (HR.out.row (pad r) (cnt r) HL.out)) ?_ ?_); exact rfl; exact rfl; exact ⟨rfl, HG.out.row (by omega) _⟩))
theorem productSize_sz (ps : List Nat) (v : Value) (w : World) (hv : Row w v (toZ ps)) (hl : ps.length ≤ 6) (hb : ∀ p ∈ ps, p ≤ 268435456) :
    Calls Tryz.prog 111 #[v] w fun e w' => e = .returned (.agg (szV (prodN ps))) ∧ Old w w' := by
  have HV : Hid (Row w v (toZ ps)) := hv
  obtain ⟨va, vc, rfl⟩ : ∃ a c, v = .slice a ps.length c := by have := hv.slice; rwa [toZ_len] at this
  have c1 := fun W => ofWord_sz 1 W (by omega)
  have c2 := fun W (h : Row W (.slice va ps.length vc) (toZ ps)) => all_sz ps _ W h hl hb
  have HL : Hid ((pad (prodN ps)).length = 80) := by
    have := prodN_cnt ps hb ps.length (Nat.le_refl _)
    rw [List.take_length] at this
    exact pad_len' this (by omega)
  have HZ : Hid (Sz (w.alloc (.cells Tryz.zeroCells120 120)) w.heap.size (ext []) 0) := Sz.zero _ _ rfl
  clear hv hb
  generalize prodN ps = r at *
  unfold szV at *
  go_enter Tryz.func111, Tryz.ntmps111
  go_wp2_with (first | (go_at_call 127; refine (c1 _).mono ?_; rintro e w1 ⟨rfl, g1⟩; have HG1 : Hid (Old w w1) := Old.trans ((Old.refl w).alloc _) g1; have HZ1 : Hid (Sz w1 w.heap.size (ext []) 0) := HZ.out.old g1; clear g1) | (go_at_call 167; refine (c2 _ (HV.out.old HG1.out)).mono ?_; rintro e w2 ⟨rfl, g2⟩; have HG2 : Hid (Old w w2) := Old.trans HG1.out g2; have HZ2 : Hid (Sz w2 w.heap.size (ext []) 0) := HZ1.out.old g2; clear g2) | ((with_reducible refine store_sz HZ2.out (pad r) (cnt r) HL.out ?_ ?_ ?_); exact rfl; exact rfl; simp only [Act.put]) | ((with_reducible refine bodyPost_ret (ret_sz Tryz.results111 _ _ ?_ (HZ2.out.row (pad r) (cnt r) HL.out)) ?_ ?_); exact rfl; exact rfl; exact ⟨rfl, HG2.out.row (Nat.le_refl _) _⟩))
end Go.Proofs.YtejhpljichmmpaaGreatDoor
/- Proved: the model's product of a basis; and a basis, opened. -/
namespace Go.Proofs.YtejhpljichmmpaaGreatDoor
open Go.ChangeShapes Go.WideShapes Go.ChangeAt Go.RowKit
open M2
set_option linter.unusedVariables false
set_option linter.unusedSimpArgs false
structure Bas (ps : List Nat) : Prop where
  len1 : 1 ≤ ps.length
  len6 : ps.length ≤ 6
  lo : ∀ p ∈ ps, 2 ≤ p
  hi : ∀ p ∈ ps, p ≤ 268435456
theorem basB_yes {xs : List Int} (h : basB xs = true) : ∃ ps : List Nat, xs = toZ ps ∧ Bas ps := by
  simp only [basB, Bool.and_eq_true, decide_eq_true_eq] at h
  obtain ⟨⟨h1, h2⟩, h3⟩ := h
  have h4 : ∀ x ∈ xs, 2 ≤ x ∧ x ≤ 268435456 := fun x hx => by
    obtain ⟨j, hj, e⟩ := List.getElem_of_mem hx
    have h5 := of_decide_eq_true h3 j hj (Nat.zero_le _)
    simp only [gbAt, Bool.and_eq_true, pmB] at h5
    have h6 := modB_yes h5.1.1
    have e2 : xs.getD j 0 = x := by simp [List.getD, hj, e]
    rw [e2] at h6
    exact h6
  refine ⟨xs.map Int.toNat, ?_, by simpa using h1, by simpa using h2, fun p hp => ?_, fun p hp => ?_⟩
  · rw [toZ, List.map_map]
    refine (List.map_id xs).symm.trans (List.map_congr_left fun x hx => ?_)
    have := h4 x hx
    simp
    omega
  · obtain ⟨x, hx, rfl⟩ := List.mem_map.1 hp
    have := h4 x hx
    omega
  · obtain ⟨x, hx, rfl⟩ := List.mem_map.1 hp
    have := h4 x hx
    omega
theorem one_dig (w : World) (t : TypeId) : Row (w.alloc (.cells #[.int .i64 1] t)) (.slice (some ⟨w.heap.size, 0, none⟩) 1 1) (toI (dig 1)) := by
  have e : dig 1 = [1] := by decide +kernel
  rw [e]
  exact Or.inr ⟨w.heap.size, 0, 1, rfl, by simp, by simp [toI], fun j hj => by
    have : j = 0 := by simp [toI] at hj; omega
    subst this
    rw [cell_at _ _ _ _ _ (by simp)]
    rfl⟩
set_option maxRecDepth 100000 in
set_option maxHeartbeats 2000000 in
theorem spec_product (ps : List Nat) (v : Value) (w : World) (hv : Row w v (toZ ps)) (hl : ps.length ≤ 6) (hb : ∀ p ∈ ps, p ≤ 268435456) :
    Calls Tryz.prog 154 #[v] w fun e w' => ∃ v', e = .returned v' ∧ Old w w' ∧ Row w' v' (toI (dig (prodN ps))) := by
  have HC : Hid (∀ k, k ≤ ps.length → cnt (prodN (ps.take k)) ≤ 7) := fun k h => Nat.le_trans (prodN_cnt ps hb k h) (by omega)
  have HB : Hid (∀ p ∈ ps, p ≤ 268435456) := hb
  have HV : Hid (Row w v (toZ ps)) := hv
  obtain ⟨va, vc, rfl⟩ : ∃ a c, v = .slice a ps.length c := by have := hv.slice; rwa [toZ_len] at this
  have HL1 : Hid ((dig 1).length = 1) := by show (dig 1).length = 1; decide +kernel
  clear hb hv
  go_enter Tryz.func154, Tryz.ntmps154
  go_wp2_with fail
  go_loopw [3, 9] (fun x i W => ∃ (k : Nat) (a : Option Addr) (n c : Nat), k ≤ ps.length ∧ i = .int .i64 k ∧ x = .slice a n c ∧ Hid (Row W (.slice a n c) (toI (dig (prodN (ps.take k))))) ∧ Hid (Old w W)) (fun _ i _ => ps.length - (intOf i).toNat)
  case atStart => exact ⟨0, _, _, _, by omega, rfl, rfl, one_dig w _, (Old.refl w).alloc _⟩
  case round =>
    obtain ⟨k, a, n, c, hk, rfl, rfl, HR, HG⟩ := hrel
    by_cases hlt : k < ps.length
    · have d1 : decide ((k : Int) < (ps.length : Int)) = true := by simp; omega
      obtain ⟨b, o, rfl, hb, hc⟩ : ∃ b o, va = some ⟨b, o, none⟩ ∧ b < w.heap.size ∧ ∀ j, j < ps.length → w.cell? ⟨b, o + j, none⟩ = some (.int .i64 ((ps.getD j 0 : Nat) : Int)) := by
        rcases HV.out with ⟨a', cap', e, e2⟩ | ⟨b, o, cap', e, hb, h0, hc⟩
        · have := congrArg List.length e2
          rw [toZ_len] at this
          simp only [List.length_nil] at this
          omega
        · simp only [Value.slice.injEq] at e
          rw [toZ_len] at hc
          exact ⟨b, o, e.1, hb, fun j hj => by rw [hc j hj, toZ_get]⟩
      have c1 : wr.cell? ⟨b, o + k, none⟩ = some (.int .i64 ((ps.getD k 0 : Nat) : Int)) := (HG.out.cell (p := ⟨b, o + k, none⟩) hb).trans (hc k hlt)
      have hpb : ps.getD k 0 ≤ 268435456 := HB.out _ (by simp [List.getD, hlt])
      have HE : Hid (prodN (ps.take (k + 1)) = prodN (ps.take k) * ps.getD k 0) := prodN_take ps k hlt
      have HC1 : Hid ((dig (prodN (ps.take k))).length ≤ 1048576) := Nat.le_trans (HC.out k hk) (by omega)
      have HC2 : Hid ((dig (ps.getD k 0)).length ≤ 1048576) := Nat.le_trans (cnt_word (by omega)) (by omega)
      have HF : Hid (∀ W u, Row W u (toI (dig (prodN (ps.take k) * ps.getD k 0))) → Row W u (toI (dig (prodN (ps.take (k + 1)))))) := fun W u h => by rw [HE.out]; exact h
      clear hc HE
      generalize prodN (ps.take k) = q at *
      generalize ps.getD k 0 = p at *
      go_wp2_with fail
      refine (of_any p _ (by omega)).mono ?_
      rintro e w2 ⟨v2, rfl, g2, o2⟩
      have HG2 : Hid (Old w w2) := Old.trans HG.out g2
      have HR2 : Hid (Row w2 (.slice a n c) (toI (dig q))) := HR.out.old g2
      have HP2 : Hid (Row w2 v2 (toI (dig p))) := Own.row o2
      obtain ⟨a2, cap2, rfl⟩ := (Own.row o2).slice
      clear g2 o2
      go_wp2_with fail
      refine (mul_any (dig q) (dig p) _ _ _ HR2.out HP2.out (dig_lim q) (dig_lim p) HC1.out HC2.out).mono ?_
      rw [val_dig, val_dig]
      rintro e w3 ⟨v3, rfl, g3, o3⟩
      have HG3 : Hid (Old w w3) := Old.trans HG2.out g3
      have HP3 : Hid (Row w3 v3 (toI (dig (q * p)))) := Own.row o3
      obtain ⟨a3, cap3, rfl⟩ := (Own.row o3).slice
      clear g3 o3
      go_wp2_with fail
      exact ⟨⟨k + 1, _, _, _, by omega, by go_num, rfl, HF.out _ _ HP3.out, HG3⟩, by simp [intOf]; omega⟩
    · have d1 : decide ((k : Int) < (ps.length : Int)) = false := by simp; omega
      obtain rfl : k = ps.length := by omega
      have HF : Hid (Row wr (.slice a n c) (toI (dig (prodN ps)))) := by
        have := HR.out
        rw [List.take_length] at this
        exact this
      clear HR
      go_wp2_with fail
      go_ret
      exact ⟨_, rfl, HG.out, HF.out⟩
end Go.Proofs.YtejhpljichmmpaaGreatDoor
/- Proved: contracts of ProductOf, of the program and of the model. -/
namespace Go.Proofs.YtejhpljichmmpaaGreatDoor
open Go.ChangeShapes Go.WideShapes Go.ChangeAt Go.RowKit
open M2
set_option linter.unusedVariables false
set_option linter.unusedSimpArgs false
theorem nil_own (w : World) (base : Nat) : Own w base (.slice none 0 0) (toI []) := ⟨rfl, Or.inl ⟨rfl, rfl⟩⟩
theorem Bas.cnt {ps : List Nat} (h : Bas ps) : M2.cnt (prodN ps) ≤ 7 := by
  have := prodN_cnt ps h.hi ps.length (Nat.le_refl _)
  rw [List.take_length] at this
  have := h.len6
  omega
end Go.Proofs.YtejhpljichmmpaaGreatDoor
/- Proved: what the model answers, as functions of the numbers: sums and products of whole numbers. -/
namespace Go.Proofs.YtejhpljichmmpaaGreatDoor
open Go.ChangeShapes Go.WideShapes Go.ChangeAt Go.RowKit
open M2
set_option linter.unusedVariables false
set_option linter.unusedSimpArgs false
def nat (xs : List Int) : List Nat := xs.map Int.toNat
theorem nat_len (xs : List Int) : (nat xs).length = xs.length := by simp [nat]
theorem nat_get (xs : List Int) (j : Nat) : (nat xs).getD j 0 = (xs.getD j 0).toNat := by
  simp only [nat, List.getD, List.getElem?_map]
  cases xs[j]? <;> rfl
theorem toI_nat {xs : List Int} (h : ∀ j, j < xs.length → 0 ≤ xs.getD j 0) : toI (nat xs) = xs := by
  apply List.ext_getElem
  · simp [toI, nat]
  · intro i h1 h2
    have := h i h2
    simp only [toI, nat, List.map_map, List.getElem_map, Function.comp]
    have e : xs.getD i 0 = xs[i] := by simp [List.getD, h2]
    rw [e] at this
    omega
theorem good_gw {n : Bool} {xs : List Int} (h : Good n xs) : toI (nat xs) = xs ∧ Gw n (nat xs) ∧ (nat xs).length ≤ 40 := by
  have hr : ∀ j, j < xs.length → 0 ≤ xs.getD j 0 := fun j hj => (h.2.2 j hj).1.1
  refine ⟨toI_nat hr, ⟨⟨?_, ?_⟩, ?_⟩, by rw [nat_len]; exact h.1⟩
  · intro x hx
    obtain ⟨j, hj, e⟩ := List.getElem_of_mem hx
    rw [nat_len] at hj
    have h2 := (h.2.2 j hj).1
    have h3 := nat_get xs j
    have e2 : (nat xs).getD j 0 = x := by rw [← e]; simp [List.getD, nat_len, hj]
    rw [e2] at h3
    unfold LB
    omega
  · intro hne h0
    have hl : 0 < xs.length := by
      rcases Nat.eq_zero_or_pos xs.length with h1 | h1
      · exact absurd (List.length_eq_zero_iff.1 (by rw [nat_len]; exact h1)) hne
      · exact h1
    rw [List.getLast_eq_getElem] at h0
    have hj : xs.length - 1 < xs.length := by omega
    have h2 := h.2.2 (xs.length - 1) hj
    have h3 := nat_get xs (xs.length - 1)
    have e2 : (nat xs).getD (xs.length - 1) 0 = 0 := by
      rw [← h0]
      simp [List.getD, nat_len, hj]
    rw [e2] at h3
    exact h2.2 ⟨by have := h2.1; omega, by omega⟩
  · intro hn he
    have : xs.length = 0 := by rw [← nat_len, he]; rfl
    exact h.2.1 ⟨this, hn⟩
end Go.Proofs.YtejhpljichmmpaaGreatDoor
