/- Proved: several texts in one: what each proves is said ahead of it. -/
import Derived.Test.YtihjndakgncdaaaGreatDoorFd17
import Derived.RegionTactic
import Derived.ChangeAlike
import Derived.Deep.RegionLaw
import Derived.Deep.AppendLies
import Derived.Test.YtihjndakgncdaaaGreatDoorFd09
import Derived.Test.YtihjndakgncdaaaGreatDoorFd06
/- Proved: rows of the call's own that are filled one by one, rows of numbers read, rows appended to. -/
namespace Go.Proofs.YtihjndakgncdaaaGreatDoor
open Go.ChangeShapes Go.WideShapes Go.ChangeAt Go.RowKit
set_option linter.unusedVariables false
theorem toZ_len (xs : List Nat) : (toZ xs).length = xs.length := by simp
theorem toZ_get (xs : List Nat) (j : Nat) : (toZ xs).getD j 0 = ((xs.getD j 0 : Nat) : Int) := by
  simp [List.getD, List.getElem?_map]
  cases xs[j]? <;> rfl
end Go.Proofs.YtihjndakgncdaaaGreatDoor
/- Proved: the program's product of all factors, as a size. -/
namespace Go.Proofs.YtihjndakgncdaaaGreatDoor
open Go.ChangeShapes Go.WideShapes Go.ChangeAt Go.RowKit
open M2
set_option linter.unusedVariables false
set_option linter.unusedSimpArgs false
def prodN (ps : List Nat) : Nat := ps.foldl (fun a p => a * p) 1
theorem prodN_snoc (ps : List Nat) (p : Nat) : prodN (ps ++ [p]) = prodN ps * p := by simp [prodN, List.foldl_append]
theorem prodN_take (ps : List Nat) (k : Nat) (h : k < ps.length) : prodN (ps.take (k + 1)) = prodN (ps.take k) * ps.getD k 0 := by
  rw [← prodN_snoc]
  congr 1
  rw [List.take_add_one]
  congr 1
  simp [List.getD, h]
theorem prodN_le (ps : List Nat) (hb : ∀ p ∈ ps, p ≤ 268435456) : ∀ k, k ≤ ps.length → prodN (ps.take k) ≤ LB ^ k
  | 0, _ => by simp [prodN]
  | k + 1, h => by
    rw [prodN_take ps k (by omega), Nat.pow_succ]
    have h1 := prodN_le ps hb k (by omega)
    have h2 : ps.getD k 0 ≤ LB := by
      have : ps.getD k 0 ∈ ps := by simp [List.getD, show k < ps.length by omega]
      exact hb _ this
    exact Nat.mul_le_mul h1 h2
theorem prodN_cnt (ps : List Nat) (hb : ∀ p ∈ ps, p ≤ 268435456) (k : Nat) (h : k ≤ ps.length) : cnt (prodN (ps.take k)) ≤ k + 1 := by
  refine cnt_le (Nat.lt_of_le_of_lt (prodN_le ps hb k h) ?_)
  rw [Nat.pow_succ]
  have h1 := pw k
  have h2 : LB ^ k * 2 ≤ LB ^ k * LB := Nat.mul_le_mul_left _ (by decide)
  omega
set_option maxHeartbeats 2000000 in
theorem times_sz (a p : Nat) (w : World) (ha : cnt a ≤ 40) (hp : p ≤ 268435456) :
    Calls Tryz.prog 70 #[.agg (szV a), .int .i64 (p : Int)] w fun e w' => e = .returned (.agg (szV (a * p))) ∧ Old w w' := by
  have HPA := hidP (pad_len' ha (by omega))
  have c := fun W => scaled_sz a p 0 W (by omega) hp (by omega)
  rw [Nat.add_zero] at c
  have HPR : Hid ((pad (a * p)).length = 80) := by
    have h1 : cnt (a * p) ≤ 41 := by
      refine cnt_le ?_
      have h2 := cnt_lt a
      have h3 := Nat.pow_le_pow_right LB_pos ha
      have h4 : a * p < LB ^ 40 * LB := by
        rcases Nat.eq_zero_or_pos p with h0 | h0
        · subst h0; simp; exact Nat.mul_pos (pw 40) LB_pos
        · exact Nat.mul_lt_mul_of_lt_of_le (by omega) hp LB_pos
      rw [Nat.pow_succ]
      exact h4
    exact pad_len' h1 (by omega)
  have H1 : Hid (Sz ((w.alloc (.cells (szA (pad a) (cnt a)) 53)).alloc (.cells Tryz.zeroCells53 53)) w.heap.size (pad a) (cnt a)) := (Sz.new w _ _ HPA.out).alloc _
  have HR : Hid (Sz ((w.alloc (.cells (szA (pad a) (cnt a)) 53)).alloc (.cells Tryz.zeroCells53 53)) (w.heap.size + 1) (ext []) 0) := Sz.zero _ _ (by simp)
  have HG : Hid (Old w ((w.alloc (.cells (szA (pad a) (cnt a)) 53)).alloc (.cells Tryz.zeroCells53 53))) := ((Old.refl w).alloc _).alloc _
  unfold szV at *
  generalize a * p = r at *
  go_enter Tryz.func70, Tryz.ntmps70
  go_wp2_with (first | ((with_reducible refine load_sz H1.out ?_ ?_); exact rfl; simp only [Act.put, List.setIfInBounds_toArray, List.set_cons_succ, List.set_cons_zero]) | (go_at_call 61; refine (c _).mono ?_; rintro e w5 ⟨rfl, g5⟩; have HR5 := hidP (HR.out.old g5); have HG5 := hidP (Old.trans HG.out g5); clear g5) | ((with_reducible refine store_sz HR5.out (pad r) (cnt r) HPR.out ?_ ?_ ?_); exact rfl; exact rfl; simp only [Act.put]) | ((with_reducible refine bodyPost_ret (ret_sz Tryz.results70 _ _ ?_ (HR5.out.row (pad r) (cnt r) HPR.out)) ?_ ?_); exact rfl; exact rfl; exact ⟨rfl, HG5.out.row (by omega) _⟩))
set_option maxRecDepth 100000 in
set_option maxHeartbeats 4000000 in
theorem all_sz (ps : List Nat) (v : Value) (w : World) (hv : Row w v (toZ ps)) (hl : ps.length ≤ 6) (hb : ∀ p ∈ ps, p ≤ 268435456) :
    Calls Tryz.prog 69 #[.func (.func 70) #[] #[], .agg (szV 1), v] w fun e w' => e = .returned (.agg (szV (prodN ps))) ∧ Old w w' := by
  have HP1 := hidP (pad_len' (n := 1) (k := 3) (cnt_word (by omega)) (by omega))
  have H1 : Hid (Sz ((w.alloc (.cells (szA (pad 1) (cnt 1)) 53)).alloc (.cells Tryz.zeroCells53 53)) w.heap.size (pad 1) (cnt 1)) := (Sz.new w _ _ HP1.out).alloc _
  have HZ : Hid (Sz (((w.alloc (.cells (szA (pad 1) (cnt 1)) 53)).alloc (.cells Tryz.zeroCells53 53)).alloc (.cells Tryz.zeroCells53 53)) (w.heap.size + 1 + 1) (ext []) 0) := Sz.zero _ _ (by simp)
  have HY : Hid (Sz (((w.alloc (.cells (szA (pad 1) (cnt 1)) 53)).alloc (.cells Tryz.zeroCells53 53)).alloc (.cells Tryz.zeroCells53 53)) (w.heap.size + 1) (ext []) 0) := (Sz.zero _ _ (by simp)).alloc _
  have HG0 : Hid (Old w (((w.alloc (.cells (szA (pad 1) (cnt 1)) 53)).alloc (.cells Tryz.zeroCells53 53)).alloc (.cells Tryz.zeroCells53 53))) := (((Old.refl w).alloc _).alloc _).alloc _
  have HC : Hid (∀ k, k ≤ ps.length → cnt (prodN (ps.take k)) ≤ 7) := fun k h => Nat.le_trans (prodN_cnt ps hb k h) (by omega)
  have HB := hidP hb
  have HV := hidP hv
  obtain ⟨r, hr⟩ : ∃ r, prodN ps = r := ⟨_, rfl⟩
  rw [hr]
  have HRR := hidP hr
  clear hr
  obtain ⟨va, vc, rfl⟩ : ∃ a c, v = .slice a ps.length c := by have := hv.slice; rwa [toZ_len] at this
  clear hb hv
  unfold szV
  go_enter Tryz.func69, Tryz.ntmps69
  go_wp2_with (first | ((with_reducible refine load_sz H1.out ?_ ?_); exact rfl; simp only [Act.put, List.setIfInBounds_toArray, List.set_cons_succ, List.set_cons_zero]) | ((with_reducible refine store_sz HZ.out (pad 1) (cnt 1) HP1.out ?_ ?_ ?_); exact rfl; exact rfl; simp only [Act.put]))
  go_loopw [13] (fun i W => ∃ k : Nat, k ≤ ps.length ∧ i = .int .i64 k ∧ Hid (Sz W (w.heap.size + 1 + 1) (pad (prodN (ps.take k))) (cnt (prodN (ps.take k)))) ∧ Hid (Sz W (w.heap.size + 1) (ext []) 0) ∧ Hid (Old w W)) (fun i _ => ps.length - (intOf i).toNat)
  case atStart => exact ⟨0, by omega, rfl, HZ.out.row (pad 1) (cnt 1) HP1.out, HY.out.otherRow (by omega) _, HG0.out.row (by omega) _⟩
  case round =>
    obtain ⟨k, hk, rfl, HS, HR, HG⟩ := hrel
    clear H1 HZ HY HG0
    by_cases hlt : k < ps.length
    · obtain ⟨b, o, rfl, hb, hc⟩ : ∃ b o, va = some ⟨b, o, none⟩ ∧ b < w.heap.size ∧ ∀ j, j < ps.length → w.cell? ⟨b, o + j, none⟩ = some (.int .i64 ((ps.getD j 0 : Nat) : Int)) := by
        rcases HV.out with ⟨a', cap', e, e2⟩ | ⟨b, o, cap', e, hb, h0, hc⟩
        · have := congrArg List.length e2
          rw [toZ_len] at this
          simp only [List.length_nil] at this
          omega
        · simp only [Value.slice.injEq] at e
          rw [toZ_len] at hc
          exact ⟨b, o, e.1, hb, fun j hj => by rw [hc j hj, toZ_get]⟩
      have c1 := (HG.out.cell (p := ⟨b, o + k, none⟩) hb).trans (hc k hlt)
      have hpb : ps.getD k 0 ≤ 268435456 := HB.out _ (by simp [List.getD, hlt])
      have HE := hidP (prodN_take ps k hlt)
      have HC1 : Hid (cnt (prodN (ps.take k)) ≤ 40) := Nat.le_trans (HC.out k hk) (by omega)
      have HC2 : Hid ((pad (prodN (ps.take k) * ps.getD k 0)).length = 80) := by
        have := HC.out (k + 1) hlt
        rw [HE.out] at this
        exact pad_len' this (by omega)
      have HF : Hid (∀ W, Sz W (w.heap.size + 1 + 1) (pad (prodN (ps.take k) * ps.getD k 0)) (cnt (prodN (ps.take k) * ps.getD k 0)) → Sz W (w.heap.size + 1 + 1) (pad (prodN (ps.take (k + 1)))) (cnt (prodN (ps.take (k + 1))))) := fun W h => by rw [HE.out]; exact h
      have ct := fun W => times_sz (prodN (ps.take k)) (ps.getD k 0) W HC1.out hpb
      clear hc HE HC1
      generalize prodN (ps.take k) * ps.getD k 0 = y at *
      generalize prodN (ps.take k) = q at *
      generalize ps.getD k 0 = p at *
      unfold szV at ct
      go_wp2_with (first | ((with_reducible refine load_sz HS.out ?_ ?_); exact rfl; simp only [Act.put, List.setIfInBounds_toArray, List.set_cons_succ, List.set_cons_zero]) | (go_at_call 70; refine (ct _).mono ?_; rintro e w5 ⟨rfl, g5⟩; have HS5 := hidP (HS.out.old g5); have HR5 := hidP (HR.out.old g5); have HG5 := hidP (Old.trans HG.out g5); clear g5) | ((with_reducible refine store_sz HS5.out (pad y) (cnt y) HC2.out ?_ ?_ ?_); exact rfl; exact rfl; simp only [Act.put]))
      exact ⟨⟨k + 1, by omega, by go_num, HF.out _ (HS5.out.row (pad y) (cnt y) HC2.out), HR5.out.otherRow (by omega) _, HG5.out.row (by omega) _⟩, by simp [intOf]; omega⟩
    · have d1 : decide ((k : Int) < (ps.length : Int)) = false := by simp; omega
      obtain rfl : k = ps.length := by omega
      have HL : Hid ((pad r).length = 80) := by
        have := HC.out ps.length (Nat.le_refl _)
        rw [List.take_length, HRR.out] at this
        exact pad_len' this (by omega)
      have HS2 : Hid (Sz wr (w.heap.size + 1 + 1) (pad r) (cnt r)) := by
        have := HS.out
        rw [List.take_length, HRR.out] at this
        exact this
      clear HS
      go_wp2_with (first | ((with_reducible refine load_sz HS2.out ?_ ?_); exact rfl; simp only [Act.put, List.setIfInBounds_toArray, List.set_cons_succ, List.set_cons_zero]) | ((with_reducible refine store_sz HR.out (pad r) (cnt r) HL.out ?_ ?_ ?_); exact rfl; exact rfl; simp only [Act.put]) | ((with_reducible refine bodyPost_ret (ret_sz Tryz.results69 _ _ ?_ (HR.out.row (pad r) (cnt r) HL.out)) ?_ ?_); exact rfl; exact rfl; exact ⟨rfl, HG.out.row (by omega) _⟩))
theorem productSize_sz (ps : List Nat) (v : Value) (w : World) (hv : Row w v (toZ ps)) (hl : ps.length ≤ 6) (hb : ∀ p ∈ ps, p ≤ 268435456) :
    Calls Tryz.prog 38 #[v] w fun e w' => e = .returned (.agg (szV (prodN ps))) ∧ Old w w' := by
  have HV := hidP hv
  obtain ⟨va, vc, rfl⟩ : ∃ a c, v = .slice a ps.length c := by have := hv.slice; rwa [toZ_len] at this
  have c1 := fun W => ofWord_sz 1 W (by omega)
  have c2 := fun W (h : Row W (.slice va ps.length vc) (toZ ps)) => all_sz ps _ W h hl hb
  have HL : Hid ((pad (prodN ps)).length = 80) := by
    have := prodN_cnt ps hb ps.length (Nat.le_refl _)
    rw [List.take_length] at this
    exact pad_len' this (by omega)
  have HZ : Hid (Sz (w.alloc (.cells Tryz.zeroCells53 53)) w.heap.size (ext []) 0) := Sz.zero _ _ rfl
  clear hv hb
  generalize prodN ps = r at *
  unfold szV at *
  go_enter Tryz.func38, Tryz.ntmps38
  go_wp2_with (first | (go_at_call 39; refine (c1 _).mono ?_; rintro e w1 ⟨rfl, g1⟩; have HG1 := hidP (Old.trans ((Old.refl w).alloc _) g1); have HZ1 := hidP (HZ.out.old g1); clear g1) | (go_at_call 69; refine (c2 _ (HV.out.old HG1.out)).mono ?_; rintro e w2 ⟨rfl, g2⟩; have HG2 := hidP (Old.trans HG1.out g2); have HZ2 := hidP (HZ1.out.old g2); clear g2) | ((with_reducible refine store_sz HZ2.out (pad r) (cnt r) HL.out ?_ ?_ ?_); exact rfl; exact rfl; simp only [Act.put]) | ((with_reducible refine bodyPost_ret (ret_sz Tryz.results38 _ _ ?_ (HZ2.out.row (pad r) (cnt r) HL.out)) ?_ ?_); exact rfl; exact rfl; exact ⟨rfl, HG2.out.row (Nat.le_refl _) _⟩))
end Go.Proofs.YtihjndakgncdaaaGreatDoor
