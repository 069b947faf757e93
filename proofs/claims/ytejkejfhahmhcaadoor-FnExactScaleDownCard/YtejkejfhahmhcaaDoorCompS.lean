/- Proved: the model's product of all primes but one. -/
import Derived.Test.YtejkejfhahmhcaaDoorKI
import Derived.Test.YtejkejfhahmhcaaDoorSumB
import Derived.Test.YtejkejfhahmhcaaDoorKD
namespace Go.Proofs.YtejkejfhahmhcaaDoor
open Go.ChangeShapes Go.WideShapes Go.ChangeAt Go.RowKit
open M2
set_option linter.unusedVariables false
set_option linter.unusedSimpArgs false
theorem othK_mem {ps : List Nat} {i k p : Nat} (h : p ∈ othK ps i k) : p ∈ ps := by
  rcases List.mem_append.1 h with h | h
  · exact List.mem_of_mem_take (List.mem_of_mem_take h)
  · exact List.mem_of_mem_take (List.mem_of_mem_drop h)
theorem othK_len (ps : List Nat) (i k : Nat) : (othK ps i k).length ≤ ps.length := by simp [othK]; omega
theorem othK_cnt {ps : List Nat} (hb : Bas ps) (i k : Nat) : cnt (prodN (othK ps i k)) ≤ 7 := by
  refine cnt_six (Nat.le_trans (prodN_all _ (fun p hp => hb.hi p (othK_mem hp))) (Nat.le_trans (Nat.pow_le_pow_right LB_pos (show (othK ps i k).length ≤ 6 from Nat.le_trans (othK_len ps i k) hb.len6)) ?_))
  have := pw 6
  omega
set_option maxRecDepth 100000 in
set_option maxHeartbeats 2000000 in
theorem spec_punct (ps : List Nat) (v : Value) (i : Nat) (w : World) (hv : Row w v (toZ ps)) (hb : Bas ps) (hi : i < ps.length) :
    Calls Tryd.prog 87 #[v, .int .i64 i] w fun e w' => ∃ v', e = .returned v' ∧ Old w w' ∧ Row w' v' (toI (dig (prodN (oth ps i)))) := by
  have hl6 := hb.len6
  have HB : Hid (Bas ps) := hb
  obtain ⟨b, o, cap, rfl, hbb, hc⟩ := hv.atZ (by have := hb.len1; omega)
  have HC : Hid (∀ j, j < ps.length → w.cell? ⟨b, o + j, none⟩ = some (.int .i64 ((ps.getD j 0 : Nat) : Int))) := hc
  have HS : Hid (∀ k, k < ps.length → k ≠ i → prodN (othK ps i (k + 1)) = prodN (othK ps i k) * ps.getD k 0) := fun k h1 h2 => by rw [othK_step ps i k h1 h2, prodN_snoc]
  have HS2 : Hid (prodN (othK ps i (i + 1)) = prodN (othK ps i i)) := by show _ = _; rw [othK_same ps i hi]
  have HS3 : Hid (prodN (othK ps i ps.length) = prodN (oth ps i)) := by show _ = _; rw [othK_all ps i _ (Nat.le_refl _)]
  have HS0 : Hid (prodN (othK ps i 0) = 1) := by show _ = _; rw [othK_zero]; rfl
  clear hv hc hb
  go_enter Tryd.func87, Tryd.ntmps87
  go_wp2_with fail
  go_loopw [5, 11] (fun x j W => ∃ (k : Nat) (a : Option Addr) (n c : Nat), k ≤ ps.length ∧ j = .int .i64 k ∧ x = .slice a n c ∧ Hid (Row W (.slice a n c) (toI (dig (prodN (othK ps i k))))) ∧ Hid (Old w W)) (fun _ j _ => ps.length - (intOf j).toNat)
  case atStart => exact ⟨0, _, _, _, by omega, rfl, rfl, (by show Row _ _ _; rw [HS0.out]; exact one_dig w _), (Old.refl w).alloc _⟩
  case round =>
    obtain ⟨k, a, n, c, hk, rfl, rfl, HR, HG⟩ := hrel
    by_cases hlt : k < ps.length
    · have d1 : decide ((k : Int) < (ps.length : Int)) = true := by simp; omega
      have c1 : wr.cell? ⟨b, o + k, none⟩ = some (.int .i64 ((ps.getD k 0 : Nat) : Int)) := (HG.out.cell (p := ⟨b, o + k, none⟩) hbb).trans (HC.out k hlt)
      have hpb : ps.getD k 0 ≤ 268435456 := HB.out.hi _ (by simp [List.getD, hlt])
      by_cases hki : k = i
      · subst hki
        have HF : Hid (Row wr (.slice a n c) (toI (dig (prodN (othK ps k (k + 1)))))) := by show Row _ _ _; rw [HS2.out]; exact HR.out
        have dn : ((k : Int) != (k : Int)) = false := by simp
        clear HR
        generalize ps.getD k 0 = p at *
        go_wp2_with fail
        exact ⟨⟨k + 1, _, _, _, by omega, by go_num, rfl, HF, HG⟩, by simp [intOf]; omega⟩
      · have dn : ((k : Int) != (i : Int)) = true := by simp; omega
        have HE : Hid (prodN (othK ps i (k + 1)) = prodN (othK ps i k) * ps.getD k 0) := HS.out k hlt hki
        have HC1 : Hid ((dig (prodN (othK ps i k))).length ≤ 1048576) := Nat.le_trans (othK_cnt HB.out i k) (by omega)
        have HC2 : Hid ((dig (ps.getD k 0)).length ≤ 1048576) := Nat.le_trans (cnt_word (by omega)) (by omega)
        have HF : Hid (∀ W u, Row W u (toI (dig (prodN (othK ps i k) * ps.getD k 0))) → Row W u (toI (dig (prodN (othK ps i (k + 1)))))) := fun W u h => by rw [HE.out]; exact h
        clear HE
        generalize prodN (othK ps i k) = q at *
        generalize ps.getD k 0 = p at *
        go_wp2_with fail
        refine (of_any p _ (by omega)).mono ?_
        rintro e w2 ⟨v2, rfl, g2, o2⟩
        have HG2 : Hid (Old w w2) := Old.trans HG.out g2
        have HR2 : Hid (Row w2 (.slice a n c) (toI (dig q))) := HR.out.old g2
        have HP2 : Hid (Row w2 v2 (toI (dig p))) := Own.row o2
        obtain ⟨a2, cap2, rfl⟩ := (Own.row o2).slice
        clear g2 o2
        go_wp2_with fail
        refine (mul_any (dig q) (dig p) _ _ _ HR2.out HP2.out (dig_lim q) (dig_lim p) HC1.out HC2.out).mono ?_
        rw [val_dig, val_dig]
        rintro e w3 ⟨v3, rfl, g3, o3⟩
        have HG3 : Hid (Old w w3) := Old.trans HG2.out g3
        have HP3 : Hid (Row w3 v3 (toI (dig (q * p)))) := Own.row o3
        obtain ⟨a3, cap3, rfl⟩ := (Own.row o3).slice
        clear g3 o3
        go_wp2_with fail
        exact ⟨⟨k + 1, _, _, _, by omega, by go_num, rfl, HF.out _ _ HP3.out, HG3⟩, by simp [intOf]; omega⟩
    · have d1 : decide ((k : Int) < (ps.length : Int)) = false := by simp; omega
      obtain rfl : k = ps.length := by omega
      have HF : Hid (Row wr (.slice a n c) (toI (dig (prodN (oth ps i))))) := by
        have := HR.out
        rw [HS3.out] at this
        exact this
      clear HR
      go_wp2_with fail
      go_ret
      exact ⟨_, rfl, HG.out, HF.out⟩
end Go.Proofs.YtejkejfhahmhcaaDoor
