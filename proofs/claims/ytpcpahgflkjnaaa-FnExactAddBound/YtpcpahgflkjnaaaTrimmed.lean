/- Proved: the contract of the program's trimmed. -/
import Derived.Test.YtpcpahgflkjnaaaSz
namespace Go.Proofs.Ytpcpahgflkjnaaa
open Go.ChangeShapes Go.WideShapes Go.ChangeAt Go.RowKit
open M2
set_option linter.unusedVariables false
set_option linter.unusedSimpArgs false
set_option maxHeartbeats 1000000 in
theorem trimmed_any (ls : List Nat) (c most : Nat) (w : World) (hl : ls.length = 80) (hlim : Lim ls) (hm : most ≤ 80) (hv : val (ls.take most) = val ls) :
    Calls Try.prog 30 #[.agg (szA ls c), .int .i64 (most : Int)] w fun e w' => e = .returned (.agg (szA ls (cnt (val ls)))) ∧ Old w w' := by
  have HV : Hid (val (ls.take most) = val ls) := hv
  have HL : Hid (ls.length = 80) := hl
  have c80 := szA_cnt hl c
  clear hv hl
  go_enter Try.func30, Try.ntmps30
  go_wp2_with fail
  clear c80
  rw [szA_setc HL.out]
  go_loopw [] (fun W => ∃ k : Nat, k ≤ 80 ∧ Hid (Sz W w.heap.size ls k) ∧ Hid (Sz W (w.heap.size + 1) (ext []) 0) ∧ Hid (val (ls.take k) = val ls) ∧ Hid (Old w W)) (fun W => match W.cell? ⟨w.heap.size, 80, none⟩ with | some v => (intOf v).toNat | _ => 0)
  case atStart => exact ⟨most, hm, (Sz.new w ls most HL.out).alloc _, Sz.zero _ _ (by simp), HV, ((Old.refl w).alloc _).alloc _⟩
  case round =>
    obtain ⟨k, hk, HS, HZ, HV, HG⟩ := hrel
    have c80 := HS.out.cnt
    have f80 := HS.out.fro 80
    rcases Nat.eq_zero_or_pos k with hk0 | hk0
    · subst hk0
      have e : cnt (val ls) = 0 := cnt_at hlim 0 (by omega) HV.out (Or.inl rfl)
      have HE : Hid (cnt (val ls) = 0) := e
      clear e
      go_wp2_with (first | ((with_reducible refine load_sz HS.out ?_ ?_); exact rfl; simp only [Act.put, List.setIfInBounds_toArray, List.set_cons_succ, List.set_cons_zero]) | ((with_reducible refine store_sz HZ.out ls 0 HL.out ?_ ?_ ?_); exact rfl; exact rfl; simp only [Act.put]) | ((with_reducible refine bodyPost_ret (ret_sz Try.results30 _ _ ?_ (HZ.out.row ls 0 HL.out)) ?_ ?_); exact rfl; exact rfl; exact ⟨by rw [HE.out], HG.out.row (by omega) _⟩))
    · obtain ⟨m, rfl⟩ : ∃ m, k = m + 1 := ⟨k - 1, by omega⟩
      have c1 := HS.out.at (j := m) (by omega)
      by_cases hx : ls.getD m 0 = 0
      · have HV2 : Hid (val (ls.take m) = val ls) := take_zero_step m HV.out hx
        rw [hx] at c1
        clear HV hx
        go_wp2_with fail
        refine ⟨⟨m, by omega, HS.out.setc m, HZ.out.other _ (by simp) _, HV2, HG.out.own (by simp) _⟩, ?_⟩
        rw [(HS.out.setc m).cnt, c80]
        simp [intOf]
      · have e : cnt (val ls) = m + 1 := cnt_at hlim (m + 1) (by rw [HL.out]; exact hk) HV.out (Or.inr hx)
        have HE : Hid (cnt (val ls) = m + 1) := e
        clear e
        have d1 := beq0 _ hx
        generalize ls.getD m 0 = x at *
        go_wp2_with (first | ((with_reducible refine load_sz HS.out ?_ ?_); exact rfl; simp only [Act.put, List.setIfInBounds_toArray, List.set_cons_succ, List.set_cons_zero]) | ((with_reducible refine store_sz HZ.out ls (m + 1) HL.out ?_ ?_ ?_); exact rfl; exact rfl; simp only [Act.put]) | ((with_reducible refine bodyPost_ret (ret_sz Try.results30 _ _ ?_ (HZ.out.row ls (m + 1) HL.out)) ?_ ?_); exact rfl; exact rfl; exact ⟨by rw [HE.out], HG.out.row (by omega) _⟩))
end Go.Proofs.Ytpcpahgflkjnaaa
