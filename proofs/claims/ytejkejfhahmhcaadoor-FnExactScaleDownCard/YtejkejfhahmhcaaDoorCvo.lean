/- Proved: contracts of the model's l6Centred and l2Neg; a prime from 3 on is odd. -/
import Derived.Test.YtejkejfhahmhcaaDoorCvn
import Derived.Test.YtejkejfhahmhcaaDoorKG
namespace Go.Proofs.YtejkejfhahmhcaaDoor
open Go.ChangeShapes Go.WideShapes Go.ChangeAt Go.RowKit
open M2
set_option linter.unusedVariables false
set_option linter.unusedSimpArgs false
/-- n modulo m, above half of m below 0 -/
def cenM (n : Int) (m : Nat) : Int := if (m : Int) / 2 < n % (m : Int) then n % (m : Int) - (m : Int) else n % (m : Int)
theorem spec_centred (n : Int) (m : Nat) (w : World) (hn : -9223372036854775808 ≤ n ∧ n ≤ 9223372036854775807) (hm : 2 ≤ m ∧ m ≤ 268435456) :
    Calls Tryd.prog 60 #[.int .i64 n, .int .i64 (m : Int)] w fun e w' => e = .returned (.int .i64 (cenM n m)) ∧ w' = w := by
  have c := fun W => spec_mod n (m : Int) W hn (by omega)
  unfold cenM
  have hz : 0 ≤ n % (m : Int) ∧ n % (m : Int) < (m : Int) := ⟨Int.emod_nonneg _ (by omega), Int.emod_lt_of_pos _ (by omega)⟩
  generalize n % (m : Int) = r at *
  have tq : Int.tdiv (m : Int) 2 = (m : Int) / 2 := Int.tdiv_eq_ediv_of_nonneg (by omega)
  have tw : IntKind.i64.wrap ((m : Int) / 2) = (m : Int) / 2 := by rw [IntKind.wrap_i64]; omega
  have ts1 : IntKind.i64.wrap (r - (m : Int)) = r - (m : Int) := by rw [IntKind.wrap_i64]; omega
  by_cases h : (m : Int) / 2 < r
  · rw [if_pos h]
    have d1 : decide ((m : Int) / 2 < r) = true := decide_eq_true h
    go_enter Tryd.func60, Tryd.ntmps60
    go_wp2_with fail
    refine (c _).mono ?_
    rintro e w1 ⟨rfl, hw⟩
    replace hw := hw.symm
    subst hw
    go_wp2_with fail
    go_ret
    exact ⟨rfl, rfl⟩
  · rw [if_neg h]
    have d1 : decide ((m : Int) / 2 < r) = false := decide_eq_false h
    go_enter Tryd.func60, Tryd.ntmps60
    go_wp2_with fail
    refine (c _).mono ?_
    rintro e w1 ⟨rfl, hw⟩
    replace hw := hw.symm
    subst hw
    go_wp2_with fail
    go_ret
    exact ⟨rfl, rfl⟩
theorem infoL2W : (Tryd.prog.info? 49).map (·.size) = some 2 := by kernel_rfl
theorem ret_l2 {fn : Func} {p : Tmp} (h : fn.results = #[.cell p 49]) (tmps : Array Value) (w : World) {g : Nat} {x y : Value} (hp : tmps.getD p undef = .pointer (some ⟨g, 0, none⟩)) (hs : StW w g x y 49) :
    (results fn tmps).run Tryd.prog w = .ok (.agg #[x, y]) w :=
  results_cell_row h tmps w g 49 #[x, y] (0, 0) _ hp hs Tryd.underlying49 rfl infoL2W
theorem dg_len0 (z : Int) : (0 < (dg z).length) ↔ z ≠ 0 := by
  constructor
  · intro h e
    subst e
    simp [dg, dig_zero] at h
  · intro h
    exact List.length_pos_iff.2 (dig_ne (by omega))
set_option maxHeartbeats 2000000 in
theorem neg_any (z : Int) (a : Option Addr) (c : Nat) (w : World) (hl : (dg z).length ≤ 1000) :
    Calls Tryd.prog 63 #[.agg #[.bool (ng z), .slice a (toI (dg z)).length c]] w fun e w' => e = .returned (.agg #[.bool (ng (-z)), .slice a (toI (dg z)).length c]) ∧ Old w w' := by
  have h0 := dg_len0 z
  rw [toI_len]
  generalize (dg z).length = L at *
  have HA : Hid (Old w ((w.alloc (.cells #[.bool (ng z), .slice a L c] 49)).alloc (.cells #[.bool (ng (-z)), .slice a L c] 49))) := ((Old.refl w).alloc _).alloc _
  have HS : Hid (StW ((w.alloc (.cells #[.bool (ng z), .slice a L c] 49)).alloc (.cells #[.bool (ng (-z)), .slice a L c] 49)) (w.heap.size + 1) (.bool (ng (-z))) (.slice a L c) 49) := StW.at2 w _ _ _ _ _ _
  by_cases hz : 0 < L
  · have d1 : decide ((0 : Int) < (L : Int)) = true := by simp; omega
    have hnz := h0.1 hz
    have e1 : (!ng z) = ng (-z) := by
      unfold ng
      rw [← decide_not, decide_eq_decide]
      omega
    generalize ng (-z) = nb at *
    generalize ng z = na at *
    go_enter Tryd.func63, Tryd.ntmps63
    go_wp2_with fail
    exact bodyPost_ret (ret_l2 Tryd.results63 _ _ rfl HS.out) rfl ⟨rfl, HA.out⟩
  · have d1 : decide ((0 : Int) < (L : Int)) = false := by simp; omega
    have hzz : z = 0 := by
      rcases Int.lt_trichotomy z 0 with h | h | h
      · exact absurd (h0.2 (by omega)) hz
      · exact h
      · exact absurd (h0.2 (by omega)) hz
    have e1 : ng (-z) = false := by subst hzz; rfl
    rw [e1] at HS HA ⊢
    generalize ng z = na at *
    go_enter Tryd.func63, Tryd.ntmps63
    go_wp2_with fail
    exact bodyPost_ret (ret_l2 Tryd.results63 _ _ rfl HS.out) rfl ⟨rfl, HA.out⟩
theorem isP_odd (n : Nat) (h : isP n = true) (h3 : 3 ≤ n) : n % 2 = 1 := by
  rcases Nat.mod_two_eq_zero_or_one n with h2 | h2
  · exfalso
    unfold isP at h
    rw [if_neg (by omega)] at h
    unfold smallP fnd at h
    rw [if_pos h2] at h
    simp at h
    omega
  · exact h2
/-- what is taken centred, and what is taken so of the opposite -/
theorem cen_opp (t : Int) (E xx : Nat) (hE : E % 2 = 1) (h3 : 3 ≤ E) (hx : (xx : Int) = (-t) % (E : Int)) : cenM t E = -cenB xx E := by
  have h0 : 0 ≤ t % (E : Int) ∧ t % (E : Int) < (E : Int) := ⟨Int.emod_nonneg _ (by omega), Int.emod_lt_of_pos _ (by omega)⟩
  have h1 : (-t) % (E : Int) = ((E : Int) - t % (E : Int)) % (E : Int) := by
    refine (Int.emod_eq_emod_iff_emod_sub_eq_zero).2 (Int.emod_eq_zero_of_dvd ?_)
    have d1 : (E : Int) ∣ t - t % (E : Int) := Int.dvd_self_sub_of_emod_eq rfl
    have e : -t - ((E : Int) - t % (E : Int)) = -((t - t % (E : Int)) + (E : Int)) := by omega
    rw [e]
    exact Int.dvd_neg.2 (Int.dvd_add d1 (Int.dvd_refl _))
  rw [h1] at hx
  unfold cenM cenB
  generalize t % (E : Int) = r at *
  by_cases hr : r = 0
  · subst hr
    rw [Int.sub_zero, Int.emod_self] at hx
    obtain rfl : xx = 0 := by omega
    rw [if_neg (by omega), if_neg (by omega)]
    rfl
  · rw [Int.emod_eq_of_lt (by omega) (by omega)] at hx
    by_cases hc : (E : Int) / 2 < r
    · rw [if_pos hc, if_neg (by omega)]
      omega
    · rw [if_neg hc, if_pos (by omega)]
      omega
end Go.Proofs.YtejkejfhahmhcaaDoor
