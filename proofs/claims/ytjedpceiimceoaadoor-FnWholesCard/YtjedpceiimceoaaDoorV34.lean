/- Proved: several texts in one: what each proves is said ahead of it. -/
import Derived.Test.YtjedpceiimceoaaDoorV13
import Derived.Test.YtjedpceiimceoaaDoorV12
import Derived.Test.YtjedpceiimceoaaDoorV03
import Derived.Deep.RegionWith
import Derived.Deep.RegionHeld3
import Derived.Deep.DeepCutAuto
import Derived.Test.YtjedpceiimceoaaDoorV02
import Derived.Test.YtjedpceiimceoaaDoorV32
import Derived.Test.YtjedpceiimceoaaDoorDrx
import Derived.Test.YtjedpceiimceoaaDoorV33
import Derived.Test.YtjedpceiimceoaaDoorV26
/- Proved: the statement on DivWholes at any two whole numbers. -/
namespace Go.Proofs.YtjedpceiimceoaaDoor
open Go.ChangeShapes Go.WideShapes Go.ChangeAt Go.RowKit
open M2
set_option linter.unusedVariables false
set_option linter.unusedSimpArgs false
theorem impl_div (n m : Bool) (xs ys : List Int) (v u : Value) (w : World) (hv : Row w v xs) (hu : Row w u ys) (la : xs.length ≤ 1048576) (lb : ys.length ≤ 1048576) (R : Bool × List Nat × List Nat × Bool) (hR : divW n m xs ys = R) :
    Calls Tryd.prog 6 #[.agg #[.bool n, v], .agg #[.bool m, u]] w fun e w' => ∃ v1 v2, e = .returned (.tuple #[.agg #[.bool R.1, v1], .agg #[.bool false, v2], .bool R.2.2.2]) ∧ Old w w' ∧ Own w' w.heap.size v1 (toI R.2.1) ∧ Own w' w.heap.size v2 (toI R.2.2.1) ∧ ∀ b, v1.ownBlock = some b → v2.ownBlock = some b → False := by
  unfold divW at hR
  by_cases hd : Dv n m xs ys
  · rw [if_pos hd] at hR
    subst hR
    obtain ⟨⟨hga, hgb⟩, rfl, hy0⟩ := hd
    exact impl_div_good n xs ys v u w hv hu hga hgb (by omega)
  · rw [if_neg hd] at hR
    subst hR
    exact impl_div_bad n m xs ys v u w hv hu la lb hd
theorem len_div (n m : Bool) (xs ys : List Int) : (divW n m xs ys).2.1.length ≤ 40 ∧ (divW n m xs ys).2.2.1.length ≤ 40 := by
  unfold divW
  split
  · rename_i hd
    obtain ⟨⟨hga, hgb⟩, rfl, hy0⟩ := hd
    obtain ⟨ex, gx, lx⟩ := good_gw hga
    obtain ⟨ey, gy, ly⟩ := good_gw hgb
    have hne : nat ys ≠ [] := fun h => by rw [← nat_len, h] at hy0; simp at hy0
    have hD := nrm_pos gy.1 hne
    refine ⟨dg_div_len gx.1 lx hD, ?_⟩
    have hr0 := Int.emod_nonneg (sv n (nat xs)) (show (val (nat ys) : Int) ≠ 0 by omega)
    have hr1 := Int.emod_lt_of_pos (sv n (nat xs)) (show (0 : Int) < (val (nat ys) : Int) by omega)
    have h1 : cnt (sv n (nat xs) % (val (nat ys) : Int)).natAbs ≤ cnt (val (nat ys)) := cnt_mono (by omega)
    have h2 := cnt_nrm gy.1
    have h3 : (dg (sv n (nat xs) % (val (nat ys) : Int))).length = cnt (sv n (nat xs) % (val (nat ys) : Int)).natAbs := rfl
    show (dg (sv n (nat xs) % (val (nat ys) : Int))).length ≤ 40
    omega
  · simp
end Go.Proofs.YtjedpceiimceoaaDoor
/- Proved: a quotient times its divisor and what is left are the number again; the draw of one whole number. -/
namespace Go.Proofs.YtjedpceiimceoaaDoor
open Go.ChangeShapes Go.WideShapes Go.ChangeAt Go.RowKit
open M2
set_option linter.unusedVariables false
set_option linter.unusedSimpArgs false
theorem told_yesT {z : Int} {r1 : Bool} {r2 : List Nat} (h : told z = (r1, r2, true)) : r1 = ng z ∧ r2 = dg z ∧ (dg z).length ≤ 40 := by
  unfold told at h
  split at h
  · rename_i hl
    injection h with h1 h2
    injection h2 with h2 h3
    exact ⟨h1.symm, h2.symm, hl⟩
  · injection h with h1 h2
    injection h2 with h2 h3
    cases h3
theorem dg_mod_len {X : Int} {ys : List Nat} (hy : Nrm ys) (hl : ys.length ≤ 40) (h0 : 0 < val ys) : (dg (X % (val ys : Int))).length ≤ 40 := by
  have h1 := Int.emod_nonneg X (show (val ys : Int) ≠ 0 by omega)
  have h2 := Int.emod_lt_of_pos X (show (0 : Int) < (val ys : Int) by omega)
  have h3 : cnt (X % (val ys : Int)).natAbs ≤ cnt (val ys) := cnt_mono (by omega)
  rw [cnt_nrm hy] at h3
  exact Nat.le_trans h3 hl
theorem divided_ok (n m : Bool) (xs ys : List Int) (q1 : Bool) (q2 r2 : List Nat) (hd : divW n m xs ys = (q1, q2, r2, true)) :
    cmpW false m (toI r2) ys = -1 ∧ ∀ m1 m2, mulW q1 m (toI q2) ys = (m1, m2, true) → addW m1 false (toI m2) (toI r2) = (n, nat xs, true) ∧ toI (nat xs) = xs := by
  unfold divW at hd
  split at hd
  case isFalse => cases hd
  rename_i hv
  obtain ⟨⟨hgx, hgy⟩, rfl, hl⟩ := hv
  obtain ⟨ex, gx, lx⟩ := good_gw hgx
  obtain ⟨ey, gy, ly⟩ := good_gw hgy
  have hY : 0 < val (nat ys) := by
    rcases Nat.eq_zero_or_pos (val (nat ys)) with h0 | h0
    · exfalso
      have h1 := dig_val gy.1
      rw [h0] at h1
      have h2 : (nat ys).length = 0 := by rw [← h1]; rfl
      rw [nat_len] at h2
      omega
    · exact h0
  injection hd with e1 hd
  injection hd with e2 hd
  injection hd with e3 hd
  subst e1 e2 e3
  have lr := dg_mod_len (X := sv n (nat xs)) gy.1 ly hY
  have lq := dg_div_len (n := n) (D := val (nat ys)) gx.1 lx hY
  have r0 := Int.emod_nonneg (sv n (nat xs)) (show (val (nat ys) : Int) ≠ 0 by omega)
  have r1 := Int.emod_lt_of_pos (sv n (nat xs)) (show (0 : Int) < (val (nat ys) : Int) by omega)
  have hrg : Good false (toI (dg (sv n (nat xs) % (val (nat ys) : Int)))) := gw_good ⟨(gw_of _).1, fun h => by cases h⟩ lr
  have hrv : sv false (dg (sv n (nat xs) % (val (nat ys) : Int))) = sv n (nat xs) % (val (nat ys) : Int) := by
    have e : ng (sv n (nat xs) % (val (nat ys) : Int)) = false := by unfold ng; exact decide_eq_false (by omega)
    rw [← e]
    exact sv_of _
  refine ⟨?_, fun m1 m2 hm => ?_⟩
  · unfold cmpW
    rw [if_pos ⟨hrg, hgy⟩, nat_toI, hrv]
    show cmpI _ (val (nat ys) : Int) = -1
    unfold cmpI
    rw [if_pos r1]
  · have hgq := gw_good (gw_of (sv n (nat xs) / (val (nat ys) : Int))) lq
    unfold mulW at hm
    rw [if_pos ⟨hgq, hgy⟩, nat_toI, sv_of] at hm
    have es : sv false (nat ys) = (val (nat ys) : Int) := rfl
    rw [es] at hm
    obtain ⟨rfl, rfl, lm⟩ := told_yesT hm
    have hgm := gw_good (gw_of (sv n (nat xs) / (val (nat ys) : Int) * (val (nat ys) : Int))) lm
    refine ⟨?_, ex⟩
    unfold addW
    rw [if_pos ⟨hgm, hrg⟩, nat_toI, nat_toI, sv_of, hrv]
    have hsum : sv n (nat xs) / (val (nat ys) : Int) * (val (nat ys) : Int) + sv n (nat xs) % (val (nat ys) : Int) = sv n (nat xs) := by
      have := Int.emod_add_mul_ediv (sv n (nat xs)) (val (nat ys) : Int)
      rw [Int.mul_comm]
      omega
    rw [hsum]
    obtain ⟨o1, o2⟩ := of_sv gx
    unfold told
    rw [o1, o2, if_pos lx]
def OneW (w : World) (e : Ending) (w' : World) : Prop := ∃ n a ca xs, e = .returned (.agg #[.bool n, .slice a xs.length ca]) ∧ Old w w' ∧ RwB w.heap.size w'.heap.size w' (.slice a xs.length ca) xs ∧ xs.length ≤ 41
set_option maxRecDepth 100000 in
set_option maxHeartbeats 8000000 in
theorem drawOne_c (w : World) (code : Value) (len : Nat) (h : BysW w code len) (hl : len ≤ 9223372036854775807) :
    Calls Tryd.prog 36 #[code] w (OneW w) := by
  obtain ⟨ca0, ccap, hcode⟩ : ∃ ca ccap, code = .slice ca len ccap := by
    rcases h with ⟨a, cap, e, e2⟩ | ⟨b, o, cap, e, _⟩
    · exact ⟨a, cap, by rw [e, e2]⟩
    · exact ⟨_, cap, e⟩
  subst hcode
  have C0 := Cu.new (bysW_oldX h ((Old.refl w).alloc (.cells #[.bool false, .slice none 0 0] 25)))
  rw [show (w.alloc (.cells #[.bool false, .slice none 0 0] 25)).heap.size = w.heap.size + 1 by simp] at C0
  have HO0 : Hid (Old w ((w.alloc (.cells #[.bool false, .slice none 0 0] 25)).alloc (.cells #[.slice ca0 len ccap, .int .i64 0, .int .u64 0] 45))) := ((Old.refl w).alloc _).alloc _
  have P0 : Hid (Bk ((w.alloc (.cells #[.bool false, .slice none 0 0] 25)).alloc (.cells #[.slice ca0 len ccap, .int .i64 0, .int .u64 0] 45)) w.heap.size #[.bool false, .slice none 0 0] 25) := (Bk.new' w _ _ rfl).alloc _
  have c1 := whole_c C0 (by omega) hl
  have sz1 : ((w.alloc (.cells #[.bool false, .slice none 0 0] 25)).alloc (.cells #[.slice ca0 len ccap, .int .i64 0, .int .u64 0] 45)).heap.size = w.heap.size + 1 + 1 := by simp
  clear h C0
  go_enter Tryd.func36, Tryd.ntmps36
  go_wp2_with fail
  refine c1.mono ?_
  rintro e w1 ⟨n, a, ca, xs, rfl, hx, g1, C1, o1⟩
  have HX : Hid (xs.length ≤ 41) := hx
  have Q0 : Hid (Bk w1 w.heap.size #[.bool false, .slice none 0 0] 25) := P0.out.chg g1 (Or.inl (by omega))
  have HO1 : Hid (Old w w1) := HO0.out.chg g1 (by omega)
  have RA : Hid (RwB (w.heap.size + 1 + 1) w1.heap.size w1 (.slice a xs.length ca) xs) := (RwB.own o1).mono (by rw [sz1]; exact Nat.le_refl _) (Nat.le_refl _)
  have HO2 : Hid (Old w ((w1.setCell ⟨w.heap.size, 0, none⟩ (.bool n)).setCell ⟨w.heap.size, 1, none⟩ (.slice a xs.length ca))) := (HO1.out.own (p := ⟨w.heap.size, 0, none⟩) (Nat.le_refl _) _).own (p := ⟨w.heap.size, 1, none⟩) (Nat.le_refl _) _
  have Q2 : Hid (Bk ((w1.setCell ⟨w.heap.size, 0, none⟩ (.bool n)).setCell ⟨w.heap.size, 1, none⟩ (.slice a xs.length ca)) w.heap.size #[.bool n, .slice a xs.length ca] 25) := bk_put1W (bk_put0W Q0.out _) _
  have RB : Hid (RwB w.heap.size ((w1.setCell ⟨w.heap.size, 0, none⟩ (.bool n)).setCell ⟨w.heap.size, 1, none⟩ (.slice a xs.length ca)).heap.size ((w1.setCell ⟨w.heap.size, 0, none⟩ (.bool n)).setCell ⟨w.heap.size, 1, none⟩ (.slice a xs.length ca)) (.slice a xs.length ca) xs) := ((RA.out.set (p := ⟨w.heap.size, 0, none⟩) (Or.inl (by show w.heap.size < w.heap.size + 1 + 1; omega)) (.bool n)).set (p := ⟨w.heap.size, 1, none⟩) (Or.inl (by show w.heap.size < w.heap.size + 1 + 1; omega)) (.slice a xs.length ca)).mono (by omega) (by simp)
  have s0 := Q0.out.c (i := 0) rfl
  have s1 := Q0.out.c (i := 1) rfl
  have t0 := frozen_of_row _ _ 0 _ _ Q0.out
  have t1 := frozen_of_row _ _ 1 _ _ Q0.out
  have u0 := frozen_of_row _ _ 1 _ _ (bk_put0W Q0.out (.bool n))
  have u1 := (bk_put0W Q0.out (.bool n)).c (i := 1) rfl
  have q0 := Q2.out.c (i := 0) rfl
  have q1 := Q2.out.c (i := 1) rfl
  clear c1 g1 C1 o1 hx HO0 P0 sz1 RA Q0
  generalize hlx : xs.length = lx at *
  have HLX : Hid (xs.length = lx) := hlx
  clear hlx
  go_wp2_with fail
  refine bodyPost_ret (v := .agg #[.bool n, .slice a lx ca]) (by simp [results, Tryd.results36, go_sem, q0, q1]) rfl ?_
  exact ⟨n, a, ca, xs, by rw [HLX.out], HO2.out, by rw [HLX.out]; exact RB.out, by rw [HLX.out]; exact HX.out⟩
set_option maxRecDepth 100000 in
set_option maxHeartbeats 8000000 in
theorem drawText_c (w : World) (code : Value) (len : Nat) (h : BysW w code len) (hl : len ≤ 9223372036854775807) :
    Calls Tryd.prog 12 #[code] w (OneW w) := by
  obtain ⟨ca0, ccap, hcode⟩ : ∃ ca ccap, code = .slice ca len ccap := by
    rcases h with ⟨a, cap, e, e2⟩ | ⟨b, o, cap, e, _⟩
    · exact ⟨a, cap, by rw [e, e2]⟩
    · exact ⟨_, cap, e⟩
  subst hcode
  have HO0 : Hid (Old w (w.alloc (.cells #[.bool false, .slice none 0 0] 25))) := (Old.refl w).alloc _
  have P0 : Hid (Bk (w.alloc (.cells #[.bool false, .slice none 0 0] 25)) w.heap.size #[.bool false, .slice none 0 0] 25) := Bk.new' w _ _ rfl
  have c1 := drawOne_c _ _ len (bysW_oldX h HO0.out) hl
  have sz1 : (w.alloc (.cells #[.bool false, .slice none 0 0] 25)).heap.size = w.heap.size + 1 := by simp
  clear h
  go_enter Tryd.func12, Tryd.ntmps12
  go_wp2_with fail
  refine c1.mono ?_
  rintro e w1 ⟨n, a, ca, xs, rfl, g1, r1, hx⟩
  rw [sz1] at r1
  have HX : Hid (xs.length ≤ 41) := hx
  have Q0 : Hid (Bk w1 w.heap.size #[.bool false, .slice none 0 0] 25) := P0.out.old g1
  have HO1 : Hid (Old w w1) := Old.trans HO0.out g1
  have HO2 : Hid (Old w ((w1.setCell ⟨w.heap.size, 0, none⟩ (.bool n)).setCell ⟨w.heap.size, 1, none⟩ (.slice a xs.length ca))) := (HO1.out.own (p := ⟨w.heap.size, 0, none⟩) (Nat.le_refl _) _).own (p := ⟨w.heap.size, 1, none⟩) (Nat.le_refl _) _
  have Q2 : Hid (Bk ((w1.setCell ⟨w.heap.size, 0, none⟩ (.bool n)).setCell ⟨w.heap.size, 1, none⟩ (.slice a xs.length ca)) w.heap.size #[.bool n, .slice a xs.length ca] 25) := bk_put1W (bk_put0W Q0.out _) _
  have RB : Hid (RwB w.heap.size ((w1.setCell ⟨w.heap.size, 0, none⟩ (.bool n)).setCell ⟨w.heap.size, 1, none⟩ (.slice a xs.length ca)).heap.size ((w1.setCell ⟨w.heap.size, 0, none⟩ (.bool n)).setCell ⟨w.heap.size, 1, none⟩ (.slice a xs.length ca)) (.slice a xs.length ca) xs) := ((r1.set (p := ⟨w.heap.size, 0, none⟩) (Or.inl (by show w.heap.size < w.heap.size + 1; omega)) (.bool n)).set (p := ⟨w.heap.size, 1, none⟩) (Or.inl (by show w.heap.size < w.heap.size + 1; omega)) (.slice a xs.length ca)).mono (by omega) (by simp)
  have s0 := Q0.out.c (i := 0) rfl
  have s1 := Q0.out.c (i := 1) rfl
  have t0 := frozen_of_row _ _ 0 _ _ Q0.out
  have t1 := frozen_of_row _ _ 1 _ _ Q0.out
  have u0 := frozen_of_row _ _ 1 _ _ (bk_put0W Q0.out (.bool n))
  have u1 := (bk_put0W Q0.out (.bool n)).c (i := 1) rfl
  have q0 := Q2.out.c (i := 0) rfl
  have q1 := Q2.out.c (i := 1) rfl
  clear c1 g1 r1 hx HO0 P0 sz1 Q0
  generalize hlx : xs.length = lx at *
  have HLX : Hid (xs.length = lx) := hlx
  clear hlx
  go_wp2_with fail
  refine bodyPost_ret (v := .agg #[.bool n, .slice a lx ca]) (by simp [results, Tryd.results12, go_sem, q0, q1]) rfl ?_
  exact ⟨n, a, ca, xs, by rw [HLX.out], HO2.out, by rw [HLX.out]; exact RB.out, by rw [HLX.out]; exact HX.out⟩
end Go.Proofs.YtjedpceiimceoaaDoor
