/- Proved: the contract of the model's l4Inverse. -/
import Derived.Test.YtplaaglckbfklaaDoorInvAt
namespace Go.Proofs.YtplaaglckbfklaaDoor
open Go.ChangeShapes Go.WideShapes Go.ChangeAt Go.RowKit
open M1
set_option linter.unusedVariables false
set_option linter.unusedSimpArgs false
/-- of the first k all but the one at place i -/
def othK (ps : List Nat) (i k : Nat) : List Nat := (ps.take k).take i ++ (ps.take k).drop (i + 1)
theorem othK_zero (ps : List Nat) (i : Nat) : othK ps i 0 = [] := by simp [othK]
theorem othK_all (ps : List Nat) (i k : Nat) (h : ps.length ≤ k) : othK ps i k = oth ps i := by unfold othK oth; rw [List.take_of_length_le h]
theorem othK_same (ps : List Nat) (i : Nat) (h : i < ps.length) : othK ps i (i + 1) = othK ps i i := by
  unfold othK
  rw [List.take_take, List.take_take, List.drop_eq_nil_of_le (by simp; omega), List.drop_eq_nil_of_le (by simp; omega)]
  congr 2
  omega
theorem othK_step (ps : List Nat) (i k : Nat) (h : k < ps.length) (hk : k ≠ i) : othK ps i (k + 1) = othK ps i k ++ [ps.getD k 0] := by
  unfold othK
  have hl : (ps.take k).length = k := by rw [List.length_take]; omega
  have e : ps.take (k + 1) = ps.take k ++ [ps.getD k 0] := by
    rw [List.take_add_one]
    congr 1
    simp [List.getD, h]
  rw [e]
  generalize ps.take k = l at *
  rw [List.take_append, List.drop_append, hl]
  rcases Nat.lt_or_gt_of_ne hk with h1 | h1
  · obtain ⟨d, hd⟩ : ∃ d, i - k = d + 1 := ⟨i - k - 1, by omega⟩
    have e2 : i + 1 - k = d + 2 := by omega
    have e3 : l.drop (i + 1) = [] := List.drop_eq_nil_of_le (by omega)
    rw [hd, e2, e3]
    simp
  · rw [show i - k = 0 by omega, show i + 1 - k = 0 by omega, List.take_zero, List.drop_zero, List.append_nil, List.append_assoc]
theorem pmN_mod (m : Nat) (qs : List Nat) (p : Nat) : pmN m (qs ++ [p]) = pmN m qs * (p % m) % m := by
  rw [pmN_snoc, Nat.mul_mod, Nat.mul_mod (pmN m qs) (p % m), Nat.mod_mod]
set_option maxRecDepth 100000 in
set_option maxHeartbeats 4000000 in
theorem spec_inverse (ps : List Nat) (v : Value) (i : Nat) (w : World) (hv : Row w v (toZ ps)) (hi : i < ps.length) (hl : ps.length ≤ 50) (hlo : ∀ p ∈ ps, 2 ≤ p) (hhi : ∀ p ∈ ps, p ≤ 268435456) :
    Calls Tryd.prog 130 #[v, .int .i64 i] w fun e w' => e = .returned (.int .i64 ((ivN ps i : Nat) : Int)) ∧ Old w w' := by
  have hm : ps.getD i 0 ∈ ps := by simp [List.getD, hi]
  have m1 := hlo _ hm
  have m2 := hhi _ hm
  have hlt := pmN_lt (ps.getD i 0) (oth ps i) m1
  have ci := fun W => spec_inv ((pmN (ps.getD i 0) (oth ps i) : Nat) : Int) ((ps.getD i 0 : Nat) : Int) W (by omega) (by omega)
  have ei : ((((pmN (ps.getD i 0) (oth ps i) : Nat) : Int) % ((ps.getD i 0 : Nat) : Int)).toNat) = pmN (ps.getD i 0) (oth ps i) := by
    rw [← Int.natCast_emod, Nat.mod_eq_of_lt hlt, Int.toNat_natCast]
  rw [ei, Int.toNat_natCast] at ci
  have HIV : Hid (invM (pmN (ps.getD i 0) (oth ps i)) (ps.getD i 0) = ivN ps i) := rfl
  rw [HIV.out] at ci
  obtain ⟨b, o, cap, rfl, hb, hc⟩ := hv.atZ (by omega)
  have HC : Hid (∀ j, j < ps.length → w.cell? ⟨b, o + j, none⟩ = some (.int .i64 ((ps.getD j 0 : Nat) : Int))) := hc
  have HH : Hid (∀ k, k < ps.length → ps.getD k 0 ≤ 268435456) := fun k hk => hhi _ (by simp [List.getD, hk])
  have HS : Hid (∀ k, k < ps.length → k ≠ i → pmN (ps.getD i 0) (othK ps i (k + 1)) = pmN (ps.getD i 0) (othK ps i k) * (ps.getD k 0 % ps.getD i 0) % ps.getD i 0) := fun k h1 h2 => by rw [othK_step ps i k h1 h2, pmN_mod]
  have HS2 : Hid (pmN (ps.getD i 0) (othK ps i (i + 1)) = pmN (ps.getD i 0) (othK ps i i)) := by show _ = _; rw [othK_same ps i hi]
  have HS3 : Hid (pmN (ps.getD i 0) (othK ps i ps.length) = pmN (ps.getD i 0) (oth ps i)) := by show _ = _; rw [othK_all ps i _ (Nat.le_refl _)]
  have HS0 : Hid (pmN (ps.getD i 0) (othK ps i 0) = 1) := by show _ = _; rw [othK_zero]; rfl
  have HMI : Hid (w.cell? ⟨b, o + i, none⟩ = some (.int .i64 ((ps.getD i 0 : Nat) : Int))) := hc i hi
  have cmi := hc i hi
  clear hv hc hm hlo hhi ei HIV hlt
  generalize ivN ps i = z at *
  generalize pmN (ps.getD i 0) (oth ps i) = q at *
  generalize ps.getD i 0 = m at *
  have i1 : (i : Int) < (ps.length : Int) := by omega
  have e1 : (1 : Int) % (m : Int) = 1 := Int.emod_eq_of_lt (by omega) (by omega)
  have hm0 : ¬ m = 0 := by omega
  go_enter Tryd.func130, Tryd.ntmps130
  go_wp2_with fail
  clear cmi
  go_loopw [5, 15] (fun x j W => ∃ k y : Nat, k ≤ ps.length ∧ j = .int .i64 k ∧ x = .int .i64 y ∧ y < m ∧ Hid (pmN m (othK ps i k) = y) ∧ Hid (Old w W)) (fun _ j _ => ps.length - (intOf j).toNat)
  case atStart => exact ⟨0, 1, by omega, rfl, by rw [e1]; rfl, by omega, HS0, Old.refl _⟩
  case round =>
    obtain ⟨k, y, hk, rfl, rfl, hy, HY, HG⟩ := hrel
    have cm : wr.cell? ⟨b, o + i, none⟩ = some (.int .i64 (m : Int)) := (HG.out.cell (p := ⟨b, o + i, none⟩) hb).trans HMI.out
    by_cases hlt : k < ps.length
    · have d1 : decide ((k : Int) < (ps.length : Int)) = true := by simp; omega
      have c1 : wr.cell? ⟨b, o + k, none⟩ = some (.int .i64 ((ps.getD k 0 : Nat) : Int)) := (HG.out.cell (p := ⟨b, o + k, none⟩) hb).trans (HC.out k hlt)
      have hpb := HH.out k hlt
      by_cases hki : k = i
      · subst hki
        have HE : Hid (pmN m (othK ps k (k + 1)) = y) := by show _ = _; rw [HS2.out]; exact HY.out
        have dn : ((k : Int) != (k : Int)) = false := by simp
        clear HY
        generalize ps.getD k 0 = p at *
        go_wp2_with fail
        exact ⟨⟨k + 1, y, by omega, by go_num, rfl, hy, HE, HG⟩, by simp [intOf]; omega⟩
      · have HE : Hid (pmN m (othK ps i (k + 1)) = y * (ps.getD k 0 % m) % m) := by show _ = _; rw [HS.out k hlt hki, HY.out]
        have dn : ((k : Int) != (i : Int)) = true := by simp; omega
        clear HY
        generalize ps.getD k 0 = p at *
        obtain ⟨r, hr⟩ : ∃ r, p % m = r := ⟨_, rfl⟩
        have hrm : r < m := by rw [← hr]; exact Nat.mod_lt _ (by omega)
        have t1 : Int.tmod (p : Int) (m : Int) = (r : Int) := by rw [Int.tmod_eq_emod_of_nonneg (by omega), ← hr]; rfl
        rw [hr] at HE
        obtain ⟨x2, hx2⟩ : ∃ x2, y * r = x2 := ⟨_, rfl⟩
        have hb2 : x2 ≤ 72057594037927936 := by rw [← hx2]; exact Nat.le_trans (Nat.mul_le_mul (show y ≤ 268435456 by omega) (show r ≤ 268435456 by omega)) (by decide)
        have t2 : IntKind.i64.wrap ((y : Int) * (r : Int)) = (x2 : Int) := by rw [← Int.natCast_mul, hx2, IntKind.wrap_i64]; omega
        rw [hx2] at HE
        obtain ⟨x3, hx3⟩ : ∃ x3, x2 % m = x3 := ⟨_, rfl⟩
        have h3 : x3 < m := by rw [← hx3]; exact Nat.mod_lt _ (by omega)
        have t3 : Int.tmod (x2 : Int) (m : Int) = (x3 : Int) := by rw [Int.tmod_eq_emod_of_nonneg (by omega), ← hx3]; rfl
        rw [hx3] at HE
        clear hr hx2 hx3
        go_wp2_with fail
        go_quiet (fail)
        go_wp2_with fail
        exact ⟨⟨k + 1, x3, by omega, by go_num, rfl, h3, HE, HG.out.drewN _⟩, by simp [intOf]; omega⟩
    · have d1 : decide ((k : Int) < (ps.length : Int)) = false := by simp; omega
      obtain rfl : k = ps.length := by omega
      obtain rfl : y = q := by rw [← HY.out, HS3.out]
      go_wp2_with (go_at_call 166; refine (ci _).mono ?_; rintro e w5 ⟨rfl, hw5⟩; have HG5 : Hid (Old w w5) := (by rw [hw5]; exact HG.out); clear hw5)
      go_ret
      exact ⟨rfl, HG5.out⟩
end Go.Proofs.YtplaaglckbfklaaDoor
