/- Proved: several texts in one: what each proves is said ahead of it. -/
import Derived.Test.YtjjdklakonfnfaaGreatDoorDe06
import Derived.Test.YtjjdklakonfnfaaGreatDoorDe02
import Derived.Test.YtjjdklakonfnfaaGreatDoorDe00
import Derived.Deep.RegionHeld3
import Derived.Test.YtjjdklakonfnfaaGreatDoorDe08
/- Proved: what the model answers, as functions of the numbers: comparing, what is left by a word, the whole number of a word. -/
namespace Go.Proofs.YtjjdklakonfnfaaGreatDoor
open Go.ChangeShapes Go.WideShapes Go.ChangeAt Go.RowKit
open M2
set_option linter.unusedVariables false
set_option linter.unusedSimpArgs false
def modW (n : Bool) (xs : List Int) (k : Int) : Int := if Good n xs ∧ (2 ≤ k ∧ k ≤ 268435456) then sv n (nat xs) % k else 0
end Go.Proofs.YtjjdklakonfnfaaGreatDoor
/- Proved: the contract of the program's ModWord (and of its tests for a modulus and of the least residue). -/
namespace Go.Proofs.YtjjdklakonfnfaaGreatDoor
open Go.ChangeShapes Go.WideShapes Go.ChangeAt Go.RowKit
open M2
set_option linter.unusedVariables false
set_option linter.unusedSimpArgs false
def modBW (p : Int) : Bool := decide (2 ≤ p ∧ p ≤ 268435456)
theorem modB_yesW {p : Int} (h : modBW p = true) : 2 ≤ p ∧ p ≤ 268435456 := by simpa [modBW] using h
theorem modB_noW {p : Int} (h : modBW p = false) : p < 2 ∨ (2 ≤ p ∧ 268435456 < p) := by simp [modBW] at h; omega
theorem impl_isModulusW (p : Int) (w : World) :
    Calls Tryz.prog 73 #[.int .i64 p] w fun e w' => e = .returned (.bool (modBW p)) ∧ w' = w := by
  cases h : modBW p
  · rcases modB_noW h with h1 | ⟨h1, h2⟩
    all_goals
      clear h
      try (have d : decide (p ≤ 268435456) = false := by simp; omega)
      go_enter Tryz.func73, Tryz.ntmps73
      go_wp2
      go_ret
      exact ⟨rfl, rfl⟩
  · obtain ⟨h1, h2⟩ := modB_yesW h
    clear h
    go_enter Tryz.func73, Tryz.ntmps73
    go_wp2
    go_ret
    exact ⟨rfl, rfl⟩
theorem tmod_negI (a p : Int) (h0 : a < 0) (hp : 1 ≤ p) : -p < a.tmod p ∧ a.tmod p ≤ 0 ∧ (a.tmod p < 0 → a.tmod p + p = a % p) ∧ (0 ≤ a.tmod p → a.tmod p = a % p) := by
  have e : Int.tmod a p = - ((-a) % p) := by
    rw [← Int.tmod_eq_emod_of_nonneg (by omega), Int.neg_tmod, Int.neg_neg]
  have r0 := Int.emod_nonneg (-a) (show p ≠ 0 by omega)
  have r1 := Int.emod_lt_of_pos (-a) (b := p) (by omega)
  have k : (-a) % p = if p ∣ a then 0 else p - a % p := by
    rw [Int.neg_emod]
    have : (p.natAbs : Int) = p := by omega
    rw [this]
  by_cases hd : p ∣ a
  · rw [if_pos hd] at k
    omega
  · rw [if_neg hd] at k
    have s1 := Int.emod_lt_of_pos a (b := p) (by omega)
    omega
theorem impl_residueOfW (a p : Int) (w : World) (ha : -9223372036854775808 ≤ a ∧ a ≤ 9223372036854775807) (hp : 1 ≤ p ∧ p ≤ 4294967296) :
    Calls Tryz.prog 74 #[.int .i64 a, .int .i64 p] w fun e w' => e = .returned (.int .i64 (a % p)) ∧ w' = w := by
  obtain ⟨h1, h2⟩ := hp
  obtain ⟨h3, h4⟩ := ha
  by_cases h0 : 0 ≤ a
  · have r0 := Int.emod_nonneg a (show p ≠ 0 by omega)
    go_enter Tryz.func74, Tryz.ntmps74
    go_wp2
    go_ret
    exact ⟨rfl, rfl⟩
  · obtain ⟨t1, t2, t3, t4⟩ := tmod_negI a p (by omega) h1
    have T3 := hidP t3
    have T4 := hidP t4
    clear t3 t4
    by_cases hs : a.tmod p < 0
    · go_enter Tryz.func74, Tryz.ntmps74
      go_wp2
      go_ret
      exact ⟨by rw [← T3.out hs]; rfl, rfl⟩
    · go_enter Tryz.func74, Tryz.ntmps74
      go_wp2
      go_ret
      exact ⟨by rw [← T4.out (by omega)]; rfl, rfl⟩

theorem mod_negs (a d : Nat) (hd : 0 < d) : (-((a % d : Nat) : Int)) % (d : Int) = (-(a : Int)) % (d : Int) := by
  have h : (-(a : Int)) = -((a % d : Nat) : Int) + (d : Int) * (-((a / d : Nat) : Int)) := by
    have h1 := Nat.div_add_mod a d
    rw [Int.mul_neg]
    omega
  rw [h, Int.add_mul_emod_self_left]
set_option maxHeartbeats 8000000 in
theorem impl_mod (n : Bool) (xs : List Int) (k : Int) (v : Value) (w : World) (hv : Row w v xs) (la : xs.length ≤ 1048576) :
    Calls Tryz.prog 59 #[.agg #[.bool n, v], .int .i64 k] w fun e w' => e = .returned (.int .i64 (modW n xs k)) ∧ Old w w' := by
  have HV := hidP hv
  obtain ⟨a0, cap0, rfl⟩ := hv.slice
  clear hv
  have HA : Hid (Old w (w.alloc (.cells #[.bool n, .slice a0 xs.length cap0] 42))) := (Old.refl w).alloc _
  have SA0 : Hid (StW (w.alloc (.cells #[.bool n, .slice a0 xs.length cap0] 42)) w.heap.size (.bool n) (.slice a0 xs.length cap0) 42) := StW.new w _ _ _
  by_cases hga : Good n xs
  · have cga := fun W (h : Row W (.slice a0 xs.length cap0) xs) => good_impl n xs _ W h la
    rw [decide_eq_true hga] at cga
    cases hm : modBW k with
    | true =>
      obtain ⟨hk1, hk2⟩ := modB_yesW hm
      have cm := fun W => impl_isModulusW k W
      rw [hm] at cm
      obtain ⟨d, rfl⟩ : ∃ d : Nat, k = (d : Int) := ⟨k.toNat, by omega⟩
      have hR : modW n xs (d : Int) = sv n (nat xs) % (d : Int) := by unfold modW; rw [if_pos ⟨hga, hk1, hk2⟩]
      rw [hR]
      obtain ⟨ex, gx, lx⟩ := good_gw hga
      have HV2 : Hid (Row w (.slice a0 xs.length cap0) (toI (nat xs))) := by rw [ex]; exact HV.out
      have HGX : Hid (Gw n (nat xs) ∧ (nat xs).length ≤ 40) := ⟨gx, lx⟩
      have HC : Hid (cnt (val (nat xs)) ≤ 80) := by show cnt (val (nat xs)) ≤ 80; rw [cnt_nrm gx.1]; omega
      have HPQ : Hid ((pad (val (nat xs) / d)).length = 80) := pad_len' (Nat.le_trans (cnt_mono (Nat.div_le_self _ _)) HC.out) (by omega)
      have hd0 : 0 < d := by omega
      clear hga ex gx lx hR hm hk1
      have hrl : val (nat xs) % d < d := Nat.mod_lt _ hd0
      cases n with
      | true =>
        have HE : Hid ((-((val (nat xs) % d : Nat) : Int)) % (d : Int) = sv true (nat xs) % (d : Int)) := mod_negs _ d hd0
        go_enter Tryz.func59, Tryz.ntmps59
        go_wp2_with fail
        refine (cga _ (HV.out.old HA.out)).mono ?_
        rintro e w1 ⟨rfl, g1⟩
        have HG1 := hidP (Old.trans HA.out g1)
        have S1 := hidP (SA0.out.old g1)
        have s0 := S1.out.c0
        have s1 := S1.out.c1
        clear g1
        go_wp2_with (go_at_call 73; refine (cm _).mono ?_; rintro e w' ⟨rfl, rfl⟩)
        refine (sizeOf_sz true (nat xs) _ _ (HV2.out.old HG1.out) HGX.out.1.1 (by have := HGX.out.2; omega)).mono ?_
        rintro e w2 ⟨rfl, g2⟩
        have S2 := hidP (S1.out.old g2)
        have HG2 := hidP (Old.trans HG1.out g2)
        clear g2 s0 s1 S1 HG1
        go_wp2_with fail
        refine (word_sz (val (nat xs)) d _ HC.out hd0 (by omega)).mono ?_
        rintro e w3 ⟨rfl, g3⟩
        have S3 := hidP (S2.out.old g3)
        have HG3 := hidP (Old.trans HG2.out g3)
        clear g3 S2 HG2
        have HZ4 := hidP (Sz.zero w3 _ rfl)
        have HB4 := hidP S3.out.lt
        have S5 : Hid (StW ((w3.alloc (.cells Tryz.zeroCells49 49)).setRow w3.heap.size (szA (pad (val (nat xs) / d)) (cnt (val (nat xs) / d)))) w.heap.size (.bool true) (.slice a0 xs.length cap0) 42) := by
          have h1 := S3.out.old ((Old.refl w3).alloc (.cells Tryz.zeroCells49 49))
          show ((w3.alloc (.cells Tryz.zeroCells49 49)).setRow w3.heap.size (szA (pad (val (nat xs) / d)) (cnt (val (nat xs) / d)))).heap[w.heap.size]? = _
          rw [setRow_other _ _ _ _ (by have := HB4.out; omega)]
          exact h1
        have HG5 : Hid (Old w ((w3.alloc (.cells Tryz.zeroCells49 49)).setRow w3.heap.size (szA (pad (val (nat xs) / d)) (cnt (val (nat xs) / d))))) := (HG3.out.alloc _).row (by have := HB4.out; omega) _
        have s0 := S5.out.c0
        generalize val (nat xs) % d = r at *
        have cr := fun W => impl_residueOfW (-(r : Int)) (d : Int) W (by omega) (by omega)
        go_wp2_with (first | ((with_reducible refine store_sz HZ4.out (pad (val (nat xs) / d)) (cnt (val (nat xs) / d)) HPQ.out ?_ ?_ ?_); exact rfl; exact rfl; simp only [Act.put]) | (go_at_call 74; refine (cr _).mono ?_; rintro e w' ⟨rfl, rfl⟩))
        go_ret
        exact ⟨congrArg (fun z => Ending.returned (.int .i64 z)) HE.out, HG5.out⟩
      | false =>
        have HE : Hid (((val (nat xs) % d : Nat) : Int) = sv false (nat xs) % (d : Int)) := by
          show ((val (nat xs) % d : Nat) : Int) = sv false (nat xs) % (d : Int)
          simp [sv]
        go_enter Tryz.func59, Tryz.ntmps59
        go_wp2_with fail
        refine (cga _ (HV.out.old HA.out)).mono ?_
        rintro e w1 ⟨rfl, g1⟩
        have HG1 := hidP (Old.trans HA.out g1)
        have S1 := hidP (SA0.out.old g1)
        have s0 := S1.out.c0
        have s1 := S1.out.c1
        clear g1
        go_wp2_with (go_at_call 73; refine (cm _).mono ?_; rintro e w' ⟨rfl, rfl⟩)
        refine (sizeOf_sz false (nat xs) _ _ (HV2.out.old HG1.out) HGX.out.1.1 (by have := HGX.out.2; omega)).mono ?_
        rintro e w2 ⟨rfl, g2⟩
        have S2 := hidP (S1.out.old g2)
        have HG2 := hidP (Old.trans HG1.out g2)
        clear g2 s0 s1 S1 HG1
        go_wp2_with fail
        refine (word_sz (val (nat xs)) d _ HC.out hd0 (by omega)).mono ?_
        rintro e w3 ⟨rfl, g3⟩
        have S3 := hidP (S2.out.old g3)
        have HG3 := hidP (Old.trans HG2.out g3)
        clear g3 S2 HG2
        have HZ4 := hidP (Sz.zero w3 _ rfl)
        have HB4 := hidP S3.out.lt
        have S5 : Hid (StW ((w3.alloc (.cells Tryz.zeroCells49 49)).setRow w3.heap.size (szA (pad (val (nat xs) / d)) (cnt (val (nat xs) / d)))) w.heap.size (.bool false) (.slice a0 xs.length cap0) 42) := by
          have h1 := S3.out.old ((Old.refl w3).alloc (.cells Tryz.zeroCells49 49))
          show ((w3.alloc (.cells Tryz.zeroCells49 49)).setRow w3.heap.size (szA (pad (val (nat xs) / d)) (cnt (val (nat xs) / d)))).heap[w.heap.size]? = _
          rw [setRow_other _ _ _ _ (by have := HB4.out; omega)]
          exact h1
        have HG5 : Hid (Old w ((w3.alloc (.cells Tryz.zeroCells49 49)).setRow w3.heap.size (szA (pad (val (nat xs) / d)) (cnt (val (nat xs) / d))))) := (HG3.out.alloc _).row (by have := HB4.out; omega) _
        have s0 := S5.out.c0
        go_wp2_with ((with_reducible refine store_sz HZ4.out (pad (val (nat xs) / d)) (cnt (val (nat xs) / d)) HPQ.out ?_ ?_ ?_); exact rfl; exact rfl; simp only [Act.put])
        go_ret
        exact ⟨congrArg (fun z => Ending.returned (.int .i64 z)) HE.out, HG5.out⟩
    | false =>
      have cm := fun W => impl_isModulusW k W
      rw [hm] at cm
      have hR : modW n xs k = 0 := by
        unfold modW
        rw [if_neg (fun h => by have h2 : modBW k = true := decide_eq_true h.2; rw [hm] at h2; cases h2)]
      rw [hR]
      clear hga hR hm
      go_enter Tryz.func59, Tryz.ntmps59
      go_wp2_with fail
      refine (cga _ (HV.out.old HA.out)).mono ?_
      rintro e w1 ⟨rfl, g1⟩
      have HG1 := hidP (Old.trans HA.out g1)
      clear g1
      go_wp2_with (go_at_call 73; refine (cm _).mono ?_; rintro e w' ⟨rfl, rfl⟩)
      go_ret
      exact ⟨rfl, HG1.out⟩
  · have cga := fun W (h : Row W (.slice a0 xs.length cap0) xs) => good_impl n xs _ W h la
    rw [decide_eq_false hga] at cga
    have hR : modW n xs k = 0 := by unfold modW; rw [if_neg (fun h => hga h.1)]
    rw [hR]
    clear hga hR
    go_enter Tryz.func59, Tryz.ntmps59
    go_wp2_with fail
    refine (cga _ (HV.out.old HA.out)).mono ?_
    rintro e w1 ⟨rfl, g1⟩
    have HG1 := hidP (Old.trans HA.out g1)
    clear g1
    go_wp2_with fail
    go_ret
    exact ⟨rfl, HG1.out⟩
end Go.Proofs.YtjjdklakonfnfaaGreatDoor
