/- Proved: several texts in one: what each proves is said ahead of it. -/
import Derived.Test.YtihjndakgncdaaaGreatDoorFd06
import Derived.Test.YtihjndakgncdaaaGreatDoorFd05
import Derived.Deep.RegionHeld3
import Derived.Test.YtihjndakgncdaaaGreatDoorFd00
import Derived.Test.YtihjndakgncdaaaGreatDoorFd09
/- Proved: what the model answers, as functions of the numbers: comparing, what is left by a word, the whole number of a word. -/
namespace Go.Proofs.YtihjndakgncdaaaGreatDoor
open Go.ChangeShapes Go.WideShapes Go.ChangeAt Go.RowKit
open M2
set_option linter.unusedVariables false
set_option linter.unusedSimpArgs false
def cmpW (n m : Bool) (xs ys : List Int) : Int := if Good n xs ∧ Good m ys then cmpI (sv n (nat xs)) (sv m (nat ys)) else 0
def modW (n : Bool) (xs : List Int) (k : Int) : Int := if Good n xs ∧ (2 ≤ k ∧ k ≤ 268435456) then sv n (nat xs) % k else 0
end Go.Proofs.YtihjndakgncdaaaGreatDoor
/- Proved: the contract of the program's ModWord (and of its tests for a modulus and of the least residue). -/
namespace Go.Proofs.YtihjndakgncdaaaGreatDoor
open Go.ChangeShapes Go.WideShapes Go.ChangeAt Go.RowKit
open M2
set_option linter.unusedVariables false
set_option linter.unusedSimpArgs false
def modBW (p : Int) : Bool := decide (2 ≤ p ∧ p ≤ 268435456)
theorem modB_yesW {p : Int} (h : modBW p = true) : 2 ≤ p ∧ p ≤ 268435456 := by simpa [modBW] using h
theorem modB_noW {p : Int} (h : modBW p = false) : p < 2 ∨ (2 ≤ p ∧ 268435456 < p) := by simp [modBW] at h; omega
theorem impl_isModulusW (p : Int) (w : World) :
    Calls Tryz.prog 86 #[.int .i64 p] w fun e w' => e = .returned (.bool (modBW p)) ∧ w' = w := by
  cases h : modBW p
  · rcases modB_noW h with h1 | ⟨h1, h2⟩
    all_goals
      clear h
      try (have d : decide (p ≤ 268435456) = false := by simp; omega)
      go_enter Tryz.func86, Tryz.ntmps86
      go_wp2
      go_ret
      exact ⟨rfl, rfl⟩
  · obtain ⟨h1, h2⟩ := modB_yesW h
    clear h
    go_enter Tryz.func86, Tryz.ntmps86
    go_wp2
    go_ret
    exact ⟨rfl, rfl⟩
theorem tmod_negI (a p : Int) (h0 : a < 0) (hp : 1 ≤ p) : -p < a.tmod p ∧ a.tmod p ≤ 0 ∧ (a.tmod p < 0 → a.tmod p + p = a % p) ∧ (0 ≤ a.tmod p → a.tmod p = a % p) := by
  have e : Int.tmod a p = - ((-a) % p) := by
    rw [← Int.tmod_eq_emod_of_nonneg (by omega), Int.neg_tmod, Int.neg_neg]
  have r0 := Int.emod_nonneg (-a) (show p ≠ 0 by omega)
  have r1 := Int.emod_lt_of_pos (-a) (b := p) (by omega)
  have k : (-a) % p = if p ∣ a then 0 else p - a % p := by
    rw [Int.neg_emod]
    have : (p.natAbs : Int) = p := by omega
    rw [this]
  by_cases hd : p ∣ a
  · rw [if_pos hd] at k
    omega
  · rw [if_neg hd] at k
    have s1 := Int.emod_lt_of_pos a (b := p) (by omega)
    omega
theorem impl_residueOfW (a p : Int) (w : World) (ha : -9223372036854775808 ≤ a ∧ a ≤ 9223372036854775807) (hp : 1 ≤ p ∧ p ≤ 4294967296) :
    Calls Tryz.prog 87 #[.int .i64 a, .int .i64 p] w fun e w' => e = .returned (.int .i64 (a % p)) ∧ w' = w := by
  obtain ⟨h1, h2⟩ := hp
  obtain ⟨h3, h4⟩ := ha
  by_cases h0 : 0 ≤ a
  · have r0 := Int.emod_nonneg a (show p ≠ 0 by omega)
    go_enter Tryz.func87, Tryz.ntmps87
    go_wp2
    go_ret
    exact ⟨rfl, rfl⟩
  · obtain ⟨t1, t2, t3, t4⟩ := tmod_negI a p (by omega) h1
    have T3 := hidP t3
    have T4 := hidP t4
    clear t3 t4
    by_cases hs : a.tmod p < 0
    · go_enter Tryz.func87, Tryz.ntmps87
      go_wp2
      go_ret
      exact ⟨by rw [← T3.out hs]; rfl, rfl⟩
    · go_enter Tryz.func87, Tryz.ntmps87
      go_wp2
      go_ret
      exact ⟨by rw [← T4.out (by omega)]; rfl, rfl⟩

theorem mod_negs (a d : Nat) (hd : 0 < d) : (-((a % d : Nat) : Int)) % (d : Int) = (-(a : Int)) % (d : Int) := by
  have h : (-(a : Int)) = -((a % d : Nat) : Int) + (d : Int) * (-((a / d : Nat) : Int)) := by
    have h1 := Nat.div_add_mod a d
    rw [Int.mul_neg]
    omega
  rw [h, Int.add_mul_emod_self_left]
set_option maxHeartbeats 8000000 in
theorem impl_mod (n : Bool) (xs : List Int) (k : Int) (v : Value) (w : World) (hv : Row w v xs) (la : xs.length ≤ 1048576) :
    Calls Tryz.prog 71 #[.agg #[.bool n, v], .int .i64 k] w fun e w' => e = .returned (.int .i64 (modW n xs k)) ∧ Old w w' := by
  have HV := hidP hv
  obtain ⟨a0, cap0, rfl⟩ := hv.slice
  clear hv
  have HA : Hid (Old w (w.alloc (.cells #[.bool n, .slice a0 xs.length cap0] 30))) := (Old.refl w).alloc _
  have SA0 : Hid (StW (w.alloc (.cells #[.bool n, .slice a0 xs.length cap0] 30)) w.heap.size (.bool n) (.slice a0 xs.length cap0) 30) := StW.new w _ _ _
  by_cases hga : Good n xs
  · have cga := fun W (h : Row W (.slice a0 xs.length cap0) xs) => good_impl n xs _ W h la
    rw [decide_eq_true hga] at cga
    cases hm : modBW k with
    | true =>
      obtain ⟨hk1, hk2⟩ := modB_yesW hm
      have cm := fun W => impl_isModulusW k W
      rw [hm] at cm
      obtain ⟨d, rfl⟩ : ∃ d : Nat, k = (d : Int) := ⟨k.toNat, by omega⟩
      have hR : modW n xs (d : Int) = sv n (nat xs) % (d : Int) := by unfold modW; rw [if_pos ⟨hga, hk1, hk2⟩]
      rw [hR]
      obtain ⟨ex, gx, lx⟩ := good_gw hga
      have HV2 : Hid (Row w (.slice a0 xs.length cap0) (toI (nat xs))) := by rw [ex]; exact HV.out
      have HGX : Hid (Gw n (nat xs) ∧ (nat xs).length ≤ 40) := ⟨gx, lx⟩
      have HC : Hid (cnt (val (nat xs)) ≤ 80) := by show cnt (val (nat xs)) ≤ 80; rw [cnt_nrm gx.1]; omega
      have HPQ : Hid ((pad (val (nat xs) / d)).length = 80) := pad_len' (Nat.le_trans (cnt_mono (Nat.div_le_self _ _)) HC.out) (by omega)
      have hd0 : 0 < d := by omega
      clear hga ex gx lx hR hm hk1
      have hrl : val (nat xs) % d < d := Nat.mod_lt _ hd0
      cases n with
      | true =>
        have HE : Hid ((-((val (nat xs) % d : Nat) : Int)) % (d : Int) = sv true (nat xs) % (d : Int)) := mod_negs _ d hd0
        go_enter Tryz.func71, Tryz.ntmps71
        go_wp2_with fail
        refine (cga _ (HV.out.old HA.out)).mono ?_
        rintro e w1 ⟨rfl, g1⟩
        have HG1 := hidP (Old.trans HA.out g1)
        have S1 := hidP (SA0.out.old g1)
        have s0 := S1.out.c0
        have s1 := S1.out.c1
        clear g1
        go_wp2_with (go_at_call 86; refine (cm _).mono ?_; rintro e w' ⟨rfl, rfl⟩)
        refine (sizeOf_sz true (nat xs) _ _ (HV2.out.old HG1.out) HGX.out.1.1 (by have := HGX.out.2; omega)).mono ?_
        rintro e w2 ⟨rfl, g2⟩
        have S2 := hidP (S1.out.old g2)
        have HG2 := hidP (Old.trans HG1.out g2)
        clear g2 s0 s1 S1 HG1
        go_wp2_with fail
        refine (word_sz (val (nat xs)) d _ HC.out hd0 (by omega)).mono ?_
        rintro e w3 ⟨rfl, g3⟩
        have S3 := hidP (S2.out.old g3)
        have HG3 := hidP (Old.trans HG2.out g3)
        clear g3 S2 HG2
        have HZ4 := hidP (Sz.zero w3 _ rfl)
        have HB4 := hidP S3.out.lt
        have S5 : Hid (StW ((w3.alloc (.cells Tryz.zeroCells53 53)).setRow w3.heap.size (szA (pad (val (nat xs) / d)) (cnt (val (nat xs) / d)))) w.heap.size (.bool true) (.slice a0 xs.length cap0) 30) := by
          have h1 := S3.out.old ((Old.refl w3).alloc (.cells Tryz.zeroCells53 53))
          show ((w3.alloc (.cells Tryz.zeroCells53 53)).setRow w3.heap.size (szA (pad (val (nat xs) / d)) (cnt (val (nat xs) / d)))).heap[w.heap.size]? = _
          rw [setRow_other _ _ _ _ (by have := HB4.out; omega)]
          exact h1
        have HG5 : Hid (Old w ((w3.alloc (.cells Tryz.zeroCells53 53)).setRow w3.heap.size (szA (pad (val (nat xs) / d)) (cnt (val (nat xs) / d))))) := (HG3.out.alloc _).row (by have := HB4.out; omega) _
        have s0 := S5.out.c0
        generalize val (nat xs) % d = r at *
        have cr := fun W => impl_residueOfW (-(r : Int)) (d : Int) W (by omega) (by omega)
        go_wp2_with (first | ((with_reducible refine store_sz HZ4.out (pad (val (nat xs) / d)) (cnt (val (nat xs) / d)) HPQ.out ?_ ?_ ?_); exact rfl; exact rfl; simp only [Act.put]) | (go_at_call 87; refine (cr _).mono ?_; rintro e w' ⟨rfl, rfl⟩))
        go_ret
        exact ⟨congrArg (fun z => Ending.returned (.int .i64 z)) HE.out, HG5.out⟩
      | false =>
        have HE : Hid (((val (nat xs) % d : Nat) : Int) = sv false (nat xs) % (d : Int)) := by
          show ((val (nat xs) % d : Nat) : Int) = sv false (nat xs) % (d : Int)
          simp [sv]
        go_enter Tryz.func71, Tryz.ntmps71
        go_wp2_with fail
        refine (cga _ (HV.out.old HA.out)).mono ?_
        rintro e w1 ⟨rfl, g1⟩
        have HG1 := hidP (Old.trans HA.out g1)
        have S1 := hidP (SA0.out.old g1)
        have s0 := S1.out.c0
        have s1 := S1.out.c1
        clear g1
        go_wp2_with (go_at_call 86; refine (cm _).mono ?_; rintro e w' ⟨rfl, rfl⟩)
        refine (sizeOf_sz false (nat xs) _ _ (HV2.out.old HG1.out) HGX.out.1.1 (by have := HGX.out.2; omega)).mono ?_
        rintro e w2 ⟨rfl, g2⟩
        have S2 := hidP (S1.out.old g2)
        have HG2 := hidP (Old.trans HG1.out g2)
        clear g2 s0 s1 S1 HG1
        go_wp2_with fail
        refine (word_sz (val (nat xs)) d _ HC.out hd0 (by omega)).mono ?_
        rintro e w3 ⟨rfl, g3⟩
        have S3 := hidP (S2.out.old g3)
        have HG3 := hidP (Old.trans HG2.out g3)
        clear g3 S2 HG2
        have HZ4 := hidP (Sz.zero w3 _ rfl)
        have HB4 := hidP S3.out.lt
        have S5 : Hid (StW ((w3.alloc (.cells Tryz.zeroCells53 53)).setRow w3.heap.size (szA (pad (val (nat xs) / d)) (cnt (val (nat xs) / d)))) w.heap.size (.bool false) (.slice a0 xs.length cap0) 30) := by
          have h1 := S3.out.old ((Old.refl w3).alloc (.cells Tryz.zeroCells53 53))
          show ((w3.alloc (.cells Tryz.zeroCells53 53)).setRow w3.heap.size (szA (pad (val (nat xs) / d)) (cnt (val (nat xs) / d)))).heap[w.heap.size]? = _
          rw [setRow_other _ _ _ _ (by have := HB4.out; omega)]
          exact h1
        have HG5 : Hid (Old w ((w3.alloc (.cells Tryz.zeroCells53 53)).setRow w3.heap.size (szA (pad (val (nat xs) / d)) (cnt (val (nat xs) / d))))) := (HG3.out.alloc _).row (by have := HB4.out; omega) _
        have s0 := S5.out.c0
        go_wp2_with ((with_reducible refine store_sz HZ4.out (pad (val (nat xs) / d)) (cnt (val (nat xs) / d)) HPQ.out ?_ ?_ ?_); exact rfl; exact rfl; simp only [Act.put])
        go_ret
        exact ⟨congrArg (fun z => Ending.returned (.int .i64 z)) HE.out, HG5.out⟩
    | false =>
      have cm := fun W => impl_isModulusW k W
      rw [hm] at cm
      have hR : modW n xs k = 0 := by
        unfold modW
        rw [if_neg (fun h => by have h2 : modBW k = true := decide_eq_true h.2; rw [hm] at h2; cases h2)]
      rw [hR]
      clear hga hR hm
      go_enter Tryz.func71, Tryz.ntmps71
      go_wp2_with fail
      refine (cga _ (HV.out.old HA.out)).mono ?_
      rintro e w1 ⟨rfl, g1⟩
      have HG1 := hidP (Old.trans HA.out g1)
      clear g1
      go_wp2_with (go_at_call 86; refine (cm _).mono ?_; rintro e w' ⟨rfl, rfl⟩)
      go_ret
      exact ⟨rfl, HG1.out⟩
  · have cga := fun W (h : Row W (.slice a0 xs.length cap0) xs) => good_impl n xs _ W h la
    rw [decide_eq_false hga] at cga
    have hR : modW n xs k = 0 := by unfold modW; rw [if_neg (fun h => hga h.1)]
    rw [hR]
    clear hga hR
    go_enter Tryz.func71, Tryz.ntmps71
    go_wp2_with fail
    refine (cga _ (HV.out.old HA.out)).mono ?_
    rintro e w1 ⟨rfl, g1⟩
    have HG1 := hidP (Old.trans HA.out g1)
    clear g1
    go_wp2_with fail
    go_ret
    exact ⟨rfl, HG1.out⟩
end Go.Proofs.YtihjndakgncdaaaGreatDoor
/- Proved: the contract of the program's CmpWholes: it answers what the model does, as a function of the numbers. -/
namespace Go.Proofs.YtihjndakgncdaaaGreatDoor
open Go.ChangeShapes Go.WideShapes Go.ChangeAt Go.RowKit
open M2
set_option linter.unusedVariables false
set_option linter.unusedSimpArgs false

theorem cmp_negs (x y : Nat) : cmpN y x = cmpI (-(x : Int)) (-(y : Int)) := by
  unfold cmpN cmpI
  (repeat' split) <;> omega
theorem cmp_nats (x y : Nat) : cmpN x y = cmpI (x : Int) (y : Int) := by
  unfold cmpN cmpI
  (repeat' split) <;> omega
set_option maxHeartbeats 8000000 in
theorem impl_cmp (n m : Bool) (xs ys : List Int) (v u : Value) (w : World) (hv : Row w v xs) (hu : Row w u ys) (la : xs.length ≤ 1048576) (lb : ys.length ≤ 1048576) :
    Calls Tryz.prog 12 #[.agg #[.bool n, v], .agg #[.bool m, u]] w fun e w' => e = .returned (.int .i64 (cmpW n m xs ys)) ∧ Old w w' := by
  have HV : Hid (Row w v xs) := hv
  have HU : Hid (Row w u ys) := hu
  obtain ⟨c0, cap0, rfl⟩ := hv.slice
  obtain ⟨c1, cap1, rfl⟩ := hu.slice
  clear hv hu
  have HA : Hid (Old w ((w.alloc (.cells #[.bool n, .slice c0 xs.length cap0] 30)).alloc (.cells #[.bool m, .slice c1 ys.length cap1] 30))) := ((Old.refl w).alloc _).alloc _
  have SA0 : Hid (StW ((w.alloc (.cells #[.bool n, .slice c0 xs.length cap0] 30)).alloc (.cells #[.bool m, .slice c1 ys.length cap1] 30)) w.heap.size (.bool n) (.slice c0 xs.length cap0) 30) := StW.at1 w _ _ _ _ _ _
  have SB0 : Hid (StW ((w.alloc (.cells #[.bool n, .slice c0 xs.length cap0] 30)).alloc (.cells #[.bool m, .slice c1 ys.length cap1] 30)) (w.heap.size + 1) (.bool m) (.slice c1 ys.length cap1) 30) := StW.at2 w _ _ _ _ _ _
  by_cases hga : Good n xs
  · have cga := fun W (h : Row W (.slice c0 xs.length cap0) xs) => good_impl n xs _ W h la
    rw [decide_eq_true hga] at cga
    by_cases hgb : Good m ys
    · have cgb := fun W (h : Row W (.slice c1 ys.length cap1) ys) => good_impl m ys _ W h lb
      rw [decide_eq_true hgb] at cgb
      have hR2 : cmpW n m xs ys = cmpI (sv n (nat xs)) (sv m (nat ys)) := by unfold cmpW; rw [if_pos ⟨hga, hgb⟩]
      rw [hR2]
      obtain ⟨ex, gx, lx⟩ := good_gw hga
      obtain ⟨ey, gy, ly⟩ := good_gw hgb
      have HV2 : Hid (Row w (.slice c0 xs.length cap0) (toI (nat xs))) := by rw [ex]; exact HV.out
      have HU2 : Hid (Row w (.slice c1 ys.length cap1) (toI (nat ys))) := by rw [ey]; exact HU.out
      have HGX : Hid (Gw n (nat xs) ∧ (nat xs).length ≤ 40) := ⟨gx, lx⟩
      have HGY : Hid (Gw m (nat ys) ∧ (nat ys).length ≤ 40) := ⟨gy, ly⟩
      have exl : xs.length = (nat xs).length := (nat_len xs).symm
      have eyl : ys.length = (nat ys).length := (nat_len ys).symm
      have HXL : Hid (xs.length = (nat xs).length) := exl
      have HYL : Hid (ys.length = (nat ys).length) := eyl
      clear hga hgb ex ey gx gy lx ly hR2 exl eyl
      cases n with
      | true =>
        cases m with
        | true =>
          have HE : Hid (cmpN (val (nat ys)) (val (nat xs)) = cmpI (sv true (nat xs)) (sv true (nat ys))) := by
            show cmpN (val (nat ys)) (val (nat xs)) = cmpI (sv true (nat xs)) (sv true (nat ys))
            exact cmp_negs _ _
          go_enter Tryz.func12, Tryz.ntmps12
          go_wp2_with fail
          refine (cga _ (HV.out.old HA.out)).mono ?_
          rintro e w1 ⟨rfl, g1⟩
          have SA1 : Hid (StW w1 w.heap.size (.bool true) (.slice c0 xs.length cap0) 30) := SA0.out.old g1
          have SB1 : Hid (StW w1 (w.heap.size + 1) (.bool true) (.slice c1 ys.length cap1) 30) := SB0.out.old g1
          have HG1 : Hid (Old w w1) := Old.trans HA.out g1
          have b0 := SB1.out.c0
          have b1 := SB1.out.c1
          clear g1 HA
          go_wp2_with fail
          refine (cgb _ (HU.out.old HG1.out)).mono ?_
          rintro e w2 ⟨rfl, g2⟩
          clear b0 b1
          have SA2 : Hid (StW w2 w.heap.size (.bool true) (.slice c0 xs.length cap0) 30) := SA1.out.old g2
          have SB2 : Hid (StW w2 (w.heap.size + 1) (.bool true) (.slice c1 ys.length cap1) 30) := SB1.out.old g2
          have HG2 : Hid (Old w w2) := Old.trans HG1.out g2
          clear g2 SA1 SB1 HG1 cga cgb
          have a0 := SA2.out.c0
          have a1 := SA2.out.c1
          have b0 := SB2.out.c0
          have b1 := SB2.out.c1
          have HAS : Hid (∀ W', Old w2 W' → (W'.cell? ⟨w.heap.size, 0, none⟩ = some (.bool true) ∧ W'.cell? ⟨w.heap.size, 1, none⟩ = some (.slice c0 xs.length cap0) ∧ W'.cell? ⟨w.heap.size + 1, 0, none⟩ = some (.bool true) ∧ W'.cell? ⟨w.heap.size + 1, 1, none⟩ = some (.slice c1 ys.length cap1))) := fun W' g => ⟨(SA2.out.old g).c0, (SA2.out.old g).c1, (SB2.out.old g).c0, (SB2.out.old g).c1⟩
          have tok : True := trivial
          go_wp2_with fail
          go_region_held3 (fun W' => W'.cell? ⟨w.heap.size, 0, none⟩ = some (.bool true) ∧ W'.cell? ⟨w.heap.size, 1, none⟩ = some (.slice c0 xs.length cap0) ∧ W'.cell? ⟨w.heap.size + 1, 0, none⟩ = some (.bool true) ∧ W'.cell? ⟨w.heap.size + 1, 1, none⟩ = some (.slice c1 ys.length cap1)) (first | exact HAS.out _ G5.out | exact HAS.out _ G4.out | exact HAS.out _ G3.out | exact HAS.out _ (Below.drew (Old.refl w2)) | exact HAS.out _ (Old.refl w2)) (first
            | (go_at_call 35; have _t := tok; refine (sizeOf_sz true (nat ys) _ _ (HU2.out.old (HG2.out.drewN 1)) HGY.out.1.1 (by have := HGY.out.2; omega)).mono ?_; rintro e w3 ⟨rfl, g3⟩; have G3 : Hid (Old w2 w3) := Old.trans ((Old.refl _).drewN 1) g3; clear tok g3)
            | (go_at_call 35; refine (sizeOf_sz true (nat xs) _ _ (HV2.out.old (Old.trans HG2.out G3.out)) HGX.out.1.1 (by have := HGX.out.2; omega)).mono ?_; rintro e w4 ⟨rfl, g4⟩; have G4 : Hid (Old w2 w4) := Old.trans G3.out g4; clear g4)
            | (go_at_call 20; refine (cmp_sz (val (nat ys)) (val (nat xs)) _ (by rw [cnt_nrm HGY.out.1.1]; have := HGY.out.2; omega) (by rw [cnt_nrm HGX.out.1.1]; have := HGX.out.2; omega)).mono ?_; rintro e w5 ⟨rfl, g5⟩; have G5 : Hid (Old w2 w5) := Old.trans G4.out g5; clear g5))
          all_goals
            go_wp2_with fail
            go_ret
            exact ⟨congrArg (fun z => Ending.returned (.int .i64 z)) HE.out, Old.trans HG2.out G5.out⟩
        | false =>
          have HE : Hid (-1 = cmpI (sv true (nat xs)) (sv false (nat ys))) := by
            have hp := HGX.out.1.pos rfl
            show -1 = cmpI (sv true (nat xs)) (sv false (nat ys))
            simp only [sv, cmpI, if_true, Bool.false_eq_true, if_false]
            rw [if_pos (by omega)]
          go_enter Tryz.func12, Tryz.ntmps12
          go_wp2_with fail
          refine (cga _ (HV.out.old HA.out)).mono ?_
          rintro e w1 ⟨rfl, g1⟩
          have SA1 : Hid (StW w1 w.heap.size (.bool true) (.slice c0 xs.length cap0) 30) := SA0.out.old g1
          have SB1 : Hid (StW w1 (w.heap.size + 1) (.bool false) (.slice c1 ys.length cap1) 30) := SB0.out.old g1
          have HG1 : Hid (Old w w1) := Old.trans HA.out g1
          have b0 := SB1.out.c0
          have b1 := SB1.out.c1
          clear g1 HA
          go_wp2_with fail
          refine (cgb _ (HU.out.old HG1.out)).mono ?_
          rintro e w2 ⟨rfl, g2⟩
          clear b0 b1
          have SA2 : Hid (StW w2 w.heap.size (.bool true) (.slice c0 xs.length cap0) 30) := SA1.out.old g2
          have SB2 : Hid (StW w2 (w.heap.size + 1) (.bool false) (.slice c1 ys.length cap1) 30) := SB1.out.old g2
          have HG2 : Hid (Old w w2) := Old.trans HG1.out g2
          clear g2 SA1 SB1 HG1 cga cgb
          have a0 := SA2.out.c0
          have a1 := SA2.out.c1
          have b0 := SB2.out.c0
          have b1 := SB2.out.c1
          go_wp2_with fail
          go_ret
          exact ⟨congrArg (fun z => Ending.returned (.int .i64 z)) HE.out, HG2.out⟩
      | false =>
        cases m with
        | true =>
          have HE : Hid (1 = cmpI (sv false (nat xs)) (sv true (nat ys))) := by
            have hp := HGY.out.1.pos rfl
            show 1 = cmpI (sv false (nat xs)) (sv true (nat ys))
            simp only [sv, cmpI, if_true, Bool.false_eq_true, if_false]
            rw [if_neg (by omega), if_pos (by omega)]
          go_enter Tryz.func12, Tryz.ntmps12
          go_wp2_with fail
          refine (cga _ (HV.out.old HA.out)).mono ?_
          rintro e w1 ⟨rfl, g1⟩
          have SA1 : Hid (StW w1 w.heap.size (.bool false) (.slice c0 xs.length cap0) 30) := SA0.out.old g1
          have SB1 : Hid (StW w1 (w.heap.size + 1) (.bool true) (.slice c1 ys.length cap1) 30) := SB0.out.old g1
          have HG1 : Hid (Old w w1) := Old.trans HA.out g1
          have b0 := SB1.out.c0
          have b1 := SB1.out.c1
          clear g1 HA
          go_wp2_with fail
          refine (cgb _ (HU.out.old HG1.out)).mono ?_
          rintro e w2 ⟨rfl, g2⟩
          clear b0 b1
          have SA2 : Hid (StW w2 w.heap.size (.bool false) (.slice c0 xs.length cap0) 30) := SA1.out.old g2
          have SB2 : Hid (StW w2 (w.heap.size + 1) (.bool true) (.slice c1 ys.length cap1) 30) := SB1.out.old g2
          have HG2 : Hid (Old w w2) := Old.trans HG1.out g2
          clear g2 SA1 SB1 HG1 cga cgb
          have a0 := SA2.out.c0
          have a1 := SA2.out.c1
          have b0 := SB2.out.c0
          have b1 := SB2.out.c1
          go_wp2_with fail
          go_ret
          exact ⟨congrArg (fun z => Ending.returned (.int .i64 z)) HE.out, HG2.out⟩
        | false =>
          have HE : Hid (cmpN (val (nat xs)) (val (nat ys)) = cmpI (sv false (nat xs)) (sv false (nat ys))) := by
            show cmpN (val (nat xs)) (val (nat ys)) = cmpI (sv false (nat xs)) (sv false (nat ys))
            exact cmp_nats _ _
          go_enter Tryz.func12, Tryz.ntmps12
          go_wp2_with fail
          refine (cga _ (HV.out.old HA.out)).mono ?_
          rintro e w1 ⟨rfl, g1⟩
          have SA1 : Hid (StW w1 w.heap.size (.bool false) (.slice c0 xs.length cap0) 30) := SA0.out.old g1
          have SB1 : Hid (StW w1 (w.heap.size + 1) (.bool false) (.slice c1 ys.length cap1) 30) := SB0.out.old g1
          have HG1 : Hid (Old w w1) := Old.trans HA.out g1
          have b0 := SB1.out.c0
          have b1 := SB1.out.c1
          clear g1 HA
          go_wp2_with fail
          refine (cgb _ (HU.out.old HG1.out)).mono ?_
          rintro e w2 ⟨rfl, g2⟩
          clear b0 b1
          have SA2 : Hid (StW w2 w.heap.size (.bool false) (.slice c0 xs.length cap0) 30) := SA1.out.old g2
          have SB2 : Hid (StW w2 (w.heap.size + 1) (.bool false) (.slice c1 ys.length cap1) 30) := SB1.out.old g2
          have HG2 : Hid (Old w w2) := Old.trans HG1.out g2
          clear g2 SA1 SB1 HG1 cga cgb
          have a0 := SA2.out.c0
          have a1 := SA2.out.c1
          have b0 := SB2.out.c0
          have b1 := SB2.out.c1
          have HAS : Hid (∀ W', Old w2 W' → (W'.cell? ⟨w.heap.size, 0, none⟩ = some (.bool false) ∧ W'.cell? ⟨w.heap.size, 1, none⟩ = some (.slice c0 xs.length cap0) ∧ W'.cell? ⟨w.heap.size + 1, 0, none⟩ = some (.bool false) ∧ W'.cell? ⟨w.heap.size + 1, 1, none⟩ = some (.slice c1 ys.length cap1))) := fun W' g => ⟨(SA2.out.old g).c0, (SA2.out.old g).c1, (SB2.out.old g).c0, (SB2.out.old g).c1⟩
          have tok : True := trivial
          go_wp2_with fail
          go_region_held3 (fun W' => W'.cell? ⟨w.heap.size, 0, none⟩ = some (.bool false) ∧ W'.cell? ⟨w.heap.size, 1, none⟩ = some (.slice c0 xs.length cap0) ∧ W'.cell? ⟨w.heap.size + 1, 0, none⟩ = some (.bool false) ∧ W'.cell? ⟨w.heap.size + 1, 1, none⟩ = some (.slice c1 ys.length cap1)) (first | exact HAS.out _ G5.out | exact HAS.out _ G4.out | exact HAS.out _ G3.out | exact HAS.out _ (Below.drew (Old.refl w2)) | exact HAS.out _ (Old.refl w2)) (first
            | (go_at_call 35; have _t := tok; refine (sizeOf_sz false (nat xs) _ _ (HV2.out.old (HG2.out.drewN 1)) HGX.out.1.1 (by have := HGX.out.2; omega)).mono ?_; rintro e w3 ⟨rfl, g3⟩; have G3 : Hid (Old w2 w3) := Old.trans ((Old.refl _).drewN 1) g3; clear tok g3)
            | (go_at_call 35; refine (sizeOf_sz false (nat ys) _ _ (HU2.out.old (Old.trans HG2.out G3.out)) HGY.out.1.1 (by have := HGY.out.2; omega)).mono ?_; rintro e w4 ⟨rfl, g4⟩; have G4 : Hid (Old w2 w4) := Old.trans G3.out g4; clear g4)
            | (go_at_call 20; refine (cmp_sz (val (nat xs)) (val (nat ys)) _ (by rw [cnt_nrm HGX.out.1.1]; have := HGX.out.2; omega) (by rw [cnt_nrm HGY.out.1.1]; have := HGY.out.2; omega)).mono ?_; rintro e w5 ⟨rfl, g5⟩; have G5 : Hid (Old w2 w5) := Old.trans G4.out g5; clear g5))
          all_goals
            go_wp2_with fail
            go_ret
            exact ⟨congrArg (fun z => Ending.returned (.int .i64 z)) HE.out, Old.trans HG2.out G5.out⟩
    · have hR2 : cmpW n m xs ys = 0 := by unfold cmpW; rw [if_neg (fun h => hgb h.2)]
      rw [hR2]
      have cgb := fun W (h : Row W (.slice c1 ys.length cap1) ys) => good_impl m ys _ W h lb
      rw [decide_eq_false hgb] at cgb
      clear hga hgb hR2
      go_enter Tryz.func12, Tryz.ntmps12
      go_wp2_with fail
      refine (cga _ (HV.out.old (HA.out))).mono ?_
      rintro e w1 ⟨rfl, g1⟩
      have SB1 : Hid (StW w1 (w.heap.size + 1) (.bool m) (.slice c1 ys.length cap1) 30) := SB0.out.old g1
      have HG1 : Hid (Old w w1) := Old.trans HA.out g1
      have b0 := SB1.out.c0
      have b1 := SB1.out.c1
      clear g1 HA
      go_wp2_with fail
      refine (cgb _ (HU.out.old HG1.out)).mono ?_
      rintro e w2 ⟨rfl, g2⟩
      have HG2 : Hid (Old w w2) := Old.trans HG1.out g2
      clear g2
      go_wp2_with fail
      go_ret
      exact ⟨rfl, HG2.out⟩
  · have hR2 : cmpW n m xs ys = 0 := by unfold cmpW; rw [if_neg (fun h => hga h.1)]
    rw [hR2]
    have cga := fun W (h : Row W (.slice c0 xs.length cap0) xs) => good_impl n xs _ W h la
    rw [decide_eq_false hga] at cga
    clear hga hR2
    go_enter Tryz.func12, Tryz.ntmps12
    go_wp2_with fail
    refine (cga _ (HV.out.old HA.out)).mono ?_
    rintro e w1 ⟨rfl, g1⟩
    have HG1 : Hid (Old w w1) := Old.trans HA.out g1
    clear g1
    go_wp2_with fail
    go_ret
    exact ⟨rfl, HG1.out⟩
end Go.Proofs.YtihjndakgncdaaaGreatDoor
